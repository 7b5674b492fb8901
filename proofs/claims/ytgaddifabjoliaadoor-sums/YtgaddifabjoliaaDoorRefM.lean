import Derived.Test.YtgaddifabjoliaaDoorRootM
namespace Go.Proofs.YtgaddifabjoliaaDoor

/-- A number out of bytes, the highest first. -/
def wK (f : Nat → Nat) : Nat → Nat
  | 0 => 0
  | k + 1 => 256 * wK f k + f k

theorem wK_lt (f : Nat → Nat) (hf : ∀ k, f k < 256) : ∀ k, wK f k < 256 ^ k
  | 0 => by simp [wK]
  | k + 1 => by
    have h1 := wK_lt f hf k
    have h2 := hf k
    rw [wK, Nat.pow_succ]
    omega

theorem or_low (x b : Nat) (hb : b < 256) : (x * 256) ||| b = x * 256 + b := by
  have := Nat.two_pow_add_eq_or_of_lt (i := 8) (b := b) hb x
  rw [show x * 256 = 2 ^ 8 * x by omega, ← this]

def byteAt (l : List UInt8) (at' k : Nat) : Nat := (l.getD (at' + k) 0).toNat
theorem byteAt_lt (l : List UInt8) (at' k : Nat) : byteAt l at' k < 256 := UInt8.toNat_lt _

theorem fill_len (W size : Nat) (l : List UInt8) : ∀ i, (fill W size l i).length = 80
  | 0 => by simp [fill]
  | i + 1 => by simp [fill, fillStep, fill_len W size l i]

theorem fill_word (W size : Nat) (hs : (size = 4 ∧ W = 32) ∨ (size = 8 ∧ W = 64)) (l : List UInt8) (i : Nat) (hi : i < 80) : ∀ n, n ≤ 80 * size → (fill W size l n).getD i 0 = wK (byteAt l (size * i)) (min size (n - size * i))
  | 0, _ => by
    rw [fill, zero_getD]
    simp [wK]
  | n + 1, h => by
    have ih := fill_word W size hs l i hi n (by omega)
    have hl := fill_len W size l n
    simp only [fill, fillStep]
    rw [getD_set]
    by_cases hin : n / size = i
    · have hk : ∃ k, k < size ∧ n = size * i + k := ⟨n % size, Nat.mod_lt _ (by omega), by rw [← hin]; exact (Nat.div_add_mod n size).symm⟩
      obtain ⟨k, hk, hn⟩ := hk
      rw [if_pos ⟨hin, by omega⟩, hin, ih]
      have e1 : min size (n - size * i) = k := by omega
      have e2 : min size (n + 1 - size * i) = k + 1 := by omega
      have e3 : (l.getD n 0).toNat = byteAt l (size * i) k := by rw [byteAt, hn]
      rw [e1, e2, e3, wK]
      have hw := wK_lt _ (byteAt_lt l (size * i)) k
      have hb := byteAt_lt l (size * i) k
      have hW : wK (byteAt l (size * i)) k * 256 < 2 ^ W := by
        have e4 : 256 ^ (k + 1) ≤ 2 ^ W := by
          rw [show (256 : Nat) = 2 ^ 8 by decide, ← Nat.pow_mul]
          exact Nat.pow_le_pow_right (by decide) (by omega)
        rw [Nat.pow_succ] at e4
        omega
      rw [Nat.mod_eq_of_lt hW, or_low _ _ hb]
      omega
    · rw [if_neg (by omega), ih]
      congr 1
      rcases hs with ⟨rfl, _⟩ | ⟨rfl, _⟩ <;> omega

theorem ext_len (M : Meas) (c : List Nat) (h : c.length = 80) : ∀ n, (ext M c n).length = 80
  | 0 => h
  | n + 1 => by simp [ext, ext_len M c h n]

theorem ext_old (M : Meas) (c : List Nat) : ∀ n j, j < 16 → (ext M c n).getD j 0 = c.getD j 0
  | 0, _, _ => rfl
  | n + 1, j, h => by
    rw [ext, getD_set, if_neg (by omega)]
    exact ext_old M c n j h

theorem ext1_same (M : Meas) (c d : List Nat) (t : Nat) (ht : 16 ≤ t) (h : ∀ j, j < t → c.getD j 0 = d.getD j 0) : ext1 M c t = ext1 M d t := by
  unfold ext1
  rw [h (t - 2) (by omega), h (t - 7) (by omega), h (t - 15) (by omega), h (t - 16) (by omega)]

theorem ext_new (M : Meas) (c : List Nat) (hc : c.length = 80) : ∀ n j, n ≤ 64 → 16 ≤ j → j < 16 + n → (ext M c n).getD j 0 = ext1 M (ext M c n) j
  | 0, _, _, _, _ => by omega
  | n + 1, j, hn, h1, h2 => by
    have hl := ext_len M c hc n
    have hsame : ∀ i, i < 16 + n → ((ext M c n).set (16 + n) (ext1 M (ext M c n) (16 + n))).getD i 0 = (ext M c n).getD i 0 := fun i hi => by
      rw [getD_set, if_neg (by omega)]
    rw [ext]
    by_cases hj : j = 16 + n
    · subst hj
      rw [getD_set, if_pos ⟨rfl, by omega⟩]
      exact (ext1_same M _ _ _ h1 hsame).symm
    · rw [hsame j (by omega), ext_new M c hc n j (by omega) h1 (by omega)]
      exact (ext1_same M _ _ _ h1 fun i hi => hsame i (by omega)).symm

def Mok (M : Meas) : Prop := M = m256 ∨ M = m512

theorem sched_old (M : Meas) (hM : Mok M) (l : List UInt8) (hl : l.length = 2 * M.W) (i : Nat) (hi : i < 16) : (sched M l).getD i 0 = wK (byteAt l (M.W / 8 * i)) (M.W / 8) := by
  rw [sched, ext_old _ _ _ _ hi]
  rcases hM with rfl | rfl
  · have hl' : l.length = 64 := hl
    refine (fill_word 32 4 (Or.inl ⟨rfl, rfl⟩) l i (by omega) l.length (by omega)).trans ?_
    rw [hl', show min 4 (64 - 4 * i) = 4 by omega]
    rfl
  · have hl' : l.length = 128 := hl
    refine (fill_word 64 8 (Or.inr ⟨rfl, rfl⟩) l i (by omega) l.length (by omega)).trans ?_
    rw [hl', show min 8 (128 - 8 * i) = 8 by omega]
    rfl

theorem sched_new (M : Meas) (hM : Mok M) (l : List UInt8) (i : Nat) (h1 : 16 ≤ i) (h2 : i < M.rounds) : (sched M l).getD i 0 = ext1 M (sched M l) i := by
  have hr : M.rounds - 16 ≤ 64 ∧ 16 ≤ M.rounds := by rcases hM with rfl | rfl <;> simp [m256, m512]
  exact ext_new M _ (fill_len _ _ _ _) _ i hr.1 h1 (by omega)

theorem sched_lt (M : Meas) (hM : Mok M) (l : List UInt8) (hl : l.length = 2 * M.W) (i : Nat) (hi : i < M.rounds) : (sched M l).getD i 0 < 2 ^ M.W := by
  by_cases h : i < 16
  · rw [sched_old M hM l hl i h]
    have := wK_lt _ (byteAt_lt l (M.W / 8 * i)) (M.W / 8)
    have e : 256 ^ (M.W / 8) = 2 ^ M.W := by rcases hM with rfl | rfl <;> simp [m256, m512]
    rw [← e]
    exact this
  · rw [sched_new M hM l i (by omega) hi]
    exact Nat.mod_lt _ (Nat.two_pow_pos _)

/-- A text and what is laid behind it. -/
def padF (M : Meas) (l : List UInt8) : List UInt8 :=
  l ++ 128 :: List.replicate (zeros M (l.length % (2 * M.W))) 0 ++ (if M.W = 64 then be (l.length / 2 ^ 61) 8 else []) ++ be (l.length * 8 % 2 ^ 64) 8

theorem blk_split (M : Meas) (p e : List UInt8) (s : St) (n : Nat) (hp : p.length = n * (2 * M.W)) : ∀ m, blk M (p ++ e) s (n + m) = blk M e (blk M p s n) m
  | 0 => by
    have : ∀ i, i ≤ n → blk M (p ++ e) s i = blk M p s i := by
      intro i
      induction i with
      | zero => intro _; rfl
      | succ i ih =>
        intro hi
        rw [blk, blk, ih (by omega)]
        congr 2
        have h1 : i * (2 * M.W) + 2 * M.W ≤ p.length := by
          rw [hp, ← Nat.succ_mul]
          exact Nat.mul_le_mul_right _ (by omega)
        rw [List.drop_append_of_le_length (by omega), List.take_append_of_le_length (by rw [List.length_drop]; omega)]
    exact this n (Nat.le_refl _)
  | m + 1 => by
    rw [← Nat.add_assoc, blk, blk, blk_split M p e s n hp m]
    congr 2
    rw [Nat.add_mul, ← hp, ← List.drop_drop]
    congr 2
    exact List.drop_left' rfl

theorem be_len (x : Nat) : ∀ n, (be x n).length = n
  | 0 => rfl
  | n + 1 => by simp [be, be_len x n]

def refF (M : Meas) (l : List UInt8) : List UInt8 := (blk M (padF M l) (start M) ((padF M l).length / (2 * M.W))).out (M.W / 8)

theorem ref_eq (M : Meas) (hM : Mok M) (l : List UInt8) : refF M l = sumF M l := by
  have hW : 0 < 2 * M.W := by rcases hM with rfl | rfl <;> simp [m256, m512]
  generalize hn : l.length / (2 * M.W) = n
  have hlen : (l.take (n * (2 * M.W))).length = n * (2 * M.W) := by
    rw [List.length_take]
    have : n * (2 * M.W) ≤ l.length := by rw [← hn]; exact Nat.div_mul_le_self _ _
    omega
  have hdl : (l.drop (n * (2 * M.W))).length = l.length % (2 * M.W) := by
    rw [List.length_drop, ← hn]
    have := Nat.div_add_mod l.length (2 * M.W)
    rw [Nat.mul_comm] at this
    omega
  have hpad : padF M l = l.take (n * (2 * M.W)) ++ ending M (l.drop (n * (2 * M.W))) l.length := by
    unfold padF ending
    rw [hdl]
    simp only [← List.append_assoc, List.take_append_drop]
  unfold refF sumF
  rw [hn, hpad, List.length_append, hlen, Nat.add_comm, Nat.add_mul_div_right _ _ hW, Nat.add_comm, blk_split M _ _ _ n hlen]

theorem pad_len (M : Meas) (hM : Mok M) (l : List UInt8) : (padF M l).length % (2 * M.W) = 0 := by
  rcases hM with rfl | rfl
  · simp [padF, m256, zeros, be_len]
    omega
  · simp [padF, m512, zeros, be_len]
    omega

end Go.Proofs.YtgaddifabjoliaaDoor
