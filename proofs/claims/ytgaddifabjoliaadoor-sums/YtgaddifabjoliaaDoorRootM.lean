import Derived.Test.YtgaddifabjoliaaDoorSha
namespace Go.Proofs.YtgaddifabjoliaaDoor

/-- The number of the first n digits of 16 bits, the lowest first. -/
def vn (l : List Nat) : Nat → Nat
  | 0 => 0
  | n + 1 => vn l n + l.getD n 0 * 65536 ^ n

def Dig (l : List Nat) : Prop := ∀ j, l.getD j 0 < 65536

theorem getD_set (l : List Nat) (i x j : Nat) : (l.set i x).getD j 0 = if i = j ∧ i < l.length then x else l.getD j 0 := by
  simp only [List.getD_eq_getElem?_getD, List.getElem?_set]
  by_cases h : i = j
  · subst h
    by_cases h2 : i < l.length
    · simp [h2]
    · simp [h2]
  · simp [h]

theorem Dig.set {l : List Nat} (h : Dig l) (i x : Nat) (hx : x < 65536) : Dig (l.set i x) := by
  intro j
  rw [getD_set]
  split
  · exact hx
  · exact h j

theorem dig_zero (n : Nat) : Dig (List.replicate n 0) := by
  intro j
  simp only [List.getD_eq_getElem?_getD, List.getElem?_replicate]
  split <;> decide

theorem zero_getD (n j : Nat) : (List.replicate n 0).getD j 0 = 0 := by
  simp only [List.getD_eq_getElem?_getD, List.getElem?_replicate]
  split <;> rfl

theorem vn_zero (n : Nat) : ∀ m, vn (List.replicate n 0) m = 0
  | 0 => rfl
  | m + 1 => by rw [vn, vn_zero n m, zero_getD]; simp

theorem vn_lt {l : List Nat} (h : Dig l) : ∀ n, vn l n < 65536 ^ n
  | 0 => by simp [vn]
  | n + 1 => by
    have h1 := vn_lt h n
    have h2 := h n
    rw [vn, Nat.pow_succ]
    have h3 : l.getD n 0 * 65536 ^ n ≤ 65535 * 65536 ^ n := Nat.mul_le_mul_right _ (by omega)
    omega

theorem vn_far (l : List Nat) (i x : Nat) : ∀ n, n ≤ i → vn (l.set i x) n = vn l n
  | 0, _ => rfl
  | n + 1, h => by
    rw [vn, vn, vn_far l i x n (by omega), getD_set, if_neg (by omega)]

theorem vn_set (l : List Nat) (i x : Nat) (hi : i < l.length) : ∀ n, i < n → vn (l.set i x) n + l.getD i 0 * 65536 ^ i = vn l n + x * 65536 ^ i
  | 0, h => by omega
  | n + 1, h => by
    by_cases hin : i = n
    · subst hin
      rw [vn, vn, vn_far l i x i (Nat.le_refl _), getD_set, if_pos ⟨rfl, hi⟩]
      omega
    · have ih := vn_set l i x hi n (by omega)
      rw [vn, vn, getD_set, if_neg (by omega)]
      omega

theorem vn_past (l : List Nat) (n : Nat) (h : l.length ≤ n) : ∀ d, vn l (n + d) = vn l n
  | 0 => rfl
  | d + 1 => by
    rw [← Nat.add_assoc, vn, vn_past l n h d]
    simp only [List.getD_eq_getElem?_getD, List.getElem?_eq_none (show l.length ≤ n + d by omega)]
    simp

/-- Two numbers. -/
def inn (x : Nat) (b : List Nat) (i : Nat) (o : List Nat) : Nat → List Nat × Nat
  | 0 => (o, 0)
  | k + 1 =>
    let p := inn x b i o k
    let v := p.1.getD (i + k) 0 + x * b.getD k 0 + p.2
    (p.1.set (i + k) (v % 65536), v / 65536)
def outr (a b : List Nat) : Nat → List Nat
  | 0 => List.replicate (a.length + b.length) 0
  | i + 1 =>
    let p := inn (a.getD i 0) b i (outr a b i) b.length
    p.1.set (i + b.length) p.2
def timesF (a b : List Nat) : List Nat := outr a b a.length

theorem inn_len (x : Nat) (b : List Nat) (i : Nat) (o : List Nat) : ∀ k, (inn x b i o k).1.length = o.length
  | 0 => rfl
  | k + 1 => by simp [inn, inn_len x b i o k]
theorem inn_far (x : Nat) (b : List Nat) (i : Nat) (o : List Nat) : ∀ k j, i + k ≤ j → (inn x b i o k).1.getD j 0 = o.getD j 0
  | 0, j, _ => rfl
  | k + 1, j, h => by
    simp only [inn]
    rw [getD_set, if_neg (by omega)]
    exact inn_far x b i o k j (by omega)

theorem mul_16 (x y : Nat) (hx : x < 65536) (hy : y < 65536) : x * y ≤ 65535 * 65535 := Nat.mul_le_mul (by omega) (by omega)

theorem inn_dig (x : Nat) (b : List Nat) (i : Nat) (o : List Nat) (hx : x < 65536) (hb : Dig b) (ho : Dig o) : ∀ k, Dig (inn x b i o k).1 ∧ (inn x b i o k).2 < 65536
  | 0 => ⟨ho, by simp [inn]⟩
  | k + 1 => by
    obtain ⟨h1, h2⟩ := inn_dig x b i o hx hb ho k
    have h3 := h1 (i + k)
    have h4 := mul_16 x _ hx (hb k)
    refine ⟨h1.set _ _ (Nat.mod_lt _ (by decide)), ?_⟩
    simp only [inn]
    omega

theorem inn_val (x : Nat) (b : List Nat) (i : Nat) (o : List Nat) (N : Nat) (hN : N = o.length) : ∀ k, i + k ≤ N → vn (inn x b i o k).1 N + (inn x b i o k).2 * 65536 ^ (i + k) = vn o N + x * vn b k * 65536 ^ i
  | 0, _ => by simp [inn, vn]
  | k + 1, h => by
    have ih := inn_val x b i o N hN k (by omega)
    have hl := inn_len x b i o k
    simp only [inn, vn]
    generalize hp : inn x b i o k = p at ih hl
    generalize hv : p.1.getD (i + k) 0 + x * b.getD k 0 + p.2 = v
    have hs := vn_set p.1 (i + k) (v % 65536) (by omega) N (by omega)
    have e1 : 65536 ^ (i + (k + 1)) = 65536 ^ (i + k) * 65536 := by rw [← Nat.add_assoc, Nat.pow_succ]
    have e2 : x * (vn b k + b.getD k 0 * 65536 ^ k) * 65536 ^ i = x * vn b k * 65536 ^ i + (x * b.getD k 0) * 65536 ^ (i + k) := by
      rw [Nat.mul_add, Nat.add_mul, Nat.pow_add]
      congr 1
      simp only [Nat.mul_assoc, Nat.mul_comm (65536 ^ k)]
    have e3 : v / 65536 * (65536 ^ (i + k) * 65536) + v % 65536 * 65536 ^ (i + k) = v * 65536 ^ (i + k) := by
      have e : v / 65536 * (65536 ^ (i + k) * 65536) = (65536 * (v / 65536)) * 65536 ^ (i + k) := by
        rw [Nat.mul_comm (65536 ^ (i + k)) 65536, ← Nat.mul_assoc, Nat.mul_comm (v / 65536)]
      rw [e, ← Nat.add_mul, Nat.div_add_mod]
    have e4 : v * 65536 ^ (i + k) = p.1.getD (i + k) 0 * 65536 ^ (i + k) + (x * b.getD k 0) * 65536 ^ (i + k) + p.2 * 65536 ^ (i + k) := by
      rw [← hv, Nat.add_mul, Nat.add_mul]
    rw [e1, e2]
    omega

theorem outr_len (a b : List Nat) : ∀ i, (outr a b i).length = a.length + b.length
  | 0 => by simp [outr]
  | i + 1 => by simp [outr, inn_len, outr_len a b i]

theorem outr_dig (a b : List Nat) (ha : Dig a) (hb : Dig b) : ∀ i, Dig (outr a b i)
  | 0 => dig_zero _
  | i + 1 => (inn_dig _ b i _ (ha i) hb (outr_dig a b ha hb i) b.length).1.set _ _ (inn_dig _ b i _ (ha i) hb (outr_dig a b ha hb i) b.length).2

theorem outr_far (a b : List Nat) : ∀ i j, i + b.length ≤ j → (outr a b i).getD j 0 = 0
  | 0, j, _ => zero_getD _ _
  | i + 1, j, h => by
    simp only [outr]
    rw [getD_set, if_neg (by omega), inn_far _ _ _ _ _ _ (by omega)]
    exact outr_far a b i j (by omega)

theorem outr_val (a b : List Nat) : ∀ i, i ≤ a.length → vn (outr a b i) (a.length + b.length) = vn a i * vn b b.length
  | 0, _ => by rw [outr, vn_zero]; simp [vn]
  | i + 1, h => by
    have ih := outr_val a b i (by omega)
    have hl := outr_len a b i
    have hv := inn_val (a.getD i 0) b i (outr a b i) (a.length + b.length) hl.symm b.length (by omega)
    have hf := inn_far (a.getD i 0) b i (outr a b i) b.length (i + b.length) (Nat.le_refl _)
    rw [outr_far a b i _ (Nat.le_refl _)] at hf
    have hs := vn_set (inn (a.getD i 0) b i (outr a b i) b.length).1 (i + b.length) (inn (a.getD i 0) b i (outr a b i) b.length).2 (by rw [inn_len, hl]; omega) (a.length + b.length) (by omega)
    rw [hf] at hs
    have e : (vn a i + a.getD i 0 * 65536 ^ i) * vn b b.length = vn a i * vn b b.length + a.getD i 0 * vn b b.length * 65536 ^ i := by
      rw [Nat.add_mul, Nat.mul_assoc, Nat.mul_assoc, Nat.mul_comm (65536 ^ i)]
    simp only [outr, vn]
    rw [e]
    omega

theorem times_dig {a b : List Nat} (ha : Dig a) (hb : Dig b) : Dig (timesF a b) := outr_dig a b ha hb _
theorem times_len (a b : List Nat) : (timesF a b).length = a.length + b.length := outr_len a b _
theorem times_val (a b : List Nat) : vn (timesF a b) (a.length + b.length) = vn a a.length * vn b b.length := outr_val a b _ (Nat.le_refl _)

/-- Is a above b? -/
def abv (a b : List Nat) : Nat → Bool
  | 0 => false
  | i + 1 => if a.getD i 0 = b.getD i 0 then abv a b i else decide (b.getD i 0 < a.getD i 0)

theorem abv_val {a b : List Nat} (ha : Dig a) (hb : Dig b) : ∀ n, abv a b n = decide (vn b n < vn a n)
  | 0 => by simp [abv, vn]
  | n + 1 => by
    have ih := abv_val ha hb n
    have h1 := vn_lt ha n
    have h2 := vn_lt hb n
    have e : decide (vn b (n + 1) < vn a (n + 1)) = decide (vn b n + b.getD n 0 * 65536 ^ n < vn a n + a.getD n 0 * 65536 ^ n) := rfl
    rw [e, abv]
    by_cases he : a.getD n 0 = b.getD n 0
    · rw [if_pos he, ih, he]
      exact decide_eq_decide.2 (by omega)
    · rw [if_neg he]
      by_cases hlt : b.getD n 0 < a.getD n 0
      · have : (b.getD n 0 + 1) * 65536 ^ n ≤ a.getD n 0 * 65536 ^ n := Nat.mul_le_mul_right _ hlt
        rw [Nat.add_mul] at this
        simp only [hlt, decide_true]
        exact (decide_eq_true (by omega)).symm
      · have : (a.getD n 0 + 1) * 65536 ^ n ≤ b.getD n 0 * 65536 ^ n := Nat.mul_le_mul_right _ (by omega)
        rw [Nat.add_mul] at this
        simp only [hlt, decide_false]
        exact (decide_eq_false (by omega)).symm

/-- A root, bit by bit. -/
def gF (N k : Nat) : Nat → Nat
  | 0 => 0
  | i + 1 => if N < (gF N k i + 2 ^ (79 - i)) ^ k then gF N k i else gF N k i + 2 ^ (79 - i)
def rootF (n k : Nat) : Nat := gF (n * 2 ^ (64 * k)) k 80 % 2 ^ 64

def pr (n : Nat) : Bool := (List.range n).all fun k => decide (k < 2) || n % k != 0
def primes (q : Nat) : List Nat := ((List.range q).map (· + 2)).filter pr

def P80 : List Nat := [2, 3, 5, 7, 11, 13, 17, 19, 23, 29, 31, 37, 41, 43, 47, 53, 59, 61, 67, 71, 73, 79, 83, 89, 97, 101, 103, 107, 109, 113, 127, 131, 137, 139, 149, 151, 157, 163, 167, 173, 179, 181, 191, 193, 197, 199, 211, 223, 227, 229, 233, 239, 241, 251, 257, 263, 269, 271, 277, 281, 283, 293, 307, 311, 313, 317, 331, 337, 347, 349, 353, 359, 367, 373, 379, 383, 389, 397, 401, 409]

set_option maxRecDepth 100000 in
theorem primes_408 : primes 408 = P80 := by decide +kernel
set_option maxRecDepth 100000 in
theorem squares_P80 : (P80.take 8).map (rootF · 2) = sq := by decide +kernel
set_option maxRecDepth 100000 in
theorem cubes_P80 : P80.map (rootF · 3) = cu := by decide +kernel

theorem primes_succ (q : Nat) : primes (q + 1) = primes q ++ (if pr (q + 2) then [q + 2] else []) := by
  simp only [primes, List.range_succ, List.map_append, List.filter_append, List.map_cons, List.map_nil]
  congr 1
  simp only [List.filter_cons, List.filter_nil]

theorem primes_mono (q : Nat) : ∀ d, (primes q).length ≤ (primes (q + d)).length
  | 0 => Nat.le_refl _
  | d + 1 => by
    rw [← Nat.add_assoc, primes_succ, List.length_append]
    exact Nat.le_trans (primes_mono q d) (Nat.le_add_right _ _)

set_option maxRecDepth 100000 in
theorem primes_few (q : Nat) (h : q < 408) : (primes q).length < 80 := by
  have h1 := primes_mono q (407 - q)
  rw [show q + (407 - q) = 407 by omega] at h1
  have h2 : (primes 407).length = 79 := by decide +kernel
  omega

/-- What the bits below b + 1 of the digits are: nothing. -/
def Clear (l : List Nat) (b : Nat) : Prop := ∀ j, l.getD j 0 % 2 ^ (b - 16 * j) = 0

theorem clear_room {l : List Nat} {b : Nat} (hd : Dig l) (h : Clear l (b + 1)) : l.getD (b / 16) 0 + 2 ^ (b % 16) < 65536 ∧ l.getD (b / 16) 0 % 2 ^ (b % 16) = 0 := by
  have h1 := h (b / 16)
  have h2 := hd (b / 16)
  rw [show b + 1 - 16 * (b / 16) = b % 16 + 1 by omega] at h1
  generalize l.getD (b / 16) 0 = d at h1 h2
  have h3 : b % 16 < 16 := Nat.mod_lt _ (by decide)
  generalize b % 16 = r at h1 h3
  have : r = 0 ∨ r = 1 ∨ r = 2 ∨ r = 3 ∨ r = 4 ∨ r = 5 ∨ r = 6 ∨ r = 7 ∨ r = 8 ∨ r = 9 ∨ r = 10 ∨ r = 11 ∨ r = 12 ∨ r = 13 ∨ r = 14 ∨ r = 15 := by omega
  rcases this with h | h | h | h | h | h | h | h | h | h | h | h | h | h | h | h <;> subst h <;> simp at h1 ⊢ <;> omega

theorem clear_down {l : List Nat} {b : Nat} (h : Clear l (b + 1)) : Clear l b := by
  intro j
  have h1 := h j
  have h2 : (2 ^ (b - 16 * j)) ∣ 2 ^ (b + 1 - 16 * j) := Nat.pow_dvd_pow 2 (by omega)
  exact Nat.mod_eq_zero_of_dvd (Nat.dvd_trans h2 (Nat.dvd_of_mod_eq_zero h1))

theorem clear_set {l : List Nat} {b : Nat} (hd : Dig l) (h : Clear l (b + 1)) : Clear (l.set (b / 16) (l.getD (b / 16) 0 + 2 ^ (b % 16))) b := by
  intro j
  rw [getD_set]
  split
  · rename_i hj
    obtain ⟨rfl, _⟩ := hj
    have h1 := (clear_room hd h).2
    rw [show b - 16 * (b / 16) = b % 16 by omega, Nat.add_mod, h1]
    simp
  · exact clear_down h j

theorem bit_place (b : Nat) : 2 ^ (b % 16) * 65536 ^ (b / 16) = 2 ^ b := by
  rw [show (65536 : Nat) = 2 ^ 16 by decide, ← Nat.pow_mul, ← Nat.pow_add]
  congr 1
  omega

end Go.Proofs.YtgaddifabjoliaaDoor
