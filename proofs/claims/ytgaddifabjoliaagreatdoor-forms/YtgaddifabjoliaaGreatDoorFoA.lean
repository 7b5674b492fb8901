import Derived.Test.YtgaddifabjoliaaGreatDoorPlC
namespace Go.Proofs.YtgaddifabjoliaaGreatDoor

/-! ### Numbers: what was read stood there as it is written -/
theorem pu_reads (M : Nat) : ∀ (l : Bytes) (acc u : Nat), Lib.parseUintM M acc l = .ok u → (l ≠ [] → 1 ≤ acc ∨ l[0]? ≠ some 48) → (1 ≤ acc → Lib.decDigits u = Lib.decDigits acc ++ l) ∧ (acc = 0 → l ≠ [] → Lib.decDigits u = l)
  | [], acc, u, h, _ => by
    simp only [Lib.parseUintM] at h
    cases h
    exact ⟨fun _ => by simp, fun _ h => absurd rfl h⟩
  | c :: l, acc, u, h, hz => by
    rw [Lib.parseUintM] at h
    split at h
    · rename_i hd
      split at h
      · cases h
      · split at h
        · cases h
        · have hc48 : 1 ≤ acc ∨ c.toNat ≠ 48 := by
            rcases hz (by simp) with h1 | h1
            · exact Or.inl h1
            · refine Or.inr fun e => h1 ?_
              rw [List.getElem?_cons_zero, UInt8.toNat_inj.1 (show c.toNat = (48 : UInt8).toNat from e)]
          have hpos : 1 ≤ acc * 10 + (c.toNat - 48) := by omega
          have ih := (pu_reads M l _ u h (fun _ => Or.inl hpos)).1 hpos
          have e8 : UInt8.ofNat (48 + (c.toNat - 48)) = c := by
            rw [show 48 + (c.toNat - 48) = c.toNat by omega, UInt8.ofNat_toNat]
          refine ⟨fun ha => ?_, fun ha _ => ?_⟩
          · have e : Lib.decDigits (acc * 10 + (c.toNat - 48)) = Lib.decDigits acc ++ [c] := by
              rw [Lib.decDigits, dif_neg (by omega), show (acc * 10 + (c.toNat - 48)) / 10 = acc by omega, show (acc * 10 + (c.toNat - 48)) % 10 = c.toNat - 48 by omega, e8]
            rw [ih, e, List.append_assoc]
            rfl
          · subst ha
            have e : Lib.decDigits (0 * 10 + (c.toNat - 48)) = [c] := by
              rw [Lib.decDigits, dif_pos (by omega), show 48 + (0 * 10 + (c.toNat - 48)) = 48 + (c.toNat - 48) by omega, e8]
            rw [ih, e]
            rfl
    · cases h

/-- What digits are worth. -/
def digV : Bytes → Nat → Nat
  | [], acc => acc
  | c :: l, acc => digV l (acc * 10 + (c.toNat - 48))
theorem digV_ge : ∀ (l : Bytes) (acc : Nat), acc ≤ digV l acc
  | [], _ => Nat.le_refl _
  | c :: l, acc => by
    have := digV_ge l (acc * 10 + (c.toNat - 48))
    rw [digV]; omega
theorem digV_append : ∀ (l m : Bytes) (acc : Nat), digV (l ++ m) acc = digV m (digV l acc)
  | [], _, _ => rfl
  | c :: l, m, acc => by rw [List.cons_append, digV, digV, digV_append l m]
theorem pu_value (M : Nat) (hM : M = 2 ^ 64 - 1) : ∀ (l : Bytes) (acc : Nat), (∀ c ∈ l, isDig c = true) →
    (∀ u, Lib.parseUintM M acc l = .ok u → u = digV l acc) ∧ (digV l acc < 1844674407370955161 → Lib.parseUintM M acc l = .ok (digV l acc))
  | [], acc, _ => ⟨fun u h => by simp only [Lib.parseUintM] at h; cases h; rfl, fun _ => rfl⟩
  | c :: l, acc, hl => by
    have hc := hl c (by simp)
    unfold isDig at hc
    simp only [Bool.and_eq_true, decide_eq_true_eq] at hc
    have ih := pu_value M hM l (acc * 10 + (c.toNat - 48)) (fun d hd => hl d (by simp [hd]))
    refine ⟨fun u h => ?_, fun h => ?_⟩
    · rw [Lib.parseUintM, if_pos hc] at h
      split at h
      · cases h
      · split at h
        · cases h
        · exact ih.1 u h
    · have hge := digV_ge l (acc * 10 + (c.toNat - 48))
      rw [digV] at h
      rw [Lib.parseUintM, if_pos hc, if_neg (by omega), if_neg (by omega)]
      exact ih.2 h

/-- Digits, told by what they are worth. -/
theorem int_value (c : UInt8) (l : Bytes) (hl : ∀ d ∈ c :: l, isDig d = true) :
    (∀ n, intOk (c :: l) = some n → n = (digV (c :: l) 0 : Nat)) ∧ (digV (c :: l) 0 < 9007199254740992 → intOk (c :: l) = some ((digV (c :: l) 0 : Nat) : Int)) := by
  have hc := hl c (by simp)
  unfold isDig at hc
  simp only [Bool.and_eq_true, decide_eq_true_eq] at hc
  have h43 : (if c.toNat = 43 ∨ c.toNat = 45 then l else c :: l) = c :: l := if_neg (by omega)
  obtain ⟨h1, h2⟩ := pu_value (2 ^ 64 - 1) rfl (c :: l) 0 hl
  have hpu : Lib.parseUintB 64 (c :: l) = Lib.parseUintM (2 ^ 64 - 1) 0 (c :: l) := by unfold Lib.parseUintB; rw [if_neg (by simp)]
  refine ⟨fun n h => ?_, fun h => ?_⟩
  · unfold intOk Lib.parseIntB at h
    simp only [h43, hpu] at h
    cases hp : Lib.parseUintM (2 ^ 64 - 1) 0 (c :: l) with
    | «syntax» => rw [hp] at h; simp at h
    | range => rw [hp] at h; simp at h
    | ok u =>
      have hu := h1 u hp
      rw [hp] at h
      simp only at h
      split at h
      · rename_i v' hv'
        split at hv'
        · cases hv'
        · split at hv'
          · cases hv'
          · rw [if_neg (by omega)] at hv'
            cases hv'
            simp only [Option.some.injEq] at h
            rw [← h, hu]
      · cases h
  · have hp := h2 (by omega)
    unfold intOk Lib.parseIntB
    simp only [h43, hpu, hp]
    rw [if_neg (by omega), if_neg (by omega), if_neg (by omega)]

theorem int_text (c : UInt8) (l : Bytes) (hl : ∀ d ∈ c :: l, isDig d = true) (hz : l = [] ∨ c ≠ 48) (h : digV (c :: l) 0 < 9007199254740992) : Lib.decDigits (digV (c :: l) 0) = c :: l := by
  have hp := (pu_value (2 ^ 64 - 1) rfl (c :: l) 0 hl).2 (by omega)
  rcases hz with rfl | hz
  · have hc := hl c (by simp)
    unfold isDig at hc
    simp only [Bool.and_eq_true, decide_eq_true_eq] at hc
    show Lib.decDigits (0 * 10 + (c.toNat - 48)) = [c]
    rw [Lib.decDigits, dif_pos (by omega), show 48 + (0 * 10 + (c.toNat - 48)) = c.toNat by omega, UInt8.ofNat_toNat]
  · exact (pu_reads _ (c :: l) 0 _ hp (fun _ => Or.inr (by rw [List.getElem?_cons_zero]; intro e; exact hz (Option.some.inj e)))).2 rfl (by simp)

theorem dig_split (s : Bytes) : s = s.takeWhile isDig ++ s.drop (digN s) := by
  rw [← take_while, List.take_append_drop]
theorem dig_all (s : Bytes) : ∀ c ∈ s.takeWhile isDig, isDig c = true := by
  have hall : (s.takeWhile isDig).all isDig = true := List.all_takeWhile
  rw [List.all_eq_true] at hall
  exact hall

/-- Digits, in full. -/
theorem digits_says (s : Bytes) : digitsR s = if digN s = 0 ∨ (1 < digN s ∧ s[0]? = some 48) ∨ 9007199254740992 ≤ digV (s.takeWhile isDig) 0 then none else some (((digV (s.takeWhile isDig) 0 : Nat) : Int), s.drop (digN s)) := by
  unfold digitsR
  by_cases h1 : 1 < digN s ∧ s[0]? = some 48
  · rw [if_pos h1, if_pos (Or.inr (Or.inl h1))]
  · rw [if_neg h1, take_while]
    cases hl : s.takeWhile isDig with
    | nil =>
      have h0 : digN s = 0 := by unfold digN; rw [hl]; rfl
      rw [if_pos (Or.inl h0)]
      rfl
    | cons c l =>
      have h0 : digN s ≠ 0 := by unfold digN; rw [hl]; simp
      have hall := dig_all s
      rw [hl] at hall
      obtain ⟨a1, a2⟩ := int_value c l hall
      by_cases hb : 9007199254740992 ≤ digV (c :: l) 0
      · rw [if_pos (Or.inr (Or.inr hb))]
        cases hi : intOk (c :: l) with
        | none => rfl
        | some n =>
          simp only
          rw [if_pos (by rw [a1 n hi]; omega)]
      · rw [if_neg (by rintro (h | h | h); exact h0 h; exact h1 h; exact hb h), a2 (by omega)]
        simp only
        rw [if_neg (by omega)]

theorem digits_text {s : Bytes} {n : Int} {r : Bytes} (h : digitsR s = some (n, r)) : ∃ u : Nat, n = (u : Int) ∧ s = Lib.decDigits u ++ r ∧ r = s.drop (digN s) := by
  rw [digits_says] at h
  split at h
  · cases h
  · rename_i hn
    simp only [Option.some.injEq, Prod.mk.injEq] at h
    obtain ⟨rfl, rfl⟩ := h
    refine ⟨_, rfl, ?_, rfl⟩
    cases hl : s.takeWhile isDig with
    | nil => exact absurd (Or.inl (by unfold digN; rw [hl]; rfl)) hn
    | cons c l =>
      have hall := dig_all s
      rw [hl] at hall hn
      have hs := dig_split s
      rw [hl] at hs
      rw [int_text c l hall ?_ (by omega)]
      · exact hs
      · by_cases hz : l = []
        · exact Or.inl hz
        · refine Or.inr fun e => hn (Or.inr (Or.inl ⟨?_, ?_⟩))
          · unfold digN
            rw [hl]
            have := List.length_pos_iff.2 hz
            simp only [List.length_cons]; omega
          · rw [hs, List.cons_append, List.getElem?_cons_zero, e]

/-! ### Runes -/
/-- How many bytes the rune has that begins here; 0: none does. -/
def rune4 (n b0 b1 b2 b3 : Nat) : Nat :=
  if b0 < 128 then 1
  else if b0 < 194 then 0
  else if b0 < 224 then (if 2 ≤ n ∧ (128 ≤ b1 ∧ b1 ≤ 191) then 2 else 0)
  else if b0 < 240 then (if 3 ≤ n ∧ (128 ≤ b1 ∧ b1 ≤ 191) ∧ (128 ≤ b2 ∧ b2 ≤ 191) ∧ ¬ (b0 = 224 ∧ b1 < 160) ∧ ¬ (b0 = 237 ∧ 159 < b1) then 3 else 0)
  else if b0 < 245 then (if 4 ≤ n ∧ (128 ≤ b1 ∧ b1 ≤ 191) ∧ (128 ≤ b2 ∧ b2 ≤ 191) ∧ (128 ≤ b3 ∧ b3 ≤ 191) ∧ ¬ (b0 = 240 ∧ b1 < 144) ∧ ¬ (b0 = 244 ∧ 143 < b1) then 4 else 0)
  else 0
def runeN (l : Bytes) : Nat := rune4 l.length (l.getD 0 0).toNat (l.getD 1 0).toNat (l.getD 2 0).toNat (l.getD 3 0).toNat

theorem decodeN_is (n b0 b1 b2 b3 : Nat) (h0 : b0 < 256) (h1 : b1 < 256) (h2 : b2 < 256) (h3 : b3 < 256) :
    (rune4 n b0 b1 b2 b3 = 0 → Lib.decodeN n b0 b1 b2 b3 = (65533, 1)) ∧
    (rune4 n b0 b1 b2 b3 = 1 → b0 < 128 ∧ Lib.decodeN n b0 b1 b2 b3 = (b0, 1)) ∧
    (rune4 n b0 b1 b2 b3 = 2 → 2 ≤ n ∧ 194 ≤ b0 ∧ Lib.decodeN n b0 b1 b2 b3 = (b0 % 32 * 64 + b1 % 64, 2) ∧ 128 ≤ b0 % 32 * 64 + b1 % 64 ∧ b0 % 32 * 64 + b1 % 64 < 2048 ∧ 192 + (b0 % 32 * 64 + b1 % 64) / 64 = b0 ∧ 128 + (b0 % 32 * 64 + b1 % 64) % 64 = b1) ∧
    (rune4 n b0 b1 b2 b3 = 3 → 3 ≤ n ∧ 194 ≤ b0 ∧ ∃ r, Lib.decodeN n b0 b1 b2 b3 = (r, 3) ∧ 2048 ≤ r ∧ r < 65536 ∧ 224 + r / 4096 = b0 ∧ 128 + r / 64 % 64 = b1 ∧ 128 + r % 64 = b2) ∧
    (rune4 n b0 b1 b2 b3 = 4 → 4 ≤ n ∧ 194 ≤ b0 ∧ ∃ r, Lib.decodeN n b0 b1 b2 b3 = (r, 4) ∧ 65536 ≤ r ∧ 240 + r / 262144 = b0 ∧ 128 + r / 4096 % 64 = b1 ∧ 128 + r / 64 % 64 = b2 ∧ 128 + r % 64 = b3) ∧
    rune4 n b0 b1 b2 b3 ≤ 4 := by
  unfold rune4
  by_cases a1 : b0 < 128
  · rw [if_pos a1]
    refine ⟨by omega, fun _ => ⟨a1, ?_⟩, by omega, by omega, by omega, by omega⟩
    unfold Lib.decodeN
    rw [if_pos a1]
  rw [if_neg a1]
  by_cases a2 : b0 < 194
  · rw [if_pos a2]
    refine ⟨fun _ => ?_, by omega, by omega, by omega, by omega, by omega⟩
    unfold Lib.decodeN
    rw [if_neg a1]
    split
    · rw [if_neg (by omega)]
    · rw [if_neg (by omega), if_neg (by omega)]
  rw [if_neg a2]
  by_cases a3 : b0 < 224
  · rw [if_pos a3]
    split
    · rename_i h
      refine ⟨by omega, by omega, fun _ => ⟨h.1, by omega, ?_, by omega, by omega, by omega, by omega⟩, by omega, by omega, by omega⟩
      unfold Lib.decodeN
      rw [if_neg a1, if_pos (by omega), if_pos (by omega)]
    · rename_i h
      refine ⟨fun _ => ?_, by omega, by omega, by omega, by omega, by omega⟩
      unfold Lib.decodeN
      rw [if_neg a1, if_neg (by omega), if_neg (by omega), if_neg (by omega)]
  rw [if_neg a3]
  by_cases a4 : b0 < 240
  · rw [if_pos a4]
    split
    · rename_i h
      refine ⟨by omega, by omega, by omega, fun _ => ⟨h.1, by omega, b0 % 16 * 4096 + b1 % 64 * 64 + b2 % 64, ?_, by omega, by omega, by omega, by omega, by omega⟩, by omega, by omega⟩
      unfold Lib.decodeN
      rw [if_neg a1, if_neg (by omega), if_pos (by omega), if_pos (by omega)]
    · rename_i h
      refine ⟨fun _ => ?_, by omega, by omega, by omega, by omega, by omega⟩
      unfold Lib.decodeN
      rw [if_neg a1, if_neg (by omega)]
      split
      · rw [if_neg (by omega)]
      · rw [if_neg (by omega)]
  rw [if_neg a4]
  by_cases a5 : b0 < 245
  · rw [if_pos a5]
    split
    · rename_i h
      refine ⟨by omega, by omega, by omega, by omega, fun _ => ⟨h.1, by omega, b0 % 8 * 262144 + b1 % 64 * 4096 + b2 % 64 * 64 + b3 % 64, ?_, by omega, by omega, by omega, by omega, by omega⟩, by omega⟩
      unfold Lib.decodeN
      rw [if_neg a1, if_neg (by omega), if_neg (by omega), if_pos (by omega), if_pos (by omega)]
    · rename_i h
      refine ⟨fun _ => ?_, by omega, by omega, by omega, by omega, by omega⟩
      unfold Lib.decodeN
      rw [if_neg a1, if_neg (by omega), if_neg (by omega)]
      split
      · rw [if_neg (by omega)]
      · rfl
  · rw [if_neg a5]
    refine ⟨fun _ => ?_, by omega, by omega, by omega, by omega, by omega⟩
    unfold Lib.decodeN
    rw [if_neg a1, if_neg (by omega), if_neg (by omega)]
    split
    · rw [if_neg (by omega)]
    · rfl

theorem dec_rune (b : UInt8) (q : Bytes) : decL (b :: q) = Lib.decodeN (b :: q).length ((b :: q).getD 0 0).toNat ((b :: q).getD 1 0).toNat ((b :: q).getD 2 0).toNat ((b :: q).getD 3 0).toNat := decL_cons b q

theorem u8_of (b : UInt8) (n : Nat) (h : n = b.toNat) : UInt8.ofNat n = b := by rw [h, UInt8.ofNat_toNat]

/-- A rune that stands plain is read as its own bytes. -/
theorem plain_is (b : UInt8) (q : Bytes) (h32 : 32 ≤ b.toNat) (h34 : b ≠ 34) (h92 : b ≠ 92) :
    (runeN (b :: q) = 0 ∧ plainR (b :: q) = none) ∨
    (1 ≤ runeN (b :: q) ∧ runeN (b :: q) ≤ (b :: q).length ∧ ∃ c : Nat, Gr c ∧ plainR (b :: q) = some ((c : Int), (b :: q).drop (runeN (b :: q))) ∧ encL c = (b :: q).take (runeN (b :: q))) := by
  have hg := decL_good (b :: q)
  have n34 : b.toNat ≠ 34 := fun e => h34 (UInt8.toNat_inj.1 e)
  have n92 : b.toNat ≠ 92 := fun e => h92 (UInt8.toNat_inj.1 e)
  obtain ⟨d0, d1, d2, d3, d4, dle⟩ := decodeN_is (b :: q).length ((b :: q).getD 0 0).toNat ((b :: q).getD 1 0).toNat ((b :: q).getD 2 0).toNat ((b :: q).getD 3 0).toNat (UInt8.toNat_lt _) (UInt8.toNat_lt _) (UInt8.toNat_lt _) (UInt8.toNat_lt _)
  rw [← dec_rune] at d0 d1 d2 d3 d4
  have hb0 : ((b :: q).getD 0 0) = b := rfl
  change (runeN (b :: q) = 0 → _) at d0
  change (runeN (b :: q) = 1 → _) at d1
  change (runeN (b :: q) = 2 → _) at d2
  change (runeN (b :: q) = 3 → _) at d3
  change (runeN (b :: q) = 4 → _) at d4
  change runeN (b :: q) ≤ 4 at dle
  generalize hk : runeN (b :: q) = k at *
  have hks : k = 0 ∨ k = 1 ∨ k = 2 ∨ k = 3 ∨ k = 4 := by omega
  rcases hks with rfl | rfl | rfl | rfl | rfl
  · refine Or.inl ⟨rfl, ?_⟩
    unfold plainR
    rw [d0 rfl, if_pos (show plainBad _ _ from Or.inl ⟨rfl, by decide⟩)]
  · obtain ⟨hlt, hd⟩ := d1 rfl
    clear d0 d1 d2 d3 d4 dle
    refine Or.inr ⟨by omega, by simp, b.toNat, ?_, ?_, ?_⟩
    · rw [hd] at hg; exact hg
    · unfold plainR
      rw [hd, hb0, if_neg (by unfold plainBad; rw [hb0] at hlt; omega)]
    · rw [hb0] at hlt
      unfold encL
      rw [if_pos hlt, UInt8.ofNat_toNat]
      rfl
  · obtain ⟨hl, h194, hd, r1, r2, e0, e1⟩ := d2 rfl
    clear d0 d1 d2 d3 d4 dle
    rw [hb0] at h194 hd r1 r2 e0 e1
    obtain ⟨b1, q1, rfl⟩ : ∃ b1 q1, q = b1 :: q1 := by
      cases q with
      | nil => simp at hl
      | cons b1 q1 => exact ⟨b1, q1, rfl⟩
    have hb1 : ((b :: b1 :: q1).getD 1 0) = b1 := rfl
    rw [hb1] at hd r1 r2 e0 e1
    generalize b.toNat % 32 * 64 + b1.toNat % 64 = r at *
    refine Or.inr ⟨by omega, hl, r, ?_, ?_, ?_⟩
    · rw [hd] at hg; exact hg
    · unfold plainR
      rw [hd, if_neg (by unfold plainBad; omega)]
    · unfold encL
      rw [if_neg (by omega), if_pos (by omega), u8_of b _ e0, u8_of b1 _ e1]
      rfl
  · obtain ⟨hl, h194, r, hd, r1, r2, e0, e1, e2⟩ := d3 rfl
    clear d0 d1 d2 d3 d4 dle
    rw [hb0] at h194 e0
    obtain ⟨b1, b2, q1, rfl⟩ : ∃ b1 b2 q1, q = b1 :: b2 :: q1 := by
      match q, hl with
      | [], hl => simp at hl
      | [_], hl => simp at hl
      | b1 :: b2 :: q1, _ => exact ⟨b1, b2, q1, rfl⟩
    have hb1 : ((b :: b1 :: b2 :: q1).getD 1 0) = b1 := rfl
    have hb2 : ((b :: b1 :: b2 :: q1).getD 2 0) = b2 := rfl
    rw [hb1] at e1
    rw [hb2] at e2
    refine Or.inr ⟨by omega, hl, r, ?_, ?_, ?_⟩
    · rw [hd] at hg; exact hg
    · unfold plainR
      rw [hd, if_neg (by unfold plainBad; omega)]
    · unfold encL
      rw [if_neg (by omega), if_neg (by omega), if_pos (by omega), u8_of b _ e0, u8_of b1 _ e1, u8_of b2 _ e2]
      rfl
  · obtain ⟨hl, h194, r, hd, r1, e0, e1, e2, e3⟩ := d4 rfl
    clear d0 d1 d2 d3 d4 dle
    rw [hb0] at h194 e0
    obtain ⟨b1, b2, b3, q1, rfl⟩ : ∃ b1 b2 b3 q1, q = b1 :: b2 :: b3 :: q1 := by
      match q, hl with
      | [], hl => simp at hl
      | [_], hl => simp at hl
      | [_, _], hl => simp at hl
      | b1 :: b2 :: b3 :: q1, _ => exact ⟨b1, b2, b3, q1, rfl⟩
    have hb1 : ((b :: b1 :: b2 :: b3 :: q1).getD 1 0) = b1 := rfl
    have hb2 : ((b :: b1 :: b2 :: b3 :: q1).getD 2 0) = b2 := rfl
    have hb3 : ((b :: b1 :: b2 :: b3 :: q1).getD 3 0) = b3 := rfl
    rw [hb1] at e1
    rw [hb2] at e2
    rw [hb3] at e3
    refine Or.inr ⟨by omega, hl, r, ?_, ?_, ?_⟩
    · rw [hd] at hg; exact hg
    · unfold plainR
      rw [hd, if_neg (by unfold plainBad; omega)]
    · unfold encL
      rw [if_neg (by omega), if_neg (by omega), if_neg (by omega), u8_of b _ e0, u8_of b1 _ e1, u8_of b2 _ e2, u8_of b3 _ e3]
      rfl
end Go.Proofs.YtgaddifabjoliaaGreatDoor

namespace Go.Proofs.YtgaddifabjoliaaGreatDoor

/-! ### What stands behind a backslash -/
def shortE (c : UInt8) : Option Int :=
  if c = 34 then some 34 else if c = 92 then some 92 else if c = 47 then some 47 else if c = 98 then some 8 else if c = 102 then some 12
  else if c = 110 then some 10 else if c = 114 then some 13 else if c = 116 then some 9 else none
theorem short_is (c : UInt8) (q : Bytes) : shortR (92 :: c :: q) = (shortE c).map (fun n => (n, q)) := by
  by_cases h1 : c = 34
  · subst h1; exact short_34 q
  by_cases h2 : c = 92
  · subst h2; exact short_92 q
  by_cases h3 : c = 47
  · subst h3; simp [shortR, oneOfR, wordR, List.isPrefixOf, shortE]
  by_cases h4 : c = 98
  · subst h4; simp [shortR, oneOfR, wordR, List.isPrefixOf, shortE]
  by_cases h5 : c = 102
  · subst h5; simp [shortR, oneOfR, wordR, List.isPrefixOf, shortE]
  by_cases h6 : c = 110
  · subst h6; simp [shortR, oneOfR, wordR, List.isPrefixOf, shortE]
  by_cases h7 : c = 114
  · subst h7; simp [shortR, oneOfR, wordR, List.isPrefixOf, shortE]
  by_cases h8 : c = 116
  · subst h8; simp [shortR, oneOfR, wordR, List.isPrefixOf, shortE]
  rw [short_none c q ⟨h1, h2, h3, h4, h5, h6, h7, h8⟩]
  unfold shortE
  rw [if_neg h1, if_neg h2, if_neg h3, if_neg h4, if_neg h5, if_neg h6, if_neg h7, if_neg h8]
  rfl

def pairE (n : Int) (q2 : Bytes) : Option (Int × Bytes) := match unitR q2 with
  | none => none
  | some (m, q3) => if m < 56320 ∨ 57343 < m then none else some (65536 + 1024 * (n - 55296) + (m - 56320), q3)
def unitE (q : Bytes) : Option (Int × Bytes) := match fourR q with
  | none => none
  | some (n, q2) => if n < 55296 ∨ 57343 < n then some (n, q2) else if 56320 ≤ n then none else pairE n q2
def escR : Bytes → Option (Int × Bytes)
  | [] => none
  | c :: q => match shortE c with
    | some n => some (n, q)
    | none => if c = 117 then unitE q else none

theorem item_esc (q : Bytes) : itemR (92 :: q) = escR q := by
  cases q with
  | nil =>
    unfold itemR
    rw [oneOfR, plain_none]
    simp [oneOfR, shortR, wordR, changedR, bothR, unitR, afterR, List.isPrefixOf, escR]
  | cons c q =>
    unfold itemR escR
    rw [oneOfR, plain_none]
    simp only
    rw [oneOfR, short_is]
    cases hs : shortE c with
    | some n => rfl
    | none =>
      simp only [Option.map_none]
      by_cases h : c = 117
      · subst h
        rw [if_pos rfl]
        have hu : unitR (92 :: 117 :: q) = fourR q := by
          unfold unitR afterR
          rw [unit_prefix, if_pos rfl]
          rfl
        simp only [oneOfR, changedR, bothR, hu]
        unfold unitE
        cases hf : fourR q with
        | none => rfl
        | some z =>
          obtain ⟨n, q2⟩ := z
          simp only [wholeF]
          by_cases h1 : n < 55296 ∨ 57343 < n
          · rw [if_pos h1, if_pos h1]
          · rw [if_neg h1, if_neg h1]
            simp only
            unfold pairE
            cases hu2 : unitR q2 with
            | none => simp only; split <;> rfl
            | some z2 =>
              obtain ⟨m, q3⟩ := z2
              simp only [pairedF]
              by_cases h2 : 56320 ≤ n
              · rw [if_pos h2, if_pos (Or.inr (Or.inl h2))]
              · rw [if_neg h2]
                by_cases h3 : m < 56320 ∨ 57343 < m
                · rw [if_pos h3, if_pos (Or.inr (Or.inr h3))]
                · rw [if_neg h3, if_neg (by omega)]
      · rw [if_neg h]
        have hu : unitR (92 :: c :: q) = none := by
          unfold unitR afterR
          rw [if_neg]
          simp only [List.isPrefixOf]
          rw [show ((117 : UInt8) == c) = false by simpa using fun e => h e.symm]
          simp
        simp only [oneOfR, changedR, bothR, hu]

theorem item_other (b : UInt8) (q : Bytes) (h : b ≠ 92) : itemR (b :: q) = plainR (b :: q) := by
  have hs : shortR (b :: q) = none := by
    unfold shortR
    simp only [oneOfR, word_none 92 _ _ b q h.symm]
  have hu : unitR (b :: q) = none := by
    unfold unitR afterR
    rw [if_neg]
    simp only [List.isPrefixOf]
    rw [show ((92 : UInt8) == b) = false by simpa using fun e => h e.symm]
    simp
  unfold itemR
  rw [oneOfR]
  cases plainR (b :: q) with
  | some z => rfl
  | none => simp only [oneOfR, hs, changedR, bothR, hu]
theorem plain_low (b : UInt8) (q : Bytes) (h : b.toNat < 32) : plainR (b :: q) = none := by
  have e : decL (b :: q) = (b.toNat, 1) := by
    rw [decL_cons]
    unfold Lib.decodeN
    rw [if_pos (by omega)]
  unfold plainR
  rw [e, if_pos (show plainBad _ _ from Or.inr (Or.inl h))]
theorem item_low_none (b : UInt8) (q : Bytes) (h : b.toNat < 32) : itemR (b :: q) = none := by
  rw [item_other b q (by rintro rfl; revert h; decide), plain_low b q h]
theorem item_nil : itemR [] = none := by
  have hp : plainR [] = none := rfl
  unfold itemR
  rw [oneOfR, hp]
  simp [oneOfR, shortR, wordR, changedR, bothR, unitR, afterR, List.isPrefixOf]

/-! ### A string behind its first quote -/
def textE (l : Bytes) : Option (Bytes × Bytes) := match untilF [34] itemR l with
  | none => none
  | some (rs, r) => some (runesF rs, r)
theorem quoted_is (l : Bytes) : quotedR (34 :: l) = textE l := by
  unfold quotedR textE changedR
  rw [after_one]
  cases untilF [34] itemR l <;> rfl
theorem quoted_not (b : UInt8) (q : Bytes) (h : b ≠ 34) : quotedR (b :: q) = none := by
  unfold quotedR changedR
  rw [after_none 34 _ b q h.symm]
theorem quoted_nil : quotedR [] = none := rfl
theorem text_nil : textE [] = none := by
  unfold textE untilF
  rw [until_eq _ _ strict_item, item_nil]
  rfl
theorem text_end (q : Bytes) : textE (34 :: q) = some ([], q) := by
  unfold textE untilF
  rw [until_eq _ _ strict_item, prefix_one]
  rfl
theorem runes_cons (c : Nat) (l : List Int) (h : Gr c) : runesF ((c : Int) :: l) = encL c ++ runesF l := by
  rw [runesF_eq, runesF_eq, List.flatMap_cons, enc_gr c h]
theorem text_none (b : UInt8) (q : Bytes) (h : b ≠ 34) (hi : itemR (b :: q) = none) : textE (b :: q) = none := by
  unfold textE untilF
  rw [until_eq _ _ strict_item, prefix_one, if_neg (by simpa using h.symm), hi]
theorem text_step (b : UInt8) (q : Bytes) (h : b ≠ 34) (c : Nat) (r : Bytes) (hg : Gr c) (hi : itemR (b :: q) = some ((c : Int), r)) : textE (b :: q) = (textE r).map fun y => (encL c ++ y.1, y.2) := by
  unfold textE untilF
  rw [until_eq _ _ strict_item (b :: q), prefix_one, if_neg (by simpa using h.symm), hi]
  simp only
  cases untilR [34] itemR (r.length + 1) r with
  | none => rfl
  | some z =>
    obtain ⟨l, q2⟩ := z
    simp only [Option.map_some, runes_cons c l hg]
theorem esc_good {q : Bytes} {n : Int} {r : Bytes} (h : escR q = some (n, r)) : ∃ c : Nat, n = (c : Int) ∧ Gr c := item_good ⟨_, _, (item_esc q).trans h⟩
end Go.Proofs.YtgaddifabjoliaaGreatDoor

namespace Go.Proofs.YtgaddifabjoliaaGreatDoor

/-! ### The least name that is left, again and again -/
theorem byName_length {α : Type} (ms : List (Named α)) : (byName ms).length = ms.length := (byName_perm ms).length_eq
theorem byName_up' {α : Type} (ms : List (Named α)) (ho : Once ms) : Up (byName ms) := up_of (byName_up ms) ((once_perm (byName_perm ms)).2 ho)
theorem up_lt {α : Type} {l : List (Named α)} (h : Up l) (i j : Nat) (hi : i < l.length) (hj : j < l.length) (hij : i < j) : ltB l[i].1 l[j].1 = true := (List.pairwise_iff_getElem.1 h) i j hi hj hij
theorem once_name {α : Type} {ms : List (Named α)} (ho : Once ms) {a b : Named α} (ha : a ∈ ms) (hb : b ∈ ms) (h : a.1 = b.1) : a = b := by
  obtain ⟨i, hi, rfl⟩ := List.mem_iff_getElem.1 ha
  obtain ⟨j, hj, rfl⟩ := List.mem_iff_getElem.1 hb
  have hnd := List.pairwise_iff_getElem.1 (show (ms.map Prod.fst).Pairwise (· ≠ ·) from ho)
  rcases Nat.lt_trichotomy i j with hij | hij | hij
  · exact absurd (by rw [List.getElem_map, List.getElem_map]; exact h) (hnd i j (by simpa using hi) (by simpa using hj) hij)
  · subst hij; rfl
  · exact absurd (by rw [List.getElem_map, List.getElem_map]; exact h.symm) (hnd j i (by simpa using hj) (by simpa using hi) hij)

/-- Those names that have not been written when n have. -/
def Left {α : Type} (ms : List (Named α)) (n : Nat) (x : Bytes) : Prop := n = 0 ∨ ∃ h : n - 1 < (byName ms).length, ltB ((byName ms)[n - 1]'h).1 x = true

theorem left_some {α : Type} (ms : List (Named α)) (ho : Once ms) (n : Nat) (hn : n < ms.length) : ∃ j, ∃ hj : j < ms.length, Left ms n ms[j].1 := by
  have hl := byName_length ms
  have hm : (byName ms)[n]'(by omega) ∈ ms := (byName_perm ms).mem_iff.1 (List.getElem_mem _)
  obtain ⟨j, hj, e⟩ := List.mem_iff_getElem.1 hm
  refine ⟨j, hj, ?_⟩
  rw [e]
  by_cases h0 : n = 0
  · exact Or.inl h0
  · exact Or.inr ⟨by omega, up_lt (byName_up' ms ho) (n - 1) n (by omega) (by omega) (by omega)⟩
theorem left_least {α : Type} (ms : List (Named α)) (ho : Once ms) (n : Nat) (hn : n < ms.length) (b : Nat) (hb : b < ms.length) (hc : Left ms n ms[b].1)
    (hmin : ∀ j (hj : j < ms.length), Left ms n ms[j].1 → ltB ms[j].1 ms[b].1 = false) : ms[b] = (byName ms)[n]'(by rw [byName_length]; exact hn) := by
  have hl := byName_length ms
  have hup := byName_up' ms ho
  have hm : (byName ms)[n]'(by omega) ∈ ms := (byName_perm ms).mem_iff.1 (List.getElem_mem _)
  obtain ⟨j, hj, e⟩ := List.mem_iff_getElem.1 hm
  have hleft : Left ms n ms[j].1 := by
    rw [e]
    by_cases h0 : n = 0
    · exact Or.inl h0
    · exact Or.inr ⟨by omega, up_lt hup (n - 1) n (by omega) (by omega) (by omega)⟩
  have h1 := hmin j hj hleft
  have hbm : ms[b] ∈ byName ms := (byName_perm ms).mem_iff.2 (List.getElem_mem _)
  obtain ⟨k, hk, ek⟩ := List.mem_iff_getElem.1 hbm
  have hkn : n ≤ k := by
    rcases Nat.lt_or_ge k n with h | h
    · exfalso
      rcases hc with h0 | ⟨hh, hlt⟩
      · omega
      · rw [← ek] at hlt
        by_cases e2 : k = n - 1
        · subst e2
          rw [ltB_irrefl] at hlt
          cases hlt
        · have := ltB_asymm (up_lt hup k (n - 1) hk hh (by omega))
          rw [this] at hlt
          cases hlt
    · exact h
  by_cases e2 : k = n
  · subst e2; exact ek.symm
  · exfalso
    have := up_lt hup n k (by omega) hk (by omega)
    rw [ek, ← e, h1] at this
    cases this
end Go.Proofs.YtgaddifabjoliaaGreatDoor

namespace Go.Proofs.YtgaddifabjoliaaGreatDoor

/-! ### Values, by what stands first -/
def elemsE {α : Type} (R : Bytes → Option (α × Bytes)) (b : UInt8) : Bytes → Option (List α × Bytes) := bothR R (untilF [b] (afterR [44] R)) (fun x xs => some (x :: xs))
/-- Behind one of them. -/
def moreE {α : Type} (R : Bytes → Option (α × Bytes)) (b : UInt8) (r : Bytes) : Option (List α × Bytes) := match r with
  | [] => none
  | c :: q => if c = 44 then elemsE R b q else if c = b then some ([], q) else none

theorem until_more_is {α : Type} (R : Bytes → Option (α × Bytes)) (hR : Shrinks R) (b : UInt8) (hb : b ≠ 44) (r : Bytes) : untilF [b] (afterR [44] R) r = moreE R b r := by
  have hst : Strict (afterR [44] R) := by
    intro s x q h
    cases s with
    | nil => cases h
    | cons c s =>
      by_cases h44 : (44 : UInt8) = c
      · subst h44
        rw [after_one] at h
        have := hR _ _ _ h
        rw [List.length_cons]
        omega
      · rw [after_none 44 R c s h44] at h
        cases h
  unfold untilF
  rw [until_eq _ _ hst]
  cases r with
  | nil => rfl
  | cons c q =>
    rw [prefix_one]
    unfold moreE
    simp only
    by_cases h44 : c = 44
    · subst h44
      rw [if_neg (by simpa using hb), if_pos rfl, after_one]
      unfold elemsE bothR
      cases R q with
      | none => rfl
      | some z =>
        obtain ⟨x, r2⟩ := z
        simp only
        unfold untilF
        cases untilR [b] (afterR [44] R) (r2.length + 1) r2 with
        | none => rfl
        | some z2 => rfl
    · rw [if_neg h44, after_none 44 R c q (fun e => h44 e.symm)]
      by_cases hcb : c = b
      · subst hcb
        rw [if_pos (by simp), if_pos rfl]
        rfl
      · rw [if_neg (by simpa using fun e => hcb e.symm), if_neg hcb]

theorem elems_is {α : Type} (R : Bytes → Option (α × Bytes)) (hR : Shrinks R) (b : UInt8) (hb : b ≠ 44) (s : Bytes) : elemsE R b s = match R s with
    | none => none
    | some (x, r) => (moreE R b r).map fun y => (x :: y.1, y.2) := by
  unfold elemsE bothR
  cases R s with
  | none => rfl
  | some z =>
    obtain ⟨x, r⟩ := z
    simp only
    rw [until_more_is R hR b hb]
    cases moreE R b r <;> rfl

/-- A value, where no blank stands first. -/
def bareR : (d : Nat) → Bytes → Option (JT d × Bytes)
  | 0 => simpleR
  | d + 1 => nodeR (valR d)
theorem val_is (d : Nat) (s : Bytes) : valR d s = (bareR d (skipB s)).map fun y => (y.1, skipB y.2) := by
  cases d with
  | zero =>
    show paddedR simpleR s = _
    unfold paddedR
    show _ = (simpleR (skipB s)).map _
    cases simpleR (skipB s) <;> rfl
  | succ d =>
    show paddedR (nodeR (valR d)) s = _
    unfold paddedR
    show _ = (nodeR (valR d) (skipB s)).map _
    cases nodeR (valR d) (skipB s) <;> rfl

/-- A leaf as a value. -/
def leafJ : (d : Nat) → Leaf → JT d
  | 0, x => x
  | _ + 1, x => .inl x
def arrJ (d : Nat) (xs : List (JT d)) : JT (d + 1) := .inr (.inl xs)
def objJ (d : Nat) (ms : List (Named (JT d))) : JT (d + 1) := .inr (.inr ms)

theorem array_not (c : UInt8) (q : Bytes) (d : Nat) (h : c ≠ 91) : arrayR (valR d) (c :: q) = none := by
  unfold arrayR changedR listR
  rw [after_none 91 _ c q h.symm]
theorem object_not (c : UInt8) (q : Bytes) (d : Nat) (h : c ≠ 123) : objectR (valR d) (c :: q) = none := by
  unfold objectR changedR listR
  rw [after_none 123 _ c q h.symm]
theorem bare_simple (d : Nat) (c : UInt8) (q : Bytes) (h91 : c ≠ 91) (h123 : c ≠ 123) : bareR d (c :: q) = (simpleR (c :: q)).map fun y => (leafJ d y.1, y.2) := by
  cases d with
  | zero =>
    show simpleR (c :: q) = _
    cases simpleR (c :: q) <;> rfl
  | succ d =>
    show nodeR (valR d) (c :: q) = _
    unfold nodeR
    simp only [oneOfR, mapR, array_not c q d h91, object_not c q d h123]
    cases simpleR (c :: q) <;> rfl
theorem bare_nil (d : Nat) : bareR d [] = none := by
  have hq : quotedR [] = none := rfl
  have hd : digitsR [] = none := needs_digits
  have hs : simpleR [] = none := by
    unfold simpleR
    simp [oneOfR, wordR, changedR, numberR, afterR, List.isPrefixOf, hq, hd]
  cases d with
  | zero => exact hs
  | succ d =>
    show nodeR (valR d) [] = none
    unfold nodeR
    simp [oneOfR, mapR, hs, arrayR, objectR, changedR, listR, afterR, List.isPrefixOf]
theorem bare_flat (c : UInt8) (q : Bytes) (h : c = 91 ∨ c = 123) : bareR 0 (c :: q) = none := simple_none c q h

theorem simple_quote (q : Bytes) : simpleR (34 :: q) = (textE q).map fun y => (Sum.inr (Sum.inr y.1), y.2) := by
  rw [simple_other 34 q ⟨by decide, by decide, by decide⟩]
  have hn : numberR (34 :: q) = none := by
    unfold numberR
    simp only [oneOfR, changedR, digits_none 34 q rfl, after_none 45 digitsR 34 q (by decide)]
  simp only [oneOfR, changedR, hn, quoted_is]
  cases textE q <;> rfl
theorem simple_number (c : UInt8) (q : Bytes) (h : isDig c = true ∨ c = 45) : simpleR (c :: q) = (numberR (c :: q)).map fun y => (Sum.inr (Sum.inl y.1), y.2) := by
  have hne : c ≠ 110 ∧ c ≠ 116 ∧ c ≠ 102 ∧ c ≠ 34 := by
    rcases h with h | rfl
    · refine ⟨?_, ?_, ?_, ?_⟩ <;> (rintro rfl; cases h)
    · decide
  rw [simple_other c q ⟨hne.1, hne.2.1, hne.2.2.1⟩]
  simp only [oneOfR, changedR, quoted_not c q hne.2.2.2]
  cases numberR (c :: q) <;> rfl
theorem simple_word (t : Bytes) (x : Option Bool) (ht : (t, x) ∈ [([110, 117, 108, 108], none), ([116, 114, 117, 101], some true), ([102, 97, 108, 115, 101], some false)]) (r : Bytes) : simpleR (t ++ r) = some (.inl x, r) := by
  simp only [List.mem_cons, List.not_mem_nil, or_false, Prod.mk.injEq] at ht
  rcases ht with ⟨rfl, rfl⟩ | ⟨rfl, rfl⟩ | ⟨rfl, rfl⟩ <;> simp [simpleR, oneOfR, wordR, List.isPrefixOf]
theorem simple_bad (c : UInt8) (q : Bytes) (h : isDig c = false) (h45 : c ≠ 45) (h34 : c ≠ 34) (hn : ([110, 117, 108, 108] : Bytes).isPrefixOf (c :: q) = false) (ht : ([116, 114, 117, 101] : Bytes).isPrefixOf (c :: q) = false) (hf : ([102, 97, 108, 115, 101] : Bytes).isPrefixOf (c :: q) = false) : simpleR (c :: q) = none := by
  have hnum : numberR (c :: q) = none := by
    unfold numberR
    simp only [oneOfR, changedR, digits_none c q h, after_none 45 digitsR c q h45.symm]
  unfold simpleR
  simp only [oneOfR, wordR, hn, ht, hf, changedR, hnum, quoted_not c q h34]
  rfl

/-- A list or an object behind its bracket. -/
theorem list_empty {α : Type} (R : Bytes → Option (α × Bytes)) (o c : UInt8) (q r : Bytes) (h : skipB q = c :: r) : listR [o] [c] R (o :: q) = some ([], skipB r) := by
  unfold listR
  rw [after_one]
  simp only [oneOfR, paddedR, wordR, h, prefix_one, beq_self_eq_true, if_true]
  rfl
theorem list_some {α : Type} (R : Bytes → Option (α × Bytes)) (o c : UInt8) (q : Bytes) (h : ∀ r, skipB q ≠ c :: r) : listR [o] [c] R (o :: q) = elemsE R c q := by
  unfold listR
  rw [after_one]
  have hp : ([c] : Bytes).isPrefixOf (skipB q) = false := by
    cases hs : skipB q with
    | nil => rfl
    | cons x r =>
      rw [prefix_one, beq_eq_false_iff_ne]
      intro e
      exact h r (by rw [hs, e])
  simp only [oneOfR, paddedR, wordR, hp]
  unfold elemsE
  cases bothR R (untilF [c] (afterR [44] R)) (fun x xs => some (x :: xs)) q <;> rfl
theorem node_list (d : Nat) (q : Bytes) : bareR (d + 1) (91 :: q) = (listR [91] [93] (valR d) (91 :: q)).map fun y => (arrJ d y.1, y.2) := by
  show nodeR (valR d) (91 :: q) = _
  unfold nodeR
  simp only [oneOfR, mapR, simple_none 91 q (Or.inl rfl), object_not 91 q d (by decide), Option.map_none]
  unfold arrayR changedR
  cases listR [91] [93] (valR d) (91 :: q) <;> rfl
theorem node_object (d : Nat) (q : Bytes) : bareR (d + 1) (123 :: q) = (listR [123] [125] (memberR quotedR (valR d)) (123 :: q)).bind fun y => if Once y.1 then some (objJ d (byName y.1), y.2) else none := by
  show nodeR (valR d) (123 :: q) = _
  unfold nodeR
  simp only [oneOfR, mapR, simple_none 123 q (Or.inr rfl), array_not 123 q d (by decide), Option.map_none]
  unfold objectR changedR
  cases listR [123] [125] (memberR quotedR (valR d)) (123 :: q) with
  | none => rfl
  | some y =>
    obtain ⟨ms, r⟩ := y
    rw [Option.bind_some]
    simp only
    unfold objF
    by_cases ho : Once ms
    · rw [if_pos ho, if_pos ho]
      rfl
    · rw [if_neg ho, if_neg ho]
      rfl

theorem member_no {α : Type} (R : Bytes → Option (α × Bytes)) (s : Bytes) (h : ∀ q, skipB s ≠ 34 :: q) : memberR quotedR R s = none := by
  unfold memberR bothR paddedR
  cases hs : skipB s with
  | nil => rfl
  | cons c q => rw [quoted_not c q (fun e => h q (by rw [hs, e]))]
theorem member_text {α : Type} (R : Bytes → Option (α × Bytes)) (s q : Bytes) (h : skipB s = 34 :: q) (ht : textE q = none) : memberR quotedR R s = none := by
  unfold memberR bothR paddedR
  rw [h, quoted_is, ht]
theorem member_colon {α : Type} (R : Bytes → Option (α × Bytes)) (s q t r : Bytes) (h : skipB s = 34 :: q) (ht : textE q = some (t, r)) (hc : ∀ r2, skipB r ≠ 58 :: r2) : memberR quotedR R s = none := by
  unfold memberR bothR paddedR
  rw [h, quoted_is, ht]
  simp only
  cases hs : skipB r with
  | nil => rfl
  | cons c r2 => rw [after_none 58 R c r2 (fun e => hc r2 (by rw [hs, ← e]))]
theorem member_some {α : Type} (R : Bytes → Option (α × Bytes)) (s q t r r2 : Bytes) (h : skipB s = 34 :: q) (ht : textE q = some (t, r)) (hc : skipB r = 58 :: r2) : memberR quotedR R s = (R r2).map fun z => ((t, z.1), z.2) := by
  unfold memberR bothR paddedR
  rw [h, quoted_is, ht]
  simp only
  rw [hc, after_one]
  cases R r2 <;> rfl
end Go.Proofs.YtgaddifabjoliaaGreatDoor

namespace Go.Proofs.YtgaddifabjoliaaGreatDoor

/-! ### The search for the least name that is left -/
def LastIs {α : Type} (ms : List (Named α)) (n : Nat) (last : Int) : Prop := (n = 0 ∧ last = -1) ∨ ∃ (j : Nat) (hj : j < ms.length), last = (j : Int) ∧ ∃ h : n - 1 < (byName ms).length, 0 < n ∧ ms[j] = (byName ms)[n - 1]
def BestIs {α : Type} (ms : List (Named α)) (n i : Nat) (best : Int) : Prop := (best = -1 ∧ ∀ j (hj : j < ms.length), j < i → ¬ Left ms n ms[j].1) ∨ ∃ (b : Nat) (hb : b < ms.length), best = (b : Int) ∧ b < i ∧ Left ms n ms[b].1 ∧ ∀ j (hj : j < ms.length), j < i → Left ms n ms[j].1 → ltB ms[j].1 ms[b].1 = false
theorem best_start {α : Type} (ms : List (Named α)) (n : Nat) : BestIs ms n 0 (-1) := Or.inl ⟨rfl, fun j _ h => by omega⟩
theorem best_skip {α : Type} {ms : List (Named α)} {n i : Nat} {best : Int} (h : BestIs ms n i best) (hi : i < ms.length) (hl : ¬ Left ms n ms[i].1) : BestIs ms n (i + 1) best := by
  rcases h with ⟨h1, h2⟩ | ⟨b, hb, h1, h2, h3, h4⟩
  · refine Or.inl ⟨h1, fun j hj hji => ?_⟩
    by_cases e : j = i
    · subst e; exact hl
    · exact h2 j hj (by omega)
  · refine Or.inr ⟨b, hb, h1, by omega, h3, fun j hj hji hjl => ?_⟩
    by_cases e : j = i
    · subst e; exact absurd hjl hl
    · exact h4 j hj (by omega) hjl
theorem best_first {α : Type} {ms : List (Named α)} {n i : Nat} (h : BestIs ms n i (-1)) (hi : i < ms.length) (hl : Left ms n ms[i].1) : BestIs ms n (i + 1) (i : Int) := by
  rcases h with ⟨_, h2⟩ | ⟨b, hb, h1, _⟩
  · refine Or.inr ⟨i, hi, rfl, by omega, hl, fun j hj hji hjl => ?_⟩
    by_cases e : j = i
    · subst e; exact ltB_irrefl _
    · exact absurd hjl (h2 j hj (by omega))
  · omega
theorem best_less {α : Type} {ms : List (Named α)} {n i b : Nat} (hb : b < ms.length) (h : BestIs ms n i (b : Int)) (hi : i < ms.length) (hl : Left ms n ms[i].1) (hlt : ltB ms[i].1 ms[b].1 = true) : BestIs ms n (i + 1) (i : Int) := by
  rcases h with ⟨h1, _⟩ | ⟨b', hb', h1, h2, h3, h4⟩
  · omega
  · obtain rfl : b = b' := by omega
    refine Or.inr ⟨i, hi, rfl, by omega, hl, fun j hj hji hjl => ?_⟩
    by_cases e : j = i
    · subst e; exact ltB_irrefl _
    · cases hc : ltB ms[j].1 ms[i].1 with
      | false => rfl
      | true =>
        have := ltB_trans hc hlt
        rw [h4 j hj (by omega) hjl] at this
        cases this
theorem best_keep {α : Type} {ms : List (Named α)} {n i b : Nat} (hb : b < ms.length) (h : BestIs ms n i (b : Int)) (hi : i < ms.length) (hlt : ltB ms[i].1 ms[b].1 = false) : BestIs ms n (i + 1) (b : Int) := by
  rcases h with ⟨h1, _⟩ | ⟨b', hb', h1, h2, h3, h4⟩
  · omega
  · obtain rfl : b = b' := by omega
    refine Or.inr ⟨b, hb, rfl, by omega, h3, fun j hj hji hjl => ?_⟩
    by_cases e : j = i
    · subst e; exact hlt
    · exact h4 j hj (by omega) hjl
theorem best_end {α : Type} {ms : List (Named α)} {n i : Nat} {best : Int} (ho : Once ms) (hn : n < ms.length) (h : BestIs ms n i best) (hi : ms.length ≤ i) : ∃ (b : Nat) (hb : b < ms.length), best = (b : Int) ∧ ∃ h : n < (byName ms).length, ms[b] = (byName ms)[n] := by
  rcases h with ⟨_, h2⟩ | ⟨b, hb, h1, h2, h3, h4⟩
  · obtain ⟨j, hj, hl⟩ := left_some ms ho n hn
    exact absurd hl (h2 j hj (by omega))
  · exact ⟨b, hb, h1, by rw [byName_length]; exact hn, left_least ms ho n hn b hb h3 (fun j hj hl => h4 j hj (by omega) hl)⟩
theorem left_first {α : Type} (ms : List (Named α)) (x : Bytes) : Left ms 0 x := Or.inl rfl
theorem left_last {α : Type} {ms : List (Named α)} {n j : Nat} (hj : j < ms.length) (h : n - 1 < (byName ms).length) (h0 : 0 < n) (e : ms[j] = (byName ms)[n - 1]) (x : Bytes) : Left ms n x ↔ ltB ms[j].1 x = true := by
  rw [e]
  constructor
  · rintro (h1 | ⟨_, h1⟩)
    · omega
    · exact h1
  · exact fun h1 => Or.inr ⟨h, h1⟩
end Go.Proofs.YtgaddifabjoliaaGreatDoor
