import Derived.Test.YtgaddifabjoliaaGreatDoorWrite
import Derived.Lib.ItoaMem
namespace Go.Proofs.YtgaddifabjoliaaGreatDoor

/-! ### What is written is read back -/

/-- What may stand behind a value: nothing, or one of the signs ',' ']' '}' ':'. -/
def Stop (r : Bytes) : Prop := r = [] ∨ ∃ c q, r = c :: q ∧ (c = 44 ∨ c = 93 ∨ c = 125 ∨ c = 58)
theorem stop_nil : Stop [] := Or.inl rfl
theorem stop_cons {c : UInt8} {q : Bytes} (h : c = 44 ∨ c = 93 ∨ c = 125 ∨ c = 58) : Stop (c :: q) := Or.inr ⟨c, q, rfl, h⟩
theorem skip_cons {c : UInt8} {q : Bytes} (h : isBlank c = false) : skipB (c :: q) = c :: q := by
  unfold skipB
  rw [List.dropWhile_cons, h]
  rfl
theorem Stop.skip {r : Bytes} (h : Stop r) : skipB r = r := by
  rcases h with rfl | ⟨c, q, rfl, h⟩
  · rfl
  · refine skip_cons ?_
    rcases h with rfl | rfl | rfl | rfl <;> rfl

/-- A value's first byte: no blank, and no sign that shuts. -/
def Begins (b : Bytes) : Prop := ∃ c q, b = c :: q ∧ isBlank c = false ∧ c ≠ 93 ∧ c ≠ 125
theorem Begins.skip {b r : Bytes} (h : Begins b) : skipB (b ++ r) = b ++ r := by
  obtain ⟨c, q, rfl, h1, _⟩ := h
  exact skip_cons h1

def Back {α : Type} (R : Bytes → Option (α × Bytes)) (f : α → Bytes) (P : α → Prop) : Prop := ∀ x, P x → ∀ r, Stop r → R (f x ++ r) = some (x, r)

theorem back_padded {α : Type} {R : Bytes → Option (α × Bytes)} {f : α → Bytes} {P : α → Prop} (h : Back R f P) (hb : ∀ x, P x → Begins (f x)) : Back (paddedR R) f P := by
  intro x hx r hr
  unfold paddedR
  rw [(hb x hx).skip, h x hx r hr]
  simp only [hr.skip]

theorem prefix_one (c d : UInt8) (q : Bytes) : ([c] : Bytes).isPrefixOf (d :: q) = (c == d) := by simp [List.isPrefixOf]

theorem after_one {α : Type} (a : UInt8) (R : Bytes → Option (α × Bytes)) (s : Bytes) : afterR [a] R (a :: s) = R s := by
  unfold afterR
  rw [prefix_one, if_pos (by simp)]
  rfl

theorem until_back {α : Type} {R : Bytes → Option (α × Bytes)} {f : α → Bytes} {P : α → Prop} (h : Back R f P) (b : UInt8) (hb : b = 93 ∨ b = 125) : ∀ (l : List α) (n : Nat) (r : Bytes), (∀ x ∈ l, P x) → l.length < n → untilR [b] (afterR [44] R) n (l.flatMap (fun y => [44] ++ f y) ++ ([b] ++ r)) = some (l, r)
  | [], 0, _, _, hn => by simp at hn
  | [], n + 1, r, _, _ => by simp [untilR]
  | y :: l, 0, _, _, hn => by simp at hn
  | y :: l, n + 1, r, hp, hn => by
    have ih := until_back h b hb l n r (fun x hx => hp x (by simp [hx])) (by simpa using hn)
    have hst : Stop (l.flatMap (fun y => [44] ++ f y) ++ ([b] ++ r)) := by
      cases l with
      | nil => exact stop_cons (by rcases hb with rfl | rfl <;> simp)
      | cons z l => exact stop_cons (Or.inl rfl)
    have hy := h y (hp y (by simp)) _ hst
    have e : (y :: l).flatMap (fun y => [44] ++ f y) ++ ([b] ++ r) = 44 :: (f y ++ (l.flatMap (fun y => [44] ++ f y) ++ ([b] ++ r))) := by simp
    rw [e, untilR, prefix_one, if_neg (by rcases hb with rfl | rfl <;> decide)]
    have e2 : afterR [44] R (44 :: (f y ++ (l.flatMap (fun y => [44] ++ f y) ++ ([b] ++ r)))) = some (y, l.flatMap (fun y => [44] ++ f y) ++ ([b] ++ r)) := by
      unfold afterR
      rw [prefix_one, if_pos (by decide)]
      exact hy
    rw [e2]
    simp only [ih]

def bracketF {α : Type} (a b : UInt8) (f : α → Bytes) (xs : List α) : Bytes := [a] ++ sep (xs.map f) ++ [b]
theorem list_is {α : Type} (f : α → Bytes) (xs : List α) : listF f xs = bracketF 91 93 f xs := rfl
theorem object_is {α : Type} (f : α → Bytes) (xs : List (Named α)) : objectF f xs = bracketF 123 125 (pairF f) xs := rfl

theorem flat_long {α : Type} (f : α → Bytes) : ∀ l : List α, l.length ≤ (l.flatMap (fun y => [44] ++ f y)).length
  | [] => by simp
  | y :: l => by
    have := flat_long f l
    simp only [List.flatMap_cons, List.length_append, List.length_cons, List.length_nil]
    omega

theorem back_bracket {α : Type} {R : Bytes → Option (α × Bytes)} {f : α → Bytes} {P : α → Prop} (h : Back R f P) (hb : ∀ x, P x → Begins (f x)) (a b : UInt8) (hbb : b = 93 ∨ b = 125) : Back (listR [a] [b] R) (bracketF a b f) (fun xs => ∀ x ∈ xs, P x) := by
  intro xs hx r hr
  unfold listR bracketF
  have e : [a] ++ sep (xs.map f) ++ [b] ++ r = a :: (sep (xs.map f) ++ ([b] ++ r)) := by simp
  rw [e, after_one]
  cases xs with
  | nil =>
    have hnb : isBlank b = false := by rcases hbb with rfl | rfl <;> rfl
    simp only [List.map_nil, sep, List.nil_append, oneOfR, paddedR, List.singleton_append, skip_cons hnb, wordR, prefix_one]
    simp [hr.skip]
  | cons x l =>
    obtain ⟨c, q, hc, hnb, h93, h125⟩ := hb x (hx x (by simp))
    have hst : Stop (l.flatMap (fun y => [44] ++ f y) ++ ([b] ++ r)) := by
      cases l with
      | nil => exact stop_cons (by rcases hbb with rfl | rfl <;> simp)
      | cons z l => exact stop_cons (Or.inl rfl)
    have e1 : sep ((x :: l).map f) ++ ([b] ++ r) = f x ++ (l.flatMap (fun y => [44] ++ f y) ++ ([b] ++ r)) := by
      simp [sep, List.flatMap_map]
    rw [e1]
    have h1 : paddedR (wordR [b] ([] : List α)) (f x ++ (l.flatMap (fun y => [44] ++ f y) ++ ([b] ++ r))) = none := by
      unfold paddedR
      rw [hc, List.cons_append, skip_cons hnb]
      unfold wordR
      rw [prefix_one, if_neg (by simp only [beq_iff_eq]; rcases hbb with rfl | rfl <;> intro e <;> simp_all)]
    have h2 := h x (hx x (by simp)) _ hst
    have h3 := until_back h b hbb l ((l.flatMap (fun y => [44] ++ f y) ++ ([b] ++ r)).length + 1) r (fun y hy => hx y (by simp [hy])) (by
      have := flat_long f l
      simp only [List.length_append]
      omega)
    simp only [oneOfR, h1, bothR, h2, untilF, h3]

theorem back_member {α : Type} {N : Bytes → Option (Bytes × Bytes)} {R : Bytes → Option (α × Bytes)} {f : α → Bytes} {P : α → Prop} {PT : Bytes → Prop} (hN : Back N textF PT) (h : Back R f P) : Back (memberR N R) (pairF f) (fun m => PT m.1 ∧ P m.2) := by
  rintro ⟨t, x⟩ ⟨ht, hx⟩ r hr
  have e : pairF f (t, x) ++ r = textF t ++ (58 :: (f x ++ r)) := by simp [pairF]
  have h1 := back_padded hN (fun t _ => ⟨34, t.flatMap byteF ++ [34], by simp [textF], rfl, by decide, by decide⟩) t ht (58 :: (f x ++ r)) (stop_cons (by simp))
  rw [e]
  unfold memberR bothR
  rw [h1]
  have h2 : afterR [58] R (58 :: (f x ++ r)) = some (x, r) := by
    unfold afterR
    rw [prefix_one, if_pos (by decide)]
    exact h x hx r hr
  simp only [h2]

/-- What reads as it was written: leaves that do, lists of such, members whose names do, in order. -/
def goodN {α : Type} (PL : Leaf → Prop) (PT : Bytes → Prop) (P : α → Prop) : Node α → Prop
  | .inl x => PL x
  | .inr (.inl xs) => ∀ x ∈ xs, P x
  | .inr (.inr ms) => objF ms = some (.inr (.inr ms)) ∧ ∀ m ∈ ms, PT m.1 ∧ P m.2
def goodV (PL : Leaf → Prop) (PT : Bytes → Prop) : (d : Nat) → JT d → Prop
  | 0 => PL
  | d + 1 => goodN PL PT (goodV PL PT d)

theorem digits_none (c : UInt8) (q : Bytes) (h : isDig c = false) : digitsR (c :: q) = none := by
  have e : digN (c :: q) = 0 := by unfold digN; rw [List.takeWhile_cons, h]; rfl
  unfold digitsR
  rw [e]
  simp [intOk, Lib.parseIntB]

theorem simple_none (c : UInt8) (q : Bytes) (h : c = 91 ∨ c = 123) : simpleR (c :: q) = none := by
  have hd : digitsR (c :: q) = none := digits_none c q (by rcases h with rfl | rfl <;> rfl)
  have ha : ∀ {α : Type} (R : Bytes → Option (α × Bytes)) (d : UInt8), d ≠ 91 → d ≠ 123 → afterR [d] R (c :: q) = none := fun R d h1 h2 => by
    unfold afterR
    rw [prefix_one, if_neg (by simp only [beq_iff_eq]; rcases h with rfl | rfl <;> assumption)]
  have hw : ∀ {α : Type} (d : UInt8) (t : Bytes) (x : α), d ≠ 91 → d ≠ 123 → wordR (d :: t) x (c :: q) = none := fun d t x h1 h2 => by
    unfold wordR
    have : (d :: t).isPrefixOf (c :: q) = false := by
      simp only [List.isPrefixOf]
      rw [show (d == c) = false by rcases h with rfl | rfl <;> simpa using by assumption]
      rfl
    rw [this]
    rfl
  have hn : numberR (c :: q) = none := by
    unfold numberR
    simp only [oneOfR, hd, changedR, ha digitsR 45 (by decide) (by decide)]
  have hq : quotedR (c :: q) = none := by
    unfold quotedR
    simp only [changedR, ha (untilF [34] itemR) 34 (by decide) (by decide)]
  unfold simpleR
  simp only [oneOfR, hw 110 _ _ (by decide) (by decide), hw 116 _ _ (by decide) (by decide), hw 102 _ _ (by decide) (by decide), changedR, hn, hq]

theorem val_back {PL : Leaf → Prop} {PT : Bytes → Prop} (hleaf : Back simpleR leafF PL) (hbeg : ∀ x, PL x → Begins (leafF x)) (htext : Back quotedR textF PT) :
    ∀ d, Back (valR d) (formF d) (goodV PL PT d) ∧ ∀ x, goodV PL PT d x → Begins (formF d x)
  | 0 => ⟨back_padded hleaf hbeg, hbeg⟩
  | d + 1 => by
    obtain ⟨ih, ihb⟩ := val_back hleaf hbeg htext d
    have hB : ∀ x : Node (JT d), goodN PL PT (goodV PL PT d) x → Begins (nodeF (formF d) x) := by
      intro x hx
      match x, hx with
      | .inl x, hx => exact hbeg x hx
      | .inr (.inl xs), _ => exact ⟨91, _, rfl, rfl, by decide, by decide⟩
      | .inr (.inr ms), _ => exact ⟨123, _, rfl, rfl, by decide, by decide⟩
    have hN : Back (nodeR (valR d)) (nodeF (formF d)) (goodN PL PT (goodV PL PT d)) := by
      intro x hx r hr
      match x, hx with
      | .inl x, hx =>
        have := hleaf x hx r hr
        simp only [nodeR, oneOfR, mapR, nodeF, this, Option.map_some]
      | .inr (.inl xs), hx =>
        have h1 := back_bracket ih ihb 91 93 (Or.inl rfl) xs hx r hr
        have h0 : simpleR (bracketF 91 93 (formF d) xs ++ r) = none := simple_none 91 _ (Or.inl rfl)
        simp only [nodeR, oneOfR, mapR, nodeF, list_is, h0, Option.map_none, arrayR, changedR, h1]
      | .inr (.inr ms), hx =>
        have hm := back_member htext ih
        have hmb : ∀ m : Named (JT d), (PT m.1 ∧ goodV PL PT d m.2) → Begins (pairF (formF d) m) := fun m _ => ⟨34, _, rfl, rfl, by decide, by decide⟩
        have h1 := back_bracket hm hmb 123 125 (Or.inr rfl) ms hx.2 r hr
        have h0 : simpleR (bracketF 123 125 (pairF (formF d)) ms ++ r) = none := simple_none 123 _ (Or.inr rfl)
        have h2 : listR [91] [93] (valR d) (bracketF 123 125 (pairF (formF d)) ms ++ r) = none := by
          unfold listR afterR bracketF
          rw [List.append_assoc, List.append_assoc, List.singleton_append, prefix_one, if_neg (by decide)]
        simp only [nodeR, oneOfR, mapR, nodeF, object_is, h0, Option.map_none, arrayR, changedR, h2, objectR, h1, hx.1]
    exact ⟨back_padded hN hB, hB⟩

theorem read_back {PL : Leaf → Prop} {PT : Bytes → Prop} (hleaf : Back simpleR leafF PL) (hbeg : ∀ x, PL x → Begins (leafF x)) (htext : Back quotedR textF PT) (x : JT 8) (hx : goodV PL PT 8 x) : readF (formF 8 x) = some x := by
  have h := (val_back hleaf hbeg htext 8).1 x hx [] stop_nil
  rw [List.append_nil] at h
  unfold readF
  rw [h]
end Go.Proofs.YtgaddifabjoliaaGreatDoor

namespace Go.Proofs.YtgaddifabjoliaaGreatDoor

theorem dig_of (d : Nat) (h : d < 10) : isDig (UInt8.ofNat (48 + d)) = true ∧ (UInt8.ofNat (48 + d)).toNat = 48 + d := by
  have e : (UInt8.ofNat (48 + d)).toNat = 48 + d := by rw [UInt8.toNat_ofNat']; omega
  refine ⟨?_, e⟩
  unfold isDig
  rw [e]
  simp
  omega

theorem dd_all (u : Nat) : ∀ c ∈ Lib.decDigits u, isDig c = true := by
  induction u using Nat.strongRecOn with
  | _ u ih =>
    intro c hc
    rw [Lib.decDigits] at hc
    split at hc
    · rename_i h
      simp only [List.mem_singleton] at hc
      rw [hc]; exact (dig_of u h).1
    · rename_i h
      rcases List.mem_append.1 hc with hc | hc
      · exact ih (u / 10) (by omega) c hc
      · simp only [List.mem_singleton] at hc
        rw [hc]; exact (dig_of (u % 10) (by omega)).1

theorem dd_ne (u : Nat) : Lib.decDigits u ≠ [] := by
  rw [Lib.decDigits]
  split <;> simp

theorem dd_head (u : Nat) : 1 ≤ u → (Lib.decDigits u)[0]? ≠ some 48 := by
  induction u using Nat.strongRecOn with
  | _ u ih =>
    intro hu
    rw [Lib.decDigits]
    split
    · rename_i h
      simp only [List.getElem?_cons_zero, ne_eq, Option.some.injEq]
      intro e
      have := congrArg UInt8.toNat e
      rw [(dig_of u h).2] at this
      simp at this
      omega
    · rename_i h
      have hne := dd_ne (u / 10)
      have hl : 0 < (Lib.decDigits (u / 10)).length := List.length_pos_iff.2 hne
      rw [List.getElem?_append_left hl]
      exact ih (u / 10) (by omega) (by omega)

theorem dd_one (u : Nat) (h : 1 < (Lib.decDigits u).length) : 1 ≤ u := by
  rcases Nat.lt_or_ge u 10 with hu | hu
  · rw [Lib.decDigits_one hu] at h
    simp at h
  · omega

theorem pu_append (M : Nat) (c : UInt8) : ∀ (l : Bytes) (acc a : Nat), Lib.parseUintM M acc l = .ok a → Lib.parseUintM M acc (l ++ [c]) = Lib.parseUintM M a [c]
  | [], acc, a, h => by
    simp only [Lib.parseUintM] at h
    cases h
    rfl
  | b :: l, acc, a, h => by
    rw [Lib.parseUintM] at h
    split at h
    · rename_i hd
      split at h
      · cases h
      · rename_i h1
        split at h
        · cases h
        · rename_i h2
          rw [List.cons_append, Lib.parseUintM, if_pos hd, if_neg h1, if_neg h2]
          exact pu_append M c l _ a h
    · cases h

theorem pu_dd (u : Nat) : u < 1152921504606846976 → Lib.parseUintM (2 ^ 64 - 1) 0 (Lib.decDigits u) = .ok u := by
  induction u using Nat.strongRecOn with
  | _ u ih =>
    intro hu
    rw [Lib.decDigits]
    split
    · rename_i h
      have hd := (dig_of u h).2
      simp only [Lib.parseUintM]
      rw [hd, if_pos (by omega), if_neg (by omega), if_neg (by omega)]
      congr 1
      omega
    · rename_i h
      have hd := (dig_of (u % 10) (by omega)).2
      rw [pu_append _ _ _ 0 (u / 10) (ih (u / 10) (by omega) (by omega))]
      simp only [Lib.parseUintM]
      rw [hd, if_pos (by omega), if_neg (by omega), if_neg (by omega)]
      congr 1
      omega

theorem intOk_dd (u : Nat) (hu : u < 1152921504606846976) : intOk (Lib.decDigits u) = some (u : Int) := by
  have hp := pu_dd u hu
  cases hl : Lib.decDigits u with
  | nil => exact absurd hl (dd_ne u)
  | cons c l =>
    have hc : isDig c = true := dd_all u c (by rw [hl]; simp)
    unfold isDig at hc
    simp only [Bool.and_eq_true, decide_eq_true_eq] at hc
    have e : Lib.parseUintB 64 (c :: l) = .ok u := by
      unfold Lib.parseUintB
      rw [if_neg (by simp), ← hl]
      exact hp
    have h43 : (if c.toNat = 43 ∨ c.toNat = 45 then l else c :: l) = c :: l := if_neg (by omega)
    unfold intOk Lib.parseIntB
    simp only [h43, e]
    rw [if_neg (by omega), if_neg (by omega), if_neg (by omega)]

theorem take_dig (l r : Bytes) (hl : ∀ c ∈ l, isDig c = true) (hr : Stop r) : digN (l ++ r) = l.length := by
  unfold digN
  induction l with
  | nil =>
    rcases hr with rfl | ⟨c, q, rfl, h⟩
    · rfl
    · rw [List.nil_append, List.takeWhile_cons, show isDig c = false by rcases h with rfl | rfl | rfl | rfl <;> rfl]
      rfl
  | cons c l ih =>
    rw [List.cons_append, List.takeWhile_cons, hl c (by simp), if_pos rfl, List.length_cons, ih (fun d hd => hl d (by simp [hd])), List.length_cons]

theorem digits_back (u : Nat) (hu : u < 9007199254740992) (r : Bytes) (hr : Stop r) : digitsR (Lib.decDigits u ++ r) = some ((u : Int), r) := by
  have hn := take_dig (Lib.decDigits u) r (dd_all u) hr
  have hl : 0 < (Lib.decDigits u).length := List.length_pos_iff.2 (dd_ne u)
  unfold digitsR
  rw [hn, if_neg (by
    rintro ⟨h1, h2⟩
    rw [List.getElem?_append_left hl] at h2
    exact dd_head u (dd_one u h1) h2), List.take_left' rfl, intOk_dd u (by omega)]
  simp only
  rw [if_neg (by omega), List.drop_left' rfl]

theorem number_back (n : Int) (h0 : -9007199254740992 < n) (h1 : n < 9007199254740992) (r : Bytes) (hr : Stop r) : numberR (Lib.itoa n ++ r) = some (n, r) := by
  unfold numberR
  by_cases hn : 0 ≤ n
  · obtain ⟨u, rfl⟩ := Int.eq_ofNat_of_zero_le hn
    rw [Lib.itoa_nonneg]
    simp only [oneOfR, digits_back u (by omega) r hr]
  · obtain ⟨u, rfl⟩ : ∃ u : Nat, n = -(u : Int) := ⟨n.natAbs, by omega⟩
    rw [Lib.itoa_neg u (by omega), List.cons_append]
    have hd : digitsR (45 :: (Lib.decDigits u ++ r)) = none := digits_none 45 _ rfl
    simp only [oneOfR, hd, changedR, after_one, digits_back u (by omega) r hr, negR]
    rw [if_neg (by omega)]

theorem itoa_begins (n : Int) : Begins (Lib.itoa n) := by
  by_cases hn : 0 ≤ n
  · obtain ⟨u, rfl⟩ := Int.eq_ofNat_of_zero_le hn
    rw [Lib.itoa_nonneg]
    cases hl : Lib.decDigits u with
    | nil => exact absurd hl (dd_ne u)
    | cons c l =>
      have hc : isDig c = true := dd_all u c (by rw [hl]; simp)
      refine ⟨c, l, rfl, ?_, ?_, ?_⟩
      · unfold isDig at hc
        simp only [Bool.and_eq_true, decide_eq_true_eq] at hc
        unfold isBlank
        have hb : ∀ d : UInt8, d.toNat < 48 → (c == d) = false := fun d hd => by
          rw [beq_eq_false_iff_ne]
          intro e
          rw [e] at hc
          omega
        simp [hb 32 (by decide), hb 9 (by decide), hb 10 (by decide), hb 13 (by decide)]
      · rintro rfl; cases hc
      · rintro rfl; cases hc
  · obtain ⟨u, rfl⟩ : ∃ u : Nat, n = -(u : Int) := ⟨n.natAbs, by omega⟩
    rw [Lib.itoa_neg u (by omega)]
    exact ⟨45, _, rfl, rfl, by decide, by decide⟩
end Go.Proofs.YtgaddifabjoliaaGreatDoor

namespace Go.Proofs.YtgaddifabjoliaaGreatDoor

/-- A number that stands for a letter. -/
def Gr (c : Nat) : Prop := (c < 55296 ∨ 57343 < c) ∧ c ≤ 1114111
def encL (c : Nat) : Bytes :=
  if c < 128 then [UInt8.ofNat c]
  else if c < 2048 then [UInt8.ofNat (192 + c / 64), UInt8.ofNat (128 + c % 64)]
  else if c < 65536 then [UInt8.ofNat (224 + c / 4096), UInt8.ofNat (128 + c / 64 % 64), UInt8.ofNat (128 + c % 64)]
  else [UInt8.ofNat (240 + c / 262144), UInt8.ofNat (128 + c / 4096 % 64), UInt8.ofNat (128 + c / 64 % 64), UInt8.ofNat (128 + c % 64)]

theorem valid_gr (c : Nat) (h : Gr c) : Utf8.valid (c : Int) = true := by
  obtain ⟨h1, h2⟩ := h
  simp [Utf8.valid]
  omega
theorem enc_gr (c : Nat) (h : Gr c) : (Utf8.encode (c : Int)).data.toList = encL c := by
  unfold Utf8.encode encL
  simp only [valid_gr c h, if_true, Int.toNat_natCast]
  split
  · rfl
  · split
    · rfl
    · split <;> rfl

theorem runes_fold : ∀ (l : List Int) (b : ByteArray), (l.foldl (fun r n => r ++ Utf8.encode n) b).data.toList = b.data.toList ++ l.flatMap (fun n => (Utf8.encode n).data.toList)
  | [], b => by simp
  | z :: l, b => by
    rw [List.foldl_cons, runes_fold l, ByteArray.data_append, Array.toList_append, List.flatMap_cons, List.append_assoc]
theorem runesF_eq (l : List Int) : runesF l = l.flatMap (fun n => (Utf8.encode n).data.toList) := by
  unfold runesF runesBytes
  rw [runes_fold]
  rfl

theorem get_list (l : Bytes) (i : Nat) : (⟨l.toArray⟩ : ByteArray).get! i = l.getD i 0 := by
  show (l.toArray)[i]! = _
  rw [List.getD_eq_getElem?_getD, getElem!_def, List.getElem?_toArray]
  cases l[i]? <;> rfl

theorem decL_cons (b : UInt8) (q : Bytes) : decL (b :: q) = Lib.decodeN (q.length + 1) b.toNat (q.getD 0 0).toNat (q.getD 1 0).toNat (q.getD 2 0).toNat := by
  have e : (⟨(b :: q).toArray⟩ : ByteArray).size = q.length + 1 := by show (b :: q).toArray.size = _; simp
  unfold decL Lib.decodeGo
  rw [if_neg (by omega), Lib.decode_at, e, get_list, get_list, get_list, get_list]
  rfl

theorem of8 (n : Nat) (h : n < 256) : (UInt8.ofNat n).toNat = n := by rw [UInt8.toNat_ofNat']; exact Nat.mod_eq_of_lt h

theorem dec_enc (c : Nat) (h : Gr c) (q : Bytes) : decL (encL c ++ q) = (c, (encL c).length) := by
  obtain ⟨h1, h2⟩ := h
  unfold encL
  by_cases a1 : c < 128
  · rw [if_pos a1, List.singleton_append, decL_cons, of8 c (by omega)]
    unfold Lib.decodeN
    rw [if_pos a1]
    rfl
  · by_cases a2 : c < 2048
    · rw [if_neg a1, if_pos a2]
      simp only [List.cons_append, List.nil_append, decL_cons, List.length_cons, List.getD_cons_zero, List.getD_cons_succ]
      rw [of8 (192 + c / 64) (by omega), of8 (128 + c % 64) (by omega)]
      unfold Lib.decodeN
      rw [if_neg (by omega), if_pos (by omega), if_pos (by omega)]
      have : (192 + c / 64) % 32 * 64 + (128 + c % 64) % 64 = c := by omega
      rw [this]
      rfl
    · by_cases a3 : c < 65536
      · rw [if_neg a1, if_neg a2, if_pos a3]
        simp only [List.cons_append, List.nil_append, decL_cons, List.length_cons, List.getD_cons_zero, List.getD_cons_succ]
        rw [of8 (224 + c / 4096) (by omega), of8 (128 + c / 64 % 64) (by omega), of8 (128 + c % 64) (by omega)]
        have e : (224 + c / 4096) % 16 * 4096 + (128 + c / 64 % 64) % 64 * 64 + (128 + c % 64) % 64 = c := by omega
        unfold Lib.decodeN
        rw [if_neg (by omega), if_neg (by omega), if_pos (by omega), e, if_pos (by omega)]
        rfl
      · rw [if_neg a1, if_neg a2, if_neg a3]
        simp only [List.cons_append, List.nil_append, decL_cons, List.length_cons, List.getD_cons_zero, List.getD_cons_succ]
        rw [of8 (240 + c / 262144) (by omega), of8 (128 + c / 4096 % 64) (by omega), of8 (128 + c / 64 % 64) (by omega), of8 (128 + c % 64) (by omega)]
        have e : (240 + c / 262144) % 8 * 262144 + (128 + c / 4096 % 64) % 64 * 4096 + (128 + c / 64 % 64) % 64 * 64 + (128 + c % 64) % 64 = c := by omega
        unfold Lib.decodeN
        rw [if_neg (by omega), if_neg (by omega), if_neg (by omega), if_pos (by omega), e, if_pos (by omega)]
        rfl

theorem enc_high (c : Nat) (h : Gr c) (h128 : ¬ c < 128) : ∀ b ∈ encL c, 128 ≤ b.toNat := by
  obtain ⟨h1, h2⟩ := h
  unfold encL
  rw [if_neg h128]
  by_cases a2 : c < 2048
  · rw [if_pos a2]
    intro b hb
    simp only [List.mem_cons, List.not_mem_nil, or_false] at hb
    rcases hb with rfl | rfl <;> rw [of8 _ (by omega)] <;> omega
  · by_cases a3 : c < 65536
    · rw [if_neg a2, if_pos a3]
      intro b hb
      simp only [List.mem_cons, List.not_mem_nil, or_false] at hb
      rcases hb with rfl | rfl | rfl <;> rw [of8 _ (by omega)] <;> omega
    · rw [if_neg a2, if_neg a3]
      intro b hb
      simp only [List.mem_cons, List.not_mem_nil, or_false] at hb
      rcases hb with rfl | rfl | rfl | rfl <;> rw [of8 _ (by omega)] <;> omega

theorem byteF_high : ∀ l : Bytes, (∀ b ∈ l, 128 ≤ b.toNat) → l.flatMap byteF = l
  | [], _ => rfl
  | b :: l, h => by
    have h1 := h b (by simp)
    rw [List.flatMap_cons, byteF_high l (fun c hc => h c (by simp [hc]))]
    unfold byteF
    rw [if_neg (by omega), if_neg (by omega)]
    rfl

theorem plain_enc (c : Nat) (h : Gr c) (q : Bytes) (hb : ¬ plainBad c (encL c).length) : plainR (encL c ++ q) = some ((c : Int), q) := by
  unfold plainR
  rw [dec_enc c h q]
  simp only
  rw [if_neg hb, List.drop_left' rfl]
theorem plain_none (q : Bytes) : plainR (92 :: q) = none := by
  have := dec_enc 92 ⟨Or.inl (by decide), by decide⟩ q
  unfold plainR
  rw [show (92 : UInt8) :: q = encL 92 ++ q from rfl, this]
  simp only
  rw [if_pos (by unfold plainBad; omega)]

theorem hexD_hexC (n : Nat) (h : n < 16) : hexD (hexC n) = some n := by
  unfold hexC
  split
  · rename_i h10
    have e := of8 (48 + n) (by omega)
    unfold hexD
    rw [e, if_pos (by omega)]
    congr 1
    omega
  · rename_i h10
    have e := of8 (87 + n) (by omega)
    unfold hexD
    rw [e, if_neg (by omega), if_pos (by omega)]
    congr 1
    omega

theorem short_none (c : UInt8) (q : Bytes) (h : c ≠ 34 ∧ c ≠ 92 ∧ c ≠ 47 ∧ c ≠ 98 ∧ c ≠ 102 ∧ c ≠ 110 ∧ c ≠ 114 ∧ c ≠ 116) : shortR (92 :: c :: q) = none := by
  have hw : ∀ (d : UInt8) (x : Int), d ≠ c → wordR [92, d] x (92 :: c :: q) = none := fun d x hd => by
    unfold wordR
    have : ([92, d] : Bytes).isPrefixOf (92 :: c :: q) = false := by
      simp only [List.isPrefixOf]
      rw [show (d == c) = false by simpa using hd]
      rfl
    rw [this]
    rfl
  obtain ⟨h1, h2, h3, h4, h5, h6, h7, h8⟩ := h
  unfold shortR
  simp only [oneOfR, hw 34 _ h1.symm, hw 92 _ h2.symm, hw 47 _ h3.symm, hw 98 _ h4.symm, hw 102 _ h5.symm, hw 110 _ h6.symm, hw 114 _ h7.symm, hw 116 _ h8.symm]

theorem short_34 (q : Bytes) : shortR (92 :: 34 :: q) = some (34, q) := by
  simp [shortR, oneOfR, wordR, List.isPrefixOf]
theorem short_92 (q : Bytes) : shortR (92 :: 92 :: q) = some (92, q) := by
  simp [shortR, oneOfR, wordR, List.isPrefixOf]

theorem item_quote (q : Bytes) : itemR (92 :: 34 :: q) = some (34, q) := by
  simp only [itemR, oneOfR, plain_none, short_34]
theorem item_slash (q : Bytes) : itemR (92 :: 92 :: q) = some (92, q) := by
  simp only [itemR, oneOfR, plain_none, short_92]
theorem unit_prefix (q : Bytes) : ([92, 117] : Bytes).isPrefixOf (92 :: 117 :: q) = true := by simp [List.isPrefixOf]
theorem unit_low (c : Nat) (h : c < 32) (q : Bytes) : unitR (92 :: 117 :: 48 :: 48 :: hexC (c / 16) :: hexC (c % 16) :: q) = some ((c : Int), q) := by
  unfold unitR afterR
  rw [unit_prefix, if_pos rfl]
  have h48 : hexD 48 = some 0 := by simp [hexD]
  have hd : (92 :: 117 :: 48 :: 48 :: hexC (c / 16) :: hexC (c % 16) :: q).drop ([92, 117] : Bytes).length = 48 :: 48 :: hexC (c / 16) :: hexC (c % 16) :: q := rfl
  rw [hd]
  simp only [fourR, h48, hexD_hexC (c / 16) (by omega), hexD_hexC (c % 16) (by omega)]
  congr 2
  omega
theorem whole_low (n : Int) (h0 : 0 ≤ n) (h : n < 32) : wholeF n = some n := by unfold wholeF; rw [if_pos (Or.inl (by omega))]
theorem ne_117 : (117 : UInt8) ≠ 34 ∧ (117 : UInt8) ≠ 92 ∧ (117 : UInt8) ≠ 47 ∧ (117 : UInt8) ≠ 98 ∧ (117 : UInt8) ≠ 102 ∧ (117 : UInt8) ≠ 110 ∧ (117 : UInt8) ≠ 114 ∧ (117 : UInt8) ≠ 116 := by decide
theorem item_unit (s q : Bytes) (n : Int) (h0 : 0 ≤ n) (h : n < 32) (hu : unitR (92 :: 117 :: s) = some (n, q)) : itemR (92 :: 117 :: s) = some (n, q) := by
  have hs := short_none 117 s ne_117
  have hc : changedR unitR wholeF (92 :: 117 :: s) = some (n, q) := by
    unfold changedR
    rw [hu]
    simp only [whole_low n h0 h]
  unfold itemR
  rw [oneOfR, plain_none]
  simp only
  rw [oneOfR, hs]
  simp only
  rw [oneOfR, hc]
theorem item_low (c : Nat) (h : c < 32) (q : Bytes) : itemR (92 :: 117 :: 48 :: 48 :: hexC (c / 16) :: hexC (c % 16) :: q) = some ((c : Int), q) :=
  item_unit _ q c (by omega) (by omega) (unit_low c h q)
theorem item_plain (c : Nat) (h : Gr c) (q : Bytes) (hb : ¬ plainBad c (encL c).length) : itemR (encL c ++ q) = some ((c : Int), q) := by
  simp only [itemR, oneOfR, plain_enc c h q hb]
theorem encL_low (c : Nat) (h : c < 128) : encL c = [UInt8.ofNat c] := by unfold encL; rw [if_pos h]
theorem encL_two (c : Nat) (h : ¬ c < 128) : 2 ≤ (encL c).length := by
  unfold encL
  rw [if_neg h]
  split
  · simp
  · split <;> simp

theorem item_back (c : Nat) (h : Gr c) (q : Bytes) : itemR ((encL c).flatMap byteF ++ q) = some ((c : Int), q) := by
  by_cases h128 : c < 128
  · have e1 := encL_low c h128
    have e8 := of8 c (by omega)
    by_cases hq : c = 34 ∨ c = 92
    · have e2 : (encL c).flatMap byteF = [92, UInt8.ofNat c] := by
        rw [e1]
        simp only [List.flatMap_cons, List.flatMap_nil, List.append_nil, byteF, e8, if_pos hq]
      rw [e2]
      rcases hq with rfl | rfl
      · exact item_quote q
      · exact item_slash q
    · by_cases h32 : c < 32
      · have e2 : (encL c).flatMap byteF = [92, 117, 48, 48, hexC (c / 16), hexC (c % 16)] := by
          rw [e1]
          simp only [List.flatMap_cons, List.flatMap_nil, List.append_nil, byteF, e8, if_neg hq, if_pos h32]
        rw [e2]
        exact item_low c h32 q
      · have e2 : (encL c).flatMap byteF = encL c := by
          rw [e1]
          simp only [List.flatMap_cons, List.flatMap_nil, List.append_nil, byteF, e8, if_neg hq, if_neg h32]
        rw [e2]
        exact item_plain c h q (by unfold plainBad; omega)
  · rw [byteF_high _ (enc_high c h h128)]
    have := encL_two c h128
    exact item_plain c h q (by unfold plainBad; omega)

theorem item_begin (c : Nat) (h : Gr c) : ∃ b q, (encL c).flatMap byteF = b :: q ∧ b ≠ 34 := by
  by_cases h128 : c < 128
  · have e1 : encL c = [UInt8.ofNat c] := by unfold encL; rw [if_pos h128]
    have e8 := of8 c (by omega)
    rw [e1]
    simp only [List.flatMap_cons, List.flatMap_nil, List.append_nil, byteF, e8]
    split
    · exact ⟨92, _, rfl, by decide⟩
    · rename_i hq
      split
      · exact ⟨92, _, rfl, by decide⟩
      · refine ⟨UInt8.ofNat c, [], rfl, fun e => ?_⟩
        have := congrArg UInt8.toNat e
        rw [e8] at this
        simp at this
        omega
  · have hh := enc_high c h h128
    rw [byteF_high _ hh]
    cases hl : encL c with
    | nil =>
      unfold encL at hl
      rw [if_neg h128] at hl
      split at hl
      · cases hl
      · split at hl <;> cases hl
    | cons b q =>
      refine ⟨b, q, rfl, fun e => ?_⟩
      have := hh b (by rw [hl]; simp)
      rw [e] at this
      simp at this

def cast (l : List Nat) : List Int := l.map fun c : Nat => (c : Int)

theorem until_text : ∀ (l : List Nat) (n : Nat) (r : Bytes), (∀ c ∈ l, Gr c) → l.length < n → untilR [34] itemR n (l.flatMap (fun c => (encL c).flatMap byteF) ++ (34 :: r)) = some (cast l, r)
  | [], 0, _, _, hn => by simp at hn
  | [], n + 1, r, _, _ => by simp [untilR, cast]
  | c :: l, 0, _, _, hn => by simp at hn
  | c :: l, n + 1, r, hp, hn => by
    have ih := until_text l n r (fun x hx => hp x (by simp [hx])) (by simpa using hn)
    have hc := hp c (by simp)
    obtain ⟨b, q, hb, h34⟩ := item_begin c hc
    have hi := item_back c hc (l.flatMap (fun c => (encL c).flatMap byteF) ++ (34 :: r))
    rw [List.flatMap_cons, List.append_assoc]
    have hpre : ([34] : Bytes).isPrefixOf ((encL c).flatMap byteF ++ (l.flatMap (fun c => (encL c).flatMap byteF) ++ (34 :: r))) = false := by
      rw [hb, List.cons_append, prefix_one]
      simpa using Ne.symm h34
    rw [untilR, hpre, if_neg (by simp), hi]
    simp only [ih]
    rfl

def GoodText (t : Bytes) : Prop := ∃ l : List Nat, (∀ c ∈ l, Gr c) ∧ t = l.flatMap encL

theorem runes_cast : ∀ l : List Nat, (∀ c ∈ l, Gr c) → runesF (cast l) = l.flatMap encL
  | [], _ => rfl
  | c :: l, h => by
    have ih := runes_cast l (fun x hx => h x (by simp [hx]))
    rw [runesF_eq] at ih ⊢
    unfold cast at ih ⊢
    rw [List.map_cons, List.flatMap_cons, List.flatMap_cons, ih, enc_gr c (h c (by simp))]

theorem flat_text (l : List Nat) : (l.flatMap encL).flatMap byteF = l.flatMap (fun c => (encL c).flatMap byteF) := by
  rw [List.flatMap_assoc]

theorem text_long : ∀ l : List Nat, (∀ c ∈ l, Gr c) → l.length ≤ (l.flatMap (fun c => (encL c).flatMap byteF)).length
  | [], _ => by simp
  | c :: l, h => by
    have ih := text_long l (fun x hx => h x (by simp [hx]))
    obtain ⟨b, q, hb, _⟩ := item_begin c (h c (by simp))
    rw [List.flatMap_cons, hb]
    simp only [List.length_cons, List.length_append]
    omega

theorem text_back : Back quotedR textF GoodText := by
  rintro t ⟨l, hl, rfl⟩ r _
  unfold textF
  rw [flat_text]
  have e : [34] ++ l.flatMap (fun c => (encL c).flatMap byteF) ++ [34] ++ r = 34 :: (l.flatMap (fun c => (encL c).flatMap byteF) ++ (34 :: r)) := by simp
  have hu : untilF [34] itemR (l.flatMap (fun c => (encL c).flatMap byteF) ++ (34 :: r)) = some (cast l, r) := by
    unfold untilF
    refine until_text l _ r hl ?_
    have := text_long l hl
    simp only [List.length_append, List.length_cons]
    omega
  rw [e]
  unfold quotedR
  simp only [changedR, after_one, hu, runes_cast l hl]
end Go.Proofs.YtgaddifabjoliaaGreatDoor

namespace Go.Proofs.YtgaddifabjoliaaGreatDoor

/-- A leaf that is read as it was written. -/
def PL : Leaf → Prop
  | .inl _ => True
  | .inr (.inl n) => -9007199254740992 < n ∧ n < 9007199254740992
  | .inr (.inr t) => GoodText t

theorem word_none {α : Type} (d : UInt8) (t : Bytes) (x : α) (c : UInt8) (q : Bytes) (h : d ≠ c) : wordR (d :: t) x (c :: q) = none := by
  unfold wordR
  have : (d :: t).isPrefixOf (c :: q) = false := by
    simp only [List.isPrefixOf]
    rw [show (d == c) = false by simpa using h]
    rfl
  rw [this]
  rfl
theorem after_none {α : Type} (d : UInt8) (R : Bytes → Option (α × Bytes)) (c : UInt8) (q : Bytes) (h : d ≠ c) : afterR [d] R (c :: q) = none := by
  unfold afterR
  rw [prefix_one, if_neg (by simpa using h)]
theorem word_self {α : Type} (t : Bytes) (x : α) (r : Bytes) : wordR t x (t ++ r) = some (x, r) := by
  unfold wordR
  have : t.isPrefixOf (t ++ r) = true := by rw [List.isPrefixOf_iff_prefix]; exact List.prefix_append t r
  rw [this, if_pos rfl, List.drop_left' rfl]

theorem leaf_begins (x : Leaf) : PL x → Begins (leafF x) := by
  intro _
  match x with
  | .inl none => exact ⟨110, _, rfl, rfl, by decide, by decide⟩
  | .inl (some false) => exact ⟨102, _, rfl, rfl, by decide, by decide⟩
  | .inl (some true) => exact ⟨116, _, rfl, rfl, by decide, by decide⟩
  | .inr (.inl n) => exact itoa_begins n
  | .inr (.inr t) => exact ⟨34, _, rfl, rfl, by decide, by decide⟩

/-- What begins as no word does is a number or a text. -/
theorem simple_other (c : UInt8) (q : Bytes) (h : c ≠ 110 ∧ c ≠ 116 ∧ c ≠ 102) : simpleR (c :: q) = oneOfR [changedR numberR (fun n => some (.inr (.inl n))), changedR quotedR (fun t => some (.inr (.inr t)))] (c :: q) := by
  obtain ⟨h1, h2, h3⟩ := h
  unfold simpleR
  rw [oneOfR, word_none 110 _ _ c q h1.symm]
  simp only
  rw [oneOfR, word_none 116 _ _ c q h2.symm]
  simp only
  rw [oneOfR, word_none 102 _ _ c q h3.symm]

theorem itoa_first (n : Int) : ∃ c q, Lib.itoa n = c :: q ∧ c ≠ 110 ∧ c ≠ 116 ∧ c ≠ 102 := by
  by_cases hn : 0 ≤ n
  · obtain ⟨u, rfl⟩ := Int.eq_ofNat_of_zero_le hn
    rw [Lib.itoa_nonneg]
    cases hl : Lib.decDigits u with
    | nil => exact absurd hl (dd_ne u)
    | cons c l =>
      have hc : isDig c = true := dd_all u c (by rw [hl]; simp)
      exact ⟨c, l, rfl, (by rintro rfl; cases hc), (by rintro rfl; cases hc), (by rintro rfl; cases hc)⟩
  · obtain ⟨u, rfl⟩ : ∃ u : Nat, n = -(u : Int) := ⟨n.natAbs, by omega⟩
    rw [Lib.itoa_neg u (by omega)]
    exact ⟨45, _, rfl, by decide, by decide, by decide⟩

theorem leaf_back : Back simpleR leafF PL := by
  intro x hx r hr
  match x, hx with
  | .inl none, _ =>
    unfold simpleR leafF
    rw [oneOfR, word_self]
  | .inl (some true), _ =>
    unfold simpleR leafF
    rw [oneOfR, show ([116, 114, 117, 101] : Bytes) ++ r = 116 :: ([114, 117, 101] ++ r) from rfl, word_none 110 _ _ 116 _ (by decide)]
    simp only
    rw [oneOfR, show (116 : UInt8) :: ([114, 117, 101] ++ r) = [116, 114, 117, 101] ++ r from rfl, word_self]
  | .inl (some false), _ =>
    unfold simpleR leafF
    rw [oneOfR, show ([102, 97, 108, 115, 101] : Bytes) ++ r = 102 :: ([97, 108, 115, 101] ++ r) from rfl, word_none 110 _ _ 102 _ (by decide)]
    simp only
    rw [oneOfR, word_none 116 _ _ 102 _ (by decide)]
    simp only
    rw [oneOfR, show (102 : UInt8) :: ([97, 108, 115, 101] ++ r) = [102, 97, 108, 115, 101] ++ r from rfl, word_self]
  | .inr (.inl n), hx =>
    obtain ⟨c, q, hc, h1⟩ := itoa_first n
    have hb := number_back n hx.1 hx.2 r hr
    show simpleR (Lib.itoa n ++ r) = _
    rw [hc, List.cons_append] at hb ⊢
    rw [simple_other c _ h1]
    simp only [oneOfR, changedR, hb]
  | .inr (.inr t), hx =>
    have hb := text_back t hx r hr
    have e : textF t ++ r = 34 :: (t.flatMap byteF ++ [34] ++ r) := by simp [textF]
    show simpleR (textF t ++ r) = _
    have hn : numberR (textF t ++ r) = none := by
      rw [e]
      unfold numberR
      simp only [oneOfR, digits_none 34 _ rfl, changedR, after_none 45 digitsR 34 _ (by decide)]
    rw [e, simple_other 34 _ (by decide), ← e]
    simp only [oneOfR, changedR, hn, hb]

/-! ### What was read is good -/
def Fr {α : Type} (R : Bytes → Option (α × Bytes)) (x : α) : Prop := ∃ s r, R s = some (x, r)

theorem fr_padded {α : Type} {R : Bytes → Option (α × Bytes)} {x : α} (h : Fr (paddedR R) x) : Fr R x := by
  obtain ⟨s, r, h⟩ := h
  unfold paddedR at h
  cases hR : R (skipB s) with
  | none => rw [hR] at h; cases h
  | some y => rw [hR] at h; simp at h; exact ⟨_, y.2, by rw [hR, ← h.1]⟩
theorem fr_after {α : Type} {t : Bytes} {R : Bytes → Option (α × Bytes)} {x : α} (h : Fr (afterR t R) x) : Fr R x := by
  obtain ⟨s, r, h⟩ := h
  unfold afterR at h
  split at h
  · exact ⟨_, _, h⟩
  · cases h
theorem fr_changed {α β : Type} {R : Bytes → Option (α × Bytes)} {f : α → Option β} {y : β} (h : Fr (changedR R f) y) : ∃ x, Fr R x ∧ f x = some y := by
  obtain ⟨s, r, h⟩ := h
  unfold changedR at h
  cases hR : R s with
  | none => rw [hR] at h; cases h
  | some p =>
    obtain ⟨x, q⟩ := p
    rw [hR] at h
    simp only at h
    cases hf : f x with
    | none => rw [hf] at h; cases h
    | some z => rw [hf] at h; simp at h; exact ⟨x, ⟨s, q, hR⟩, by rw [hf, h.1]⟩
theorem fr_both {α β γ : Type} {R : Bytes → Option (α × Bytes)} {S : Bytes → Option (β × Bytes)} {f : α → β → Option γ} {z : γ} (h : Fr (bothR R S f) z) : ∃ x y, Fr R x ∧ Fr S y ∧ f x y = some z := by
  obtain ⟨s, r, h⟩ := h
  unfold bothR at h
  cases hR : R s with
  | none => rw [hR] at h; cases h
  | some p =>
    obtain ⟨x, q⟩ := p
    rw [hR] at h
    simp only at h
    cases hS : S q with
    | none => rw [hS] at h; cases h
    | some p2 =>
      obtain ⟨y, q2⟩ := p2
      rw [hS] at h
      simp only at h
      cases hf : f x y with
      | none => rw [hf] at h; cases h
      | some u => rw [hf] at h; simp at h; exact ⟨x, y, ⟨s, q, hR⟩, ⟨q, q2, hS⟩, by rw [hf, h.1]⟩
theorem fr_one {α : Type} {x : α} : ∀ {l : List (Bytes → Option (α × Bytes))}, Fr (oneOfR l) x → ∃ R ∈ l, Fr R x
  | [], ⟨_, _, h⟩ => by cases h
  | R :: l, ⟨s, r, h⟩ => by
    unfold oneOfR at h
    cases hR : R s with
    | none =>
      rw [hR] at h
      obtain ⟨S, hS, hF⟩ := fr_one (l := l) ⟨s, r, h⟩
      exact ⟨S, by simp [hS], hF⟩
    | some y => rw [hR] at h; simp at h; exact ⟨R, by simp, s, r, by rw [hR, h]⟩
theorem fr_until {α : Type} {t : Bytes} {R : Bytes → Option (α × Bytes)} : ∀ (n : Nat) (s : Bytes) (l : List α) (r : Bytes), untilR t R n s = some (l, r) → ∀ x ∈ l, Fr R x
  | 0, _, _, _, h => by cases h
  | n + 1, s, l, r, h => by
    unfold untilR at h
    split at h
    · simp at h
      intro x hx
      rw [h.1] at hx
      cases hx
    · cases hR : R s with
      | none => rw [hR] at h; cases h
      | some p =>
        obtain ⟨y, q⟩ := p
        rw [hR] at h
        simp only at h
        cases hu : untilR t R n q with
        | none => rw [hu] at h; cases h
        | some p2 =>
          obtain ⟨l2, q2⟩ := p2
          rw [hu] at h
          simp at h
          intro x hx
          rw [← h.1] at hx
          rcases List.mem_cons.1 hx with rfl | hx
          · exact ⟨s, q, hR⟩
          · exact fr_until n q l2 q2 hu x hx
theorem fr_untilF {α : Type} {t : Bytes} {R : Bytes → Option (α × Bytes)} {l : List α} (h : Fr (untilF t R) l) : ∀ x ∈ l, Fr R x := by
  obtain ⟨s, r, h⟩ := h
  exact fr_until _ s l r h
theorem fr_list {α : Type} {o c : Bytes} {R : Bytes → Option (α × Bytes)} {l : List α} (h : Fr (listR o c R) l) : ∀ x ∈ l, Fr R x := by
  obtain ⟨S, hS, hF⟩ := fr_one (fr_after h)
  simp only [List.mem_cons, List.not_mem_nil, or_false] at hS
  rcases hS with rfl | rfl
  · obtain ⟨s, r, hw⟩ := fr_padded hF
    unfold wordR at hw
    split at hw
    · simp at hw
      intro x hx
      rw [hw.1] at hx
      cases hx
    · cases hw
  · obtain ⟨x, xs, hx, hxs, hf⟩ := fr_both hF
    simp at hf
    intro y hy
    rw [← hf] at hy
    rcases List.mem_cons.1 hy with rfl | hy
    · exact hx
    · exact fr_after (fr_untilF hxs y hy)
theorem fr_member {α : Type} {N : Bytes → Option (Bytes × Bytes)} {R : Bytes → Option (α × Bytes)} {m : Named α} (h : Fr (memberR N R) m) : Fr N m.1 ∧ Fr R m.2 := by
  obtain ⟨n, x, hn, hx, hf⟩ := fr_both h
  simp at hf
  rw [← hf]
  exact ⟨fr_padded hn, fr_after hx⟩
end Go.Proofs.YtgaddifabjoliaaGreatDoor
