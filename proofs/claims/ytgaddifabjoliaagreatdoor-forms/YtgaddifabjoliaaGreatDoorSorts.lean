import Derived.Test.YtgaddifabjoliaaGreatDoorDigits
import Derived.Test.YtgaddifabjoliaaGreatDoorShelf3
namespace Go.Proofs.YtgaddifabjoliaaGreatDoor
open Go.RowKit

/-! ### Texts by their bytes -/
def ltB (a b : Bytes) : Bool := decide (Lib.compareBytes a b < 0)

theorem cmp_refl : ∀ a : Bytes, Lib.compareBytes a a = 0
  | [] => rfl
  | a :: xs => by simp [Lib.compareBytes, cmp_refl xs]
theorem cmp_neg : ∀ a b : Bytes, Lib.compareBytes b a = - Lib.compareBytes a b
  | [], [] => rfl
  | [], _ :: _ => rfl
  | _ :: _, [] => rfl
  | a :: xs, b :: bs => by
    simp only [Lib.compareBytes]
    by_cases h1 : a < b
    · have h2 : ¬ b < a := by rw [UInt8.lt_iff_toNat_lt] at *; omega
      simp [h1, h2]
    · by_cases h2 : b < a
      · simp [h1, h2]
      · simp [h1, h2, cmp_neg xs bs]
theorem cmp_zero : ∀ a b : Bytes, Lib.compareBytes a b = 0 → a = b
  | [], [], _ => rfl
  | [], _ :: _, h => by simp [Lib.compareBytes] at h
  | _ :: _, [], h => by simp [Lib.compareBytes] at h
  | a :: xs, b :: bs, h => by
    simp only [Lib.compareBytes] at h
    by_cases h1 : a < b
    · simp [h1] at h
    · by_cases h2 : b < a
      · simp [h1, h2] at h
      · simp [h1, h2] at h
        have e : a = b := by
          apply UInt8.toNat.inj
          rw [UInt8.lt_iff_toNat_lt] at *
          omega
        rw [e, cmp_zero xs bs h]
theorem cmp_trans : ∀ a b c : Bytes, Lib.compareBytes a b < 0 → Lib.compareBytes b c < 0 → Lib.compareBytes a c < 0
  | [], [], _, h, _ => by simp [Lib.compareBytes] at h
  | [], _ :: _, [], _, h => by simp [Lib.compareBytes] at h
  | [], _ :: _, _ :: _, _, _ => by simp [Lib.compareBytes]
  | _ :: _, [], _, h, _ => by simp [Lib.compareBytes] at h
  | _ :: _, _ :: _, [], _, h => by simp [Lib.compareBytes] at h
  | a :: xs, b :: bs, c :: cs, h, k => by
    simp only [Lib.compareBytes] at h k ⊢
    have ih := cmp_trans xs bs cs
    simp only [UInt8.lt_iff_toNat_lt] at h k ⊢
    by_cases h1 : a.toNat < b.toNat
    · by_cases k1 : b.toNat < c.toNat
      · rw [if_pos (by omega)]; decide
      · by_cases k2 : c.toNat < b.toNat
        · simp [k1, k2] at k
        · rw [if_pos (by omega)]; decide
    · by_cases h2 : b.toNat < a.toNat
      · simp [h1, h2] at h
      · simp only [h1, h2, if_false] at h
        by_cases k1 : b.toNat < c.toNat
        · rw [if_pos (by omega)]; decide
        · by_cases k2 : c.toNat < b.toNat
          · simp [k1, k2] at k
          · simp only [k1, k2, if_false] at k
            rw [if_neg (by omega), if_neg (by omega)]
            exact ih h k

theorem ltB_irrefl (a : Bytes) : ltB a a = false := by simp [ltB, cmp_refl]
theorem ltB_trans {a b c : Bytes} (h : ltB a b = true) (k : ltB b c = true) : ltB a c = true := by
  simp only [ltB, decide_eq_true_eq] at *
  exact cmp_trans a b c h k
theorem ltB_asymm {a b : Bytes} (h : ltB a b = true) : ltB b a = false := by
  cases k : ltB b a
  · rfl
  · have := ltB_trans h k; rw [ltB_irrefl] at this; cases this
theorem ltB_or {a b : Bytes} (h : ltB a b = false) (hne : a ≠ b) : ltB b a = true := by
  simp only [ltB, decide_eq_true_eq, decide_eq_false_iff_not] at *
  have h1 := cmp_neg a b
  have h2 : Lib.compareBytes a b ≠ 0 := fun e => hne (cmp_zero a b e)
  omega
theorem ltB_ntrans {a b c : Bytes} (h : ltB a b = false) (k : ltB b c = false) : ltB a c = false := by
  cases e : ltB a c
  · rfl
  · by_cases hab : a = b
    · subst hab; rw [e] at k; cases k
    · have h1 := ltB_or h hab
      have h2 := ltB_trans h1 e
      rw [h2] at k; cases k

/-! ### Lists by their names -/
abbrev Named (α : Type) := Bytes × α
def Up {α : Type} (l : List (Named α)) : Prop := l.Pairwise fun a b => ltB a.1 b.1 = true
def UpEq {α : Type} (l : List (Named α)) : Prop := l.Pairwise fun a b => ltB b.1 a.1 = false

theorem up_unique {α : Type} : ∀ {l m : List (Named α)}, l.Perm m → Up l → Up m → l = m
  | [], m, h, _, _ => (List.nil_perm.1 h).symm
  | a :: l, [], h, _, _ => by have := h.length_eq; simp at this
  | a :: l, b :: m, h, hl, hm => by
    have hab : a = b := by
      have ha : a ∈ b :: m := h.mem_iff.1 (by simp)
      have hb : b ∈ a :: l := h.mem_iff.2 (by simp)
      rcases List.mem_cons.1 ha with e | ha
      · exact e
      · rcases List.mem_cons.1 hb with e | hb
        · exact e.symm
        · have h1 := (List.pairwise_cons.1 hl).1 b hb
          have h2 := (List.pairwise_cons.1 hm).1 a ha
          rw [ltB_asymm h1] at h2; cases h2
    subst hab
    rw [up_unique (List.Perm.cons_inv h) (List.pairwise_cons.1 hl).2 (List.pairwise_cons.1 hm).2]

/-- The names, each once. -/
def Once {α : Type} (l : List (Named α)) : Prop := (l.map Prod.fst).Nodup
instance {α : Type} (l : List (Named α)) : Decidable (Once l) := by unfold Once; exact inferInstance

theorem up_of {α : Type} {l : List (Named α)} (h : UpEq l) (ho : Once l) : Up l := by
  unfold Once List.Nodup at ho
  rw [List.pairwise_map] at ho
  unfold Up
  refine (h.and ho).imp ?_
  intro a b hab
  exact ltB_or hab.1 (fun e => hab.2 e.symm)
theorem once_of {α : Type} {l : List (Named α)} (h : Up l) : Once l := by
  unfold Once List.Nodup
  rw [List.pairwise_map]
  refine h.imp ?_
  intro a b hab e
  rw [e, ltB_irrefl] at hab; cases hab
theorem once_perm {α : Type} {l m : List (Named α)} (h : l.Perm m) : Once l ↔ Once m := (h.map Prod.fst).nodup_iff

/-- Sorted by names. -/
def byName {α : Type} (l : List (Named α)) : List (Named α) := l.mergeSort fun a b => !ltB b.1 a.1
theorem byName_perm {α : Type} (l : List (Named α)) : (byName l).Perm l := List.mergeSort_perm _ _
theorem byName_up {α : Type} (l : List (Named α)) : UpEq (byName l) := by
  have := List.pairwise_mergeSort (le := fun (a b : Named α) => !ltB b.1 a.1) (fun a b c h k => by
    simp only [Bool.not_eq_true'] at *
    exact ltB_ntrans k h) (fun a b => by
    cases h : ltB b.1 a.1
    · simp
    · simp [ltB_asymm h]) l
  refine List.Pairwise.imp ?_ this
  intro a b h
  simpa using h

theorem byName_is {α : Type} {l m : List (Named α)} (h : m.Perm l) (hs : UpEq m) (ho : Once l) : m = byName l :=
  up_unique (h.trans (byName_perm l).symm) (up_of hs ((once_perm h).2 ho)) (up_of (byName_up l) ((once_perm (byName_perm l)).2 ho))

/-- Neighbours of one name. -/
theorem near {α : Type} : ∀ {l : List (Named α)}, UpEq l → (∀ i (h : i + 1 < l.length), (l[i]'(by omega)).1 ≠ (l[i + 1]).1) → Up l
  | [], _, _ => List.Pairwise.nil
  | [a], _, _ => by simp [Up]
  | a :: b :: l, h, hn => by
    have hbl : Up (b :: l) := near (List.pairwise_cons.1 h).2 (fun i hi => hn (i + 1) (by simpa using hi))
    have hab : ltB a.1 b.1 = true := ltB_or ((List.pairwise_cons.1 h).1 b (by simp)) (fun e => hn 0 (by simp) e.symm)
    refine List.pairwise_cons.2 ⟨?_, hbl⟩
    intro c hc
    rcases List.mem_cons.1 hc with e | hc
    · subst e; exact hab
    · exact ltB_trans hab ((List.pairwise_cons.1 hbl).1 c hc)

/-- A permutation of images is an image of a permutation. -/
theorem perm_lift {α β : Type} (f : α → β) {m l : List β} (h : m.Perm l) : ∀ zs : List α, zs.map f = l → ∃ ys : List α, ys.Perm zs ∧ ys.map f = m := by
  induction h with
  | nil => intro zs hz; exact ⟨zs, List.Perm.refl _, hz⟩
  | cons x _ ih =>
    intro zs hz
    match zs, hz with
    | z :: zs, hz =>
      simp at hz
      obtain ⟨ys, h1, h2⟩ := ih zs hz.2
      exact ⟨z :: ys, h1.cons z, by simp [hz.1, h2]⟩
  | swap x y l =>
    intro zs hz
    match zs, hz with
    | z :: u :: zs, hz =>
      simp at hz
      exact ⟨u :: z :: zs, List.Perm.swap _ _ _, by simp [hz.1, hz.2.1, hz.2.2]⟩
  | trans _ _ ih1 ih2 =>
    intro zs hz
    obtain ⟨ys, h1, h2⟩ := ih2 zs hz
    obtain ⟨xs, h3, h4⟩ := ih1 ys h2
    exact ⟨xs, h3.trans h1, h4⟩

/-- What an object means. -/
def objF {α : Type} (ms : List (Named α)) : Option (Node α) := if Once ms then some (.inr (.inr (byName ms))) else none
end Go.Proofs.YtgaddifabjoliaaGreatDoor
