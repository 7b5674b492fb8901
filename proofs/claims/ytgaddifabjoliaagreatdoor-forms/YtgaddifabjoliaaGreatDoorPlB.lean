import Derived.Test.YtgaddifabjoliaaGreatDoorPlA
import Derived.Lib.MapLaws
namespace Go.Proofs.YtgaddifabjoliaaGreatDoor

theorem decN_good (n b0 b1 b2 b3 : Nat) (h0 : b0 < 256) : Gr (Lib.decodeN n b0 b1 b2 b3).1 := by
  unfold Lib.decodeN
  split
  · exact ⟨Or.inl (by simp only; omega), by simp only; omega⟩
  · split
    · split
      · exact ⟨Or.inl (by simp only; omega), by simp only; omega⟩
      · exact ⟨Or.inr (by decide), by decide⟩
    · split
      · split
        · rename_i h
          refine ⟨?_, ?_⟩
          · simp only; omega
          · simp only; omega
        · exact ⟨Or.inr (by decide), by decide⟩
      · split
        · split
          · rename_i h
            refine ⟨?_, ?_⟩
            · simp only; omega
            · simp only; omega
          · exact ⟨Or.inr (by decide), by decide⟩
        · exact ⟨Or.inr (by decide), by decide⟩
theorem decL_good : ∀ s : Bytes, Gr (decL s).1
  | [] => ⟨Or.inr (by decide), by decide⟩
  | b :: q => by rw [decL_cons]; exact decN_good _ _ _ _ _ (UInt8.toNat_lt b)

theorem hexD_small {c : UInt8} {n : Nat} (h : hexD c = some n) : n < 16 := by
  unfold hexD at h
  repeat' split at h
  all_goals simp at h
  all_goals omega
theorem four_good {x : Int} (h : Fr fourR x) : ∃ c : Nat, x = (c : Int) ∧ c < 65536 := by
  obtain ⟨s, r, h⟩ := h
  match s, h with
  | [], h => cases h
  | [_], h => cases h
  | [_, _], h => cases h
  | [_, _, _], h => cases h
  | a :: b :: c :: d :: q, h =>
    simp only [fourR] at h
    cases ha : hexD a with
    | none => rw [ha] at h; cases h
    | some x1 =>
      cases hb : hexD b with
      | none => rw [ha, hb] at h; cases h
      | some x2 =>
        cases hc : hexD c with
        | none => rw [ha, hb, hc] at h; cases h
        | some x3 =>
          cases hd : hexD d with
          | none => rw [ha, hb, hc, hd] at h; cases h
          | some x4 =>
            rw [ha, hb, hc, hd] at h
            simp only [Option.some.injEq, Prod.mk.injEq] at h
            have := hexD_small ha
            have := hexD_small hb
            have := hexD_small hc
            have := hexD_small hd
            exact ⟨_, h.1.symm, by omega⟩
theorem word_fr {α : Type} {t : Bytes} {x y : α} (h : Fr (wordR t x) y) : y = x := by
  obtain ⟨s, r, h⟩ := h
  unfold wordR at h
  split at h
  · simp at h; exact h.1.symm
  · cases h

theorem item_good {z : Int} (h : Fr itemR z) : ∃ c : Nat, z = (c : Int) ∧ Gr c := by
  obtain ⟨R, hR, hF⟩ := fr_one h
  simp only [List.mem_cons, List.not_mem_nil, or_false] at hR
  rcases hR with rfl | rfl | rfl | rfl
  · obtain ⟨s, r, h⟩ := hF
    unfold plainR at h
    split at h
    · cases h
    · simp only [Option.some.injEq, Prod.mk.injEq] at h
      exact ⟨_, h.1.symm, decL_good s⟩
  · obtain ⟨S, hS, hG⟩ := fr_one hF
    have small : ∀ c : Nat, c < 200 → z = (c : Int) → ∃ c : Nat, z = (c : Int) ∧ Gr c := fun c hc e => ⟨c, e, Or.inl (by omega), by omega⟩
    simp only [List.mem_cons, List.not_mem_nil, or_false] at hS
    rcases hS with rfl | rfl | rfl | rfl | rfl | rfl | rfl | rfl
    · exact small 34 (by decide) (word_fr hG)
    · exact small 92 (by decide) (word_fr hG)
    · exact small 47 (by decide) (word_fr hG)
    · exact small 8 (by decide) (word_fr hG)
    · exact small 12 (by decide) (word_fr hG)
    · exact small 10 (by decide) (word_fr hG)
    · exact small 13 (by decide) (word_fr hG)
    · exact small 9 (by decide) (word_fr hG)
  · obtain ⟨x, hx, hw⟩ := fr_changed hF
    obtain ⟨c, rfl, hc⟩ := four_good (fr_after hx)
    unfold wholeF at hw
    split at hw
    · rename_i hh
      simp only [Option.some.injEq] at hw
      exact ⟨c, hw.symm, by omega, by omega⟩
    · cases hw
  · obtain ⟨x, y, hx, hy, hp⟩ := fr_both hF
    obtain ⟨c, rfl, hc⟩ := four_good (fr_after hx)
    obtain ⟨d, rfl, hd⟩ := four_good (fr_after hy)
    unfold pairedF at hp
    split at hp
    · cases hp
    · rename_i hh
      simp only [Option.some.injEq] at hp
      exact ⟨65536 + 1024 * (c - 55296) + (d - 56320), by omega, Or.inr (by omega), by omega⟩

theorem casts : ∀ l : List Int, (∀ z ∈ l, ∃ c : Nat, z = (c : Int) ∧ Gr c) → ∃ m : List Nat, l = cast m ∧ ∀ c ∈ m, Gr c
  | [], _ => ⟨[], rfl, fun _ h => by cases h⟩
  | z :: l, h => by
    obtain ⟨c, rfl, hc⟩ := h z (by simp)
    obtain ⟨m, hm, hg⟩ := casts l (fun x hx => h x (by simp [hx]))
    refine ⟨c :: m, by rw [hm]; rfl, fun d hd => ?_⟩
    rcases List.mem_cons.1 hd with rfl | hd
    · exact hc
    · exact hg d hd
theorem text_good {t : Bytes} (h : Fr quotedR t) : GoodText t := by
  obtain ⟨l, hl, hf⟩ := fr_changed h
  obtain ⟨m, rfl, hm⟩ := casts l (fun z hz => item_good (fr_untilF (fr_after hl) z hz))
  simp only [Option.some.injEq] at hf
  exact ⟨m, hm, by rw [← hf, runes_cast m hm]⟩

theorem take_while (s : Bytes) : s.take (digN s) = s.takeWhile isDig := by
  unfold digN
  induction s with
  | nil => rfl
  | cons c s ih =>
    rw [List.takeWhile_cons]
    split
    · rw [List.length_cons, List.take_succ_cons, ih]
    · rfl
theorem digits_good {n : Int} (h : Fr digitsR n) : 0 ≤ n ∧ n < 9007199254740992 := by
  obtain ⟨s, r, h⟩ := h
  unfold digitsR at h
  split at h
  · cases h
  · cases hi : intOk (s.take (digN s)) with
    | none => rw [hi] at h; cases h
    | some v =>
      rw [hi] at h
      simp only at h
      split at h
      · cases h
      · rename_i hv
        simp only [Option.some.injEq, Prod.mk.injEq] at h
        rw [← h.1]
        refine ⟨?_, by omega⟩
        rw [take_while] at hi
        cases hl : s.takeWhile isDig with
        | nil => rw [hl] at hi; simp [intOk, Lib.parseIntB] at hi
        | cons c l =>
          have hc : isDig c = true := by
            have hall : (s.takeWhile isDig).all isDig = true := List.all_takeWhile
            rw [List.all_eq_true] at hall
            exact hall c (by rw [hl]; simp)
          unfold isDig at hc
          simp only [Bool.and_eq_true, decide_eq_true_eq] at hc
          rw [hl] at hi
          unfold intOk Lib.parseIntB at hi
          have h43 : (if c.toNat = 43 ∨ c.toNat = 45 then l else c :: l) = c :: l := if_neg (by omega)
          simp only [h43] at hi
          cases hp : Lib.parseUintB 64 (c :: l) with
          | «syntax» => rw [hp] at hi; simp at hi
          | range => rw [hp] at hi; simp at hi
          | ok u =>
            rw [hp] at hi
            simp only at hi
            split at hi
            · rename_i v' hv'
              split at hv'
              · cases hv'
              · split at hv'
                · cases hv'
                · rw [if_neg (by omega)] at hv'
                  cases hv'
                  simp only [Option.some.injEq] at hi
                  omega
            · cases hi
theorem number_good {n : Int} (h : Fr numberR n) : -9007199254740992 < n ∧ n < 9007199254740992 := by
  obtain ⟨R, hR, hF⟩ := fr_one h
  simp only [List.mem_cons, List.not_mem_nil, or_false] at hR
  rcases hR with rfl | rfl
  · have := digits_good hF
    omega
  · obtain ⟨m, hm, hf⟩ := fr_changed hF
    have := digits_good (fr_after hm)
    unfold negR at hf
    split at hf
    · cases hf
    · simp only [Option.some.injEq] at hf
      omega
theorem simple_good {x : Leaf} (h : Fr simpleR x) : PL x := by
  obtain ⟨R, hR, hF⟩ := fr_one h
  simp only [List.mem_cons, List.not_mem_nil, or_false] at hR
  rcases hR with rfl | rfl | rfl | rfl | rfl
  · rw [word_fr hF]; trivial
  · rw [word_fr hF]; trivial
  · rw [word_fr hF]; trivial
  · obtain ⟨n, hn, hf⟩ := fr_changed hF
    simp only [Option.some.injEq] at hf
    rw [← hf]
    exact number_good hn
  · obtain ⟨t, ht, hf⟩ := fr_changed hF
    simp only [Option.some.injEq] at hf
    rw [← hf]
    exact text_good ht

theorem objF_again {α : Type} (ms : List (Named α)) (h : Once ms) : objF (byName ms) = some (.inr (.inr (byName ms))) := by
  have ho : Once (byName ms) := (once_perm (byName_perm ms)).2 h
  have e : byName ms = byName (byName ms) := byName_is (List.Perm.refl _) (byName_up ms) ho
  unfold objF
  rw [if_pos ho, ← e]

theorem val_good : ∀ (d : Nat) (x : JT d), Fr (valR d) x → goodV PL GoodText d x
  | 0, _, h => simple_good (fr_padded h)
  | d + 1, x, h => by
    have h1 : Fr (nodeR (valR d)) x := fr_padded h
    have h2 : Fr (oneOfR [mapR Sum.inl simpleR, arrayR (valR d), objectR (valR d)]) x := h1
    obtain ⟨R, hR, hF⟩ := fr_one h2
    simp only [List.mem_cons, List.not_mem_nil, or_false] at hR
    rcases hR with rfl | rfl | rfl
    · obtain ⟨s, r, hm⟩ := hF
      unfold mapR at hm
      cases hs : simpleR s with
      | none => rw [hs] at hm; cases hm
      | some y =>
        rw [hs] at hm
        have hx := congrArg Prod.fst (Option.some.inj hm)
        subst hx
        exact simple_good ⟨s, y.2, hs⟩
    · obtain ⟨xs, hx, hf⟩ := fr_changed hF
      have hx2 := Option.some.inj hf
      subst hx2
      exact fun y hy => val_good d y (fr_list hx y hy)
    · obtain ⟨ms, hm, hf⟩ := fr_changed hF
      unfold objF at hf
      split at hf
      · rename_i ho
        have hx2 := Option.some.inj hf
        subst hx2
        refine ⟨objF_again ms ho, fun m hmm => ?_⟩
        have := fr_member (fr_list hm m ((byName_perm ms).mem_iff.1 hmm))
        exact ⟨text_good this.1, val_good d m.2 this.2⟩
      · cases hf

/-- A form is its own form. -/
theorem form_again (s : Bytes) (x : JT 8) (h : readF s = some x) : readF (formF 8 x) = some x := by
  refine read_back leaf_back leaf_begins text_back x (val_good 8 x ?_)
  unfold readF at h
  split at h
  · rename_i y hy
    simp only [Option.some.injEq] at h
    exact ⟨s, [], by rw [hy, h]⟩
  · cases h
end Go.Proofs.YtgaddifabjoliaaGreatDoor

namespace Go.Proofs.YtgaddifabjoliaaGreatDoor

/-! ### What stands behind a text that is read changes nothing in it -/

/-- q begins with a sign that no word, number or letter goes on with. -/
def Ends (q : Bytes) : Prop := ∃ c t, q = c :: t ∧ (c = 13 ∨ c = 44)

def Ext {α : Type} (q : Bytes) (R : Bytes → Option (α × Bytes)) : Prop := ∀ s x r, R s = some (x, r) → ∃ r', R (s ++ q) = some (x, r') ∧ (r' = r ++ q ∨ (r = [] ∧ r' = skipB q))
/-- Nothing is read out of nothing. -/
def Needs {α : Type} (R : Bytes → Option (α × Bytes)) : Prop := R [] = none

theorem skip_skip : ∀ s : Bytes, skipB (skipB s) = skipB s
  | [] => rfl
  | c :: s => by
    unfold skipB
    rw [List.dropWhile_cons]
    split
    · exact skip_skip s
    · rename_i h
      rw [List.dropWhile_cons, if_neg h]
theorem skip_append (q : Bytes) : ∀ s : Bytes, skipB (s ++ q) = if skipB s = [] then skipB q else skipB s ++ q
  | [] => rfl
  | c :: s => by
    have ih := skip_append q s
    unfold skipB at *
    rw [List.cons_append, List.dropWhile_cons, List.dropWhile_cons]
    split
    · exact ih
    · rw [if_neg (by simp)]
      rfl

theorem ext_word {α : Type} (q t : Bytes) (x : α) : Ext q (wordR t x) := by
  intro s y r h
  unfold wordR at h ⊢
  split at h
  · rename_i hp
    simp only [Option.some.injEq, Prod.mk.injEq] at h
    rw [List.isPrefixOf_iff_prefix] at hp
    have hp2 : t.isPrefixOf (s ++ q) = true := by rw [List.isPrefixOf_iff_prefix]; exact hp.trans (List.prefix_append s q)
    rw [if_pos hp2]
    refine ⟨_, by rw [h.1], Or.inl ?_⟩
    rw [← h.2, List.drop_append_of_le_length hp.length_le]
  · cases h
theorem ext_after {α : Type} {q t : Bytes} {R : Bytes → Option (α × Bytes)} (hR : Ext q R) : Ext q (afterR t R) := by
  intro s y r h
  unfold afterR at h ⊢
  split at h
  · rename_i hp
    rw [List.isPrefixOf_iff_prefix] at hp
    have hp2 : t.isPrefixOf (s ++ q) = true := by rw [List.isPrefixOf_iff_prefix]; exact hp.trans (List.prefix_append s q)
    rw [if_pos hp2, List.drop_append_of_le_length hp.length_le]
    exact hR _ _ _ h
  · cases h
theorem ext_changed {α β : Type} {q : Bytes} {R : Bytes → Option (α × Bytes)} {f : α → Option β} (hR : Ext q R) : Ext q (changedR R f) := by
  intro s y r h
  unfold changedR at h ⊢
  cases hs : R s with
  | none => rw [hs] at h; cases h
  | some p =>
    obtain ⟨x, r0⟩ := p
    rw [hs] at h
    simp only at h
    cases hf : f x with
    | none => rw [hf] at h; cases h
    | some z =>
      rw [hf] at h
      simp only [Option.some.injEq, Prod.mk.injEq] at h
      obtain ⟨r', h1, h2⟩ := hR s x r0 hs
      refine ⟨r', ?_, ?_⟩
      · rw [h1]
        simp only [hf, h.1]
      · rw [← h.2]; exact h2
theorem ext_both {α β γ : Type} {q : Bytes} {R : Bytes → Option (α × Bytes)} {S : Bytes → Option (β × Bytes)} {f : α → β → Option γ} (hR : Ext q R) (hS : Ext q S) (hN : Needs S) : Ext q (bothR R S f) := by
  intro s z r h
  unfold bothR at h ⊢
  cases hs : R s with
  | none => rw [hs] at h; cases h
  | some p =>
    obtain ⟨x, r1⟩ := p
    rw [hs] at h
    simp only at h
    cases ht : S r1 with
    | none => rw [ht] at h; cases h
    | some p2 =>
      obtain ⟨y, r2⟩ := p2
      rw [ht] at h
      simp only at h
      cases hf : f x y with
      | none => rw [hf] at h; cases h
      | some u =>
        rw [hf] at h
        simp only [Option.some.injEq, Prod.mk.injEq] at h
        obtain ⟨r1', h1, h2⟩ := hR s x r1 hs
        have hne : r1 ≠ [] := by
          rintro rfl
          rw [hN] at ht
          cases ht
        have e1 : r1' = r1 ++ q := by
          rcases h2 with h2 | ⟨h2, _⟩
          · exact h2
          · exact absurd h2 hne
        obtain ⟨r2', h3, h4⟩ := hS r1 y r2 ht
        refine ⟨r2', ?_, ?_⟩
        · rw [h1]
          simp only [e1, h3, hf, h.1]
        · rw [← h.2]; exact h4
theorem ext_padded {α : Type} {q : Bytes} {R : Bytes → Option (α × Bytes)} (hR : Ext q R) (hN : Needs R) : Ext q (paddedR R) := by
  intro s x r h
  unfold paddedR at h ⊢
  cases hs : R (skipB s) with
  | none => rw [hs] at h; cases h
  | some p =>
    obtain ⟨y, r0⟩ := p
    rw [hs] at h
    simp only [Option.some.injEq, Prod.mk.injEq] at h
    have hne : skipB s ≠ [] := by
      intro e
      rw [e, hN] at hs
      cases hs
    obtain ⟨r0', h1, h2⟩ := hR _ y r0 hs
    rw [skip_append, if_neg hne, h1]
    refine ⟨skipB r0', by simp only [h.1], ?_⟩
    rcases h2 with rfl | ⟨rfl, rfl⟩
    · rw [skip_append]
      split
      · rename_i e
        exact Or.inr ⟨by rw [← h.2, e], rfl⟩
      · exact Or.inl (by rw [← h.2])
    · exact Or.inr ⟨by rw [← h.2]; rfl, skip_skip q⟩

theorem until_fuel {α : Type} {t : Bytes} {R : Bytes → Option (α × Bytes)} : ∀ (n m : Nat) (s : Bytes) (y : List α × Bytes), n ≤ m → untilR t R n s = some y → untilR t R m s = some y
  | 0, _, _, _, _, h => by cases h
  | n + 1, 0, _, _, hm, _ => by omega
  | n + 1, m + 1, s, y, hm, h => by
    rw [untilR] at h ⊢
    split at h
    · rename_i hp
      rw [if_pos hp]
      exact h
    · rename_i hp
      rw [if_neg hp]
      cases hs : R s with
      | none => rw [hs] at h; cases h
      | some p =>
        obtain ⟨x, r⟩ := p
        rw [hs] at h
        simp only at h ⊢
        cases hu : untilR t R n r with
        | none => rw [hu] at h; cases h
        | some p2 =>
          rw [until_fuel n m r p2 (by omega) hu]
          rw [hu] at h
          exact h
theorem until_nil {α : Type} {c : UInt8} {R : Bytes → Option (α × Bytes)} (hN : Needs R) : ∀ n, untilR [c] R n [] = none
  | 0 => rfl
  | n + 1 => by
    rw [untilR, if_neg (by simp), hN]

theorem ext_until {α : Type} {q : Bytes} {c : UInt8} {R : Bytes → Option (α × Bytes)} (hR : Ext q R) (hN : Needs R) : ∀ n, Ext q (untilR [c] R n)
  | 0 => fun _ _ _ h => by cases h
  | n + 1 => by
    intro s l r h
    cases s with
    | nil => rw [until_nil hN] at h; cases h
    | cons d s =>
      rw [untilR] at h
      rw [List.cons_append, untilR]
      rw [prefix_one] at h ⊢
      split at h
      · rename_i hp
        rw [if_pos hp]
        simp only [Option.some.injEq, Prod.mk.injEq] at h
        exact ⟨_, by rw [h.1], Or.inl (by rw [← h.2]; rfl)⟩
      · rename_i hp
        rw [if_neg hp]
        cases hs : R (d :: s) with
        | none => rw [hs] at h; cases h
        | some p =>
          obtain ⟨x, r1⟩ := p
          rw [hs] at h
          simp only at h
          cases hu : untilR [c] R n r1 with
          | none => rw [hu] at h; cases h
          | some p2 =>
            obtain ⟨l2, r2⟩ := p2
            rw [hu] at h
            simp only [Option.some.injEq, Prod.mk.injEq] at h
            obtain ⟨r1', h1, h2⟩ := hR (d :: s) x r1 hs
            have hne : r1 ≠ [] := by
              rintro rfl
              rw [until_nil hN] at hu
              cases hu
            have e1 : r1' = r1 ++ q := by
              rcases h2 with h2 | ⟨h2, _⟩
              · exact h2
              · exact absurd h2 hne
            obtain ⟨r2', h3, h4⟩ := ext_until hR hN n r1 l2 r2 hu
            rw [List.cons_append] at h1
            refine ⟨r2', ?_, ?_⟩
            · rw [h1]
              simp only [e1, h3, h.1]
            · rw [← h.2]; exact h4
theorem ext_untilF {α : Type} {q : Bytes} {c : UInt8} {R : Bytes → Option (α × Bytes)} (hR : Ext q R) (hN : Needs R) : Ext q (untilF [c] R) := by
  intro s l r h
  obtain ⟨r', h1, h2⟩ := ext_until hR hN _ s l r h
  refine ⟨r', until_fuel _ _ _ _ ?_ h1, h2⟩
  rw [List.length_append]
  omega

/-- Two readers, the first of which does not begin to read what the second reads. -/
theorem ext_cons {α : Type} {q : Bytes} {R : Bytes → Option (α × Bytes)} {l : List (Bytes → Option (α × Bytes))} (hR : Ext q R) (hl : Ext q (oneOfR l)) (hN : ∀ s y, R s = none → oneOfR l s = some y → R (s ++ q) = none) : Ext q (oneOfR (R :: l)) := by
  intro s x r h
  rw [oneOfR] at h ⊢
  cases hs : R s with
  | none =>
    rw [hs] at h
    rw [hN s _ hs h]
    exact hl s x r h
  | some y =>
    rw [hs] at h
    simp only [Option.some.injEq] at h
    subst h
    obtain ⟨r', h1, h2⟩ := hR s x r hs
    exact ⟨r', by rw [h1], h2⟩
theorem ext_nil {α : Type} (q : Bytes) : Ext q (oneOfR ([] : List (Bytes → Option (α × Bytes)))) := fun _ _ _ h => by cases h

theorem dig_ext (q : Bytes) (hq : Ends q) : ∀ s : Bytes, digN (s ++ q) = digN s
  | [] => by
    obtain ⟨c, t, rfl, h⟩ := hq
    unfold digN
    rw [List.nil_append, List.takeWhile_cons, show isDig c = false by rcases h with rfl | rfl <;> rfl]
    rfl
  | c :: s => by
    have ih := dig_ext q hq s
    unfold digN at *
    rw [List.cons_append, List.takeWhile_cons, List.takeWhile_cons]
    split
    · rw [List.length_cons, List.length_cons, ih]
    · rfl
theorem digN_le (s : Bytes) : digN s ≤ s.length := by unfold digN; exact (List.takeWhile_prefix isDig).length_le
theorem needs_digits : Needs digitsR := by
  unfold Needs digitsR
  simp [digN, intOk, Lib.parseIntB]
theorem ext_digits (q : Bytes) (hq : Ends q) : Ext q digitsR := by
  intro s x r h
  have hne : s ≠ [] := by
    rintro rfl
    have := needs_digits
    unfold Needs at this
    rw [this] at h
    cases h
  have h0 : (s ++ q)[0]? = s[0]? := by
    rw [List.getElem?_append_left (List.length_pos_iff.2 hne)]
  refine ⟨r ++ q, ?_, Or.inl rfl⟩
  unfold digitsR at h ⊢
  rw [dig_ext q hq, h0, List.take_append_of_le_length (digN_le s), List.drop_append_of_le_length (digN_le s)]
  split at h
  · cases h
  · rename_i hc
    rw [if_neg hc]
    cases hi : intOk (s.take (digN s)) with
    | none => rw [hi] at h; cases h
    | some v =>
      rw [hi] at h
      simp only at h ⊢
      split at h
      · cases h
      · rename_i hv
        rw [if_neg hv]
        simp only [Option.some.injEq, Prod.mk.injEq] at h ⊢
        exact ⟨h.1, by rw [h.2]⟩
end Go.Proofs.YtgaddifabjoliaaGreatDoor

namespace Go.Proofs.YtgaddifabjoliaaGreatDoor

theorem after_some {α : Type} {c : UInt8} {R : Bytes → Option (α × Bytes)} {s : Bytes} {y : α × Bytes} (h : afterR [c] R s = some y) : ∃ t, s = c :: t := by
  unfold afterR at h
  split at h
  · rename_i hp
    cases s with
    | nil => simp at hp
    | cons d t =>
      rw [prefix_one, beq_iff_eq] at hp
      exact ⟨t, by rw [hp]⟩
  · cases h
theorem changed_some {α β : Type} {R : Bytes → Option (α × Bytes)} {f : α → Option β} {s : Bytes} {y : β × Bytes} (h : changedR R f s = some y) : ∃ p, R s = some p := by
  unfold changedR at h
  cases hs : R s with
  | none => rw [hs] at h; cases h
  | some p => exact ⟨p, rfl⟩
theorem both_some {α β γ : Type} {R : Bytes → Option (α × Bytes)} {S : Bytes → Option (β × Bytes)} {f : α → β → Option γ} {s : Bytes} {y : γ × Bytes} (h : bothR R S f s = some y) : ∃ p, R s = some p := by
  unfold bothR at h
  cases hs : R s with
  | none => rw [hs] at h; cases h
  | some p => exact ⟨p, rfl⟩
theorem one_some {α : Type} {s : Bytes} {y : α × Bytes} : ∀ {l : List (Bytes → Option (α × Bytes))}, oneOfR l s = some y → ∃ R ∈ l, R s = some y
  | [], h => by cases h
  | R :: l, h => by
    rw [oneOfR] at h
    cases hs : R s with
    | none =>
      rw [hs] at h
      obtain ⟨S, hS, hy⟩ := one_some (l := l) h
      exact ⟨S, by simp [hS], hy⟩
    | some z =>
      rw [hs] at h
      exact ⟨R, by simp, by rw [← h]; exact hs⟩

theorem ext_number (q : Bytes) (hq : Ends q) : Ext q numberR := by
  refine ext_cons (ext_digits q hq) (ext_cons (ext_changed (ext_after (ext_digits q hq))) (ext_nil q) (fun _ _ _ h => by cases h)) ?_
  intro s y _ h
  obtain ⟨R, hR, hy⟩ := one_some h
  simp only [List.mem_singleton] at hR
  subst hR
  obtain ⟨p, hp⟩ := changed_some hy
  obtain ⟨t, rfl⟩ := after_some hp
  exact digits_none 45 _ rfl

theorem enc_lib (c : Nat) (h : Gr c) : Lib.encodeRune (c : Int) = encL c := by
  obtain ⟨h1, h2⟩ := h
  unfold Lib.encodeRune encL
  by_cases a1 : c < 128
  · rw [if_pos a1, Lib.encodeRuneZ_one (by omega) (by omega)]
    rfl
  · by_cases a2 : c < 2048
    · rw [if_neg a1, if_pos a2, Lib.encodeRuneZ_two (by omega) (by omega)]
      simp only [List.map_cons, List.map_nil]
      congr 1
    · by_cases a3 : c < 65536
      · rw [if_neg a1, if_neg a2, if_pos a3, Lib.encodeRuneZ_three (by omega)]
        simp only [List.map_cons, List.map_nil]
        congr 1
      · rw [if_neg a1, if_neg a2, if_neg a3, Lib.encodeRuneZ_four (by omega) (by omega)]
        simp only [List.map_cons, List.map_nil]
        congr 1

theorem plain_some {s : Bytes} {z : Int} {r : Bytes} (h : plainR s = some (z, r)) : ∃ c : Nat, z = (c : Int) ∧ Gr c ∧ s = encL c ++ r ∧ ¬ plainBad c (encL c).length := by
  unfold plainR at h
  split at h
  · cases h
  · rename_i hb
    simp only [Option.some.injEq, Prod.mk.injEq] at h
    have hg := decL_good s
    have hne : s ≠ [] := by
      rintro rfl
      exact hb (Or.inl ⟨rfl, by decide⟩)
    have e : decL s = Lib.decodeL s := by
      have e1 : (⟨s.toArray⟩ : ByteArray).size = s.length := by show s.toArray.size = _; simp
      unfold decL Lib.decodeGo Lib.decodeL
      rw [if_neg (by rw [e1]; exact fun h0 => hne (List.length_eq_zero_iff.1 h0))]
    have he := Lib.encode_decode s hne (by
      rw [← e]
      rintro ⟨h1, h2⟩
      exact hb (Or.inl ⟨h1, by omega⟩))
    rw [← e, enc_lib _ hg] at he
    refine ⟨(decL s).1, h.1.symm, hg, ?_, ?_⟩
    · rw [← h.2, he, List.take_append_drop]
    · rintro (⟨h1, h2⟩ | h1)
      · rw [h1] at h2
        exact absurd h2 (by decide)
      · exact hb (Or.inr h1)
theorem ext_plain (q : Bytes) : Ext q plainR := by
  intro s z r h
  obtain ⟨c, rfl, hg, rfl, hb⟩ := plain_some h
  exact ⟨r ++ q, by rw [List.append_assoc]; exact plain_enc c hg (r ++ q) hb, Or.inl rfl⟩

theorem ext_four (q : Bytes) : Ext q fourR := by
  intro s x r h
  match s, h with
  | [], h => cases h
  | [_], h => cases h
  | [_, _], h => cases h
  | [_, _, _], h => cases h
  | a :: b :: c :: d :: t, h =>
    refine ⟨r ++ q, ?_, Or.inl rfl⟩
    simp only [List.cons_append, fourR] at h ⊢
    cases ha : hexD a with
    | none => rw [ha] at h; cases h
    | some x1 =>
      cases hb : hexD b with
      | none => rw [ha, hb] at h; cases h
      | some x2 =>
        cases hc : hexD c with
        | none => rw [ha, hb, hc] at h; cases h
        | some x3 =>
          cases hd : hexD d with
          | none => rw [ha, hb, hc, hd] at h; cases h
          | some x4 =>
            rw [ha, hb, hc, hd] at h
            simp only [Option.some.injEq, Prod.mk.injEq] at h ⊢
            exact ⟨h.1, by rw [h.2]⟩
theorem ext_unit (q : Bytes) : Ext q unitR := ext_after (ext_four q)
theorem unit_some {s : Bytes} {y : Int × Bytes} (h : unitR s = some y) : ∃ t, s = 92 :: 117 :: t := by
  unfold unitR afterR at h
  split at h
  · rename_i hp
    rw [List.isPrefixOf_iff_prefix] at hp
    obtain ⟨t, ht⟩ := hp
    exact ⟨t, ht.symm⟩
  · cases h

theorem word_two (a b : UInt8) (x : Int) (t : Bytes) : wordR [92, a] x (92 :: b :: t) = if a = b then some (x, t) else none := by
  unfold wordR
  by_cases h : a = b
  · subst h
    rw [if_pos rfl, if_pos (by simp [List.isPrefixOf])]
    rfl
  · rw [if_neg h, if_neg (by simp [List.isPrefixOf, h])]
theorem short_some {s : Bytes} {y : Int × Bytes} (h : shortR s = some y) : ∃ b t, s = 92 :: b :: t := by
  obtain ⟨R, hR, hy⟩ := one_some h
  have w : ∀ (a : UInt8) (x : Int), wordR [92, a] x s = some y → ∃ b t, s = 92 :: b :: t := fun a x hw => by
    unfold wordR at hw
    split at hw
    · rename_i hp
      rw [List.isPrefixOf_iff_prefix] at hp
      obtain ⟨t, ht⟩ := hp
      exact ⟨a, t, ht.symm⟩
    · cases hw
  simp only [List.mem_cons, List.not_mem_nil, or_false] at hR
  rcases hR with rfl | rfl | rfl | rfl | rfl | rfl | rfl | rfl <;> exact w _ _ hy
theorem ext_short (q : Bytes) : Ext q shortR := by
  intro s x r h
  obtain ⟨b, t, rfl⟩ := short_some h
  unfold shortR at h ⊢
  simp only [List.cons_append, oneOfR, word_two] at h ⊢
  refine ⟨r ++ q, ?_, Or.inl rfl⟩
  repeat' split at h
  all_goals first | cases h | skip
  all_goals simp_all

theorem ext_item (q : Bytes) : Ext q itemR := by
  have later : ∀ s y, oneOfR [changedR unitR wholeF, bothR unitR unitR pairedF] s = some y → ∃ t, s = 92 :: 117 :: t := fun s y h => by
    obtain ⟨R, hR, hy⟩ := one_some h
    simp only [List.mem_cons, List.not_mem_nil, or_false] at hR
    rcases hR with rfl | rfl
    · obtain ⟨p, hp⟩ := changed_some hy
      exact unit_some hp
    · obtain ⟨p, hp⟩ := both_some hy
      exact unit_some hp
  have hN : Needs unitR := rfl
  refine ext_cons (ext_plain q) (ext_cons (ext_short q) (ext_cons (ext_changed (ext_unit q)) (ext_cons (ext_both (ext_unit q) (ext_unit q) hN) (ext_nil q) (fun _ _ _ h => by cases h)) ?c3) ?c2) ?c1
  case c1 =>
    intro s y _ h
    rw [oneOfR] at h
    cases hs : shortR s with
    | none =>
      rw [hs] at h
      obtain ⟨t, rfl⟩ := later s y h
      exact plain_none _
    | some z =>
      obtain ⟨b, t, rfl⟩ := short_some hs
      exact plain_none _
  case c2 =>
    intro s y _ h
    obtain ⟨t, rfl⟩ := later s y h
    exact short_none 117 _ ne_117
  case c3 =>
    intro s y h0 h
    obtain ⟨R, hR, hy⟩ := one_some h
    simp only [List.mem_singleton] at hR
    subst hR
    obtain ⟨⟨n, r1⟩, hp⟩ := both_some hy
    obtain ⟨r', h1, _⟩ := ext_unit q s n r1 hp
    unfold changedR at h0 ⊢
    rw [hp] at h0
    rw [h1]
    simp only at h0 ⊢
    cases hw : wholeF n with
    | none => rfl
    | some m => rw [hw] at h0; cases h0

theorem needs_item : Needs itemR := by
  unfold Needs itemR
  have h1 : plainR [] = none := by
    unfold plainR
    exact if_pos (show plainBad _ _ from Or.inl ⟨rfl, by decide⟩)
  have h2 : shortR [] = none := rfl
  have h3 : unitR [] = none := rfl
  simp only [oneOfR, h1, h2, changedR, h3, bothR]
theorem ext_quoted (q : Bytes) : Ext q quotedR := ext_changed (ext_after (ext_untilF (ext_item q) needs_item))
end Go.Proofs.YtgaddifabjoliaaGreatDoor

namespace Go.Proofs.YtgaddifabjoliaaGreatDoor

theorem word_first {α : Type} {d : UInt8} {t : Bytes} {x : α} {s : Bytes} {y : α × Bytes} (h : wordR (d :: t) x s = some y) : ∃ u, s = d :: u := by
  unfold wordR at h
  split at h
  · rename_i hp
    rw [List.isPrefixOf_iff_prefix] at hp
    obtain ⟨u, hu⟩ := hp
    exact ⟨t ++ u, by rw [← hu]; rfl⟩
  · cases h
theorem digits_first {s : Bytes} {y : Int × Bytes} (h : digitsR s = some y) : ∃ c u, s = c :: u ∧ isDig c = true := by
  cases s with
  | nil =>
    have := needs_digits
    unfold Needs at this
    rw [this] at h
    cases h
  | cons c u =>
    refine ⟨c, u, rfl, ?_⟩
    cases hc : isDig c with
    | true => rfl
    | false => rw [digits_none c u hc] at h; cases h
theorem number_first {s : Bytes} {y : Int × Bytes} (h : numberR s = some y) : ∃ c u, s = c :: u ∧ (isDig c = true ∨ c = 45) := by
  obtain ⟨R, hR, hy⟩ := one_some h
  simp only [List.mem_cons, List.not_mem_nil, or_false] at hR
  rcases hR with rfl | rfl
  · obtain ⟨c, u, hs, hc⟩ := digits_first hy
    exact ⟨c, u, hs, Or.inl hc⟩
  · obtain ⟨p, hp⟩ := changed_some hy
    obtain ⟨t, ht⟩ := after_some hp
    exact ⟨45, t, ht, Or.inr rfl⟩
theorem quoted_first {s : Bytes} {y : Bytes × Bytes} (h : quotedR s = some y) : ∃ u, s = 34 :: u := by
  obtain ⟨p, hp⟩ := changed_some h
  exact after_some hp

theorem not_dig {c d : UInt8} (hc : isDig c = true) (hd : isDig d = false) : d ≠ c := by
  rintro rfl
  rw [hc] at hd
  cases hd

def numL : Bytes → Option (Leaf × Bytes) := changedR numberR (fun n => some (.inr (.inl n)))
def txtL : Bytes → Option (Leaf × Bytes) := changedR quotedR (fun t => some (.inr (.inr t)))
def nulL : Bytes → Option (Leaf × Bytes) := wordR [110, 117, 108, 108] (.inl none)
def truL : Bytes → Option (Leaf × Bytes) := wordR [116, 114, 117, 101] (.inl (some true))
def falL : Bytes → Option (Leaf × Bytes) := wordR [102, 97, 108, 115, 101] (.inl (some false))

theorem numL_first {s : Bytes} {y : Leaf × Bytes} (h : numL s = some y) : ∃ c u, s = c :: u ∧ (isDig c = true ∨ c = 45) := by
  obtain ⟨p, hp⟩ := changed_some h
  exact number_first hp
theorem txtL_first {s : Bytes} {y : Leaf × Bytes} (h : txtL s = some y) : ∃ u, s = 34 :: u := by
  obtain ⟨p, hp⟩ := changed_some h
  exact quoted_first hp
theorem two_first {s : Bytes} {y : Leaf × Bytes} (h : oneOfR [numL, txtL] s = some y) : ∃ c u, s = c :: u ∧ c ≠ 110 ∧ c ≠ 116 ∧ c ≠ 102 := by
  obtain ⟨R, hR, hy⟩ := one_some h
  simp only [List.mem_cons, List.not_mem_nil, or_false] at hR
  rcases hR with rfl | rfl
  · obtain ⟨c, u, hs, hc⟩ := numL_first hy
    refine ⟨c, u, hs, ?_⟩
    rcases hc with hc | rfl
    · exact ⟨(not_dig hc rfl).symm, (not_dig hc rfl).symm, (not_dig hc rfl).symm⟩
    · decide
  · obtain ⟨u, hs⟩ := txtL_first hy
    exact ⟨34, u, hs, by decide⟩

theorem number_34 (u : Bytes) : numberR (34 :: u) = none := by
  unfold numberR
  rw [oneOfR, digits_none 34 u rfl]
  simp only
  rw [oneOfR]
  unfold changedR
  rw [after_none 45 digitsR 34 u (by decide)]
  rfl

theorem ext_simple (q : Bytes) (hq : Ends q) : Ext q simpleR := by
  show Ext q (oneOfR [nulL, truL, falL, numL, txtL])
  have e5 : Ext q (oneOfR [txtL]) := ext_cons (ext_changed (ext_quoted q)) (ext_nil q) (fun _ _ _ h => by cases h)
  have e4 : Ext q (oneOfR [numL, txtL]) := ext_cons (ext_changed (ext_number q hq)) e5 (by
    intro s y _ h
    obtain ⟨R, hR, hy⟩ := one_some h
    simp only [List.mem_singleton] at hR
    subst hR
    obtain ⟨u, rfl⟩ := txtL_first hy
    unfold numL changedR
    rw [List.cons_append, number_34])
  have e3 : Ext q (oneOfR [falL, numL, txtL]) := ext_cons (ext_word q _ _) e4 (by
    intro s y _ h
    obtain ⟨c, u, rfl, _, _, h3⟩ := two_first h
    exact word_none 102 _ _ c _ h3.symm)
  have f3 : ∀ s y, oneOfR [falL, numL, txtL] s = some y → ∃ c u, s = c :: u ∧ c ≠ 110 ∧ c ≠ 116 := fun s y h => by
    rw [oneOfR] at h
    cases hs : falL s with
    | none =>
      rw [hs] at h
      obtain ⟨c, u, h1, h2, h3, _⟩ := two_first h
      exact ⟨c, u, h1, h2, h3⟩
    | some z =>
      obtain ⟨u, hu⟩ := word_first hs
      exact ⟨102, u, hu, by decide, by decide⟩
  have e2 : Ext q (oneOfR [truL, falL, numL, txtL]) := ext_cons (ext_word q _ _) e3 (by
    intro s y _ h
    obtain ⟨c, u, rfl, _, h3⟩ := f3 s y h
    exact word_none 116 _ _ c _ h3.symm)
  refine ext_cons (ext_word q _ _) e2 ?_
  intro s y _ h
  rw [oneOfR] at h
  cases hs : truL s with
  | none =>
    rw [hs] at h
    obtain ⟨c, u, rfl, h2, _⟩ := f3 s y h
    exact word_none 110 _ _ c _ h2.symm
  | some z =>
    obtain ⟨u, rfl⟩ := word_first hs
    exact word_none 110 _ _ 116 _ (by decide)

theorem needs_simple : Needs simpleR := by
  have h1 : numberR [] = none := by
    unfold numberR
    rw [oneOfR, show digitsR [] = none from needs_digits]
    rfl
  unfold Needs simpleR
  simp only [oneOfR, changedR, h1]
  rfl

/-- R reads nothing out of blanks. -/
def Wakes {α : Type} (R : Bytes → Option (α × Bytes)) : Prop := ∀ s y, R s = some y → skipB s ≠ []
theorem wakes_padded {α : Type} {R : Bytes → Option (α × Bytes)} (hN : Needs R) : Wakes (paddedR R) := by
  intro s y h e
  unfold paddedR at h
  rw [e, hN] at h
  cases h
theorem ext_bracket {α : Type} {q : Bytes} (a b : UInt8) {R : Bytes → Option (α × Bytes)} (hR : Ext q R) (hW : Wakes R) : Ext q (listR [a] [b] R) := by
  have hn : Needs (afterR [44] R) := rfl
  refine ext_after (ext_cons (ext_padded (ext_word q [b] []) rfl) (ext_cons (ext_both hR (ext_untilF (ext_after hR) hn) (until_nil hn _)) (ext_nil q) (fun _ _ _ h => by cases h)) ?_)
  intro s y h0 h
  obtain ⟨S, hS, hy⟩ := one_some h
  simp only [List.mem_singleton] at hS
  subst hS
  obtain ⟨p, hp⟩ := both_some hy
  have hw := hW s p hp
  unfold paddedR at h0 ⊢
  rw [skip_append, if_neg hw]
  cases hs : skipB s with
  | nil => exact absurd hs hw
  | cons c t =>
    rw [hs] at h0
    unfold wordR at h0 ⊢
    rw [List.cons_append, prefix_one]
    rw [prefix_one] at h0
    by_cases hbc : (b == c) = true
    · rw [if_pos hbc] at h0
      cases h0
    · rw [if_neg hbc]
theorem ext_map {α β : Type} {q : Bytes} {f : α → β} {R : Bytes → Option (α × Bytes)} (hR : Ext q R) : Ext q (mapR f R) := by
  intro s y r h
  unfold mapR at h ⊢
  cases hs : R s with
  | none => rw [hs] at h; cases h
  | some p =>
    obtain ⟨x, r0⟩ := p
    rw [hs] at h
    simp only [Option.map_some, Option.some.injEq, Prod.mk.injEq] at h
    obtain ⟨r', h1, h2⟩ := hR s x r0 hs
    exact ⟨r', by rw [h1]; simp only [Option.map_some, h.1], by rw [← h.2]; exact h2⟩
theorem ext_member {α : Type} {q : Bytes} {R : Bytes → Option (α × Bytes)} (hR : Ext q R) : Ext q (memberR quotedR R) :=
  ext_both (ext_padded (ext_quoted q) rfl) (ext_after hR) rfl
theorem wakes_member {α : Type} {R : Bytes → Option (α × Bytes)} : Wakes (memberR quotedR R) := by
  intro s y h
  obtain ⟨p, hp⟩ := both_some h
  exact wakes_padded (R := quotedR) rfl s p hp

theorem ext_node {α : Type} {q : Bytes} (hq : Ends q) {R : Bytes → Option (α × Bytes)} (hR : Ext q R) (hW : Wakes R) : Ext q (nodeR R) := by
  refine ext_cons (ext_map (ext_simple q hq)) (ext_cons (ext_changed (ext_bracket 91 93 hR hW)) (ext_cons (ext_changed (ext_bracket 123 125 (ext_member hR) wakes_member)) (ext_nil q) (fun _ _ _ h => by cases h)) ?_) ?_
  · intro s y _ h
    obtain ⟨S, hS, hy⟩ := one_some h
    simp only [List.mem_singleton] at hS
    subst hS
    obtain ⟨p, hp⟩ := changed_some hy
    obtain ⟨t, rfl⟩ := after_some hp
    unfold arrayR changedR
    rw [List.cons_append]
    unfold listR
    rw [after_none 91 _ 123 _ (by decide)]
  · intro s y _ h
    obtain ⟨S, hS, hy⟩ := one_some h
    have hs : ∃ c t, s = c :: t ∧ (c = 91 ∨ c = 123) := by
      simp only [List.mem_cons, List.not_mem_nil, or_false] at hS
      rcases hS with rfl | rfl
      · obtain ⟨p, hp⟩ := changed_some hy
        obtain ⟨t, ht⟩ := after_some hp
        exact ⟨91, t, ht, Or.inl rfl⟩
      · obtain ⟨p, hp⟩ := changed_some hy
        obtain ⟨t, ht⟩ := after_some hp
        exact ⟨123, t, ht, Or.inr rfl⟩
    obtain ⟨c, t, rfl, hc⟩ := hs
    unfold mapR
    rw [List.cons_append, simple_none c _ hc]
    rfl
theorem needs_node {α : Type} (R : Bytes → Option (α × Bytes)) : Needs (nodeR R) := by
  unfold Needs nodeR mapR
  rw [oneOfR, show simpleR [] = none from needs_simple]
  rfl

theorem ext_val (q : Bytes) (hq : Ends q) : ∀ d, Ext q (valR d) ∧ Wakes (valR d)
  | 0 => ⟨ext_padded (ext_simple q hq) needs_simple, wakes_padded needs_simple⟩
  | d + 1 => ⟨ext_padded (ext_node hq (ext_val q hq d).1 (ext_val q hq d).2) (needs_node _), wakes_padded (needs_node _)⟩

theorem val_skip : ∀ (d : Nat) (s : Bytes), valR d (skipB s) = valR d s
  | 0, s => by unfold valR paddedR; rw [skip_skip]
  | d + 1, s => by unfold valR paddedR; rw [skip_skip]
theorem val_rest (d : Nat) {s : Bytes} {x : JT d} {r : Bytes} (h : valR d s = some (x, r)) : skipB r = r := by
  have : ∀ {α : Type} (R : Bytes → Option (α × Bytes)) (x : α), paddedR R s = some (x, r) → skipB r = r := fun R x h => by
    unfold paddedR at h
    cases hs : R (skipB s) with
    | none => rw [hs] at h; cases h
    | some p =>
      rw [hs] at h
      simp only [Option.some.injEq, Prod.mk.injEq] at h
      rw [← h.2, skip_skip]
  cases d with
  | zero => exact this _ _ h
  | succ d => exact this _ _ h

/-- Blanks around change nothing. -/
theorem read_around (s : Bytes) (x : JT 8) (h : readF s = some x) : readF ([10, 9] ++ s ++ [13, 32]) = some x := by
  have hv : valR 8 s = some (x, []) := by
    unfold readF at h
    split at h
    · rename_i y hy
      simp only [Option.some.injEq] at h
      rw [hy, h]
    · cases h
  obtain ⟨r', h1, h2⟩ := (ext_val [13, 32] ⟨13, [32], rfl, Or.inl rfl⟩ 8).1 s x [] hv
  have hr := val_rest 8 h1
  have e : r' = [] := by
    rcases h2 with rfl | ⟨_, rfl⟩
    · exact hr.symm
    · rfl
  have e2 : valR 8 ([10, 9] ++ s ++ [13, 32]) = valR 8 (s ++ [13, 32]) := by
    rw [← val_skip 8 ([10, 9] ++ s ++ [13, 32]), ← val_skip 8 (s ++ [13, 32])]
    rfl
  unfold readF
  rw [e2, h1, e]
end Go.Proofs.YtgaddifabjoliaaGreatDoor
