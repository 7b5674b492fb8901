import Derived.Test.YtgaddifabjoliaaGreatDoorCtor2
namespace Go.Proofs.YtgaddifabjoliaaGreatDoor
open Go.RowKit

theorem strict_word {α : Type} {text : Bytes} (x : α) (h : text ≠ []) : Strict (wordR text x) := by
  intro s y r e
  unfold wordR at e
  split at e
  · rename_i hp
    simp at e; obtain ⟨_, rfl⟩ := e
    have h1 := (List.isPrefixOf_iff_prefix.1 hp).length_le
    have h2 : 0 < text.length := List.length_pos_iff.2 h
    simp; omega
  · simp at e
theorem strict_after {α : Type} {text : Bytes} {R : Bytes → Option (α × Bytes)} (h : text ≠ []) (hR : Shrinks R) : Strict (afterR text R) := by
  intro s y r e
  unfold afterR at e
  split at e
  · rename_i hp
    have h1 := (List.isPrefixOf_iff_prefix.1 hp).length_le
    have h2 : 0 < text.length := List.length_pos_iff.2 h
    have h3 := hR _ _ _ e
    simp at h3; omega
  · simp at e
theorem strict_oneOf {α : Type} : ∀ (l : List (Bytes → Option (α × Bytes))), (∀ R ∈ l, Strict R) → Strict (oneOfR l)
  | [], _ => by intro s y r h; simp [oneOfR] at h
  | R :: l, hl => by
    intro s y r h
    unfold oneOfR at h
    cases hR : R s with
    | none => rw [hR] at h; exact strict_oneOf l (fun S hS => hl S (by simp [hS])) s y r h
    | some z => rw [hR] at h; simp at h; subst h; exact hl R (by simp) s _ _ hR
theorem strict_changed {α β : Type} {R : Bytes → Option (α × Bytes)} (f : α → Option β) (hR : Strict R) : Strict (changedR R f) := by
  intro s y r h
  unfold changedR at h
  cases h1 : R s with
  | none => rw [h1] at h; simp at h
  | some z =>
    obtain ⟨x, q⟩ := z
    rw [h1] at h
    cases h2 : f x with
    | none => simp [h2] at h
    | some u => simp [h2] at h; obtain ⟨_, rfl⟩ := h; exact hR _ _ _ h1
theorem strict_both {α β γ : Type} {R : Bytes → Option (α × Bytes)} {S : Bytes → Option (β × Bytes)} (f : α → β → Option γ) (hR : Strict R) (hS : Shrinks S) : Strict (bothR R S f) := by
  intro s y r h
  unfold bothR at h
  cases h1 : R s with
  | none => rw [h1] at h; simp at h
  | some z =>
    obtain ⟨x, q⟩ := z
    rw [h1] at h
    simp only at h
    cases h2 : S q with
    | none => simp [h2] at h
    | some t =>
      obtain ⟨u, q2⟩ := t
      rw [h2] at h
      simp only at h
      cases h3 : f x u with
      | none => simp [h3] at h
      | some v => simp [h3] at h; obtain ⟨_, rfl⟩ := h; have := hR _ _ _ h1; have := hS _ _ _ h2; omega
theorem strict_padded {α : Type} {R : Bytes → Option (α × Bytes)} (hR : Strict R) : Strict (paddedR R) := by
  intro s y r h
  unfold paddedR at h
  cases h1 : R (skipB s) with
  | none => rw [h1] at h; simp at h
  | some z =>
    obtain ⟨x, q⟩ := z
    rw [h1] at h
    simp at h
    obtain ⟨_, rfl⟩ := h
    have a := hR _ _ _ h1
    have b := skipB_length s
    have c := skipB_length q
    omega
theorem Strict.shrinks {α : Type} {R : Bytes → Option (α × Bytes)} (h : Strict R) : Shrinks R := fun s x r e => Nat.le_of_lt (h s x r e)

theorem decodeN_pos (n b0 b1 b2 b3 : Nat) : 1 ≤ (Lib.decodeN n b0 b1 b2 b3).2 := by
  unfold Lib.decodeN
  repeat' split
  all_goals simp
theorem strict_plain : Strict plainR := by
  intro s x r h
  unfold plainR at h
  split at h
  · simp at h
  · rename_i hb
    simp at h; obtain ⟨_, rfl⟩ := h
    have hne : s ≠ [] := by
      rintro rfl
      apply hb
      exact Or.inl ⟨rfl, by decide⟩
    have hl : 0 < s.length := List.length_pos_iff.2 hne
    have h1 : 1 ≤ (decL s).2 := by
      have e : (⟨s.toArray⟩ : ByteArray).size = s.length := by show s.toArray.size = s.length; simp
      unfold decL Lib.decodeGo
      rw [if_neg (by omega), Lib.decode_at]
      exact decodeN_pos _ _ _ _ _
    simp; omega

def unitR : Bytes → Option (Int × Bytes) := afterR [92, 117] fourR
def itemR : Bytes → Option (Int × Bytes) := oneOfR [plainR, shortR, changedR unitR wholeF, bothR unitR unitR pairedF]
def quotedR : Bytes → Option (Bytes × Bytes) := changedR (afterR [34] (untilF [34] itemR)) (fun l => some (runesF l))

theorem shrinks_four : Shrinks fourR := (fourHex_reads default).2.1
theorem strict_unit : Strict unitR := strict_after (by simp) shrinks_four
theorem strict_short : Strict shortR := by
  refine strict_oneOf _ ?_
  intro R hR
  simp only [List.mem_cons, List.not_mem_nil, or_false] at hR
  rcases hR with rfl | rfl | rfl | rfl | rfl | rfl | rfl | rfl <;> exact strict_word _ (by simp)
theorem strict_item : Strict itemR := by
  refine strict_oneOf _ ?_
  intro R hR
  simp only [List.mem_cons, List.not_mem_nil, or_false] at hR
  rcases hR with rfl | rfl | rfl | rfl
  · exact strict_plain
  · exact strict_short
  · exact strict_changed _ strict_unit
  · exact strict_both _ strict_unit strict_unit.shrinks
theorem shrinks_quoted : Shrinks quotedR := shrinks_changed _ (shrinks_after _ (shrinks_untilF _ strict_item.shrinks))
theorem strict_quoted : Strict quotedR := strict_changed _ (strict_after (by simp) (shrinks_untilF _ strict_item.shrinks))

theorem item_one (w : World) (l0 l1 l2 : Array Value) (hT : Lib.Utf8Tabs 2 3 w) (h0 : Reads 108 l0 repI32 (.int .i32 0) shortR w) (h1 : Reads 101 l1 repI32 (.int .i32 0) (changedR unitR wholeF) w) (h2 : Reads 102 l2 repI32 (.int .i32 0) (bothR unitR unitR pairedF) w) :
    Calls Tryz.prog 52 #[.slice (some ⟨w.heap.size, 0, none⟩) 4 4] (w.alloc (.cells #[.func (.func 53) #[] #[], .func (.func 108) #[] l0, .func (.func 101) #[] l1, .func (.func 102) #[] l2] 96))
      fun e w' => Below w.heap.size w w' ∧ ∃ lb, e = .returned (.func (.func 108) #[] lb) ∧ Reads 108 lb repI32 (.int .i32 0) itemR w' := by
  have hc := choices_alloc (w := w) (T := 96) (rep := repI32) (z := .int .i32 0) (cs := [(53, #[], plainR), (108, l0, shortR), (101, l1, changedR unitR wholeF), (102, l2, bothR unitR unitR pairedF)]) (by
    intro c hc
    simp only [List.mem_cons, List.not_mem_nil, or_false] at hc
    rcases hc with rfl | rfl | rfl | rfl
    · exact plainRune_reads w hT
    · exact h0
    · exact h1
    · exact h2)
  refine (oneOf_rune repI32 w.heap.size 0 4 _ _ (by simp) hc).mono ?_
  rintro e w' ⟨hb, lb, he, hr⟩
  exact ⟨up ((Below.refl _ w).alloc (Nat.le_refl _) _) hb, lb, he, hr⟩

set_option maxHeartbeats 1000000 in
theorem quoted_gives (w : World) (hT : Lib.Utf8Tabs 2 3 w) : Calls Tryz.prog 17 #[] w fun e w' => Below w.heap.size w w' ∧ ∃ lb, e = .returned (.func (.func 103) #[] lb) ∧ Reads 103 lb repText (.string ⟨#[]⟩) quotedR w' := by
  have hmf := mf
  have HT := hide hT
  clear hT
  go_enter Tryz.func17, Tryz.ntmps17
  go_wp2_with (go_at_call 43; refine (gave (after_rune repI32 ⟨#[92, 117]⟩ _ #[] fourR _ (fourHex_reads _))).mono ?_)
  intro e w1 hgave
  obtain ⟨b, l1, rfl, hr⟩ := hgave
  have B1 := hide b
  have HR1 := hide hr
  clear b hr
  go_wp2_with (go_at_call 45; refine (gave (changed_rune_rune repI32 repI32 _ _ l1 #[] _ _ _ (unhide HR1) (wholeRune_makes _))).mono ?_)
  intro e w2 hgave
  obtain ⟨b, l2, rfl, hr⟩ := hgave
  have B2 := hide b
  have HR2 := hide hr
  have HR1' := hide ((unhide HR1).later b)
  clear b hr
  go_wp2_with (go_at_call 47; refine (gave (both_runes3 repI32 repI32 repI32 _ _ _ l1 l1 #[] _ _ _ _ (unhide HR1') (unhide HR1') (pairedRune_joins _))).mono ?_)
  intro e w3 hgave
  obtain ⟨b, l3, rfl, hr⟩ := hgave
  have B3 := hide b
  have HR3 := hide hr
  clear b hr
  go_wp2_with (go_at_call 54; refine (gave (shortEscape_gives _)).mono ?_)
  intro e w4 hgave
  obtain ⟨b, l4, rfl, hr⟩ := hgave
  have B4 := hide b
  have HR4 := hide hr
  clear b hr
  have BT := hide (up (up (up (unhide B1) (unhide B2)) (unhide B3)) (unhide B4))
  go_wp2_with (go_at_call 52; refine (gave2 (item_one w4 l4 l2 l3 (tabs_later (unhide HT) (unhide BT)) (unhide HR4) (((unhide HR2).later (unhide B3)).later (unhide B4)) ((unhide HR3).later (unhide B4)))).mono ?_)
  intro e w5 hgave
  obtain ⟨b, l5, rfl, hr⟩ := hgave
  have B5 := hide b
  have HR5 := hide hr
  clear b hr
  go_wp2_with (go_at_call 51; refine (gave (until_rune ⟨#[34]⟩ _ l5 _ strict_item _ (unhide HR5))).mono ?_)
  intro e w6 hgave
  obtain ⟨b, l6, rfl, hr⟩ := hgave
  have B6 := hide b
  have HR6 := hide hr
  clear b hr
  go_wp2_with (go_at_call 50; refine (gave (after_runes repRunes ⟨#[34]⟩ _ l6 _ _ (unhide HR6))).mono ?_)
  intro e w7 hgave
  obtain ⟨b, l7, rfl, hr⟩ := hgave
  have B7 := hide b
  have HR7 := hide hr
  clear b hr
  go_wp2_with (go_at_call 49; refine (gave (changed_runes_text repRunes repText _ _ l7 #[] _ _ _ (unhide HR7) (runesText_makes _))).mono ?_)
  intro e w8 hgave
  obtain ⟨b, l8, rfl, hr⟩ := hgave
  have B8 := hide b
  have HR8 := hide hr
  clear b hr
  go_wp2
  go_ret
  exact ⟨up (up (up (up (unhide BT) (unhide B5)) (unhide B6)) (unhide B7)) (unhide B8), l8, rfl, unhide HR8⟩
end Go.Proofs.YtgaddifabjoliaaGreatDoor
