import Derived.Test.YtgaddifabjoliaaGreatDoorCtor
namespace Go.Proofs.YtgaddifabjoliaaGreatDoor
open Go.RowKit

def shortR : Bytes → Option (Int × Bytes) := oneOfR [wordR [92, 34] 34, wordR [92, 92] 92, wordR [92, 47] 47, wordR [92, 98] 8, wordR [92, 102] 12, wordR [92, 110] 10, wordR [92, 114] 13, wordR [92, 116] 9]

theorem short_one (w : World) (l0 l1 l2 l3 l4 l5 l6 l7 : Array Value) (h0 : Reads 148 l0 repI32 (.int .i32 0) (wordR [92, 34] 34) w) (h1 : Reads 148 l1 repI32 (.int .i32 0) (wordR [92, 92] 92) w) (h2 : Reads 148 l2 repI32 (.int .i32 0) (wordR [92, 47] 47) w) (h3 : Reads 148 l3 repI32 (.int .i32 0) (wordR [92, 98] 8) w) (h4 : Reads 148 l4 repI32 (.int .i32 0) (wordR [92, 102] 12) w) (h5 : Reads 148 l5 repI32 (.int .i32 0) (wordR [92, 110] 10) w) (h6 : Reads 148 l6 repI32 (.int .i32 0) (wordR [92, 114] 13) w) (h7 : Reads 148 l7 repI32 (.int .i32 0) (wordR [92, 116] 9) w) :
    Calls Tryz.prog 52 #[.slice (some ⟨w.heap.size, 0, none⟩) 8 8] (w.alloc (.cells #[.func (.func 148) #[] l0, .func (.func 148) #[] l1, .func (.func 148) #[] l2, .func (.func 148) #[] l3, .func (.func 148) #[] l4, .func (.func 148) #[] l5, .func (.func 148) #[] l6, .func (.func 148) #[] l7] 96))
      fun e w' => Below w.heap.size w w' ∧ ∃ lb, e = .returned (.func (.func 108) #[] lb) ∧ Reads 108 lb repI32 (.int .i32 0) shortR w' := by
  have hc := choices_alloc (w := w) (T := 96) (rep := repI32) (z := .int .i32 0) (cs := [(148, l0, wordR [92, 34] 34), (148, l1, wordR [92, 92] 92), (148, l2, wordR [92, 47] 47), (148, l3, wordR [92, 98] 8), (148, l4, wordR [92, 102] 12), (148, l5, wordR [92, 110] 10), (148, l6, wordR [92, 114] 13), (148, l7, wordR [92, 116] 9)]) (by
    intro c hc
    simp only [List.mem_cons, List.not_mem_nil, or_false] at hc
    rcases hc with rfl | rfl | rfl | rfl | rfl | rfl | rfl | rfl
    · exact h0
    · exact h1
    · exact h2
    · exact h3
    · exact h4
    · exact h5
    · exact h6
    · exact h7
    )
  refine (oneOf_rune repI32 w.heap.size 0 8 _ _ (by simp) hc).mono ?_
  rintro e w' ⟨hb, lb, he, hr⟩
  exact ⟨up ((Below.refl _ w).alloc (Nat.le_refl _) _) hb, lb, he, hr⟩

set_option maxHeartbeats 1000000 in
theorem shortEscape_gives (w : World) : Calls Tryz.prog 54 #[] w fun e w' => Below w.heap.size w w' ∧ ∃ lb, e = .returned (.func (.func 108) #[] lb) ∧ Reads 108 lb repI32 (.int .i32 0) shortR w' := by
  have hmf := mf
  go_enter Tryz.func54, Tryz.ntmps54
  go_wp2_with (go_at_call 110; refine (gave (word_rune _ _ _)).mono ?_)
  intro e w0 hgave
  obtain ⟨b, l0, rfl, hr⟩ := hgave
  have B0 := hide b
  have HR0 := hide hr
  clear b hr
  go_wp2_with (go_at_call 110; refine (gave (word_rune _ _ _)).mono ?_)
  intro e w1 hgave
  obtain ⟨b, l1, rfl, hr⟩ := hgave
  have B1 := hide b
  have HR1 := hide hr
  clear b hr
  go_wp2_with (go_at_call 110; refine (gave (word_rune _ _ _)).mono ?_)
  intro e w2 hgave
  obtain ⟨b, l2, rfl, hr⟩ := hgave
  have B2 := hide b
  have HR2 := hide hr
  clear b hr
  go_wp2_with (go_at_call 110; refine (gave (word_rune _ _ _)).mono ?_)
  intro e w3 hgave
  obtain ⟨b, l3, rfl, hr⟩ := hgave
  have B3 := hide b
  have HR3 := hide hr
  clear b hr
  go_wp2_with (go_at_call 110; refine (gave (word_rune _ _ _)).mono ?_)
  intro e w4 hgave
  obtain ⟨b, l4, rfl, hr⟩ := hgave
  have B4 := hide b
  have HR4 := hide hr
  clear b hr
  go_wp2_with (go_at_call 110; refine (gave (word_rune _ _ _)).mono ?_)
  intro e w5 hgave
  obtain ⟨b, l5, rfl, hr⟩ := hgave
  have B5 := hide b
  have HR5 := hide hr
  clear b hr
  go_wp2_with (go_at_call 110; refine (gave (word_rune _ _ _)).mono ?_)
  intro e w6 hgave
  obtain ⟨b, l6, rfl, hr⟩ := hgave
  have B6 := hide b
  have HR6 := hide hr
  clear b hr
  go_wp2_with (go_at_call 110; refine (gave (word_rune _ _ _)).mono ?_)
  intro e w7 hgave
  obtain ⟨b, l7, rfl, hr⟩ := hgave
  have B7 := hide b
  have HR7 := hide hr
  clear b hr
  go_wp2_with (go_at_call 52; refine (gave2 (short_one w7 l0 l1 l2 l3 l4 l5 l6 l7 ((((((((unhide HR0).later (unhide B1)).later (unhide B2)).later (unhide B3)).later (unhide B4)).later (unhide B5)).later (unhide B6)).later (unhide B7)) (((((((unhide HR1).later (unhide B2)).later (unhide B3)).later (unhide B4)).later (unhide B5)).later (unhide B6)).later (unhide B7)) ((((((unhide HR2).later (unhide B3)).later (unhide B4)).later (unhide B5)).later (unhide B6)).later (unhide B7)) (((((unhide HR3).later (unhide B4)).later (unhide B5)).later (unhide B6)).later (unhide B7)) ((((unhide HR4).later (unhide B5)).later (unhide B6)).later (unhide B7)) (((unhide HR5).later (unhide B6)).later (unhide B7)) ((unhide HR6).later (unhide B7)) (unhide HR7))).mono ?_)
  intro e w8 hgave
  obtain ⟨b, l8, rfl, hr⟩ := hgave
  have B8 := hide (up (up (up (up (up (up (up (up (unhide B0) (unhide B1)) (unhide B2)) (unhide B3)) (unhide B4)) (unhide B5)) (unhide B6)) (unhide B7)) b)
  have HR8 := hide hr
  clear b hr
  go_wp2
  go_ret
  exact ⟨unhide B8, l8, rfl, unhide HR8⟩
end Go.Proofs.YtgaddifabjoliaaGreatDoor
