import Derived.Test.YtgaddifabjoliaaGreatDoorKitB
namespace Go.Proofs.YtgaddifabjoliaaGreatDoor
open Go.RowKit

set_option maxHeartbeats 1000000 in
theorem both_runes3_reads {α β γ : Type} (repA : Rep α) (repB : Rep β) (repC : Rep γ) (g h j : Nat) (lb lc ld : Array Value) (R : Bytes → Option (α × Bytes)) (S : Bytes → Option (β × Bytes)) (f : α → β → Option γ) (b c d : Nat) (w : World) (hb : w.cell? ⟨b, 0, none⟩ = some (.func (.func g) #[] lb)) (hc : w.cell? ⟨c, 0, none⟩ = some (.func (.func h) #[] lc)) (hd : w.cell? ⟨d, 0, none⟩ = some (.func (.func j) #[] ld)) (hR : Reads g lb repA (.int .i32 0) R w) (hS : Reads h lc repB (.int .i32 0) S w) (hJ : Joins j ld repA repB repC f w) :
    Reads 102 #[.pointer (some ⟨b, 0, none⟩), .pointer (some ⟨c, 0, none⟩), .pointer (some ⟨d, 0, none⟩)] repC (.int .i32 0) (bothR R S f) w := by
  refine ⟨enters_of Tryz.func102 (by kernel_rfl) rfl, shrinks_both _ hR.2.1 hS.2.1, ?_⟩
  intro W s hW hs
  have hWb : ∀ w1, Below W.heap.size W w1 → w1.cell? ⟨b, 0, none⟩ = some (.func (.func g) #[] lb) := fun w1 h1 => ((up hW h1).cell (p := ⟨b, 0, none⟩) (World.block_lt_of_cell? w _ hb)).trans hb
  have hWc : ∀ w1, Below W.heap.size W w1 → w1.cell? ⟨c, 0, none⟩ = some (.func (.func h) #[] lc) := fun w1 h1 => ((up hW h1).cell (p := ⟨c, 0, none⟩) (World.block_lt_of_cell? w _ hc)).trans hc
  have hWd : ∀ w1, Below W.heap.size W w1 → w1.cell? ⟨d, 0, none⟩ = some (.func (.func j) #[] ld) := fun w1 h1 => ((up hW h1).cell (p := ⟨d, 0, none⟩) (World.block_lt_of_cell? w _ hd)).trans hd
  have hb0 := hWb W (Below.refl _ _)
  have HWC := hide hWc
  have HWD := hide hWd
  have HR := hide hR
  have HS := hide hS
  have HJ := hide hJ
  have HW := hide hW
  have eg : ∀ args w, (callFunc g args).run Tryz.prog w = .ok (.enter g args) w := hR.1
  have eh : ∀ args w, (callFunc h args).run Tryz.prog w = .ok (.enter h args) w := hS.1
  have ej : ∀ args w, (callFunc j args).run Tryz.prog w = .ok (.enter j args) w := hJ.1
  clear hb hc hd hW hR hS hJ hWb hWc hWd
  go_enter Tryz.func102, Tryz.ntmps102
  go_wp2_with fail
  refine ((unhide HR).2.2 _ s (unhide HW) hs).mono ?_
  intro e w1 hgot
  obtain ⟨b1, hgot⟩ := hgot
  rcases hgot with ⟨hn, rfl⟩ | ⟨x, q, v, hn, hrep, rfl⟩
  · have HN := hide hn
    clear hn
    go_wp2_with (go_at_call 99; refine (fail_rune _).mono ?_)
    rintro e w2 ⟨rfl, rfl⟩
    go_wp2
    go_ret3
    refine ⟨b1, Or.inl ⟨?_, rfl⟩⟩
    unfold bothR
    rw [unhide HN]
  · have hq := (unhide HR).2.1 _ _ _ hn
    have hqs : (⟨q.toArray⟩ : ByteArray).size ≤ 4000 := by
      have h2 := text_size (rfl : s.data.toList = s.data.toList)
      show q.length ≤ 4000
      omega
    have HN := hide hn
    have hc1 := unhide HWC w1 b1
    have HB1 := hide (up (unhide HW) b1)
    have HREP := hide hrep
    clear hn hq hrep
    go_wp2_with fail
    refine ((unhide HS).2.2 _ ⟨q.toArray⟩ (unhide HB1) hqs).mono ?_
    intro e w2 hgot
    obtain ⟨b2, hgot⟩ := hgot
    have bb2 := up b1 b2
    rcases hgot with ⟨hm, rfl⟩ | ⟨y, q2, u, hm, hrepu, rfl⟩
    · have HM := hide hm
      clear hm
      go_wp2_with (go_at_call 99; refine (fail_rune _).mono ?_)
      rintro e w3 ⟨rfl, rfl⟩
      go_wp2
      go_ret3
      refine ⟨bb2, Or.inl ⟨?_, rfl⟩⟩
      unfold bothR
      rw [unhide HN]
      simp only [unhide HM]
    · have HM := hide hm
      have hd2 := unhide HWD w2 bb2
      have HB2 := hide (up (unhide HW) bb2)
      have HREPU := hide (repB.antiB hrepu b1.size)
      have HREP2 := hide (repA.stays (unhide HREP) (above_of_below b2))
      clear hm hrepu
      go_wp2_with fail
      refine ((unhide HJ).2 _ W.heap.size x _ y u (unhide HB2) bb2.size (unhide HREP2) (unhide HREPU)).mono ?_
      intro e w3 hmade
      obtain ⟨b3, hmade⟩ := hmade
      rcases hmade with ⟨hf, t, _, rfl⟩ | ⟨z, t, hf, hrept, rfl⟩
      · have HF := hide hf
        clear hf
        go_wp2_with (go_at_call 99; refine (fail_rune _).mono ?_)
        rintro e w4 ⟨rfl, rfl⟩
        go_wp2
        go_ret3
        refine ⟨bb2.trans b3, Or.inl ⟨?_, rfl⟩⟩
        unfold bothR
        rw [unhide HN]
        simp only [unhide HM, unhide HF]
      · have HF := hide hf
        clear hf
        go_wp2
        go_ret3
        refine ⟨bb2.trans b3, Or.inr ⟨z, q2, t, ?_, hrept, rfl⟩⟩
        unfold bothR
        rw [unhide HN]
        simp only [unhide HM, unhide HF]

set_option maxHeartbeats 400000 in
theorem both_runes3 {α β γ : Type} (repA : Rep α) (repB : Rep β) (repC : Rep γ) (g h j : Nat) (lb lc ld : Array Value) (R : Bytes → Option (α × Bytes)) (S : Bytes → Option (β × Bytes)) (f : α → β → Option γ) (w : World) (hR : Reads g lb repA (.int .i32 0) R w) (hS : Reads h lc repB (.int .i32 0) S w) (hJ : Joins j ld repA repB repC f w) :
    Calls Tryz.prog 47 #[.func (.func g) #[] lb, .func (.func h) #[] lc, .func (.func j) #[] ld] w fun e w' => Below w.heap.size w w' ∧ ∃ l, e = .returned (.func (.func 102) #[] l) ∧ Reads 102 l repC (.int .i32 0) (bothR R S f) w' := by
  have hmf := mf
  have HR := hide hR
  have HS := hide hS
  have HJ := hide hJ
  clear hR hS hJ
  go_enter Tryz.func47, Tryz.ntmps47
  go_wp2
  go_ret
  have hbel := (((Below.refl _ w).alloc (Nat.le_refl _) (.cells #[.func (.func g) #[] lb] 96)).alloc (by simp) (.cells #[.func (.func h) #[] lc] 96)).alloc (by simp; omega) (.cells #[.func (.func j) #[] ld] 101)
  refine ⟨hbel, _, rfl, both_runes3_reads repA repB repC g h j lb lc ld R S f _ _ _ _ ?_ ?_ ?_ ((unhide HR).later hbel) ((unhide HS).later hbel) ((unhide HJ).later hbel)⟩
  · exact (cells_three w _ _ _ _ _ _).1
  · exact (cells_three w _ _ _ _ _ _).2.1
  · exact (cells_three w _ _ _ _ _ _).2.2

end Go.Proofs.YtgaddifabjoliaaGreatDoor
