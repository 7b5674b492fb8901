import Derived.Test.YtgaddifabjoliaaGreatDoorSAfters
namespace Go.Proofs.YtgaddifabjoliaaGreatDoor
open Go.RowKit

set_option maxHeartbeats 1000000 in
theorem both_value_list_reads {α β γ : Type} (repA : Rep α) (h5 : Fives repA) (repB : Rep β) (repC : Rep γ) (g h j : Nat) (lb lc ld : Array Value) (R : Bytes → Option (α × Bytes)) (S : Bytes → Option (β × Bytes)) (f : α → β → Option γ) (b c d : Nat) (w : World) (hb : w.cell? ⟨b, 0, none⟩ = some (.func (.func g) #[] lb)) (hc : w.cell? ⟨c, 0, none⟩ = some (.func (.func h) #[] lc)) (hd : w.cell? ⟨d, 0, none⟩ = some (.func (.func j) #[] ld)) (hR : Reads g lb repA (.agg #[.int .i64 0, .int .i64 0, .string ⟨#[]⟩, .slice none 0 0, .slice none 0 0]) R w) (hS : Reads h lc repB (.slice none 0 0) S w) (hJ : Joins j ld repA repB repC f w) :
    Reads 123 #[.pointer (some ⟨b, 0, none⟩), .pointer (some ⟨c, 0, none⟩), .pointer (some ⟨d, 0, none⟩)] repC (.slice none 0 0) (bothR R S f) w := by
  refine ⟨enters_of Tryz.func123 (by kernel_rfl) rfl, shrinks_both _ hR.2.1 hS.2.1, ?_⟩
  intro W s hW hs
  have hWb : ∀ w1, Below W.heap.size W w1 → w1.cell? ⟨b, 0, none⟩ = some (.func (.func g) #[] lb) := fun w1 h1 => ((up hW h1).cell (p := ⟨b, 0, none⟩) (World.block_lt_of_cell? w _ hb)).trans hb
  have hWc : ∀ w1, Below W.heap.size W w1 → w1.cell? ⟨c, 0, none⟩ = some (.func (.func h) #[] lc) := fun w1 h1 => ((up hW h1).cell (p := ⟨c, 0, none⟩) (World.block_lt_of_cell? w _ hc)).trans hc
  have hWd : ∀ w1, Below W.heap.size W w1 → w1.cell? ⟨d, 0, none⟩ = some (.func (.func j) #[] ld) := fun w1 h1 => ((up hW h1).cell (p := ⟨d, 0, none⟩) (World.block_lt_of_cell? w _ hd)).trans hd
  have hlc := World.block_lt_of_cell? w _ hc
  have hld := World.block_lt_of_cell? w _ hd
  have hsz := hW.size
  have hcW : c < W.heap.size := by simp at hlc; omega
  have hdW : d < W.heap.size := by simp at hld; omega
  have hb0 := hWb W (Below.refl _ _)
  have HWC := hide hWc
  have HWD := hide hWd
  have HR := hide hR
  have HS := hide hS
  have HJ := hide hJ
  have HW := hide hW
  have H5 := hide h5
  have eg : ∀ args w, (callFunc g args).run Tryz.prog w = .ok (.enter g args) w := hR.1
  have eh : ∀ args w, (callFunc h args).run Tryz.prog w = .ok (.enter h args) w := hS.1
  have ej : ∀ args w, (callFunc j args).run Tryz.prog w = .ok (.enter j args) w := hJ.1
  clear hb hc hd hW hR hS hJ hWb hWc hWd h5 hlc hld hsz
  go_enter Tryz.func123, Tryz.ntmps123
  go_wp2_with fail
  refine ((unhide HR).2.2 _ s (unhide HW) hs).mono ?_
  intro e w1 hgot
  obtain ⟨b1, hgot⟩ := hgot
  rcases hgot with ⟨hn, rfl⟩ | ⟨x, q, v, hn, hrep, rfl⟩
  · have HN := hide hn
    clear hn
    go_wp2_with (go_at_call 119; refine (fail_values _).mono ?_)
    rintro e w2 ⟨rfl, rfl⟩
    go_wp2
    go_ret3
    refine ⟨grow b1 _, Or.inl ⟨?_, rfl⟩⟩
    unfold bothR
    rw [unhide HN]
  · have hq := (unhide HR).2.1 _ _ _ hn
    have hqs : (⟨q.toArray⟩ : ByteArray).size ≤ 4000 := by
      have h2 := text_size (rfl : s.data.toList = s.data.toList)
      show q.length ≤ 4000
      omega
    have HN := hide hn
    have hc1 := unhide HWC w1 b1
    have hcw1 : c < w1.heap.size := Nat.lt_of_lt_of_le hcW b1.size
    obtain ⟨k1, k2, k3, k4, k5, k6, k7, k8, k9, hv⟩ := unhide H5 _ _ _ _ hrep
    subst hv
    have HREP := hide hrep
    clear hn hq hrep
    go_wp2_with fail
    refine ((unhide HS).2.2 _ ⟨q.toArray⟩ (up (unhide HW) (grow b1 _)) hqs).mono ?_
    intro e w2 hgot
    obtain ⟨b2, hgot⟩ := hgot
    obtain ⟨⟨q0, q1, q2, q3, q4⟩, qf, ql⟩ := box5 b2
    have bb2 := up (grow b1 _) b2
    have b12 := up ((Below.refl _ w1).alloc (Nat.le_refl _) _) b2
    rcases hgot with ⟨hm, rfl⟩ | ⟨y, q2, u, hm, hrepu, rfl⟩
    · have HM := hide hm
      clear hm
      go_wp2_with (go_at_call 119; refine (fail_values _).mono ?_)
      rintro e w3 ⟨rfl, rfl⟩
      go_wp2
      go_ret3
      refine ⟨bb2, Or.inl ⟨?_, rfl⟩⟩
      unfold bothR
      rw [unhide HN]
      simp only [unhide HM]
    · have HM := hide hm
      have hd2 := unhide HWD w2 bb2
      have HB2 := hide (up (unhide HW) bb2)
      have HREPU := hide (repB.antiB hrepu (grow b1 _).size)
      have HREP2 := hide (repA.stays (unhide HREP) (above_of_below b12))
      clear hm hrepu
      go_wp2_with fail
      refine ((unhide HJ).2 _ W.heap.size x _ y u (unhide HB2) bb2.size (unhide HREP2) (unhide HREPU)).mono ?_
      intro e w3 hmade
      obtain ⟨b3, hmade⟩ := hmade
      rcases hmade with ⟨hf, t, _, rfl⟩ | ⟨zz, t, hf, hrept, rfl⟩
      · have HF := hide hf
        clear hf
        go_wp2_with (go_at_call 119; refine (fail_values _).mono ?_)
        rintro e w4 ⟨rfl, rfl⟩
        go_wp2
        go_ret3
        refine ⟨bb2.trans b3, Or.inl ⟨?_, rfl⟩⟩
        unfold bothR
        rw [unhide HN]
        simp only [unhide HM, unhide HF]
      · have HF := hide hf
        clear hf
        go_wp2
        go_ret3
        refine ⟨bb2.trans b3, Or.inr ⟨zz, q2, t, ?_, hrept, rfl⟩⟩
        unfold bothR
        rw [unhide HN]
        simp only [unhide HM, unhide HF]

set_option maxHeartbeats 400000 in
theorem both_value_list {α β γ : Type} (repA : Rep α) (h5 : Fives repA) (repB : Rep β) (repC : Rep γ) (g h j : Nat) (lb lc ld : Array Value) (R : Bytes → Option (α × Bytes)) (S : Bytes → Option (β × Bytes)) (f : α → β → Option γ) (w : World) (hR : Reads g lb repA (.agg #[.int .i64 0, .int .i64 0, .string ⟨#[]⟩, .slice none 0 0, .slice none 0 0]) R w) (hS : Reads h lc repB (.slice none 0 0) S w) (hJ : Joins j ld repA repB repC f w) :
    Calls Tryz.prog 74 #[.func (.func g) #[] lb, .func (.func h) #[] lc, .func (.func j) #[] ld] w fun e w' => Below w.heap.size w w' ∧ ∃ l, e = .returned (.func (.func 123) #[] l) ∧ Reads 123 l repC (.slice none 0 0) (bothR R S f) w' := by
  have hmf := mf
  have HR := hide hR
  have HS := hide hS
  have HJ := hide hJ
  have H5 := hide h5
  clear hR hS hJ h5
  go_enter Tryz.func74, Tryz.ntmps74
  go_wp2
  go_ret
  have hbel := (((Below.refl _ w).alloc (Nat.le_refl _) (.cells #[.func (.func g) #[] lb] 42)).alloc (by simp) (.cells #[.func (.func h) #[] lc] 69)).alloc (by simp; omega) (.cells #[.func (.func j) #[] ld] 128)
  refine ⟨hbel, _, rfl, both_value_list_reads repA (unhide H5) repB repC g h j lb lc ld R S f _ _ _ _ ?_ ?_ ?_ ((unhide HR).later hbel) ((unhide HS).later hbel) ((unhide HJ).later hbel)⟩
  · exact (cells_three w _ _ _ _ _ _).1
  · exact (cells_three w _ _ _ _ _ _).2.1
  · exact (cells_three w _ _ _ _ _ _).2.2

set_option maxHeartbeats 1000000 in
theorem both_member_list_reads {α β γ : Type} (repA : Rep α) (h5 : Sixes repA) (repB : Rep β) (repC : Rep γ) (g h j : Nat) (lb lc ld : Array Value) (R : Bytes → Option (α × Bytes)) (S : Bytes → Option (β × Bytes)) (f : α → β → Option γ) (b c d : Nat) (w : World) (hb : w.cell? ⟨b, 0, none⟩ = some (.func (.func g) #[] lb)) (hc : w.cell? ⟨c, 0, none⟩ = some (.func (.func h) #[] lc)) (hd : w.cell? ⟨d, 0, none⟩ = some (.func (.func j) #[] ld)) (hR : Reads g lb repA (.agg #[.string ⟨#[]⟩, .int .i64 0, .int .i64 0, .string ⟨#[]⟩, .slice none 0 0, .slice none 0 0]) R w) (hS : Reads h lc repB (.slice none 0 0) S w) (hJ : Joins j ld repA repB repC f w) :
    Reads 132 #[.pointer (some ⟨b, 0, none⟩), .pointer (some ⟨c, 0, none⟩), .pointer (some ⟨d, 0, none⟩)] repC (.slice none 0 0) (bothR R S f) w := by
  refine ⟨enters_of Tryz.func132 (by kernel_rfl) rfl, shrinks_both _ hR.2.1 hS.2.1, ?_⟩
  intro W s hW hs
  have hWb : ∀ w1, Below W.heap.size W w1 → w1.cell? ⟨b, 0, none⟩ = some (.func (.func g) #[] lb) := fun w1 h1 => ((up hW h1).cell (p := ⟨b, 0, none⟩) (World.block_lt_of_cell? w _ hb)).trans hb
  have hWc : ∀ w1, Below W.heap.size W w1 → w1.cell? ⟨c, 0, none⟩ = some (.func (.func h) #[] lc) := fun w1 h1 => ((up hW h1).cell (p := ⟨c, 0, none⟩) (World.block_lt_of_cell? w _ hc)).trans hc
  have hWd : ∀ w1, Below W.heap.size W w1 → w1.cell? ⟨d, 0, none⟩ = some (.func (.func j) #[] ld) := fun w1 h1 => ((up hW h1).cell (p := ⟨d, 0, none⟩) (World.block_lt_of_cell? w _ hd)).trans hd
  have hlc := World.block_lt_of_cell? w _ hc
  have hld := World.block_lt_of_cell? w _ hd
  have hsz := hW.size
  have hcW : c < W.heap.size := by simp at hlc; omega
  have hdW : d < W.heap.size := by simp at hld; omega
  have hb0 := hWb W (Below.refl _ _)
  have HWC := hide hWc
  have HWD := hide hWd
  have HR := hide hR
  have HS := hide hS
  have HJ := hide hJ
  have HW := hide hW
  have H5 := hide h5
  have eg : ∀ args w, (callFunc g args).run Tryz.prog w = .ok (.enter g args) w := hR.1
  have eh : ∀ args w, (callFunc h args).run Tryz.prog w = .ok (.enter h args) w := hS.1
  have ej : ∀ args w, (callFunc j args).run Tryz.prog w = .ok (.enter j args) w := hJ.1
  clear hb hc hd hW hR hS hJ hWb hWc hWd h5 hlc hld hsz
  go_enter Tryz.func132, Tryz.ntmps132
  go_wp2_with fail
  refine ((unhide HR).2.2 _ s (unhide HW) hs).mono ?_
  intro e w1 hgot
  obtain ⟨b1, hgot⟩ := hgot
  rcases hgot with ⟨hn, rfl⟩ | ⟨x, q, v, hn, hrep, rfl⟩
  · have HN := hide hn
    clear hn
    go_wp2_with (go_at_call 127; refine (fail_members _).mono ?_)
    rintro e w2 ⟨rfl, rfl⟩
    go_wp2
    go_ret3
    refine ⟨grow b1 _, Or.inl ⟨?_, rfl⟩⟩
    unfold bothR
    rw [unhide HN]
  · have hq := (unhide HR).2.1 _ _ _ hn
    have hqs : (⟨q.toArray⟩ : ByteArray).size ≤ 4000 := by
      have h2 := text_size (rfl : s.data.toList = s.data.toList)
      show q.length ≤ 4000
      omega
    have HN := hide hn
    have hc1 := unhide HWC w1 b1
    have hcw1 : c < w1.heap.size := Nat.lt_of_lt_of_le hcW b1.size
    obtain ⟨k0, k1, k2, k3, k4, k5, k6, k7, k8, k9, hv⟩ := unhide H5 _ _ _ _ hrep
    subst hv
    have HREP := hide hrep
    clear hn hq hrep
    go_wp2_with fail
    refine ((unhide HS).2.2 _ ⟨q.toArray⟩ (up (unhide HW) (grow b1 _)) hqs).mono ?_
    intro e w2 hgot
    obtain ⟨b2, hgot⟩ := hgot
    obtain ⟨⟨q0, q1, q2, q3, q4, q5⟩, qf, ql⟩ := box6 b2
    have bb2 := up (grow b1 _) b2
    have b12 := up ((Below.refl _ w1).alloc (Nat.le_refl _) _) b2
    rcases hgot with ⟨hm, rfl⟩ | ⟨y, q2, u, hm, hrepu, rfl⟩
    · have HM := hide hm
      clear hm
      go_wp2_with (go_at_call 127; refine (fail_members _).mono ?_)
      rintro e w3 ⟨rfl, rfl⟩
      go_wp2
      go_ret3
      refine ⟨bb2, Or.inl ⟨?_, rfl⟩⟩
      unfold bothR
      rw [unhide HN]
      simp only [unhide HM]
    · have HM := hide hm
      have hd2 := unhide HWD w2 bb2
      have HB2 := hide (up (unhide HW) bb2)
      have HREPU := hide (repB.antiB hrepu (grow b1 _).size)
      have HREP2 := hide (repA.stays (unhide HREP) (above_of_below b12))
      clear hm hrepu
      go_wp2_with fail
      refine ((unhide HJ).2 _ W.heap.size x _ y u (unhide HB2) bb2.size (unhide HREP2) (unhide HREPU)).mono ?_
      intro e w3 hmade
      obtain ⟨b3, hmade⟩ := hmade
      rcases hmade with ⟨hf, t, _, rfl⟩ | ⟨zz, t, hf, hrept, rfl⟩
      · have HF := hide hf
        clear hf
        go_wp2_with (go_at_call 127; refine (fail_members _).mono ?_)
        rintro e w4 ⟨rfl, rfl⟩
        go_wp2
        go_ret3
        refine ⟨bb2.trans b3, Or.inl ⟨?_, rfl⟩⟩
        unfold bothR
        rw [unhide HN]
        simp only [unhide HM, unhide HF]
      · have HF := hide hf
        clear hf
        go_wp2
        go_ret3
        refine ⟨bb2.trans b3, Or.inr ⟨zz, q2, t, ?_, hrept, rfl⟩⟩
        unfold bothR
        rw [unhide HN]
        simp only [unhide HM, unhide HF]

set_option maxHeartbeats 400000 in
theorem both_member_list {α β γ : Type} (repA : Rep α) (h5 : Sixes repA) (repB : Rep β) (repC : Rep γ) (g h j : Nat) (lb lc ld : Array Value) (R : Bytes → Option (α × Bytes)) (S : Bytes → Option (β × Bytes)) (f : α → β → Option γ) (w : World) (hR : Reads g lb repA (.agg #[.string ⟨#[]⟩, .int .i64 0, .int .i64 0, .string ⟨#[]⟩, .slice none 0 0, .slice none 0 0]) R w) (hS : Reads h lc repB (.slice none 0 0) S w) (hJ : Joins j ld repA repB repC f w) :
    Calls Tryz.prog 83 #[.func (.func g) #[] lb, .func (.func h) #[] lc, .func (.func j) #[] ld] w fun e w' => Below w.heap.size w w' ∧ ∃ l, e = .returned (.func (.func 132) #[] l) ∧ Reads 132 l repC (.slice none 0 0) (bothR R S f) w' := by
  have hmf := mf
  have HR := hide hR
  have HS := hide hS
  have HJ := hide hJ
  have H5 := hide h5
  clear hR hS hJ h5
  go_enter Tryz.func83, Tryz.ntmps83
  go_wp2
  go_ret
  have hbel := (((Below.refl _ w).alloc (Nat.le_refl _) (.cells #[.func (.func g) #[] lb] 79)).alloc (by simp) (.cells #[.func (.func h) #[] lc] 74)).alloc (by simp; omega) (.cells #[.func (.func j) #[] ld] 137)
  refine ⟨hbel, _, rfl, both_member_list_reads repA (unhide H5) repB repC g h j lb lc ld R S f _ _ _ _ ?_ ?_ ?_ ((unhide HR).later hbel) ((unhide HS).later hbel) ((unhide HJ).later hbel)⟩
  · exact (cells_three w _ _ _ _ _ _).1
  · exact (cells_three w _ _ _ _ _ _).2.1
  · exact (cells_three w _ _ _ _ _ _).2.2

end Go.Proofs.YtgaddifabjoliaaGreatDoor
