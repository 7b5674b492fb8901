import Derived.Test.YtgaddifabjoliaaGreatDoorSAfters
namespace Go.Proofs.YtgaddifabjoliaaGreatDoor
open Go.RowKit

set_option maxHeartbeats 1000000 in
theorem both_member_reads {α β γ : Type} (repA : Rep α) (repB : Rep β) (h5 : Fives repB) (repC : Rep γ) (h6 : Sixes repC) (hu : SixesU repC) (g h j : Nat) (lb lc ld : Array Value) (R : Bytes → Option (α × Bytes)) (S : Bytes → Option (β × Bytes)) (f : α → β → Option γ) (b c d : Nat) (w : World) (hb : w.cell? ⟨b, 0, none⟩ = some (.func (.func g) #[] lb)) (hc : w.cell? ⟨c, 0, none⟩ = some (.func (.func h) #[] lc)) (hd : w.cell? ⟨d, 0, none⟩ = some (.func (.func j) #[] ld)) (hR : Reads g lb repA (.string ⟨#[]⟩) R w) (hS : Reads h lc repB (.agg #[.int .i64 0, .int .i64 0, .string ⟨#[]⟩, .slice none 0 0, .slice none 0 0]) S w) (hJ : Joins j ld repA repB repC f w) :
    Reads 135 #[.pointer (some ⟨b, 0, none⟩), .pointer (some ⟨c, 0, none⟩), .pointer (some ⟨d, 0, none⟩)] repC (.agg #[.string ⟨#[]⟩, .int .i64 0, .int .i64 0, .string ⟨#[]⟩, .slice none 0 0, .slice none 0 0]) (bothR R S f) w := by
  refine ⟨enters_of Tryz.func135 (by kernel_rfl) rfl, shrinks_both _ hR.2.1 hS.2.1, ?_⟩
  intro W s hW hs
  have hWb : ∀ w1, Below W.heap.size W w1 → w1.cell? ⟨b, 0, none⟩ = some (.func (.func g) #[] lb) := fun w1 h1 => ((up hW h1).cell (p := ⟨b, 0, none⟩) (World.block_lt_of_cell? w _ hb)).trans hb
  have hWc : ∀ w1, Below W.heap.size W w1 → w1.cell? ⟨c, 0, none⟩ = some (.func (.func h) #[] lc) := fun w1 h1 => ((up hW h1).cell (p := ⟨c, 0, none⟩) (World.block_lt_of_cell? w _ hc)).trans hc
  have hWd : ∀ w1, Below W.heap.size W w1 → w1.cell? ⟨d, 0, none⟩ = some (.func (.func j) #[] ld) := fun w1 h1 => ((up hW h1).cell (p := ⟨d, 0, none⟩) (World.block_lt_of_cell? w _ hd)).trans hd
  have hlb := World.block_lt_of_cell? w _ hb
  have hlc := World.block_lt_of_cell? w _ hc
  have hld := World.block_lt_of_cell? w _ hd
  have hsz := hW.size
  have hbW : b < W.heap.size := by simp at hlb; omega
  have hcW : c < W.heap.size := by simp at hlc; omega
  have hdW : d < W.heap.size := by simp at hld; omega
  have hb0 := hWb W (Below.refl _ _)
  have HWC := hide hWc
  have HWD := hide hWd
  have HR := hide hR
  have HS := hide hS
  have HJ := hide hJ
  have HW := hide hW
  have H5 := hide h5
  have H6 := hide h6
  have HU := hide hu
  have eg : ∀ args w, (callFunc g args).run Tryz.prog w = .ok (.enter g args) w := hR.1
  have eh : ∀ args w, (callFunc h args).run Tryz.prog w = .ok (.enter h args) w := hS.1
  have ej : ∀ args w, (callFunc j args).run Tryz.prog w = .ok (.enter j args) w := hJ.1
  clear hb hc hd hW hR hS hJ hWb hWc hWd h5 h6 hu hlb hlc hld hsz
  go_enter Tryz.func135, Tryz.ntmps135
  go_wp2_with fail
  refine ((unhide HR).2.2 _ s (up (unhide HW) ((Below.refl _ _).alloc (Nat.le_refl _) _)) hs).mono ?_
  intro e w1 hgot
  obtain ⟨b1, hgot⟩ := hgot
  have bb1 := up ((Below.refl _ W).alloc (Nat.le_refl _) _) b1
  rcases hgot with ⟨hn, rfl⟩ | ⟨x, q, v, hn, hrep, rfl⟩
  · have HN := hide hn
    clear hn
    go_wp2_with (go_at_call 131; refine (fail_member _).mono ?_)
    rintro e w2 ⟨rfl, b2⟩
    obtain ⟨⟨q0, q1, q2, q3, q4, q5⟩, qf, ql⟩ := box6 (up b1 b2)
    go_wp2
    refine bodyPost_ret (v := .tuple #[.agg #[.string ⟨#[]⟩, .int .i64 0, .int .i64 0, .string ⟨#[]⟩, .slice none 0 0, .slice none 0 0], .string ⟨#[]⟩, .bool false]) (by simp [results, Tryz.results135, go_sem, q0, q1, q2, q3, q4, q5]) rfl ?_
    refine ⟨below6 (up bb1 b2) (Nat.le_refl _), Or.inl ⟨?_, rfl⟩⟩
    unfold bothR
    rw [unhide HN]
  · have hq := (unhide HR).2.1 _ _ _ hn
    have hqs : (⟨q.toArray⟩ : ByteArray).size ≤ 4000 := by
      have h2 := text_size (rfl : s.data.toList = s.data.toList)
      show q.length ≤ 4000
      omega
    have HN := hide hn
    have hc1 := unhide HWC w1 bb1
    have HREP := hide hrep
    clear hn hq hrep
    go_wp2_with fail
    refine ((unhide HS).2.2 _ ⟨q.toArray⟩ (up (unhide HW) bb1) hqs).mono ?_
    intro e w2 hgot
    obtain ⟨b2, hgot⟩ := hgot
    have bb2 := up bb1 b2
    have b12 := up b1 b2
    rcases hgot with ⟨hm, rfl⟩ | ⟨y, r2, u, hm, hrepu, rfl⟩
    · have HM := hide hm
      clear hm
      go_wp2_with (go_at_call 131; refine (fail_member _).mono ?_)
      rintro e w3 ⟨rfl, b3⟩
      obtain ⟨⟨q0, q1, q2, q3, q4, q5⟩, qf, ql⟩ := box6 (up (grow b12 _) b3)
      go_wp2
      refine bodyPost_ret (v := .tuple #[.agg #[.string ⟨#[]⟩, .int .i64 0, .int .i64 0, .string ⟨#[]⟩, .slice none 0 0, .slice none 0 0], .string ⟨#[]⟩, .bool false]) (by simp [results, Tryz.results135, go_sem, q0, q1, q2, q3, q4, q5]) rfl ?_
      refine ⟨below6 (up (grow bb2 _) b3) (Nat.le_refl _), Or.inl ⟨?_, rfl⟩⟩
      unfold bothR
      rw [unhide HN]
      simp only [unhide HM]
    · have HM := hide hm
      obtain ⟨k1, k2, k3, k4, k5, k6, k7, k8, k9, hv⟩ := unhide H5 _ _ _ _ hrepu
      subst hv
      have hd2 := unhide HWD w2 bb2
      have hdw2 : d < w2.heap.size := Nat.lt_of_lt_of_le hdW bb2.size
      have HREPU := hide (repB.stays (repB.antiB hrepu b1.size) (above_of_below ((Below.refl _ w2).alloc (Nat.le_refl _) (.cells #[.int .i64 k1, .int .i64 k2, .string k3, .slice k4 k5 k6, .slice k7 k8 k9] 30))))
      have HREP2 := hide (repA.stays (repA.stays (unhide HREP) (above_of_below b2)) (above_of_below ((Below.refl _ w2).alloc (Nat.le_refl _) (.cells #[.int .i64 k1, .int .i64 k2, .string k3, .slice k4 k5 k6, .slice k7 k8 k9] 30))))
      clear hm hrepu
      go_wp2_with fail
      refine ((unhide HJ).2 _ _ x _ y _ (up (unhide HW) (grow bb2 _)) (grow b12 _).size (unhide HREP2) (unhide HREPU)).mono ?_
      intro e w3 hmade
      obtain ⟨b3, hmade⟩ := hmade
      have b13 := (grow b12 _).trans b3
      have bb3 := (grow bb2 _).trans (b3.mono (by simp))
      obtain ⟨⟨q0, q1, q2, q3, q4, q5⟩, qf, ql⟩ := box6 b13
      rcases hmade with ⟨hf, t, hsh, rfl⟩ | ⟨zz, t, hf, hrept, rfl⟩
      · have HF := hide hf
        obtain ⟨m0, m1, m2, m3, m4, m5, m6, m7, m8, m9, hv⟩ := unhide HU _ hsh
        subst hv
        clear hf hsh q0 q1 q2 q3 q4 q5
        go_wp2_with (go_at_call 131; refine (fail_member _).mono ?_)
        rintro e w4 ⟨rfl, b4⟩
        obtain ⟨⟨q0, q1, q2, q3, q4, q5⟩, qf, ql⟩ := box6 (up (grow b13 _) b4)
        go_wp2
        refine bodyPost_ret (v := .tuple #[.agg #[.string ⟨#[]⟩, .int .i64 0, .int .i64 0, .string ⟨#[]⟩, .slice none 0 0, .slice none 0 0], .string ⟨#[]⟩, .bool false]) (by simp [results, Tryz.results135, go_sem, q0, q1, q2, q3, q4, q5]) rfl ?_
        refine ⟨below6 (up (grow bb3 _) b4) (Nat.le_refl _), Or.inl ⟨?_, rfl⟩⟩
        unfold bothR
        rw [unhide HN]
        simp only [unhide HM, unhide HF]
      · have HF := hide hf
        obtain ⟨m0, m1, m2, m3, m4, m5, m6, m7, m8, m9, hv⟩ := unhide H6 _ _ _ _ hrept
        subst hv
        have HREPT := hide hrept
        clear hf hrept
        go_wp2
        refine bodyPost_ret (v := .tuple #[.agg #[.string m0, .int .i64 m1, .int .i64 m2, .string m3, .slice m4 m5 m6, .slice m7 m8 m9], .string ⟨r2.toArray⟩, .bool true]) (by simp [results, Tryz.results135, go_sem, q0, q1, q2, q3, q4, q5, ql]) rfl ?_
        refine ⟨grow (below6 bb3 (Nat.le_refl _)) _, Or.inr ⟨zz, r2, _, ?_, ?_, rfl⟩⟩
        · unfold bothR
          rw [unhide HN]
          simp only [unhide HM, unhide HF]
        · exact repC.antiB (repC.stays (unhide HREPT) ((above6 (by simp)).alloc _)) (by simp)

set_option maxHeartbeats 400000 in
theorem both_member {α β γ : Type} (repA : Rep α) (repB : Rep β) (h5 : Fives repB) (repC : Rep γ) (h6 : Sixes repC) (hu : SixesU repC) (g h j : Nat) (lb lc ld : Array Value) (R : Bytes → Option (α × Bytes)) (S : Bytes → Option (β × Bytes)) (f : α → β → Option γ) (w : World) (hR : Reads g lb repA (.string ⟨#[]⟩) R w) (hS : Reads h lc repB (.agg #[.int .i64 0, .int .i64 0, .string ⟨#[]⟩, .slice none 0 0, .slice none 0 0]) S w) (hJ : Joins j ld repA repB repC f w) :
    Calls Tryz.prog 87 #[.func (.func g) #[] lb, .func (.func h) #[] lc, .func (.func j) #[] ld] w fun e w' => Below w.heap.size w w' ∧ ∃ l, e = .returned (.func (.func 135) #[] l) ∧ Reads 135 l repC (.agg #[.string ⟨#[]⟩, .int .i64 0, .int .i64 0, .string ⟨#[]⟩, .slice none 0 0, .slice none 0 0]) (bothR R S f) w' := by
  have hmf := mf
  have HR := hide hR
  have HS := hide hS
  have HJ := hide hJ
  have H5 := hide h5
  have H6 := hide h6
  have HU := hide hu
  clear hR hS hJ h5 h6 hu
  go_enter Tryz.func87, Tryz.ntmps87
  go_wp2
  go_ret
  have hbel := (((Below.refl _ w).alloc (Nat.le_refl _) (.cells #[.func (.func g) #[] lb] 55)).alloc (by simp) (.cells #[.func (.func h) #[] lc] 42)).alloc (by simp; omega) (.cells #[.func (.func j) #[] ld] 142)
  refine ⟨hbel, _, rfl, both_member_reads repA repB (unhide H5) repC (unhide H6) (unhide HU) g h j lb lc ld R S f _ _ _ _ ?_ ?_ ?_ ((unhide HR).later hbel) ((unhide HS).later hbel) ((unhide HJ).later hbel)⟩
  · exact (cells_three w _ _ _ _ _ _).1
  · exact (cells_three w _ _ _ _ _ _).2.1
  · exact (cells_three w _ _ _ _ _ _).2.2
end Go.Proofs.YtgaddifabjoliaaGreatDoor
