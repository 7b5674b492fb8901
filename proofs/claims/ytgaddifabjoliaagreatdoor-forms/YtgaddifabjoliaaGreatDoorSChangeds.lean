import Derived.Test.YtgaddifabjoliaaGreatDoorSAfters
namespace Go.Proofs.YtgaddifabjoliaaGreatDoor
open Go.RowKit

set_option maxHeartbeats 1000000 in
theorem changed_int64_value_reads {α β : Type} (repA : Rep α) (repB : Rep β) (h5 : Fives repB) (hu : FivesU repB) (g h : Nat) (lb lc : Array Value) (R : Bytes → Option (α × Bytes)) (f : α → Option β) (b c : Nat) (w : World) (hb : w.cell? ⟨b, 0, none⟩ = some (.func (.func g) #[] lb)) (hc : w.cell? ⟨c, 0, none⟩ = some (.func (.func h) #[] lc)) (hR : Reads g lb repA (.int .i64 0) R w) (hM : Makes h lc repA repB f w) :
    Reads 60 #[.pointer (some ⟨b, 0, none⟩), .pointer (some ⟨c, 0, none⟩)] repB (.agg #[.int .i64 0, .int .i64 0, .string ⟨#[]⟩, .slice none 0 0, .slice none 0 0]) (changedR R f) w := by
  refine ⟨enters_of Tryz.func60 (by kernel_rfl) rfl, shrinks_changed _ hR.2.1, ?_⟩
  intro W s hW hs
  have hlb := World.block_lt_of_cell? w _ hb
  have hlc := World.block_lt_of_cell? w _ hc
  have hsz := hW.size
  have hWb : ∀ w1, Below W.heap.size W w1 → w1.cell? ⟨b, 0, none⟩ = some (.func (.func g) #[] lb) := fun w1 h1 => ((up hW h1).cell (p := ⟨b, 0, none⟩) hlb).trans hb
  have hWc : ∀ w1, Below W.heap.size W w1 → w1.cell? ⟨c, 0, none⟩ = some (.func (.func h) #[] lc) := fun w1 h1 => ((up hW h1).cell (p := ⟨c, 0, none⟩) hlc).trans hc
  have hbW : b < W.heap.size := by simp at hlb; omega
  have hb0 := hWb W (Below.refl _ _)
  have HWC := hide hWc
  have HR := hide hR
  have HM := hide hM
  have HW := hide hW
  have H5 := hide h5
  have HU := hide hu
  have eg : ∀ args w, (callFunc g args).run Tryz.prog w = .ok (.enter g args) w := hR.1
  have eh : ∀ args w, (callFunc h args).run Tryz.prog w = .ok (.enter h args) w := hM.1
  clear hb hc hW hR hM hWb hWc h5 hu hlb hlc hsz
  go_enter Tryz.func60, Tryz.ntmps60
  go_wp2_with fail
  refine ((unhide HR).2.2 _ s (up (unhide HW) ((Below.refl _ _).alloc (Nat.le_refl _) _)) hs).mono ?_
  intro e w1 hgot
  obtain ⟨b1, hgot⟩ := hgot
  have bb1 := up ((Below.refl _ W).alloc (Nat.le_refl _) _) b1
  rcases hgot with ⟨hn, rfl⟩ | ⟨x, q, v, hn, hrep, rfl⟩
  · have HN := hide hn
    clear hn
    go_wp2_with (go_at_call 57; refine (fail_value _).mono ?_)
    rintro e w2 ⟨rfl, b2⟩
    obtain ⟨⟨q0, q1, q2, q3, q4⟩, qf, ql⟩ := box5 (up b1 b2)
    go_wp2
    refine bodyPost_ret (v := .tuple #[.agg #[.int .i64 0, .int .i64 0, .string ⟨#[]⟩, .slice none 0 0, .slice none 0 0], .string ⟨#[]⟩, .bool false]) (by simp [results, Tryz.results60, go_sem, q0, q1, q2, q3, q4]) rfl ?_
    refine ⟨below5 (up bb1 b2) (Nat.le_refl _), Or.inl ⟨?_, rfl⟩⟩
    unfold changedR
    rw [unhide HN]
  · have HN := hide hn
    have HREP := hide hrep
    have hc1 := unhide HWC w1 bb1
    have HB1 := hide (up (unhide HW) bb1)
    clear hn hrep
    go_wp2_with fail
    refine ((unhide HM).2 _ _ x v (unhide HB1) b1.size (unhide HREP)).mono ?_
    intro e w2 hmade
    obtain ⟨b2, hmade⟩ := hmade
    obtain ⟨⟨q0, q1, q2, q3, q4⟩, qf, ql⟩ := box5 (b1.trans b2)
    have hsz1 := b1.size
    have hsz2 := b2.size
    simp at hsz1
    rcases hmade with ⟨hf, u, hsh, rfl⟩ | ⟨y, u, hf, hrepu, rfl⟩
    · have HF := hide hf
      obtain ⟨k1, k2, k3, k4, k5, k6, k7, k8, k9, hv⟩ := unhide HU _ hsh
      subst hv
      clear hf hsh q0 q1 q2 q3 q4
      go_wp2_with (go_at_call 57; refine (fail_value _).mono ?_)
      rintro e w3 ⟨rfl, b3⟩
      have b13 := up (grow (b1.trans b2) _) b3
      obtain ⟨⟨q0, q1, q2, q3, q4⟩, qf, ql⟩ := box5 b13
      go_wp2
      refine bodyPost_ret (v := .tuple #[.agg #[.int .i64 0, .int .i64 0, .string ⟨#[]⟩, .slice none 0 0, .slice none 0 0], .string ⟨#[]⟩, .bool false]) (by simp [results, Tryz.results60, go_sem, q0, q1, q2, q3, q4]) rfl ?_
      refine ⟨below5 (up ((Below.refl _ W).alloc (Nat.le_refl _) _) b13) (Nat.le_refl _), Or.inl ⟨?_, rfl⟩⟩
      unfold changedR
      rw [unhide HN]
      simp only [unhide HF]
    · have HF := hide hf
      obtain ⟨k1, k2, k3, k4, k5, k6, k7, k8, k9, hv⟩ := unhide H5 _ _ _ _ hrepu
      subst hv
      have HREPU := hide hrepu
      clear hf hrepu
      go_wp2
      refine bodyPost_ret (v := .tuple #[.agg #[.int .i64 k1, .int .i64 k2, .string k3, .slice k4 k5 k6, .slice k7 k8 k9], .string ⟨q.toArray⟩, .bool true]) (by simp [results, Tryz.results60, go_sem, q0, q1, q2, q3, q4, ql]) rfl ?_
      refine ⟨grow (below5 (bb1.trans (b2.mono (by simp))) (Nat.le_refl _)) _, Or.inr ⟨y, q, _, ?_, ?_, rfl⟩⟩
      · unfold changedR
        rw [unhide HN]
        simp only [unhide HF]
      · exact repB.antiB (repB.stays (unhide HREPU) ((above5 (by simp)).alloc _)) (by simp)

set_option maxHeartbeats 400000 in
theorem changed_int64_value {α β : Type} (repA : Rep α) (repB : Rep β) (h5 : Fives repB) (hu : FivesU repB) (g h : Nat) (lb lc : Array Value) (R : Bytes → Option (α × Bytes)) (f : α → Option β) (w : World) (hR : Reads g lb repA (.int .i64 0) R w) (hM : Makes h lc repA repB f w) :
    Calls Tryz.prog 20 #[.func (.func g) #[] lb, .func (.func h) #[] lc] w fun e w' => Below w.heap.size w w' ∧ ∃ l, e = .returned (.func (.func 60) #[] l) ∧ Reads 60 l repB (.agg #[.int .i64 0, .int .i64 0, .string ⟨#[]⟩, .slice none 0 0, .slice none 0 0]) (changedR R f) w' := by
  have hmf := mf
  have HR := hide hR
  have HM := hide hM
  have H5 := hide h5
  have HU := hide hu
  clear hR hM h5 hu
  go_enter Tryz.func20, Tryz.ntmps20
  go_wp2
  go_ret
  have hbel := ((Below.refl _ w).alloc (Nat.le_refl _) (.cells #[.func (.func g) #[] lb] 61)).alloc (by simp) (.cells #[.func (.func h) #[] lc] 63)
  exact ⟨hbel, _, rfl, changed_int64_value_reads repA repB (unhide H5) (unhide HU) g h lb lc R f _ _ _ (by simp) (by simp) ((unhide HR).later hbel) ((unhide HM).later hbel)⟩

set_option maxHeartbeats 1000000 in
theorem changed_text_value_reads {α β : Type} (repA : Rep α) (repB : Rep β) (h5 : Fives repB) (hu : FivesU repB) (g h : Nat) (lb lc : Array Value) (R : Bytes → Option (α × Bytes)) (f : α → Option β) (b c : Nat) (w : World) (hb : w.cell? ⟨b, 0, none⟩ = some (.func (.func g) #[] lb)) (hc : w.cell? ⟨c, 0, none⟩ = some (.func (.func h) #[] lc)) (hR : Reads g lb repA (.string ⟨#[]⟩) R w) (hM : Makes h lc repA repB f w) :
    Reads 66 #[.pointer (some ⟨b, 0, none⟩), .pointer (some ⟨c, 0, none⟩)] repB (.agg #[.int .i64 0, .int .i64 0, .string ⟨#[]⟩, .slice none 0 0, .slice none 0 0]) (changedR R f) w := by
  refine ⟨enters_of Tryz.func66 (by kernel_rfl) rfl, shrinks_changed _ hR.2.1, ?_⟩
  intro W s hW hs
  have hlb := World.block_lt_of_cell? w _ hb
  have hlc := World.block_lt_of_cell? w _ hc
  have hsz := hW.size
  have hWb : ∀ w1, Below W.heap.size W w1 → w1.cell? ⟨b, 0, none⟩ = some (.func (.func g) #[] lb) := fun w1 h1 => ((up hW h1).cell (p := ⟨b, 0, none⟩) hlb).trans hb
  have hWc : ∀ w1, Below W.heap.size W w1 → w1.cell? ⟨c, 0, none⟩ = some (.func (.func h) #[] lc) := fun w1 h1 => ((up hW h1).cell (p := ⟨c, 0, none⟩) hlc).trans hc
  have hbW : b < W.heap.size := by simp at hlb; omega
  have hb0 := hWb W (Below.refl _ _)
  have HWC := hide hWc
  have HR := hide hR
  have HM := hide hM
  have HW := hide hW
  have H5 := hide h5
  have HU := hide hu
  have eg : ∀ args w, (callFunc g args).run Tryz.prog w = .ok (.enter g args) w := hR.1
  have eh : ∀ args w, (callFunc h args).run Tryz.prog w = .ok (.enter h args) w := hM.1
  clear hb hc hW hR hM hWb hWc h5 hu hlb hlc hsz
  go_enter Tryz.func66, Tryz.ntmps66
  go_wp2_with fail
  refine ((unhide HR).2.2 _ s (up (unhide HW) ((Below.refl _ _).alloc (Nat.le_refl _) _)) hs).mono ?_
  intro e w1 hgot
  obtain ⟨b1, hgot⟩ := hgot
  have bb1 := up ((Below.refl _ W).alloc (Nat.le_refl _) _) b1
  rcases hgot with ⟨hn, rfl⟩ | ⟨x, q, v, hn, hrep, rfl⟩
  · have HN := hide hn
    clear hn
    go_wp2_with (go_at_call 57; refine (fail_value _).mono ?_)
    rintro e w2 ⟨rfl, b2⟩
    obtain ⟨⟨q0, q1, q2, q3, q4⟩, qf, ql⟩ := box5 (up b1 b2)
    go_wp2
    refine bodyPost_ret (v := .tuple #[.agg #[.int .i64 0, .int .i64 0, .string ⟨#[]⟩, .slice none 0 0, .slice none 0 0], .string ⟨#[]⟩, .bool false]) (by simp [results, Tryz.results66, go_sem, q0, q1, q2, q3, q4]) rfl ?_
    refine ⟨below5 (up bb1 b2) (Nat.le_refl _), Or.inl ⟨?_, rfl⟩⟩
    unfold changedR
    rw [unhide HN]
  · have HN := hide hn
    have HREP := hide hrep
    have hc1 := unhide HWC w1 bb1
    have HB1 := hide (up (unhide HW) bb1)
    clear hn hrep
    go_wp2_with fail
    refine ((unhide HM).2 _ _ x v (unhide HB1) b1.size (unhide HREP)).mono ?_
    intro e w2 hmade
    obtain ⟨b2, hmade⟩ := hmade
    obtain ⟨⟨q0, q1, q2, q3, q4⟩, qf, ql⟩ := box5 (b1.trans b2)
    have hsz1 := b1.size
    have hsz2 := b2.size
    simp at hsz1
    rcases hmade with ⟨hf, u, hsh, rfl⟩ | ⟨y, u, hf, hrepu, rfl⟩
    · have HF := hide hf
      obtain ⟨k1, k2, k3, k4, k5, k6, k7, k8, k9, hv⟩ := unhide HU _ hsh
      subst hv
      clear hf hsh q0 q1 q2 q3 q4
      go_wp2_with (go_at_call 57; refine (fail_value _).mono ?_)
      rintro e w3 ⟨rfl, b3⟩
      have b13 := up (grow (b1.trans b2) _) b3
      obtain ⟨⟨q0, q1, q2, q3, q4⟩, qf, ql⟩ := box5 b13
      go_wp2
      refine bodyPost_ret (v := .tuple #[.agg #[.int .i64 0, .int .i64 0, .string ⟨#[]⟩, .slice none 0 0, .slice none 0 0], .string ⟨#[]⟩, .bool false]) (by simp [results, Tryz.results66, go_sem, q0, q1, q2, q3, q4]) rfl ?_
      refine ⟨below5 (up ((Below.refl _ W).alloc (Nat.le_refl _) _) b13) (Nat.le_refl _), Or.inl ⟨?_, rfl⟩⟩
      unfold changedR
      rw [unhide HN]
      simp only [unhide HF]
    · have HF := hide hf
      obtain ⟨k1, k2, k3, k4, k5, k6, k7, k8, k9, hv⟩ := unhide H5 _ _ _ _ hrepu
      subst hv
      have HREPU := hide hrepu
      clear hf hrepu
      go_wp2
      refine bodyPost_ret (v := .tuple #[.agg #[.int .i64 k1, .int .i64 k2, .string k3, .slice k4 k5 k6, .slice k7 k8 k9], .string ⟨q.toArray⟩, .bool true]) (by simp [results, Tryz.results66, go_sem, q0, q1, q2, q3, q4, ql]) rfl ?_
      refine ⟨grow (below5 (bb1.trans (b2.mono (by simp))) (Nat.le_refl _)) _, Or.inr ⟨y, q, _, ?_, ?_, rfl⟩⟩
      · unfold changedR
        rw [unhide HN]
        simp only [unhide HF]
      · exact repB.antiB (repB.stays (unhide HREPU) ((above5 (by simp)).alloc _)) (by simp)

set_option maxHeartbeats 400000 in
theorem changed_text_value {α β : Type} (repA : Rep α) (repB : Rep β) (h5 : Fives repB) (hu : FivesU repB) (g h : Nat) (lb lc : Array Value) (R : Bytes → Option (α × Bytes)) (f : α → Option β) (w : World) (hR : Reads g lb repA (.string ⟨#[]⟩) R w) (hM : Makes h lc repA repB f w) :
    Calls Tryz.prog 23 #[.func (.func g) #[] lb, .func (.func h) #[] lc] w fun e w' => Below w.heap.size w w' ∧ ∃ l, e = .returned (.func (.func 66) #[] l) ∧ Reads 66 l repB (.agg #[.int .i64 0, .int .i64 0, .string ⟨#[]⟩, .slice none 0 0, .slice none 0 0]) (changedR R f) w' := by
  have hmf := mf
  have HR := hide hR
  have HM := hide hM
  have H5 := hide h5
  have HU := hide hu
  clear hR hM h5 hu
  go_enter Tryz.func23, Tryz.ntmps23
  go_wp2
  go_ret
  have hbel := ((Below.refl _ w).alloc (Nat.le_refl _) (.cells #[.func (.func g) #[] lb] 55)).alloc (by simp) (.cells #[.func (.func h) #[] lc] 65)
  exact ⟨hbel, _, rfl, changed_text_value_reads repA repB (unhide H5) (unhide HU) g h lb lc R f _ _ _ (by simp) (by simp) ((unhide HR).later hbel) ((unhide HM).later hbel)⟩

set_option maxHeartbeats 1000000 in
theorem changed_values_value_reads {α β : Type} (repA : Rep α) (repB : Rep β) (h5 : Fives repB) (hu : FivesU repB) (g h : Nat) (lb lc : Array Value) (R : Bytes → Option (α × Bytes)) (f : α → Option β) (b c : Nat) (w : World) (hb : w.cell? ⟨b, 0, none⟩ = some (.func (.func g) #[] lb)) (hc : w.cell? ⟨c, 0, none⟩ = some (.func (.func h) #[] lc)) (hR : Reads g lb repA (.slice none 0 0) R w) (hM : Makes h lc repA repB f w) :
    Reads 69 #[.pointer (some ⟨b, 0, none⟩), .pointer (some ⟨c, 0, none⟩)] repB (.agg #[.int .i64 0, .int .i64 0, .string ⟨#[]⟩, .slice none 0 0, .slice none 0 0]) (changedR R f) w := by
  refine ⟨enters_of Tryz.func69 (by kernel_rfl) rfl, shrinks_changed _ hR.2.1, ?_⟩
  intro W s hW hs
  have hlb := World.block_lt_of_cell? w _ hb
  have hlc := World.block_lt_of_cell? w _ hc
  have hsz := hW.size
  have hWb : ∀ w1, Below W.heap.size W w1 → w1.cell? ⟨b, 0, none⟩ = some (.func (.func g) #[] lb) := fun w1 h1 => ((up hW h1).cell (p := ⟨b, 0, none⟩) hlb).trans hb
  have hWc : ∀ w1, Below W.heap.size W w1 → w1.cell? ⟨c, 0, none⟩ = some (.func (.func h) #[] lc) := fun w1 h1 => ((up hW h1).cell (p := ⟨c, 0, none⟩) hlc).trans hc
  have hbW : b < W.heap.size := by simp at hlb; omega
  have hb0 := hWb W (Below.refl _ _)
  have HWC := hide hWc
  have HR := hide hR
  have HM := hide hM
  have HW := hide hW
  have H5 := hide h5
  have HU := hide hu
  have eg : ∀ args w, (callFunc g args).run Tryz.prog w = .ok (.enter g args) w := hR.1
  have eh : ∀ args w, (callFunc h args).run Tryz.prog w = .ok (.enter h args) w := hM.1
  clear hb hc hW hR hM hWb hWc h5 hu hlb hlc hsz
  go_enter Tryz.func69, Tryz.ntmps69
  go_wp2_with fail
  refine ((unhide HR).2.2 _ s (up (unhide HW) ((Below.refl _ _).alloc (Nat.le_refl _) _)) hs).mono ?_
  intro e w1 hgot
  obtain ⟨b1, hgot⟩ := hgot
  have bb1 := up ((Below.refl _ W).alloc (Nat.le_refl _) _) b1
  rcases hgot with ⟨hn, rfl⟩ | ⟨x, q, v, hn, hrep, rfl⟩
  · have HN := hide hn
    clear hn
    go_wp2_with (go_at_call 57; refine (fail_value _).mono ?_)
    rintro e w2 ⟨rfl, b2⟩
    obtain ⟨⟨q0, q1, q2, q3, q4⟩, qf, ql⟩ := box5 (up b1 b2)
    go_wp2
    refine bodyPost_ret (v := .tuple #[.agg #[.int .i64 0, .int .i64 0, .string ⟨#[]⟩, .slice none 0 0, .slice none 0 0], .string ⟨#[]⟩, .bool false]) (by simp [results, Tryz.results69, go_sem, q0, q1, q2, q3, q4]) rfl ?_
    refine ⟨below5 (up bb1 b2) (Nat.le_refl _), Or.inl ⟨?_, rfl⟩⟩
    unfold changedR
    rw [unhide HN]
  · have HN := hide hn
    have HREP := hide hrep
    have hc1 := unhide HWC w1 bb1
    have HB1 := hide (up (unhide HW) bb1)
    clear hn hrep
    go_wp2_with fail
    refine ((unhide HM).2 _ _ x v (unhide HB1) b1.size (unhide HREP)).mono ?_
    intro e w2 hmade
    obtain ⟨b2, hmade⟩ := hmade
    obtain ⟨⟨q0, q1, q2, q3, q4⟩, qf, ql⟩ := box5 (b1.trans b2)
    have hsz1 := b1.size
    have hsz2 := b2.size
    simp at hsz1
    rcases hmade with ⟨hf, u, hsh, rfl⟩ | ⟨y, u, hf, hrepu, rfl⟩
    · have HF := hide hf
      obtain ⟨k1, k2, k3, k4, k5, k6, k7, k8, k9, hv⟩ := unhide HU _ hsh
      subst hv
      clear hf hsh q0 q1 q2 q3 q4
      go_wp2_with (go_at_call 57; refine (fail_value _).mono ?_)
      rintro e w3 ⟨rfl, b3⟩
      have b13 := up (grow (b1.trans b2) _) b3
      obtain ⟨⟨q0, q1, q2, q3, q4⟩, qf, ql⟩ := box5 b13
      go_wp2
      refine bodyPost_ret (v := .tuple #[.agg #[.int .i64 0, .int .i64 0, .string ⟨#[]⟩, .slice none 0 0, .slice none 0 0], .string ⟨#[]⟩, .bool false]) (by simp [results, Tryz.results69, go_sem, q0, q1, q2, q3, q4]) rfl ?_
      refine ⟨below5 (up ((Below.refl _ W).alloc (Nat.le_refl _) _) b13) (Nat.le_refl _), Or.inl ⟨?_, rfl⟩⟩
      unfold changedR
      rw [unhide HN]
      simp only [unhide HF]
    · have HF := hide hf
      obtain ⟨k1, k2, k3, k4, k5, k6, k7, k8, k9, hv⟩ := unhide H5 _ _ _ _ hrepu
      subst hv
      have HREPU := hide hrepu
      clear hf hrepu
      go_wp2
      refine bodyPost_ret (v := .tuple #[.agg #[.int .i64 k1, .int .i64 k2, .string k3, .slice k4 k5 k6, .slice k7 k8 k9], .string ⟨q.toArray⟩, .bool true]) (by simp [results, Tryz.results69, go_sem, q0, q1, q2, q3, q4, ql]) rfl ?_
      refine ⟨grow (below5 (bb1.trans (b2.mono (by simp))) (Nat.le_refl _)) _, Or.inr ⟨y, q, _, ?_, ?_, rfl⟩⟩
      · unfold changedR
        rw [unhide HN]
        simp only [unhide HF]
      · exact repB.antiB (repB.stays (unhide HREPU) ((above5 (by simp)).alloc _)) (by simp)

set_option maxHeartbeats 400000 in
theorem changed_values_value {α β : Type} (repA : Rep α) (repB : Rep β) (h5 : Fives repB) (hu : FivesU repB) (g h : Nat) (lb lc : Array Value) (R : Bytes → Option (α × Bytes)) (f : α → Option β) (w : World) (hR : Reads g lb repA (.slice none 0 0) R w) (hM : Makes h lc repA repB f w) :
    Calls Tryz.prog 26 #[.func (.func g) #[] lb, .func (.func h) #[] lc] w fun e w' => Below w.heap.size w w' ∧ ∃ l, e = .returned (.func (.func 69) #[] l) ∧ Reads 69 l repB (.agg #[.int .i64 0, .int .i64 0, .string ⟨#[]⟩, .slice none 0 0, .slice none 0 0]) (changedR R f) w' := by
  have hmf := mf
  have HR := hide hR
  have HM := hide hM
  have H5 := hide h5
  have HU := hide hu
  clear hR hM h5 hu
  go_enter Tryz.func26, Tryz.ntmps26
  go_wp2
  go_ret
  have hbel := ((Below.refl _ w).alloc (Nat.le_refl _) (.cells #[.func (.func g) #[] lb] 69)).alloc (by simp) (.cells #[.func (.func h) #[] lc] 71)
  exact ⟨hbel, _, rfl, changed_values_value_reads repA repB (unhide H5) (unhide HU) g h lb lc R f _ _ _ (by simp) (by simp) ((unhide HR).later hbel) ((unhide HM).later hbel)⟩

set_option maxHeartbeats 1000000 in
theorem changed_members_value_reads {α β : Type} (repA : Rep α) (repB : Rep β) (h5 : Fives repB) (hu : FivesU repB) (g h : Nat) (lb lc : Array Value) (R : Bytes → Option (α × Bytes)) (f : α → Option β) (b c : Nat) (w : World) (hb : w.cell? ⟨b, 0, none⟩ = some (.func (.func g) #[] lb)) (hc : w.cell? ⟨c, 0, none⟩ = some (.func (.func h) #[] lc)) (hR : Reads g lb repA (.slice none 0 0) R w) (hM : Makes h lc repA repB f w) :
    Reads 78 #[.pointer (some ⟨b, 0, none⟩), .pointer (some ⟨c, 0, none⟩)] repB (.agg #[.int .i64 0, .int .i64 0, .string ⟨#[]⟩, .slice none 0 0, .slice none 0 0]) (changedR R f) w := by
  refine ⟨enters_of Tryz.func78 (by kernel_rfl) rfl, shrinks_changed _ hR.2.1, ?_⟩
  intro W s hW hs
  have hlb := World.block_lt_of_cell? w _ hb
  have hlc := World.block_lt_of_cell? w _ hc
  have hsz := hW.size
  have hWb : ∀ w1, Below W.heap.size W w1 → w1.cell? ⟨b, 0, none⟩ = some (.func (.func g) #[] lb) := fun w1 h1 => ((up hW h1).cell (p := ⟨b, 0, none⟩) hlb).trans hb
  have hWc : ∀ w1, Below W.heap.size W w1 → w1.cell? ⟨c, 0, none⟩ = some (.func (.func h) #[] lc) := fun w1 h1 => ((up hW h1).cell (p := ⟨c, 0, none⟩) hlc).trans hc
  have hbW : b < W.heap.size := by simp at hlb; omega
  have hb0 := hWb W (Below.refl _ _)
  have HWC := hide hWc
  have HR := hide hR
  have HM := hide hM
  have HW := hide hW
  have H5 := hide h5
  have HU := hide hu
  have eg : ∀ args w, (callFunc g args).run Tryz.prog w = .ok (.enter g args) w := hR.1
  have eh : ∀ args w, (callFunc h args).run Tryz.prog w = .ok (.enter h args) w := hM.1
  clear hb hc hW hR hM hWb hWc h5 hu hlb hlc hsz
  go_enter Tryz.func78, Tryz.ntmps78
  go_wp2_with fail
  refine ((unhide HR).2.2 _ s (up (unhide HW) ((Below.refl _ _).alloc (Nat.le_refl _) _)) hs).mono ?_
  intro e w1 hgot
  obtain ⟨b1, hgot⟩ := hgot
  have bb1 := up ((Below.refl _ W).alloc (Nat.le_refl _) _) b1
  rcases hgot with ⟨hn, rfl⟩ | ⟨x, q, v, hn, hrep, rfl⟩
  · have HN := hide hn
    clear hn
    go_wp2_with (go_at_call 57; refine (fail_value _).mono ?_)
    rintro e w2 ⟨rfl, b2⟩
    obtain ⟨⟨q0, q1, q2, q3, q4⟩, qf, ql⟩ := box5 (up b1 b2)
    go_wp2
    refine bodyPost_ret (v := .tuple #[.agg #[.int .i64 0, .int .i64 0, .string ⟨#[]⟩, .slice none 0 0, .slice none 0 0], .string ⟨#[]⟩, .bool false]) (by simp [results, Tryz.results78, go_sem, q0, q1, q2, q3, q4]) rfl ?_
    refine ⟨below5 (up bb1 b2) (Nat.le_refl _), Or.inl ⟨?_, rfl⟩⟩
    unfold changedR
    rw [unhide HN]
  · have HN := hide hn
    have HREP := hide hrep
    have hc1 := unhide HWC w1 bb1
    have HB1 := hide (up (unhide HW) bb1)
    clear hn hrep
    go_wp2_with fail
    refine ((unhide HM).2 _ _ x v (unhide HB1) b1.size (unhide HREP)).mono ?_
    intro e w2 hmade
    obtain ⟨b2, hmade⟩ := hmade
    obtain ⟨⟨q0, q1, q2, q3, q4⟩, qf, ql⟩ := box5 (b1.trans b2)
    have hsz1 := b1.size
    have hsz2 := b2.size
    simp at hsz1
    rcases hmade with ⟨hf, u, hsh, rfl⟩ | ⟨y, u, hf, hrepu, rfl⟩
    · have HF := hide hf
      obtain ⟨k1, k2, k3, k4, k5, k6, k7, k8, k9, hv⟩ := unhide HU _ hsh
      subst hv
      clear hf hsh q0 q1 q2 q3 q4
      go_wp2_with (go_at_call 57; refine (fail_value _).mono ?_)
      rintro e w3 ⟨rfl, b3⟩
      have b13 := up (grow (b1.trans b2) _) b3
      obtain ⟨⟨q0, q1, q2, q3, q4⟩, qf, ql⟩ := box5 b13
      go_wp2
      refine bodyPost_ret (v := .tuple #[.agg #[.int .i64 0, .int .i64 0, .string ⟨#[]⟩, .slice none 0 0, .slice none 0 0], .string ⟨#[]⟩, .bool false]) (by simp [results, Tryz.results78, go_sem, q0, q1, q2, q3, q4]) rfl ?_
      refine ⟨below5 (up ((Below.refl _ W).alloc (Nat.le_refl _) _) b13) (Nat.le_refl _), Or.inl ⟨?_, rfl⟩⟩
      unfold changedR
      rw [unhide HN]
      simp only [unhide HF]
    · have HF := hide hf
      obtain ⟨k1, k2, k3, k4, k5, k6, k7, k8, k9, hv⟩ := unhide H5 _ _ _ _ hrepu
      subst hv
      have HREPU := hide hrepu
      clear hf hrepu
      go_wp2
      refine bodyPost_ret (v := .tuple #[.agg #[.int .i64 k1, .int .i64 k2, .string k3, .slice k4 k5 k6, .slice k7 k8 k9], .string ⟨q.toArray⟩, .bool true]) (by simp [results, Tryz.results78, go_sem, q0, q1, q2, q3, q4, ql]) rfl ?_
      refine ⟨grow (below5 (bb1.trans (b2.mono (by simp))) (Nat.le_refl _)) _, Or.inr ⟨y, q, _, ?_, ?_, rfl⟩⟩
      · unfold changedR
        rw [unhide HN]
        simp only [unhide HF]
      · exact repB.antiB (repB.stays (unhide HREPU) ((above5 (by simp)).alloc _)) (by simp)

set_option maxHeartbeats 400000 in
theorem changed_members_value {α β : Type} (repA : Rep α) (repB : Rep β) (h5 : Fives repB) (hu : FivesU repB) (g h : Nat) (lb lc : Array Value) (R : Bytes → Option (α × Bytes)) (f : α → Option β) (w : World) (hR : Reads g lb repA (.slice none 0 0) R w) (hM : Makes h lc repA repB f w) :
    Calls Tryz.prog 29 #[.func (.func g) #[] lb, .func (.func h) #[] lc] w fun e w' => Below w.heap.size w w' ∧ ∃ l, e = .returned (.func (.func 78) #[] l) ∧ Reads 78 l repB (.agg #[.int .i64 0, .int .i64 0, .string ⟨#[]⟩, .slice none 0 0, .slice none 0 0]) (changedR R f) w' := by
  have hmf := mf
  have HR := hide hR
  have HM := hide hM
  have H5 := hide h5
  have HU := hide hu
  clear hR hM h5 hu
  go_enter Tryz.func29, Tryz.ntmps29
  go_wp2
  go_ret
  have hbel := ((Below.refl _ w).alloc (Nat.le_refl _) (.cells #[.func (.func g) #[] lb] 74)).alloc (by simp) (.cells #[.func (.func h) #[] lc] 81)
  exact ⟨hbel, _, rfl, changed_members_value_reads repA repB (unhide H5) (unhide HU) g h lb lc R f _ _ _ (by simp) (by simp) ((unhide HR).later hbel) ((unhide HM).later hbel)⟩

end Go.Proofs.YtgaddifabjoliaaGreatDoor
