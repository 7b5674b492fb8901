import Derived.Test.YtgaddifabjoliaaGreatDoorKitB
namespace Go.Proofs.YtgaddifabjoliaaGreatDoor
open Go.RowKit

set_option maxHeartbeats 400000 in
theorem changed_rune_rune_reads {α β : Type} (repA : Rep α) (repB : Rep β) (g h : Nat) (lb lc : Array Value) (R : Bytes → Option (α × Bytes)) (f : α → Option β) (b c : Nat) (w : World) (hb : w.cell? ⟨b, 0, none⟩ = some (.func (.func g) #[] lb)) (hc : w.cell? ⟨c, 0, none⟩ = some (.func (.func h) #[] lc)) (hR : Reads g lb repA (.int .i32 0) R w) (hM : Makes h lc repA repB f w) :
    Reads 101 #[.pointer (some ⟨b, 0, none⟩), .pointer (some ⟨c, 0, none⟩)] repB (.int .i32 0) (changedR R f) w := by
  refine ⟨enters_of Tryz.func101 (by kernel_rfl) rfl, shrinks_changed _ hR.2.1, ?_⟩
  intro W s hW hs
  have hWb : ∀ w1, Below W.heap.size W w1 → w1.cell? ⟨b, 0, none⟩ = some (.func (.func g) #[] lb) := fun w1 h1 => ((up hW h1).cell (p := ⟨b, 0, none⟩) (World.block_lt_of_cell? w _ hb)).trans hb
  have hWc : ∀ w1, Below W.heap.size W w1 → w1.cell? ⟨c, 0, none⟩ = some (.func (.func h) #[] lc) := fun w1 h1 => ((up hW h1).cell (p := ⟨c, 0, none⟩) (World.block_lt_of_cell? w _ hc)).trans hc
  have hb0 := hWb W (Below.refl _ _)
  have HWC := hide hWc
  have HR := hide hR
  have HM := hide hM
  have HW := hide hW
  have eg : ∀ args w, (callFunc g args).run Tryz.prog w = .ok (.enter g args) w := hR.1
  have eh : ∀ args w, (callFunc h args).run Tryz.prog w = .ok (.enter h args) w := hM.1
  clear hb hc hW hR hM hWb hWc
  go_enter Tryz.func101, Tryz.ntmps101
  go_wp2_with (go_at_fn g; refine ((unhide HR).2.2 _ s (unhide HW) hs).mono ?_)
  intro e w1 hgot
  obtain ⟨b1, hgot⟩ := hgot
  rcases hgot with ⟨hn, rfl⟩ | ⟨x, q, v, hn, hrep, rfl⟩
  · have HN := hide hn
    clear hn
    go_wp2_with (go_at_call 99; refine (fail_rune _).mono ?_)
    rintro e w2 ⟨rfl, rfl⟩
    go_wp2
    go_ret3
    refine ⟨b1, Or.inl ⟨?_, rfl⟩⟩
    unfold changedR
    rw [unhide HN]
  · have HN := hide hn
    have HREP := hide hrep
    have hc1 := unhide HWC w1 b1
    have HB1 := hide (up (unhide HW) b1)
    clear hn hrep
    go_wp2_with (go_at_fn h; refine ((unhide HM).2 _ W.heap.size x v (unhide HB1) b1.size (unhide HREP)).mono ?_)
    intro e w2 hmade
    obtain ⟨b2, hmade⟩ := hmade
    rcases hmade with ⟨hf, u, _, rfl⟩ | ⟨y, u, hf, hrepu, rfl⟩
    · have HF := hide hf
      clear hf
      go_wp2_with (go_at_call 99; refine (fail_rune _).mono ?_)
      rintro e w3 ⟨rfl, rfl⟩
      go_wp2
      go_ret3
      refine ⟨b1.trans b2, Or.inl ⟨?_, rfl⟩⟩
      unfold changedR
      rw [unhide HN]
      simp only [unhide HF]
    · have HF := hide hf
      clear hf
      go_wp2
      go_ret3
      refine ⟨b1.trans b2, Or.inr ⟨y, q, u, ?_, hrepu, rfl⟩⟩
      unfold changedR
      rw [unhide HN]
      simp only [unhide HF]

set_option maxHeartbeats 400000 in
theorem changed_rune_rune {α β : Type} (repA : Rep α) (repB : Rep β) (g h : Nat) (lb lc : Array Value) (R : Bytes → Option (α × Bytes)) (f : α → Option β) (w : World) (hR : Reads g lb repA (.int .i32 0) R w) (hM : Makes h lc repA repB f w) :
    Calls Tryz.prog 45 #[.func (.func g) #[] lb, .func (.func h) #[] lc] w fun e w' => Below w.heap.size w w' ∧ ∃ l, e = .returned (.func (.func 101) #[] l) ∧ Reads 101 l repB (.int .i32 0) (changedR R f) w' := by
  have hmf := mf
  have HR := hide hR
  have HM := hide hM
  clear hR hM
  go_enter Tryz.func45, Tryz.ntmps45
  go_wp2
  go_ret
  have hbel := ((Below.refl _ w).alloc (Nat.le_refl _) (.cells #[.func (.func g) #[] lb] 96)).alloc (by simp) (.cells #[.func (.func h) #[] lc] 99)
  exact ⟨hbel, _, rfl, changed_rune_rune_reads repA repB g h lb lc R f _ _ _ (by simp) (by simp) ((unhide HR).later hbel) ((unhide HM).later hbel)⟩

set_option maxHeartbeats 400000 in
theorem changed_runes_text_reads {α β : Type} (repA : Rep α) (repB : Rep β) (g h : Nat) (lb lc : Array Value) (R : Bytes → Option (α × Bytes)) (f : α → Option β) (b c : Nat) (w : World) (hb : w.cell? ⟨b, 0, none⟩ = some (.func (.func g) #[] lb)) (hc : w.cell? ⟨c, 0, none⟩ = some (.func (.func h) #[] lc)) (hR : Reads g lb repA (.slice none 0 0) R w) (hM : Makes h lc repA repB f w) :
    Reads 103 #[.pointer (some ⟨b, 0, none⟩), .pointer (some ⟨c, 0, none⟩)] repB (.string ⟨#[]⟩) (changedR R f) w := by
  refine ⟨enters_of Tryz.func103 (by kernel_rfl) rfl, shrinks_changed _ hR.2.1, ?_⟩
  intro W s hW hs
  have hWb : ∀ w1, Below W.heap.size W w1 → w1.cell? ⟨b, 0, none⟩ = some (.func (.func g) #[] lb) := fun w1 h1 => ((up hW h1).cell (p := ⟨b, 0, none⟩) (World.block_lt_of_cell? w _ hb)).trans hb
  have hWc : ∀ w1, Below W.heap.size W w1 → w1.cell? ⟨c, 0, none⟩ = some (.func (.func h) #[] lc) := fun w1 h1 => ((up hW h1).cell (p := ⟨c, 0, none⟩) (World.block_lt_of_cell? w _ hc)).trans hc
  have hb0 := hWb W (Below.refl _ _)
  have HWC := hide hWc
  have HR := hide hR
  have HM := hide hM
  have HW := hide hW
  have eg : ∀ args w, (callFunc g args).run Tryz.prog w = .ok (.enter g args) w := hR.1
  have eh : ∀ args w, (callFunc h args).run Tryz.prog w = .ok (.enter h args) w := hM.1
  clear hb hc hW hR hM hWb hWc
  go_enter Tryz.func103, Tryz.ntmps103
  go_wp2_with (go_at_fn g; refine ((unhide HR).2.2 _ s (unhide HW) hs).mono ?_)
  intro e w1 hgot
  obtain ⟨b1, hgot⟩ := hgot
  rcases hgot with ⟨hn, rfl⟩ | ⟨x, q, v, hn, hrep, rfl⟩
  · have HN := hide hn
    clear hn
    go_wp2_with (go_at_call 104; refine (fail_text _).mono ?_)
    rintro e w2 ⟨rfl, rfl⟩
    go_wp2
    go_ret3
    refine ⟨b1, Or.inl ⟨?_, rfl⟩⟩
    unfold changedR
    rw [unhide HN]
  · have HN := hide hn
    have HREP := hide hrep
    have hc1 := unhide HWC w1 b1
    have HB1 := hide (up (unhide HW) b1)
    clear hn hrep
    go_wp2_with (go_at_fn h; refine ((unhide HM).2 _ W.heap.size x v (unhide HB1) b1.size (unhide HREP)).mono ?_)
    intro e w2 hmade
    obtain ⟨b2, hmade⟩ := hmade
    rcases hmade with ⟨hf, u, _, rfl⟩ | ⟨y, u, hf, hrepu, rfl⟩
    · have HF := hide hf
      clear hf
      go_wp2_with (go_at_call 104; refine (fail_text _).mono ?_)
      rintro e w3 ⟨rfl, rfl⟩
      go_wp2
      go_ret3
      refine ⟨b1.trans b2, Or.inl ⟨?_, rfl⟩⟩
      unfold changedR
      rw [unhide HN]
      simp only [unhide HF]
    · have HF := hide hf
      clear hf
      go_wp2
      go_ret3
      refine ⟨b1.trans b2, Or.inr ⟨y, q, u, ?_, hrepu, rfl⟩⟩
      unfold changedR
      rw [unhide HN]
      simp only [unhide HF]

set_option maxHeartbeats 400000 in
theorem changed_runes_text {α β : Type} (repA : Rep α) (repB : Rep β) (g h : Nat) (lb lc : Array Value) (R : Bytes → Option (α × Bytes)) (f : α → Option β) (w : World) (hR : Reads g lb repA (.slice none 0 0) R w) (hM : Makes h lc repA repB f w) :
    Calls Tryz.prog 49 #[.func (.func g) #[] lb, .func (.func h) #[] lc] w fun e w' => Below w.heap.size w w' ∧ ∃ l, e = .returned (.func (.func 103) #[] l) ∧ Reads 103 l repB (.string ⟨#[]⟩) (changedR R f) w' := by
  have hmf := mf
  have HR := hide hR
  have HM := hide hM
  clear hR hM
  go_enter Tryz.func49, Tryz.ntmps49
  go_wp2
  go_ret
  have hbel := ((Below.refl _ w).alloc (Nat.le_refl _) (.cells #[.func (.func g) #[] lb] 105)).alloc (by simp) (.cells #[.func (.func h) #[] lc] 110)
  exact ⟨hbel, _, rfl, changed_runes_text_reads repA repB g h lb lc R f _ _ _ (by simp) (by simp) ((unhide HR).later hbel) ((unhide HM).later hbel)⟩

set_option maxHeartbeats 400000 in
theorem changed_int64_int64_reads {α β : Type} (repA : Rep α) (repB : Rep β) (g h : Nat) (lb lc : Array Value) (R : Bytes → Option (α × Bytes)) (f : α → Option β) (b c : Nat) (w : World) (hb : w.cell? ⟨b, 0, none⟩ = some (.func (.func g) #[] lb)) (hc : w.cell? ⟨c, 0, none⟩ = some (.func (.func h) #[] lc)) (hR : Reads g lb repA (.int .i64 0) R w) (hM : Makes h lc repA repB f w) :
    Reads 115 #[.pointer (some ⟨b, 0, none⟩), .pointer (some ⟨c, 0, none⟩)] repB (.int .i64 0) (changedR R f) w := by
  refine ⟨enters_of Tryz.func115 (by kernel_rfl) rfl, shrinks_changed _ hR.2.1, ?_⟩
  intro W s hW hs
  have hWb : ∀ w1, Below W.heap.size W w1 → w1.cell? ⟨b, 0, none⟩ = some (.func (.func g) #[] lb) := fun w1 h1 => ((up hW h1).cell (p := ⟨b, 0, none⟩) (World.block_lt_of_cell? w _ hb)).trans hb
  have hWc : ∀ w1, Below W.heap.size W w1 → w1.cell? ⟨c, 0, none⟩ = some (.func (.func h) #[] lc) := fun w1 h1 => ((up hW h1).cell (p := ⟨c, 0, none⟩) (World.block_lt_of_cell? w _ hc)).trans hc
  have hb0 := hWb W (Below.refl _ _)
  have HWC := hide hWc
  have HR := hide hR
  have HM := hide hM
  have HW := hide hW
  have eg : ∀ args w, (callFunc g args).run Tryz.prog w = .ok (.enter g args) w := hR.1
  have eh : ∀ args w, (callFunc h args).run Tryz.prog w = .ok (.enter h args) w := hM.1
  clear hb hc hW hR hM hWb hWc
  go_enter Tryz.func115, Tryz.ntmps115
  go_wp2_with (go_at_fn g; refine ((unhide HR).2.2 _ s (unhide HW) hs).mono ?_)
  intro e w1 hgot
  obtain ⟨b1, hgot⟩ := hgot
  rcases hgot with ⟨hn, rfl⟩ | ⟨x, q, v, hn, hrep, rfl⟩
  · have HN := hide hn
    clear hn
    go_wp2_with (go_at_call 113; refine (fail_int64 _).mono ?_)
    rintro e w2 ⟨rfl, rfl⟩
    go_wp2
    go_ret3
    refine ⟨b1, Or.inl ⟨?_, rfl⟩⟩
    unfold changedR
    rw [unhide HN]
  · have HN := hide hn
    have HREP := hide hrep
    have hc1 := unhide HWC w1 b1
    have HB1 := hide (up (unhide HW) b1)
    clear hn hrep
    go_wp2_with (go_at_fn h; refine ((unhide HM).2 _ W.heap.size x v (unhide HB1) b1.size (unhide HREP)).mono ?_)
    intro e w2 hmade
    obtain ⟨b2, hmade⟩ := hmade
    rcases hmade with ⟨hf, u, _, rfl⟩ | ⟨y, u, hf, hrepu, rfl⟩
    · have HF := hide hf
      clear hf
      go_wp2_with (go_at_call 113; refine (fail_int64 _).mono ?_)
      rintro e w3 ⟨rfl, rfl⟩
      go_wp2
      go_ret3
      refine ⟨b1.trans b2, Or.inl ⟨?_, rfl⟩⟩
      unfold changedR
      rw [unhide HN]
      simp only [unhide HF]
    · have HF := hide hf
      clear hf
      go_wp2
      go_ret3
      refine ⟨b1.trans b2, Or.inr ⟨y, q, u, ?_, hrepu, rfl⟩⟩
      unfold changedR
      rw [unhide HN]
      simp only [unhide HF]

set_option maxHeartbeats 400000 in
theorem changed_int64_int64 {α β : Type} (repA : Rep α) (repB : Rep β) (g h : Nat) (lb lc : Array Value) (R : Bytes → Option (α × Bytes)) (f : α → Option β) (w : World) (hR : Reads g lb repA (.int .i64 0) R w) (hM : Makes h lc repA repB f w) :
    Calls Tryz.prog 63 #[.func (.func g) #[] lb, .func (.func h) #[] lc] w fun e w' => Below w.heap.size w w' ∧ ∃ l, e = .returned (.func (.func 115) #[] l) ∧ Reads 115 l repB (.int .i64 0) (changedR R f) w' := by
  have hmf := mf
  have HR := hide hR
  have HM := hide hM
  clear hR hM
  go_enter Tryz.func63, Tryz.ntmps63
  go_wp2
  go_ret
  have hbel := ((Below.refl _ w).alloc (Nat.le_refl _) (.cells #[.func (.func g) #[] lb] 61)).alloc (by simp) (.cells #[.func (.func h) #[] lc] 120)
  exact ⟨hbel, _, rfl, changed_int64_int64_reads repA repB g h lb lc R f _ _ _ (by simp) (by simp) ((unhide HR).later hbel) ((unhide HM).later hbel)⟩

end Go.Proofs.YtgaddifabjoliaaGreatDoor
