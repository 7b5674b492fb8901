import Derived.Test.YtgaddifabjoliaaGreatDoorKitB
namespace Go.Proofs.YtgaddifabjoliaaGreatDoor
open Go.RowKit

set_option maxHeartbeats 400000 in
theorem padded_text_reads {α : Type} (rep : Rep α) (g : Nat) (lb : Array Value) (R : Bytes → Option (α × Bytes)) (c : Nat) (w : World) (hc : w.cell? ⟨c, 0, none⟩ = some (.func (.func g) #[] lb)) (hR : Reads g lb rep (.string ⟨#[]⟩) R w) :
    Reads 136 #[.pointer (some ⟨c, 0, none⟩)] rep (.string ⟨#[]⟩) (paddedR R) w := by
  refine ⟨enters_of Tryz.func136 (by kernel_rfl) rfl, shrinks_padded hR.2.1, ?_⟩
  intro W s hW hs
  obtain ⟨t, ht⟩ : ∃ t : ByteArray, t.data.toList = skipB s.data.toList := ⟨⟨(skipB s.data.toList).toArray⟩, rfl⟩
  have hts : t.size ≤ 4000 := by
    rw [text_size ht]
    have h1 := skipB_length s.data.toList
    have h2 := text_size (rfl : s.data.toList = s.data.toList)
    omega
  have HT := hide ht
  have HR := hide hR
  have HW := hide hW
  have hWc : ∀ w1, Below W.heap.size W w1 → w1.cell? ⟨c, 0, none⟩ = some (.func (.func g) #[] lb) := fun w1 h1 => ((up hW h1).cell (p := ⟨c, 0, none⟩) (World.block_lt_of_cell? w _ hc)).trans hc
  have hc0 := hWc W (Below.refl _ _)
  have HWC := hide hWc
  have eg : ∀ args w, (callFunc g args).run Tryz.prog w = .ok (.enter g args) w := hR.1
  clear hc hW hR ht hWc
  go_enter Tryz.func136, Tryz.ntmps136
  go_wp2
  go_region_with (first | (go_at_call 68; refine (skipBlanks_to s t _ (unhide HT)).mono ?_; rintro e w0 ⟨rfl, b0'⟩; have b0 := up drewB b0'; clear b0'; have hc1 := unhide HWC w0 b0; have HB0 := hide (up (unhide HW) b0)) | (go_at_fn g; refine ((unhide HR).2.2 _ t (unhide HB0) hts).mono ?_; intro e w1 hgot; obtain ⟨v, r, ok, he, b1, hwas⟩ := hgot.one; subst he; clear hgot; have HWAS := hide hwas; clear hwas))
  all_goals
    rcases unhide HWAS with ⟨hn, rfl, rfl, rfl⟩ | ⟨x, q, hn, hrep, rfl, rfl⟩
    · have HN := hide hn
      clear hn HWAS
      go_wp2_with (go_at_call 104; refine (fail_text _).mono ?_)
      rintro e w2 ⟨rfl, rfl⟩
      go_wp2
      go_ret3
      refine ⟨up b0 b1, Or.inl ⟨?_, rfl⟩⟩
      unfold paddedR
      rw [← unhide HT, unhide HN]
    · have HN := hide hn
      have HREP := hide hrep
      clear hn hrep HWAS
      obtain ⟨p, hp⟩ : ∃ p : ByteArray, p.data.toList = skipB q := ⟨⟨(skipB q).toArray⟩, rfl⟩
      have HPP := hide hp
      clear hp
      go_wp2_with (go_at_call 68; refine (skipBlanks_to ⟨q.toArray⟩ p _ (unhide HPP)).mono ?_)
      rintro e w2 ⟨rfl, b2⟩
      go_wp2
      go_ret3
      refine ⟨up (up b0 b1) b2, Or.inr ⟨x, p.data.toList, v, ?_, rep.stays (rep.antiB (unhide HREP) b0.size) (above_of_below b2), rfl⟩⟩
      unfold paddedR
      rw [← unhide HT, unhide HN]
      simp only [unhide HPP]

set_option maxHeartbeats 400000 in
theorem padded_text {α : Type} (rep : Rep α) (g : Nat) (lb : Array Value) (R : Bytes → Option (α × Bytes)) (w : World) (hR : Reads g lb rep (.string ⟨#[]⟩) R w) :
    Calls Tryz.prog 88 #[.func (.func g) #[] lb] w fun e w' => Below w.heap.size w w' ∧ ∃ l, e = .returned (.func (.func 136) #[] l) ∧ Reads 136 l rep (.string ⟨#[]⟩) (paddedR R) w' := by
  have hmf := mf
  have HR := hide hR
  clear hR
  go_enter Tryz.func88, Tryz.ntmps88
  go_wp2
  go_ret
  have hbel := (Below.refl _ w).alloc (Nat.le_refl _) (.cells #[.func (.func g) #[] lb] 55)
  exact ⟨hbel, _, rfl, padded_text_reads rep g lb R _ _ (by simp) ((unhide HR).later hbel)⟩

set_option maxHeartbeats 400000 in
theorem padded_values_reads {α : Type} (rep : Rep α) (g : Nat) (lb : Array Value) (R : Bytes → Option (α × Bytes)) (c : Nat) (w : World) (hc : w.cell? ⟨c, 0, none⟩ = some (.func (.func g) #[] lb)) (hR : Reads g lb rep (.slice none 0 0) R w) :
    Reads 118 #[.pointer (some ⟨c, 0, none⟩)] rep (.slice none 0 0) (paddedR R) w := by
  refine ⟨enters_of Tryz.func118 (by kernel_rfl) rfl, shrinks_padded hR.2.1, ?_⟩
  intro W s hW hs
  obtain ⟨t, ht⟩ : ∃ t : ByteArray, t.data.toList = skipB s.data.toList := ⟨⟨(skipB s.data.toList).toArray⟩, rfl⟩
  have hts : t.size ≤ 4000 := by
    rw [text_size ht]
    have h1 := skipB_length s.data.toList
    have h2 := text_size (rfl : s.data.toList = s.data.toList)
    omega
  have HT := hide ht
  have HR := hide hR
  have HW := hide hW
  have hWc : ∀ w1, Below W.heap.size W w1 → w1.cell? ⟨c, 0, none⟩ = some (.func (.func g) #[] lb) := fun w1 h1 => ((up hW h1).cell (p := ⟨c, 0, none⟩) (World.block_lt_of_cell? w _ hc)).trans hc
  have hc0 := hWc W (Below.refl _ _)
  have HWC := hide hWc
  have eg : ∀ args w, (callFunc g args).run Tryz.prog w = .ok (.enter g args) w := hR.1
  clear hc hW hR ht hWc
  go_enter Tryz.func118, Tryz.ntmps118
  go_wp2
  go_region_with (first | (go_at_call 68; refine (skipBlanks_to s t _ (unhide HT)).mono ?_; rintro e w0 ⟨rfl, b0'⟩; have b0 := up drewB b0'; clear b0'; have hc1 := unhide HWC w0 b0; have HB0 := hide (up (unhide HW) b0)) | (go_at_fn g; refine ((unhide HR).2.2 _ t (unhide HB0) hts).mono ?_; intro e w1 hgot; obtain ⟨v, r, ok, he, b1, hwas⟩ := hgot.one; subst he; clear hgot; have HWAS := hide hwas; clear hwas))
  all_goals
    rcases unhide HWAS with ⟨hn, rfl, rfl, rfl⟩ | ⟨x, q, hn, hrep, rfl, rfl⟩
    · have HN := hide hn
      clear hn HWAS
      go_wp2_with (go_at_call 119; refine (fail_values _).mono ?_)
      rintro e w2 ⟨rfl, rfl⟩
      go_wp2
      go_ret3
      refine ⟨up b0 b1, Or.inl ⟨?_, rfl⟩⟩
      unfold paddedR
      rw [← unhide HT, unhide HN]
    · have HN := hide hn
      have HREP := hide hrep
      clear hn hrep HWAS
      obtain ⟨p, hp⟩ : ∃ p : ByteArray, p.data.toList = skipB q := ⟨⟨(skipB q).toArray⟩, rfl⟩
      have HPP := hide hp
      clear hp
      go_wp2_with (go_at_call 68; refine (skipBlanks_to ⟨q.toArray⟩ p _ (unhide HPP)).mono ?_)
      rintro e w2 ⟨rfl, b2⟩
      go_wp2
      go_ret3
      refine ⟨up (up b0 b1) b2, Or.inr ⟨x, p.data.toList, v, ?_, rep.stays (rep.antiB (unhide HREP) b0.size) (above_of_below b2), rfl⟩⟩
      unfold paddedR
      rw [← unhide HT, unhide HN]
      simp only [unhide HPP]

set_option maxHeartbeats 400000 in
theorem padded_values {α : Type} (rep : Rep α) (g : Nat) (lb : Array Value) (R : Bytes → Option (α × Bytes)) (w : World) (hR : Reads g lb rep (.slice none 0 0) R w) :
    Calls Tryz.prog 70 #[.func (.func g) #[] lb] w fun e w' => Below w.heap.size w w' ∧ ∃ l, e = .returned (.func (.func 118) #[] l) ∧ Reads 118 l rep (.slice none 0 0) (paddedR R) w' := by
  have hmf := mf
  have HR := hide hR
  clear hR
  go_enter Tryz.func70, Tryz.ntmps70
  go_wp2
  go_ret
  have hbel := (Below.refl _ w).alloc (Nat.le_refl _) (.cells #[.func (.func g) #[] lb] 69)
  exact ⟨hbel, _, rfl, padded_values_reads rep g lb R _ _ (by simp) ((unhide HR).later hbel)⟩

set_option maxHeartbeats 400000 in
theorem padded_members_reads {α : Type} (rep : Rep α) (g : Nat) (lb : Array Value) (R : Bytes → Option (α × Bytes)) (c : Nat) (w : World) (hc : w.cell? ⟨c, 0, none⟩ = some (.func (.func g) #[] lb)) (hR : Reads g lb rep (.slice none 0 0) R w) :
    Reads 126 #[.pointer (some ⟨c, 0, none⟩)] rep (.slice none 0 0) (paddedR R) w := by
  refine ⟨enters_of Tryz.func126 (by kernel_rfl) rfl, shrinks_padded hR.2.1, ?_⟩
  intro W s hW hs
  obtain ⟨t, ht⟩ : ∃ t : ByteArray, t.data.toList = skipB s.data.toList := ⟨⟨(skipB s.data.toList).toArray⟩, rfl⟩
  have hts : t.size ≤ 4000 := by
    rw [text_size ht]
    have h1 := skipB_length s.data.toList
    have h2 := text_size (rfl : s.data.toList = s.data.toList)
    omega
  have HT := hide ht
  have HR := hide hR
  have HW := hide hW
  have hWc : ∀ w1, Below W.heap.size W w1 → w1.cell? ⟨c, 0, none⟩ = some (.func (.func g) #[] lb) := fun w1 h1 => ((up hW h1).cell (p := ⟨c, 0, none⟩) (World.block_lt_of_cell? w _ hc)).trans hc
  have hc0 := hWc W (Below.refl _ _)
  have HWC := hide hWc
  have eg : ∀ args w, (callFunc g args).run Tryz.prog w = .ok (.enter g args) w := hR.1
  clear hc hW hR ht hWc
  go_enter Tryz.func126, Tryz.ntmps126
  go_wp2
  go_region_with (first | (go_at_call 68; refine (skipBlanks_to s t _ (unhide HT)).mono ?_; rintro e w0 ⟨rfl, b0'⟩; have b0 := up drewB b0'; clear b0'; have hc1 := unhide HWC w0 b0; have HB0 := hide (up (unhide HW) b0)) | (go_at_fn g; refine ((unhide HR).2.2 _ t (unhide HB0) hts).mono ?_; intro e w1 hgot; obtain ⟨v, r, ok, he, b1, hwas⟩ := hgot.one; subst he; clear hgot; have HWAS := hide hwas; clear hwas))
  all_goals
    rcases unhide HWAS with ⟨hn, rfl, rfl, rfl⟩ | ⟨x, q, hn, hrep, rfl, rfl⟩
    · have HN := hide hn
      clear hn HWAS
      go_wp2_with (go_at_call 127; refine (fail_members _).mono ?_)
      rintro e w2 ⟨rfl, rfl⟩
      go_wp2
      go_ret3
      refine ⟨up b0 b1, Or.inl ⟨?_, rfl⟩⟩
      unfold paddedR
      rw [← unhide HT, unhide HN]
    · have HN := hide hn
      have HREP := hide hrep
      clear hn hrep HWAS
      obtain ⟨p, hp⟩ : ∃ p : ByteArray, p.data.toList = skipB q := ⟨⟨(skipB q).toArray⟩, rfl⟩
      have HPP := hide hp
      clear hp
      go_wp2_with (go_at_call 68; refine (skipBlanks_to ⟨q.toArray⟩ p _ (unhide HPP)).mono ?_)
      rintro e w2 ⟨rfl, b2⟩
      go_wp2
      go_ret3
      refine ⟨up (up b0 b1) b2, Or.inr ⟨x, p.data.toList, v, ?_, rep.stays (rep.antiB (unhide HREP) b0.size) (above_of_below b2), rfl⟩⟩
      unfold paddedR
      rw [← unhide HT, unhide HN]
      simp only [unhide HPP]

set_option maxHeartbeats 400000 in
theorem padded_members {α : Type} (rep : Rep α) (g : Nat) (lb : Array Value) (R : Bytes → Option (α × Bytes)) (w : World) (hR : Reads g lb rep (.slice none 0 0) R w) :
    Calls Tryz.prog 79 #[.func (.func g) #[] lb] w fun e w' => Below w.heap.size w w' ∧ ∃ l, e = .returned (.func (.func 126) #[] l) ∧ Reads 126 l rep (.slice none 0 0) (paddedR R) w' := by
  have hmf := mf
  have HR := hide hR
  clear hR
  go_enter Tryz.func79, Tryz.ntmps79
  go_wp2
  go_ret
  have hbel := (Below.refl _ w).alloc (Nat.le_refl _) (.cells #[.func (.func g) #[] lb] 74)
  exact ⟨hbel, _, rfl, padded_members_reads rep g lb R _ _ (by simp) ((unhide HR).later hbel)⟩

end Go.Proofs.YtgaddifabjoliaaGreatDoor
