import Derived.Test.YtgaddifabjoliaaGreatDoorKitB
namespace Go.Proofs.YtgaddifabjoliaaGreatDoor
open Go.RowKit

set_option maxHeartbeats 400000 in
theorem word_values_reads {α : Type} (rep : Rep α) (text : ByteArray) (x : α) (m : Value) (b c : Nat) (w : World) (hm : ∀ F W, rep.rel F W x m) (hb : w.cell? ⟨b, 0, none⟩ = some (.string text)) (hc : w.cell? ⟨c, 0, none⟩ = some m) :
    Reads 120 #[.pointer (some ⟨b, 0, none⟩), .pointer (some ⟨c, 0, none⟩)] rep (.slice none 0 0) (wordR text.data.toList x) w := by
  refine ⟨enters_of Tryz.func120 (by kernel_rfl) rfl, shrinks_word _ _, ?_⟩
  intro W s hW hs
  have hm' := hm (From W.heap.size) W
  have hb' := (hW.cell (p := ⟨b, 0, none⟩) (World.block_lt_of_cell? w _ hb)).trans hb
  have hc' := (hW.cell (p := ⟨c, 0, none⟩) (World.block_lt_of_cell? w _ hc)).trans hc
  clear hb hc hW hm
  cases hp : text.data.toList.isPrefixOf s.data.toList with
  | true =>
    obtain ⟨r, hr⟩ : ∃ r : ByteArray, r.data.toList = s.data.toList.drop text.data.toList.length := ⟨⟨(s.data.toList.drop text.data.toList.length).toArray⟩, rfl⟩
    have HP := hide hp
    have HR := hide hr
    clear hp hr
    go_enter Tryz.func120, Tryz.ntmps120
    go_wp2_with (go_at_call 59; refine (cutPrefix_hit s text r _ (unhide HP) (unhide HR)).mono ?_)
    rintro e w1 ⟨rfl, rfl⟩
    go_wp2
    go_ret3
    refine ⟨Below.refl _ _, Or.inr ⟨x, r.data.toList, m, ?_, hm', rfl⟩⟩
    unfold wordR
    rw [if_pos (unhide HP), unhide HR]
  | false =>
    have HP := hide hp
    clear hp
    go_enter Tryz.func120, Tryz.ntmps120
    go_wp2_with (go_at_call 59; refine (cutPrefix_miss s text _ (unhide HP)).mono ?_)
    rintro e w1 ⟨rfl, rfl⟩
    go_wp2_with (go_at_call 119; refine (fail_values _).mono ?_)
    rintro e w2 ⟨rfl, rfl⟩
    go_wp2
    go_ret3
    refine ⟨Below.refl _ _, Or.inl ⟨?_, rfl⟩⟩
    unfold wordR
    rw [if_neg (by simp [unhide HP])]

set_option maxHeartbeats 400000 in
theorem word_values {α : Type} (rep : Rep α) (text : ByteArray) (x : α) (w : World) (hm : ∀ F W, rep.rel F W x (.slice none 0 0)) :
    Calls Tryz.prog 71 #[.string text, .slice none 0 0] w fun e w' => Below w.heap.size w w' ∧ ∃ lb, e = .returned (.func (.func 120) #[] lb) ∧ Reads 120 lb rep (.slice none 0 0) (wordR text.data.toList x) w' := by
  have hmf := mf
  go_enter Tryz.func71, Tryz.ntmps71
  go_wp2
  go_ret
  refine ⟨((Below.refl _ _).alloc (Nat.le_refl _) _).alloc (by simp) _, _, rfl, ?_⟩
  refine word_values_reads rep text x (.slice none 0 0) _ _ _ hm ?_ ?_
  · simp
  · simp

set_option maxHeartbeats 400000 in
theorem word_members_reads {α : Type} (rep : Rep α) (text : ByteArray) (x : α) (m : Value) (b c : Nat) (w : World) (hm : ∀ F W, rep.rel F W x m) (hb : w.cell? ⟨b, 0, none⟩ = some (.string text)) (hc : w.cell? ⟨c, 0, none⟩ = some m) :
    Reads 128 #[.pointer (some ⟨b, 0, none⟩), .pointer (some ⟨c, 0, none⟩)] rep (.slice none 0 0) (wordR text.data.toList x) w := by
  refine ⟨enters_of Tryz.func128 (by kernel_rfl) rfl, shrinks_word _ _, ?_⟩
  intro W s hW hs
  have hm' := hm (From W.heap.size) W
  have hb' := (hW.cell (p := ⟨b, 0, none⟩) (World.block_lt_of_cell? w _ hb)).trans hb
  have hc' := (hW.cell (p := ⟨c, 0, none⟩) (World.block_lt_of_cell? w _ hc)).trans hc
  clear hb hc hW hm
  cases hp : text.data.toList.isPrefixOf s.data.toList with
  | true =>
    obtain ⟨r, hr⟩ : ∃ r : ByteArray, r.data.toList = s.data.toList.drop text.data.toList.length := ⟨⟨(s.data.toList.drop text.data.toList.length).toArray⟩, rfl⟩
    have HP := hide hp
    have HR := hide hr
    clear hp hr
    go_enter Tryz.func128, Tryz.ntmps128
    go_wp2_with (go_at_call 59; refine (cutPrefix_hit s text r _ (unhide HP) (unhide HR)).mono ?_)
    rintro e w1 ⟨rfl, rfl⟩
    go_wp2
    go_ret3
    refine ⟨Below.refl _ _, Or.inr ⟨x, r.data.toList, m, ?_, hm', rfl⟩⟩
    unfold wordR
    rw [if_pos (unhide HP), unhide HR]
  | false =>
    have HP := hide hp
    clear hp
    go_enter Tryz.func128, Tryz.ntmps128
    go_wp2_with (go_at_call 59; refine (cutPrefix_miss s text _ (unhide HP)).mono ?_)
    rintro e w1 ⟨rfl, rfl⟩
    go_wp2_with (go_at_call 127; refine (fail_members _).mono ?_)
    rintro e w2 ⟨rfl, rfl⟩
    go_wp2
    go_ret3
    refine ⟨Below.refl _ _, Or.inl ⟨?_, rfl⟩⟩
    unfold wordR
    rw [if_neg (by simp [unhide HP])]

set_option maxHeartbeats 400000 in
theorem word_members {α : Type} (rep : Rep α) (text : ByteArray) (x : α) (w : World) (hm : ∀ F W, rep.rel F W x (.slice none 0 0)) :
    Calls Tryz.prog 80 #[.string text, .slice none 0 0] w fun e w' => Below w.heap.size w w' ∧ ∃ lb, e = .returned (.func (.func 128) #[] lb) ∧ Reads 128 lb rep (.slice none 0 0) (wordR text.data.toList x) w' := by
  have hmf := mf
  go_enter Tryz.func80, Tryz.ntmps80
  go_wp2
  go_ret
  refine ⟨((Below.refl _ _).alloc (Nat.le_refl _) _).alloc (by simp) _, _, rfl, ?_⟩
  refine word_members_reads rep text x (.slice none 0 0) _ _ _ hm ?_ ?_
  · simp
  · simp

end Go.Proofs.YtgaddifabjoliaaGreatDoor
