import Derived.Test.YtgaddifabjoliaaGreatDoorKit
namespace Go.Proofs.YtgaddifabjoliaaGreatDoor
open Go.RowKit

theorem fail_rune (w : World) : Calls Tryz.prog 99 #[] w fun e w' => e = .returned (.tuple #[.int .i32 0, .string ⟨#[]⟩, .bool false]) ∧ w' = w := by
  go_enter Tryz.func99, Tryz.ntmps99
  go_wp2
  go_ret3
  exact ⟨rfl, rfl⟩

set_option maxHeartbeats 400000 in
theorem word_rune_reads (text : ByteArray) (x : Int) (b c : Nat) (w : World) (hb : w.cell? ⟨b, 0, none⟩ = some (.string text)) (hc : w.cell? ⟨c, 0, none⟩ = some (.int .i32 x)) :
    Reads 148 #[.pointer (some ⟨b, 0, none⟩), .pointer (some ⟨c, 0, none⟩)] repI32 (.int .i32 0) (wordR text.data.toList x) w := by
  refine ⟨enters_of Tryz.func148 (by kernel_rfl) rfl, shrinks_word _ _, ?_⟩
  intro W s hW hs
  have hb' := (hW.cell (p := ⟨b, 0, none⟩) (World.block_lt_of_cell? w _ hb)).trans hb
  have hc' := (hW.cell (p := ⟨c, 0, none⟩) (World.block_lt_of_cell? w _ hc)).trans hc
  clear hb hc hW
  cases hp : text.data.toList.isPrefixOf s.data.toList with
  | true =>
    obtain ⟨r, hr⟩ : ∃ r : ByteArray, r.data.toList = s.data.toList.drop text.data.toList.length := ⟨⟨(s.data.toList.drop text.data.toList.length).toArray⟩, rfl⟩
    have HP := hide hp
    have HR := hide hr
    clear hp hr
    go_enter Tryz.func148, Tryz.ntmps148
    go_wp2_with (go_at_call 59; refine (cutPrefix_hit s text r _ (unhide HP) (unhide HR)).mono ?_)
    rintro e w1 ⟨rfl, rfl⟩
    go_wp2
    go_ret3
    refine ⟨Below.refl _ _, Or.inr ⟨x, r.data.toList, _, ?_, rfl, rfl⟩⟩
    unfold wordR
    rw [if_pos (unhide HP), unhide HR]
  | false =>
    have HP := hide hp
    clear hp
    go_enter Tryz.func148, Tryz.ntmps148
    go_wp2_with (first | (go_at_call 59; refine (cutPrefix_miss s text _ (unhide HP)).mono ?_) | (go_at_call 99; refine (fail_rune _).mono ?_))
    rintro e w1 ⟨rfl, rfl⟩
    go_wp2_with (go_at_call 99; refine (fail_rune _).mono ?_)
    rintro e w2 ⟨rfl, rfl⟩
    go_wp2
    go_ret3
    refine ⟨Below.refl _ _, Or.inl ⟨?_, rfl⟩⟩
    unfold wordR
    rw [if_neg (by simp [unhide HP])]

set_option maxHeartbeats 400000 in
theorem word_rune (text : ByteArray) (x : Int) (w : World) :
    Calls Tryz.prog 110 #[.string text, .int .i32 x] w fun e w' => Below w.heap.size w w' ∧ ∃ lb, e = .returned (.func (.func 148) #[] lb) ∧ Reads 148 lb repI32 (.int .i32 0) (wordR text.data.toList x) w' := by
  have hmf : ∀ (fn : Fn) (first cap : Array Value) (w : World), (Instr.makeFunc fn first cap).run Tryz.prog w = .ok (.func fn first cap) w := fun _ _ _ _ => rfl
  go_enter Tryz.func110, Tryz.ntmps110
  go_wp2
  go_ret
  refine ⟨((Below.refl _ _).alloc (Nat.le_refl _) _).alloc (by simp) _, _, rfl, ?_⟩
  refine word_rune_reads text x _ _ _ ?_ ?_
  · simp
  · simp
end Go.Proofs.YtgaddifabjoliaaGreatDoor
