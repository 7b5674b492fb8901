import Derived.Test.YtgaddifabjoliaaGreatDoorKit
import Derived.Shelf.Strings.SlTrimAscii
namespace Go.Proofs.YtgaddifabjoliaaGreatDoor
open Go.RowKit

theorem blanks_skip (l : Bytes) : Lib.trimLeftS l [32, 9, 10, 13] = skipB l := by
  unfold Lib.trimLeftS skipB
  congr 1
  funext c
  rw [Bool.eq_iff_iff]
  simp [isBlank, or_assoc]

set_option maxHeartbeats 400000 in
theorem skipBlanks_to (s t : ByteArray) (w : World) (ht : t.data.toList = skipB s.data.toList) :
    Calls Tryz.prog 68 #[.string s] w fun e w' => e = .returned (.string t) ∧ Below w.heap.size w w' := by
  have h1 := Any.strings_TrimLeft_laid Tryz.lays161 (by kernel_rfl) s ⟨#[32, 9, 10, 13]⟩ w (by decide) (ascii_of_all (by decide))
  have e1 : (⟨(Lib.trimLeftS s.data.toList (ByteArray.mk #[32, 9, 10, 13]).data.toList).toArray⟩ : ByteArray) = t := by
    refine text_eq ?_
    rw [ht]
    exact (blanks_skip _).symm
  rw [e1] at h1
  have H1 := hide h1
  clear h1 e1
  go_enter Tryz.func68, Tryz.ntmps68
  go_wp2_with (go_at_call 117; refine (unhide H1).mono ?_)
  rintro e w1 ⟨rfl, b1⟩
  go_wp2
  go_ret
  exact ⟨rfl, b1⟩
end Go.Proofs.YtgaddifabjoliaaGreatDoor
