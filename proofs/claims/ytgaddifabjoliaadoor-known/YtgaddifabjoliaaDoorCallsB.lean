import Derived.Test.YtgaddifabjoliaaDoorCalls
import Derived.Test.YtgaddifabjoliaaDoorSumB
namespace Go.Proofs.YtgaddifabjoliaaDoor
open Go.RowKit

set_option maxRecDepth 20000 in
theorem sum512_at (s : ByteArray) (w : World) (hL : Laid w) (hs : s.size < 2 ^ 60) :
    Calls Tryd.prog 8 #[.string s] w fun e w' => e = .returned (.string ⟨(sumF m512 s.data.toList).toArray⟩) ∧ Below w.heap.size w w' := by
  go_enter Tryd.func8, Tryd.ntmps8
  go_wp2_with (go_at_call 16; refine (sum64 s w hL hs).mono ?_)
  rintro e w1 ⟨rfl, hb⟩
  go_wp2
  go_ret
  exact ⟨rfl, hb⟩


theorem sum512_ex (s : ByteArray) (w : World) (hL : Laid w) (hs : s.size < 2 ^ 60) :
    Calls Tryd.prog 8 #[.string s] w fun e w' => ∃ y : ByteArray, e = .returned (.string y) ∧ y.size = 64 ∧ Hid (y.data.toList = sumF m512 s.data.toList) ∧ Below w.heap.size w w' :=
  (sum512_at s w hL hs).mono fun e w' h => ⟨_, h.1, by show (sumF m512 s.data.toList).toArray.size = 64; simp [sumF_512], rfl, h.2⟩
end Go.Proofs.YtgaddifabjoliaaDoor
