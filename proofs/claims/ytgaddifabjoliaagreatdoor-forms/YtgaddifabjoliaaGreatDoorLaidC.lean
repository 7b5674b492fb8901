import Derived.Test.YtgaddifabjoliaaGreatDoorCards
import Derived.Test.YtgaddifabjoliaaGreatDoorTie
import Derived.Test.YtgaddifabjoliaaGreatDoorCost
import Derived.WalkKit
import Derived.ProofKit
import Derived.OpenShut
import Derived.ShutString
import Derived.Deep.DeepHandedRow
import Derived.Deep.DeepWitnessRowRef
import Derived.Lib.LaidTab
import Derived.Lib.LaidU8T
import Derived.Stop.LaidErr
import Derived.PinnedBridge
import Derived.LaidSub
import Derived.MakeChecks
import Derived.SizedLaws
namespace Go.Proofs.YtgaddifabjoliaaGreatDoor
open Go.Shelf Go.ChangeShapes Go.WideShapes Go.ChangeAt Go.RowKit

/-! ### The library's variables, as they are laid -/
abbrev vars : List (String × DataW Unit) := Rows.plainRow.laid
theorem knobs : ownKnob Tryz.prog.godebug = none := by kernel_rfl

def u8Ren : Ren := ⟨fun n => n, fun | 5 => 5 | 119 => 211 | 138 => 213 | 139 => 214 | n => n, fun | 3 => 2 | 4 => 3 | n => n⟩
theorem u8Types : U8Types Tryz.prog u8Ren := ⟨by kernel_rfl, by kernel_rfl, by kernel_rfl, by kernel_rfl⟩
theorem u8Extra : U8Extra Tryz.prog u8Ren := ⟨by kernel_rfl, by kernel_rfl, by kernel_rfl, by kernel_rfl, by kernel_rfl, by kernel_rfl, by kernel_rfl⟩
theorem acceptIs : (Rows.laid_unicode_utf8_acceptRanges : DataW Unit) = Lib.acceptData := by kernel_rfl
theorem firstIs : Rows.laid_unicode_utf8_first = Lib.firstData := Pinned.utf8First_eq
theorem powIs : (Rows.laid_internal_strconv_uint64pow10 : DataW Unit) = Lib.tabData .u64 Lib.pow10Tab := by kernel_rfl

theorem gPow : Tryz.prog.globalNamed "internal/strconv.uint64pow10" = some 1 := by kernel_rfl
theorem gPowType : (Tryz.prog.globals[1]?).map (·.type) = some 207 := by kernel_rfl
theorem cells20 : Tryz.prog.cellsOf 207 = 20 := by kernel_rfl
theorem cells1 : Tryz.prog.cellsOf 181 = 1 := by kernel_rfl
theorem uPow : Tryz.prog.underlying 207 = some (.array 20 181) := by kernel_rfl
theorem uU64 : Tryz.prog.underlying 181 = some (.int .u64) := by kernel_rfl

theorem star : "*" ++ "errors.errorString" = "*errors.errorString" := by decide
theorem errRow (u : TypeId) (h : Tryz.prog.typeName? 3 u = some "*errors.errorString") : u = 239 :=
  typeName_ptr_named (nm := "errors.errorString") (by rw [star]; kernel_rfl) (by kernel_rfl) (by decide) u (by rw [star]; exact h)
theorem uErr : Tryz.prog.underlying 83 = some (.interface #[("Error", 33)]) := by kernel_rfl
theorem uErrP : Tryz.prog.underlying 239 = some (.pointer 241) := by kernel_rfl
theorem uErrS : Tryz.prog.underlying 241 = some (.struct #[{ name := "s", type := 9, offset := 0, embedded := false, tag := "", pkgPath := "errors", byteOffset := 0 }]) := by kernel_rfl
theorem uStr : Tryz.prog.underlying 9 = some .string := by kernel_rfl

theorem sentinel_cell {W : World} {n : String} {text : List UInt8} {g : Nat} (h : laidMet Tryz.prog [(n, .iface "*errors.errorString" (.ptr (.agg [.lit (.string text)])))] W) (hg : Tryz.prog.globalNamed n = some g) (ht : (Tryz.prog.globals[g]?).map (·.type) = some 83) :
    ∃ ev, W.cell? ⟨g, 0, none⟩ = some ev ∧ (ev = .nilIface ∨ ∃ te pe, ev = .iface te pe) := by
  obtain ⟨a, s, hv, _⟩ := laid_sentinel h hg ht uErr errRow uErrP uErrS rfl rfl uStr (by kernel_rfl) (by kernel_rfl)
  exact ⟨.iface 239 (.pointer (some a)), by rw [World.var?_cell hg hv 0]; rfl, Or.inr ⟨_, _, rfl⟩⟩

theorem laid_of {W : World} (h : laidMetH Tryz.prog vars W) : Laid W := by
  have hm : laidMet Tryz.prog vars W := by
    rw [← Go.MakeChecks.laidMetH_plain Tryz.prog vars W (by kernel_rfl)]; exact h
  refine ⟨?_, ⟨?_, ?_⟩, ?_⟩
  · have h3 : Lib.VarReads Tryz.prog W "unicode/utf8.first" Lib.firstData := by
      rw [← firstIs]
      exact Lib.laidMet.reads hm (.tail _ (.tail _ (.tail _ (.tail _ (.tail _ (.tail _ (.head _)))))))
    have h4 : Lib.VarReads Tryz.prog W "unicode/utf8.acceptRanges" Lib.acceptData := by
      rw [← acceptIs]
      exact Lib.laidMet.reads hm (.tail _ (.tail _ (.tail _ (.head _))))
    exact utf8Tabs_of_readsT u8Types u8Extra h3 h4
  · exact sentinel_cell (text := [105, 110, 118, 97, 108, 105, 100, 32, 115, 121, 110, 116, 97, 120]) (hm.filter (fun x => x.1 == "strconv.ErrSyntax")) (by kernel_rfl) (by kernel_rfl)
  · exact sentinel_cell (text := [118, 97, 108, 117, 101, 32, 111, 117, 116, 32, 111, 102, 32, 114, 97, 110, 103, 101]) (hm.filter (fun x => x.1 == "strconv.ErrRange")) (by kernel_rfl) (by kernel_rfl)
  · have h1 : laidMet Tryz.prog [("internal/strconv.uint64pow10", Lib.tabData .u64 Lib.pow10Tab)] W := by
      rw [← powIs]
      exact hm.filter (fun x => x.1 == "internal/strconv.uint64pow10")
    exact Lib.tabIs_of_head (rest := []) gPow gPowType uPow uU64 cells1 cells20 h1

/-! ### A world in which they are laid -/
def tab32 : List Int := [0, 1, 28, 2, 29, 14, 24, 3, 30, 22, 20, 15, 25, 17, 4, 8, 31, 27, 13, 23, 21, 19, 16, 7, 26, 12, 18, 6, 11, 5, 10, 9]
def tab64 : List Int := [0, 1, 56, 2, 57, 49, 28, 3, 61, 58, 42, 50, 38, 29, 17, 4, 62, 47, 59, 36, 45, 43, 51, 22, 53, 39, 33, 30, 24, 18, 12, 5, 63, 55, 48, 27, 60, 41, 37, 16, 46, 35, 44, 21, 52, 32, 23, 11, 54, 26, 40, 15, 34, 20, 31, 10, 25, 14, 19, 9, 13, 8, 7, 6]
def refill (c : Array Value) : Obj → Obj
  | .cells _ t fr => .cells c t fr
  | o => o
def cellsOfInts (k : IntKind) (l : List Int) : Array Value := (l.map fun z => Value.int k z).toArray
noncomputable def laidWorld (os : Os) : World :=
  let N := (World.settled Tryz.prog os).heap.size
  let w0 := World.holding Tryz.prog os ⟨#[.cells #[.string ⟨#[105, 110, 118, 97, 108, 105, 100, 32, 115, 121, 110, 116, 97, 120]⟩] 241, .cells #[.string ⟨#[118, 97, 108, 117, 101, 32, 111, 117, 116, 32, 111, 102, 32, 114, 97, 110, 103, 101]⟩] 241], #[], []⟩
  let h1 := w0.heap.modify 1 (refill (cellsOfInts .u64 Lib.pow10Tab))
  let h2 := h1.modify 2 (refill (Lib.firstTab.map fun z => Value.int .u8 z).toArray)
  let h3 := h2.modify 3 (refill ((List.range 16).flatMap fun i => [Value.int .u8 (Lib.accLo i), Value.int .u8 (Lib.accHi i)]).toArray)
  let h4 := h3.modify 4 (refill #[.iface 239 (.pointer (some ⟨N, 0, none⟩))])
  let h5 := h4.modify 5 (refill #[.iface 239 (.pointer (some ⟨N + 1, 0, none⟩))])
  let h6 := h5.modify 6 (refill (cellsOfInts .u8 tab32))
  let h7 := h6.modify 7 (refill (cellsOfInts .u8 tab64))
  { w0 with heap := h7 }
set_option maxRecDepth 100000 in
theorem laid_met (os : Os) : laidMet Tryz.prog vars ((laidWorld os).forCall (fun _ _ => 0) ⟨#[], #[.string .empty], []⟩).memory :=
  laidMet_of_run' 8 (by kernel_rfl) (by kernel_rfl)
end Go.Proofs.YtgaddifabjoliaaGreatDoor
