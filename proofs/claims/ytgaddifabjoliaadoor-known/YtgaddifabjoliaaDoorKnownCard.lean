import Derived.Test.YtgaddifabjoliaaDoorCards
import Derived.Test.YtgaddifabjoliaaDoorTie
import Derived.Test.YtgaddifabjoliaaDoorKnown
import Derived.WalkKit
import Derived.ProofKit
import Derived.OpenShut
import Derived.ShutString
import Derived.Deep.DeepHandedRow
import Derived.Lib.LaidTab
import Derived.LaidSub
import Derived.MakeChecks
namespace Go.Proofs.YtgaddifabjoliaaDoor.known
open Go.ChangeShapes Go.WideShapes Go.ChangeAt Go.RowKit
open Go.ChangeMaps (open_string shut_string)

theorem own : ownKnob Tryd.prog.godebug = none := by kernel_rfl
theorem gSq : Tryd.prog.globalNamed "signet/hash.squareRoots" = some 0 := by kernel_rfl
theorem gSqType : (Tryd.prog.globals[0]?).map (·.type) = some 50 := by kernel_rfl
theorem gCu : Tryd.prog.globalNamed "signet/hash.cubeRoots" = some 1 := by kernel_rfl
theorem gCuType : (Tryd.prog.globals[1]?).map (·.type) = some 69 := by kernel_rfl
theorem cells8 : Tryd.prog.cellsOf 50 = 8 := by kernel_rfl
theorem cells80 : Tryd.prog.cellsOf 69 = 80 := by kernel_rfl
theorem cells1 : Tryd.prog.cellsOf 40 = 1 := by kernel_rfl

def ints (l : List Nat) : List Int := l.map fun x : Nat => (x : Int)

theorem met {W : World} (h : laidMetH Tryd.prog Rows.knownUptoRow.laid W) : laidMet Tryd.prog Rows.knownUptoRow.laid W := by
  rw [← Go.MakeChecks.laidMetH_plain Tryd.prog Rows.knownUptoRow.laid W (by kernel_rfl)]; exact h
theorem tabSq {W : World} (h : laidMetH Tryd.prog Rows.knownUptoRow.laid W) : Lib.TabIs Tryd.prog W "signet/hash.squareRoots" .u64 (ints sq) :=
  Lib.tabIs_of_head (rest := [("signet/hash.cubeRoots", Rows.laid_signet_hash_cubeRoots)]) gSq gSqType Tryd.underlying50 Tryd.underlying40 cells1 cells8 (met h)
theorem tabCu {W : World} (h : laidMetH Tryd.prog Rows.knownUptoRow.laid W) : Lib.TabIs Tryd.prog W "signet/hash.cubeRoots" .u64 (ints cu) :=
  Lib.tabIs_of_head (rest := []) gCu gCuType Tryd.underlying69 Tryd.underlying40 cells1 cells80 ((met h).filter (fun x => x.1 == "signet/hash.cubeRoots"))

theorem laid_of {W : World} (h : laidMetH Tryd.prog Rows.knownUptoRow.laid W) : Laid W := by
  have h1 := tabSq h
  have h2 := tabCu h
  have c1 : ∀ j, j < 80 → W.cell? ⟨1, j, none⟩ = some (.int .u64 (cu.getD j 0 : Nat)) := fun j hj => by
    have := h2.cell gCu j (by simp [ints, cu]; omega)
    rw [this]
    have hl : j < cu.length := by simp [cu]; omega
    simp [ints, List.getD_eq_getElem?_getD, List.getElem?_eq_getElem hl]
  refine ⟨?_, fun j hj => ?_, c1⟩
  · have := c1 0 (by decide)
    rcases Nat.lt_or_ge 1 W.heap.size with hh | hh
    · exact hh
    · simp [World.cell?, Array.getElem?_eq_none hh] at this
  · have := h1.cell gSq j (by simp [ints, sq]; omega)
    rw [this]
    have hl : j < sq.length := by simp [sq]; omega
    simp [ints, List.getD_eq_getElem?_getD, List.getElem?_eq_getElem hl]

theorem short {H : Type} {b s : ByteArray} {gs : List (DataW H)} (hk : Rows.uptoSmall H ([.lit (.string b.data.toList), .lit (.string s.data.toList)] ++ gs) = true) : b.size ≤ 1048576 ∧ s.size ≤ 1048576 := by
  have h : Rows.uptoBulkAll ([DataW.lit (H := H) (.string b.data.toList), DataW.lit (H := H) (.string s.data.toList)] ++ gs) ≤ 1048576 := of_decide_eq_true hk
  simp only [List.cons_append, List.nil_append, Rows.uptoBulkAll, Rows.uptoBulk] at h
  have e : b.data.toList.length = b.size := by rw [Array.length_toList]; rfl
  have e2 : s.data.toList.length = s.size := by rw [Array.length_toList]; rfl
  omega

theorem contract (H : Type) (enc : TypeId × Value → H) (W : World) (base : Nat) (args : Array Value) (ds gs : List (DataW H)) (before : List MemPlace)
    (hval : ∀ (j : Nat) t v, Tryd.f4.params[j]? = some t → args[j]? = some v → Value.okWide Tryd.prog W .any base t v)
    (hW : DataW.Whole enc Tryd.prog Tryd.f4.params.toList Rows.knownSpec.vars false W args.toList ds gs before) (hL : laidMetH Tryd.prog Rows.knownUptoRow.laid W) (hk : Rows.uptoSmall H (ds ++ gs) = true) :
    Calls Tryd.prog 4 args W fun e W' => ∃ v, e = .returned v ∧ Rows.knownSpec.post enc Tryd.prog Tryd.f4 false true false false W args v W' := by
  have hW' := hW
  obtain ⟨p, q, hA0, hV, rfl, hfz, hnd⟩ := hW
  have hA : DataW.TrodAll enc Tryd.prog W 0 (fun _ => true) true Tryd.f4.params.toList args.toList ds p := hA0
  rw [Tryd.params4] at hA hval
  obtain ⟨v0, vs0, d0, ds0, p0, q0, hargs, rfl, rfl, h0, r0⟩ := trodAll_cons hA
  obtain ⟨v1, vs1, d1, ds1, p1, q1, rfl, rfl, rfl, h1, r1⟩ := trodAll_cons r0
  obtain ⟨rfl, rfl, rfl⟩ := trodAll_nil r1
  obtain rfl : args = #[v0, v1] := by cases args; simp_all
  obtain ⟨rfl, rfl⟩ := trodVars_none hV
  obtain ⟨a0, rfl, rfl, rfl, w0⟩ := open_string Tryd.underlying9 (hval 0 9 v0 rfl rfl) h0
  obtain ⟨a1, rfl, rfl, rfl, w1⟩ := open_string Tryd.underlying9 (hval 1 9 v1 rfl rfl) h1
  clear hA0
  simp only [List.append_nil] at hW'
  have hsz := short hk
  refine (known_walk a0 a1 W (laid_of hL) (by omega) (by omega)).mono fun e W' ⟨he, bel⟩ => ?_
  subst he
  exact ⟨_, rfl, _, _, _, [], [], [], hW', trodAll_mk1 (shut_bool Tryd.underlying4 _), trodAll_cons_mk (shut_string Tryd.underlying9 w0) (trodAll_cons_mk (shut_string Tryd.underlying9 w1) trodAll_mk0), rfl, bel.frame _, fun h => by cases h⟩

def refill (c : Array Value) : Obj → Obj
  | .cells _ t fr => .cells c t fr
  | o => o
noncomputable def laidWorld (os : Os) : World :=
  { World.holding Tryd.prog os ⟨#[], #[], []⟩ with heap := ((World.holding Tryd.prog os ⟨#[], #[], []⟩).heap.modify 0 (refill (cellsN .u64 sq))).modify 1 (refill (cellsN .u64 cu)) }
set_option maxRecDepth 100000 in
theorem laid_met (os : Os) : laidMet Tryd.prog Rows.knownUptoRow.laid ((laidWorld os).forCall (fun _ _ => 0) ⟨#[], #[.string .empty, .string .empty], []⟩).memory :=
  laidMet_of_run' 8 (by kernel_rfl) (by kernel_rfl)
theorem reads (os : Os) {H : Type} (enc : TypeId × Value → H) : ∃ places, DataW.whole enc Tryd.prog ((laidWorld os).forCall (fun _ _ => 0) ⟨#[], #[.string .empty, .string .empty], []⟩).memory Tryd.f4.params.toList Rows.knownSpec.vars false #[Value.string .empty, Value.string .empty].toList 8 = some ([.lit (.string []), .lit (.string [])], [], places) :=
  ⟨[], by kernel_rfl⟩

set_option maxRecDepth 100000 in
theorem liftedUpto (os : Os) (started : os.Started) (H : Type) (enc : TypeId × Value → H) (F : Stop.Interp) :
    ReturnsInHanded {} Tryd.checked os 4 .any ((Rows.OpenSpec.upto Rows.knownSpec).preRow enc Tryd.prog Tryd.f4 Rows.knownUptoRow.domain false Rows.knownUptoRow.laid) (((Rows.OpenSpec.upto Rows.knownSpec).at F).post enc Tryd.prog Tryd.f4 false true false false) := by
  obtain ⟨places, hx⟩ := reads os enc
  refine returnsInHanded_of_row (C := Tryd.checked) (s := Rows.OpenSpec.upto Rows.knownSpec) own started (by kernel_rfl) Tryd.func4
    (witness_row_at (enc := enc) (C := Tryd.checked) false (laidWorld os) #[.string .empty, .string .empty] rfl (by kernel_rfl) (by kernel_rfl) (by kernel_rfl)
      (OpenSpec.preRow_of_cond 8 hx (by kernel_rfl) (fun k hk => by cases hk; kernel_rfl) (by kernel_rfl) (laid_met os))) ?_
  intro W base args ds gs before hval hW _ hcond _ hL _ _
  exact contract H enc W base args ds gs before hval hW hL (hcond _ rfl)

theorem saidUpto : Rows.KnownUptoSaid :=
  OpenClaim.holds_of_cond 4 Tryd.f4 rfl rfl rfl rfl rfl rfl rfl ⟨rfl, rfl, rfl, rfl, rfl⟩ rfl rfl rfl rfl rfl (by kernel_rfl) Tryd.func4 (by kernel_rfl)
    (of_decide_eq_true (by kernel_rfl)) (by unfold Func.isWrapper; first | (rw [if_pos (by decide +kernel)]; kernel_rfl) | (rw [if_neg (by decide +kernel)]; exact ⟨rfl, rfl⟩))
    (fun os started H enc _ F => by rw [OpenClaim.pre_eq_preRow]; exact liftedUpto os started H enc F)

theorem plain (f : FuncId) (fn : Func) (hf : Tryd.pinned.checked.prog.funcNamed "signet/signetkeep.Known" = some f) (hfn : Tryd.pinned.checked.prog.funcs[f]? = some fn) :
    false = Tryd.pinned.checked.prog.looks [] ∧ ∀ (j : Nat) t, fn.params[j]? = some t → Tryd.pinned.checked.prog.wantsStandIn t = false := by
  obtain rfl : f = 4 := Option.some.inj ((show Tryd.prog.funcNamed "signet/signetkeep.Known" = some 4 by kernel_rfl).symm.trans hf) |>.symm
  obtain rfl : fn = Tryd.f4 := (Option.some.inj (Tryd.func4.symm.trans hfn)).symm
  refine ⟨by kernel_rfl, fun j t ht => ?_⟩
  rw [Tryd.params4] at ht
  obtain rfl : t = 9 := by simpa using Array.mem_of_getElem? ht
  exact (show Tryd.prog.wantsStandIn 9 = false by kernel_rfl)

theorem cardUpto : Rows.KnownUptoCardSaid :=
  Claim7.holds_tied_plain_at .later [] _ _ _ _ saidUpto (fun _ h => by cases h) (by kernel_rfl) (fun _ h => by cases h) knownUpto_row_tie rfl ⟨rfl, rfl⟩ (by kernel_rfl) rfl plain (by kernel_rfl)
end Go.Proofs.YtgaddifabjoliaaDoor.known

namespace Go.Proofs.YtgaddifabjoliaaDoor
/-- The statement. -/
theorem known_upto : Rows.KnownUptoCardSaid := known.cardUpto
#print axioms known_upto
end Go.Proofs.YtgaddifabjoliaaDoor
