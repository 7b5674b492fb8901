import Derived.Test.YtgaddifabjoliaaDoorAppW
import Derived.Lib.BufferWrite
namespace Go.Proofs.YtgaddifabjoliaaDoor
open Go.RowKit

def xorN (on : Nat) (p : List Nat) : Nat → List Nat
  | 0 => p
  | k + 1 => (xorN on p k).set k ((xorN on p k).getD k 0 ^^^ on)
theorem xorN_length (on : Nat) (p : List Nat) : ∀ k, (xorN on p k).length = p.length
  | 0 => rfl
  | k + 1 => by simp [xorN, xorN_length on p k]
theorem xorN_eq (on : Nat) (p : List Nat) : ∀ k, k ≤ p.length → xorN on p k = (p.take k).map (· ^^^ on) ++ p.drop k
  | 0, _ => by simp [xorN]
  | k + 1, h => by
    have ih := xorN_eq on p k (by omega)
    have hd : p.drop k = p[k] :: p.drop (k + 1) := List.drop_eq_getElem_cons (by omega)
    have hlen : ((p.take k).map (· ^^^ on)).length = k := by simp; omega
    rw [xorN, ih, hd]
    have hg : ((p.take k).map (· ^^^ on) ++ p[k] :: p.drop (k + 1)).getD k 0 = p[k] := by
      rw [List.getD_eq_getElem?_getD, List.getElem?_append_right (by omega), hlen, Nat.sub_self]
      rfl
    rw [hg, List.set_append, if_neg (by omega), hlen, Nat.sub_self, List.set_cons_zero, List.take_succ_eq_append_getElem (by omega)]
    simp only [List.map_append, List.map_cons, List.map_nil, List.append_assoc, List.singleton_append]
theorem xorN_lt (on : Nat) (hon : on < 256) (p : List Nat) (hp : ∀ j, p.getD j 0 < 256) : ∀ k j, (xorN on p k).getD j 0 < 256
  | 0, j => hp j
  | k + 1, j => by
    have ih := xorN_lt on hon p hp k
    rw [xorN, List.getD_eq_getElem?_getD, List.getElem?_set]
    split
    · split
      · exact Nat.xor_lt_two_pow (n := 8) (ih k) hon
      · simp
    · have := ih j; rwa [List.getD_eq_getElem?_getD] at this

def padN (key : List UInt8) : List Nat := key.map (·.toNat) ++ List.replicate (64 - key.length) 0
theorem padN_length (key : List UInt8) (h : key.length ≤ 64) : (padN key).length = 64 := by simp [padN]; omega
theorem padN_lt (key : List UInt8) (j : Nat) : (padN key).getD j 0 < 256 := by
  have : ∀ x ∈ padN key, x < 256 := by
    intro x hx
    simp only [padN, List.mem_append, List.mem_map, List.mem_replicate] at hx
    rcases hx with ⟨b, _, rfl⟩ | ⟨_, rfl⟩
    · exact UInt8.toNat_lt b
    · decide
  rw [List.getD_eq_getElem?_getD]
  cases h : (padN key)[j]? with
  | none => simp
  | some x => exact this x (List.mem_of_getElem? h)

theorem laid_cells (key : List UInt8) (on : UInt8) (h : key.length ≤ 64) : (cellsN .u8 (xorN on.toNat (padN key) 64)).toList = Lib.byteCells (laidF key on) := by
  have hl := padN_length key h
  rw [xorN_eq _ _ _ (by omega), ← hl, List.take_length, List.drop_length, List.append_nil]
  simp [cellsN, Lib.byteCells, laidF, padN, List.map_append, Function.comp_def]
theorem laidF_length (key : List UInt8) (on : UInt8) (h : key.length ≤ 64) : (laidF key on).length = 64 := by simp [laidF]; omega

theorem pad_row (key : ByteArray) (_h : key.size ≤ 64) : ((cellsN .u8 (List.replicate 64 0)).toList.take 0 ++ Lib.byteCells key.data.toList ++ (cellsN .u8 (List.replicate 64 0)).toList.drop (0 + key.size)).toArray = cellsN .u8 (padN key.data.toList) := by
  have hl : key.data.toList.length = key.size := by simp
  simp only [cellsN, List.map_replicate, List.take_zero, List.nil_append, Nat.zero_add, List.drop_replicate, padN, List.map_append, List.map_map, hl, Lib.byteCells]
  rfl

theorem wpList_copy_run {ops : Array Oper} {rest : List Oper} {o : Oper} {a : Act} {w w' : World} {Q : Exit → Act → World → Prop} (hgd : o.guard = none) (s x : Operand) (t1 t2 : TypeId)
    (hop : o.op = Op.call { callee := Callee.builtin Builtin.copy, args := #[s, x], argTypes := #[t1, t2] }) (v1 v2 v : Value) (hs : a.eval s = v1) (hx : a.eval x = v2)
    (hrun : (Builtin.copy_ #[t1, t2] o.type #[v1, v2]).run Tryd.prog w = .ok v w') (h : wpList Tryd.prog ops Q rest (a.put o.dst v) w') : wpList Tryd.prog ops Q (o :: rest) a w := by
  refine wpList_plain hgd fun K hK => ?_
  unfold Oper.wp
  simp [execOp, hop, resolve, invoke, builtin, hs, hx, hrun, Result.andThen]
  exact hK _ _ h

theorem xor_byte (a : Nat) (b : UInt8) (ha : a < 256) : bits .xor .u8 (a : Int) (b.toNat : Int) = ((a ^^^ b.toNat : Nat) : Int) := by
  have hb := UInt8.toNat_lt b
  have ha' : a % 2 ^ IntKind.u8.bits = a := Nat.mod_eq_of_lt ha
  have hb' : b.toNat % 2 ^ IntKind.u8.bits = b.toNat := Nat.mod_eq_of_lt hb
  have hx : a ^^^ b.toNat < 2 ^ 8 := Nat.xor_lt_two_pow ha hb
  simp only [bits, BitVec.ofInt_natCast, BitVec.toNat_xor, BitVec.toNat_ofNat, ha', hb']
  rw [IntKind.wrap_u8]; omega

theorem zero64 : (∀ w, (zeroValue 59).run Tryd.prog w = .ok (.agg (cellsN .u8 (List.replicate 64 0))) w) ∧ (Tryd.prog.info? 59).map (·.size) = some 64 := zero_of_info (by kernel_rfl)
theorem size_u8 : (Tryd.prog.info? 5).map (·.size) = some 1 := by kernel_rfl

set_option maxRecDepth 20000 in
set_option maxHeartbeats 1000000 in
theorem laid_any (key : ByteArray) (on : UInt8) (w : World) (hk : key.size ≤ 64) :
    Calls Tryd.prog 17 #[.string key, .int .u8 on.toNat] w fun e w' => e = .returned (.string ⟨(laidF key.data.toList on).toArray⟩) ∧ Below w.heap.size w w' := by
  have hz := zero64.1
  have hcp := Lib.run_copy_row_string (P := Tryd.prog) (w.alloc (.cells (cellsN .u8 (List.replicate 64 0)) 59)) 45 9 3 5 w.heap.size 0 64 64 key (cellsN .u8 (List.replicate 64 0)) 59 Tryd.underlying45 size_u8 (heap_alloc_new w _) hk (by rw [cellsN_size]; simp; omega)
  rw [pad_row key hk, World.setRow_alloc_new] at hcp
  have hkl : key.data.toList.length ≤ 64 := by simpa using hk
  go_enter Tryd.func17, Tryd.ntmps17
  have HCP := hide hcp
  clear hcp
  go_wp2_with (refine wpList_copy_run (by rfl) _ _ _ _ (by rfl) _ _ _ (by rfl) (by rfl) (unhide HCP) ?_)
  go_wp2
  go_loopw [10] (fun i wr => ∃ k : Nat, k ≤ 64 ∧ i = .int .i64 (k : Int) ∧ Below w.heap.size w wr ∧ wr.heap[w.heap.size]? = some (.cells (cellsN .u8 (xorN on.toNat (padN key.data.toList) k)) 59)) (fun i _ => 64 - (intOf i).toNat)
  case atStart => exact ⟨0, by omega, rfl, (Below.refl _ _).alloc (Nat.le_refl _) _, heap_alloc_new _ _⟩
  case round =>
    obtain ⟨k, hk64, rfl, hb, hst⟩ := hrel
    have hxl := xorN_length on.toNat (padN key.data.toList) k
    rw [padN_length _ hkl] at hxl
    by_cases hlt : k < 64
    · have cc := cell_of_row wr w.heap.size k _ _ _ hst
      rw [cellsN_at _ _ _ (by omega)] at cc
      have fz := frozen_of_row hst k
      have hb256 := xorN_lt on.toNat (UInt8.toNat_lt on) (padN key.data.toList) (padN_lt _) k k
      have hnew : Hid (xorN on.toNat (padN key.data.toList) (k + 1) = (xorN on.toNat (padN key.data.toList) k).set k ((xorN on.toNat (padN key.data.toList) k).getD k 0 ^^^ on.toNat)) := rfl
      generalize (xorN on.toNat (padN key.data.toList) k).getD k 0 = b at cc hb256 hnew
      have hxo := xor_byte b on hb256
      have ik : (k : Int) < 64 := by omega
      clear hxl
      go_wp2
      go_roundw
      case rel =>
        refine ⟨k + 1, by omega, by go_num, hb.setCell (Nat.le_refl _) _, ?_⟩
        refine (heap_setCell_same _ _ _ _ _ _ hst).trans ?_
        rw [unhide hnew, ← cellsN_set]
      case measure => (go_light; simp [intOf] <;> omega)
    · have hke : k = 64 := by omega
      subst hke
      have hlf := laidF_length key.data.toList on hkl
      have hcv := run_convert_bytes_back (P := Tryd.prog) wr 45 9 5 ⟨w.heap.size, 0, none⟩ 64 (laidF key.data.toList on) Tryd.underlying45 Tryd.underlying5 Tryd.underlying9 (Lib.bytes_of_row hst (by rw [hlf, laid_cells _ _ hkl, List.take_of_length_le (by rw [Lib.byteCells_length, hlf]; exact Nat.le_refl _)]))
      rw [hlf] at hcv
      clear hxl hlf
      go_wp2
      go_ret
      exact ⟨rfl, hb⟩
end Go.Proofs.YtgaddifabjoliaaDoor
