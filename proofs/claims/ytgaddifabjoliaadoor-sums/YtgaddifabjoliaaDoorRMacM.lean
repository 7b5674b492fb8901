import Derived.Test.YtgaddifabjoliaaDoorRCalls
namespace Go.Proofs.YtgaddifabjoliaaDoor
open Go.RowKit

theorem made_u8 (n : Nat) : madeCells (Value.int .u8 0).cells n = cellsN .u8 (List.replicate n 0) := by
  apply Array.ext
  · rw [size_madeCells, cellsN_size, List.length_replicate]
  · intro i h1 h2
    simp [madeCells, cellsN, Value.cells, Nat.mod_one]
theorem make_bytes (w : World) : (Instr.makeSlice 45 (.int .i64 64) (.int .i64 64)).run Tryd.prog w = .ok (.slice (some ⟨w.heap.size, 0, none⟩) 64 64) (w.alloc (.cells (cellsN .u8 (List.replicate 64 0)) 5)) := by
  obtain ⟨j0, hj, hy0, hy1, hy2⟩ := info_parts info_u8
  have h := run_make (P := Tryd.prog) w 45 5 j0 (.int .u8 0) Tryd.underlying45 hj hy0 .i64 .i64 64 64 (by omega) (by omega) (by rw [hy2]; omega) (by omega)
  rw [hy1, made_u8] at h
  simpa using h

/-- The first n of a list, then zeros. -/
def upN (L : List Nat) (n : Nat) : List Nat := L.take n ++ List.replicate (64 - n) 0
theorem upN_len (L : List Nat) (hL : L.length = 64) (n : Nat) (h : n ≤ 64) : (upN L n).length = 64 := by simp [upN]; omega
theorem upN_at (L : List Nat) (hL : L.length = 64) (n : Nat) (h : n < 64) : (upN L n).getD n 0 = 0 := by
  rw [upN, List.getD_eq_getElem?_getD, List.getElem?_append_right (by rw [List.length_take]; omega), List.getElem?_replicate]
  split <;> rfl
theorem upN_succ (L : List Nat) (hL : L.length = 64) (n : Nat) (h : n < 64) : (upN L n).set n (L.getD n 0) = upN L (n + 1) := by
  have hl : (L.take n).length = n := by rw [List.length_take]; omega
  rw [upN, upN, List.set_append, if_neg (by omega), hl, Nat.sub_self, show 64 - n = (64 - (n + 1)) + 1 by omega, List.replicate_succ, List.set_cons_zero, take_succ_getD L n (by omega), List.append_assoc]
  rfl
theorem upN_full (L : List Nat) (hL : L.length = 64) : upN L 64 = L := by
  rw [upN, List.take_of_length_le (by omega)]
  simp

def padX (key : List UInt8) (on : Nat) : List Nat := (padN key).map (· ^^^ on)
theorem padX_len (key : List UInt8) (on : Nat) (h : key.length ≤ 64) : (padX key on).length = 64 := by rw [padX, List.length_map, padN_length key h]
theorem padX_in (key : ByteArray) (on k : Nat) (h : k < key.size) : (padX key.data.toList on).getD k 0 = (key[k]).toNat ^^^ on := by
  have hl : k < key.data.toList.length := by simpa using h
  rw [padX, List.getD_eq_getElem?_getD, List.getElem?_map, padN, List.getElem?_append_left (by simpa using hl), List.getElem?_map, List.getElem?_eq_getElem hl]
  rfl
theorem padX_out (key : ByteArray) (on k : Nat) (h : ¬ k < key.size) (hk : k < 64) : (padX key.data.toList on).getD k 0 = 0 ^^^ on := by
  have hl : key.data.toList.length = key.size := by simp
  rw [padX, List.getD_eq_getElem?_getD, List.getElem?_map, padN, List.getElem?_append_right (by rw [List.length_map]; omega), List.getElem?_replicate, List.length_map, hl]
  rw [if_pos (by omega)]
  rfl
theorem padX_cells (key : List UInt8) (on : UInt8) (h : key.length ≤ 64) : (cellsN .u8 (padX key on.toNat)).toList = Lib.byteCells (laidF key on) := by
  rw [← laid_cells key on h, xorN_eq _ _ _ (by rw [padN_length key h]; exact Nat.le_refl _)]
  have hl := padN_length key h
  rw [List.take_of_length_le (by omega), List.drop_of_length_le (by omega), List.append_nil]
  rfl
end Go.Proofs.YtgaddifabjoliaaDoor
