import Derived.Test.YtgaddifabjoliaaDoorRMacM
namespace Go.Proofs.YtgaddifabjoliaaDoor
open Go.RowKit

set_option maxRecDepth 20000 in
set_option maxHeartbeats 4000000 in
theorem rmac_short (key s : ByteArray) (w : World) (g : Nat) (hT : Tab w g) (hkey : key.size ≤ 64) (hs : s.size < 140737488354000) :
    Calls Tryd.prog 11 #[.pointer (some ⟨g, 0, none⟩), .string key, .string s] w fun e w' => ∃ y : ByteArray, e = .returned (.string y) ∧ y.size = 32 ∧ Hid (y.data.toList = macF key.data.toList s.data.toList) ∧ Below w.heap.size w w' := by
  have hkl : key.data.toList.length = key.size := by simp
  have hkl2 : key.data.toList.length ≤ 64 := by omega
  have hmk := make_bytes
  go_enter Tryd.func11, Tryd.ntmps11
  go_wp2
  clear hmk
  go_loopw [9] (fun i wr => ∃ k : Nat, k ≤ 64 ∧ i = .int .i64 (k : Int) ∧ Below w.heap.size w wr ∧ w.heap.size + 2 ≤ wr.heap.size ∧ wr.heap[w.heap.size]? = some (.cells (cellsN .u8 (upN (padX key.data.toList 54) k)) 5) ∧ wr.heap[w.heap.size + 1]? = some (.cells (cellsN .u8 (upN (padX key.data.toList 92) k)) 5)) (fun i _ => 64 - (intOf i).toNat)
  case atStart =>
    refine ⟨0, by omega, rfl, ((Below.refl _ _).alloc (Nat.le_refl _) _).alloc (by simp) _, by simp, ?_, ?_⟩
    · exact (heap2 _ _ _).1
    · exact (heap2 _ _ _).2
  case round =>
    obtain ⟨k, hk, rfl, hbr, hsz, hin, hou⟩ := hrel
    have p54 := padX_len key.data.toList 54 hkl2
    have p92 := padX_len key.data.toList 92 hkl2
    have l54 := upN_len _ p54 k hk
    have l92 := upN_len _ p92 k hk
    by_cases hlt : k < 64
    · have n54 := hide (upN_succ _ p54 k hlt)
      have n92 := hide (upN_succ _ p92 k hlt)
      have ci := cell_of_row wr w.heap.size k _ _ _ hin
      have co := cell_of_row wr (w.heap.size + 1) k _ _ _ hou
      rw [cellsN_at _ _ _ (by omega), upN_at _ p54 k hlt] at ci
      rw [cellsN_at _ _ _ (by omega), upN_at _ p92 k hlt] at co
      have fi := frozen_of_row hin k
      have fo := frozen_of_row hou k
      have ik : (k : Int) < 64 := by omega
      have hne : w.heap.size ≠ w.heap.size + 1 := by omega
      have HIN := hide hin
      have HOU := hide hou
      clear hin hou p54 p92
      by_cases hkk : k < key.size
      · have x54 := padX_in key 54 k hkk
        have x92 := padX_in key 92 k hkk
        have hb256 := UInt8.toNat_lt key[k]
        have e54 : bits .xor .u8 (key[k].toNat : Int) 54 = ((key[k].toNat ^^^ 54 : Nat) : Int) := xor_byte key[k].toNat 54 hb256
        have e92 : bits .xor .u8 (key[k].toNat : Int) 92 = ((key[k].toNat ^^^ 92 : Nat) : Int) := xor_byte key[k].toNat 92 hb256
        have a1 : (wr.setCell ⟨w.heap.size, k, none⟩ (.int .u8 key[k].toNat)).cell? ⟨w.heap.size + 1, k, none⟩ = some (.int .u8 0) := (cell_far _ _ _ _ _ _ (Or.inl hne)).trans co
        have a2 : ((wr.setCell ⟨w.heap.size, k, none⟩ (.int .u8 key[k].toNat)).setCell ⟨w.heap.size + 1, k, none⟩ (.int .u8 key[k].toNat)).cell? ⟨w.heap.size, k, none⟩ = some (.int .u8 key[k].toNat) := (cell_far _ _ _ _ _ _ (Or.inl hne.symm)).trans (cell_near _ _ _ _ ci)
        have a3 : (((wr.setCell ⟨w.heap.size, k, none⟩ (.int .u8 key[k].toNat)).setCell ⟨w.heap.size + 1, k, none⟩ (.int .u8 key[k].toNat)).setCell ⟨w.heap.size, k, none⟩ (.int .u8 ((key[k].toNat ^^^ 54 : Nat) : Int))).cell? ⟨w.heap.size + 1, k, none⟩ = some (.int .u8 key[k].toNat) := (cell_far _ _ _ _ _ _ (Or.inl hne)).trans (cell_near _ _ _ _ a1)
        go_wp2
        go_roundw
        case rel =>
          refine ⟨k + 1, by omega, by go_num, ?_, ?_, ?_, ?_⟩
          · exact (((hbr.setCell (Nat.le_refl _) _).setCell (Nat.le_succ _) _).setCell (Nat.le_refl _) _).setCell (Nat.le_succ _) _
          · simpa using hsz
          · refine (heap_setCell_other _ _ _ _ (by simp)).trans ((heap_setCell_same _ _ _ _ _ _ ((heap_setCell_other _ _ _ _ (by simp)).trans (heap_setCell_same _ _ _ _ _ _ (unhide HIN)))).trans ?_)
            rw [cellsN_set, cellsN_set, List.set_set, ← x54, unhide n54]
          · refine (heap_setCell_same _ _ _ _ _ _ ((heap_setCell_other _ _ _ _ (by simp)).trans (heap_setCell_same _ _ _ _ _ _ ((heap_setCell_other _ _ _ _ (by simp)).trans (unhide HOU))))).trans ?_
            rw [cellsN_set, cellsN_set, List.set_set, ← x92, unhide n92]
        case measure => (go_light; simp [intOf] <;> omega)
      · have x54 := padX_out key 54 k hkk hlt
        have x92 := padX_out key 92 k hkk hlt
        have e54 : bits .xor .u8 0 54 = 54 := by decide
        have e92 : bits .xor .u8 0 92 = 92 := by decide
        have a1 : (wr.setCell ⟨w.heap.size, k, none⟩ (.int .u8 54)).cell? ⟨w.heap.size + 1, k, none⟩ = some (.int .u8 0) := (cell_far _ _ _ _ _ _ (Or.inl hne)).trans co
        go_wp2
        go_roundw
        case rel =>
          refine ⟨k + 1, by omega, by go_num, ?_, ?_, ?_, ?_⟩
          · exact (hbr.setCell (Nat.le_refl _) _).setCell (Nat.le_succ _) _
          · simpa using hsz
          · refine (heap_setCell_other _ _ _ _ (by simp)).trans ((heap_setCell_same _ _ _ _ _ _ (unhide HIN)).trans ?_)
            have e : (cellsN .u8 (upN (padX key.data.toList 54) k)).setIfInBounds k (.int .u8 54) = cellsN .u8 (upN (padX key.data.toList 54) (k + 1)) := by
              rw [← unhide n54, x54]
              exact cellsN_set .u8 _ k 54
            rw [← e]
          · refine (heap_setCell_same _ _ _ _ _ _ ((heap_setCell_other _ _ _ _ (by simp)).trans (unhide HOU))).trans ?_
            have e : (cellsN .u8 (upN (padX key.data.toList 92) k)).setIfInBounds k (.int .u8 92) = cellsN .u8 (upN (padX key.data.toList 92) (k + 1)) := by
              rw [← unhide n92, x92]
              exact cellsN_set .u8 _ k 92
            rw [← e]
        case measure => (go_light; simp [intOf] <;> omega)
    · have hke : k = 64 := by omega
      have hlf1 := laidF_length key.data.toList 54 hkl2
      have hlf2 := laidF_length key.data.toList 92 hkl2
      rw [hke, upN_full _ p54] at hin
      rw [hke, upN_full _ p92] at hou
      have hc1 := run_convert_bytes_back (P := Tryd.prog) wr 45 9 5 ⟨w.heap.size, 0, none⟩ 64 (laidF key.data.toList 54) Tryd.underlying45 Tryd.underlying5 Tryd.underlying9 (Lib.bytes_of_row hin (by rw [hlf1]; exact (List.take_of_length_le (by rw [Array.length_toList, cellsN_size, p54]; exact Nat.le_refl _)).trans (padX_cells key.data.toList 54 hkl2)))
      rw [hlf1] at hc1
      obtain ⟨y1, hy1⟩ : ∃ y : ByteArray, y = ⟨(laidF key.data.toList 54).toArray⟩ := ⟨_, rfl⟩
      rw [← hy1] at hc1
      have hz1 : y1.size = 64 := by rw [hy1]; exact hlf1
      have hd1 : Hid (y1.data.toList = laidF key.data.toList 54) := by show _ = _; rw [hy1]
      clear hy1
      have hTr := (hT).all hbr
      have ek : (k : Int) = 64 := by omega
      rw [ek]
      clear l54 l92 p54 p92 hin ek
      go_wp2_with fail
      refine (rsum256_ex (y1 ++ s) wr g hTr (by rw [ByteArray.size_append]; omega)).mono ?_
      rintro e3 w3 ⟨y3, rfl, hy3, hv3, hb3⟩
      have hou3 := (hb3.block _ (by omega)).trans hou
      have hc2 := run_convert_bytes_back (P := Tryd.prog) w3 45 9 5 ⟨w.heap.size + 1, 0, none⟩ 64 (laidF key.data.toList 92) Tryd.underlying45 Tryd.underlying5 Tryd.underlying9 (Lib.bytes_of_row hou3 (by rw [hlf2]; exact (List.take_of_length_le (by rw [Array.length_toList, cellsN_size, padX_len key.data.toList 92 hkl2]; exact Nat.le_refl _)).trans (padX_cells key.data.toList 92 hkl2)))
      rw [hlf2] at hc2
      obtain ⟨y2, hy2⟩ : ∃ y : ByteArray, y = ⟨(laidF key.data.toList 92).toArray⟩ := ⟨_, rfl⟩
      rw [← hy2] at hc2
      have hz2 : y2.size = 64 := by rw [hy2]; exact hlf2
      have hd2 : Hid (y2.data.toList = laidF key.data.toList 92) := by show _ = _; rw [hy2]
      clear hy2
      have hT3 := hTr.all hb3
      clear hc1 hou hou3
      go_wp2_with fail
      refine (rsum256_ex (y2 ++ y3) w3 g hT3 (by rw [ByteArray.size_append]; omega)).mono ?_
      rintro e4 w4 ⟨y4, rfl, hy4, hv4, hb4⟩
      clear hc2
      go_wp2
      go_ret
      refine ⟨y4, rfl, hy4, ?_, (Below.refl w.heap.size w).trans ((hbr.trans ((hb3.mono hbr.size).trans (hb4.mono (Nat.le_trans hbr.size hb3.size)))).mono (Nat.le_refl _))⟩
      show _ = _
      rw [unhide hv4, data_add, unhide hv3, data_add, unhide hd1, unhide hd2]
      unfold macF
      rw [if_neg (by rw [hkl]; omega)]

set_option maxRecDepth 20000 in
set_option maxHeartbeats 4000000 in
theorem rmac_long (key s : ByteArray) (w : World) (g : Nat) (hT : Tab w g) (hkey : 64 < key.size) (hk2 : key.size < 140737488354000) (hs : s.size < 140737488354000) :
    Calls Tryd.prog 11 #[.pointer (some ⟨g, 0, none⟩), .string key, .string s] w fun e w' => ∃ y : ByteArray, e = .returned (.string y) ∧ y.size = 32 ∧ Hid (y.data.toList = macF key.data.toList s.data.toList) ∧ Below w.heap.size w w' := by
  have hkl : key.data.toList.length = key.size := by simp
  have hmk := make_bytes
  go_enter Tryd.func11, Tryd.ntmps11
  go_wp2_with fail
  refine (rsum256_ex key w g hT (by omega)).mono ?_
  rintro e0 w0 ⟨k0, rfl, hk0, hv0, hb0⟩
  have hkl3 : k0.data.toList.length = k0.size := by simp
  have hkl2 : k0.data.toList.length ≤ 64 := by omega
  have hT0 := hT.all hb0
  have hkey0 : k0.size ≤ 64 := by omega
  go_wp2
  clear hmk
  go_loopw [9] (fun i wr => ∃ k : Nat, k ≤ 64 ∧ i = .int .i64 (k : Int) ∧ Below w0.heap.size w0 wr ∧ w0.heap.size + 2 ≤ wr.heap.size ∧ wr.heap[w0.heap.size]? = some (.cells (cellsN .u8 (upN (padX k0.data.toList 54) k)) 5) ∧ wr.heap[w0.heap.size + 1]? = some (.cells (cellsN .u8 (upN (padX k0.data.toList 92) k)) 5)) (fun i _ => 64 - (intOf i).toNat)
  case atStart =>
    refine ⟨0, by omega, rfl, ((Below.refl _ _).alloc (Nat.le_refl _) _).alloc (by simp) _, by simp, ?_, ?_⟩
    · exact (heap2 _ _ _).1
    · exact (heap2 _ _ _).2
  case round =>
    obtain ⟨k, hk, rfl, hbr, hsz, hin, hou⟩ := hrel
    have p54 := padX_len k0.data.toList 54 hkl2
    have p92 := padX_len k0.data.toList 92 hkl2
    have l54 := upN_len _ p54 k hk
    have l92 := upN_len _ p92 k hk
    by_cases hlt : k < 64
    · have n54 := hide (upN_succ _ p54 k hlt)
      have n92 := hide (upN_succ _ p92 k hlt)
      have ci := cell_of_row wr w0.heap.size k _ _ _ hin
      have co := cell_of_row wr (w0.heap.size + 1) k _ _ _ hou
      rw [cellsN_at _ _ _ (by omega), upN_at _ p54 k hlt] at ci
      rw [cellsN_at _ _ _ (by omega), upN_at _ p92 k hlt] at co
      have fi := frozen_of_row hin k
      have fo := frozen_of_row hou k
      have ik : (k : Int) < 64 := by omega
      have hne : w0.heap.size ≠ w0.heap.size + 1 := by omega
      have HIN := hide hin
      have HOU := hide hou
      clear hin hou p54 p92
      by_cases hkk : k < k0.size
      · have x54 := padX_in k0 54 k hkk
        have x92 := padX_in k0 92 k hkk
        have hb256 := UInt8.toNat_lt k0[k]
        have e54 : bits .xor .u8 (k0[k].toNat : Int) 54 = ((k0[k].toNat ^^^ 54 : Nat) : Int) := xor_byte k0[k].toNat 54 hb256
        have e92 : bits .xor .u8 (k0[k].toNat : Int) 92 = ((k0[k].toNat ^^^ 92 : Nat) : Int) := xor_byte k0[k].toNat 92 hb256
        have a1 : (wr.setCell ⟨w0.heap.size, k, none⟩ (.int .u8 k0[k].toNat)).cell? ⟨w0.heap.size + 1, k, none⟩ = some (.int .u8 0) := (cell_far _ _ _ _ _ _ (Or.inl hne)).trans co
        have a2 : ((wr.setCell ⟨w0.heap.size, k, none⟩ (.int .u8 k0[k].toNat)).setCell ⟨w0.heap.size + 1, k, none⟩ (.int .u8 k0[k].toNat)).cell? ⟨w0.heap.size, k, none⟩ = some (.int .u8 k0[k].toNat) := (cell_far _ _ _ _ _ _ (Or.inl hne.symm)).trans (cell_near _ _ _ _ ci)
        have a3 : (((wr.setCell ⟨w0.heap.size, k, none⟩ (.int .u8 k0[k].toNat)).setCell ⟨w0.heap.size + 1, k, none⟩ (.int .u8 k0[k].toNat)).setCell ⟨w0.heap.size, k, none⟩ (.int .u8 ((k0[k].toNat ^^^ 54 : Nat) : Int))).cell? ⟨w0.heap.size + 1, k, none⟩ = some (.int .u8 k0[k].toNat) := (cell_far _ _ _ _ _ _ (Or.inl hne)).trans (cell_near _ _ _ _ a1)
        go_wp2
        go_roundw
        case rel =>
          refine ⟨k + 1, by omega, by go_num, ?_, ?_, ?_, ?_⟩
          · exact (((hbr.setCell (Nat.le_refl _) _).setCell (Nat.le_succ _) _).setCell (Nat.le_refl _) _).setCell (Nat.le_succ _) _
          · simpa using hsz
          · refine (heap_setCell_other _ _ _ _ (by simp)).trans ((heap_setCell_same _ _ _ _ _ _ ((heap_setCell_other _ _ _ _ (by simp)).trans (heap_setCell_same _ _ _ _ _ _ (unhide HIN)))).trans ?_)
            rw [cellsN_set, cellsN_set, List.set_set, ← x54, unhide n54]
          · refine (heap_setCell_same _ _ _ _ _ _ ((heap_setCell_other _ _ _ _ (by simp)).trans (heap_setCell_same _ _ _ _ _ _ ((heap_setCell_other _ _ _ _ (by simp)).trans (unhide HOU))))).trans ?_
            rw [cellsN_set, cellsN_set, List.set_set, ← x92, unhide n92]
        case measure => (go_light; simp [intOf] <;> omega)
      · have x54 := padX_out k0 54 k hkk hlt
        have x92 := padX_out k0 92 k hkk hlt
        have e54 : bits .xor .u8 0 54 = 54 := by decide
        have e92 : bits .xor .u8 0 92 = 92 := by decide
        have a1 : (wr.setCell ⟨w0.heap.size, k, none⟩ (.int .u8 54)).cell? ⟨w0.heap.size + 1, k, none⟩ = some (.int .u8 0) := (cell_far _ _ _ _ _ _ (Or.inl hne)).trans co
        go_wp2
        go_roundw
        case rel =>
          refine ⟨k + 1, by omega, by go_num, ?_, ?_, ?_, ?_⟩
          · exact (hbr.setCell (Nat.le_refl _) _).setCell (Nat.le_succ _) _
          · simpa using hsz
          · refine (heap_setCell_other _ _ _ _ (by simp)).trans ((heap_setCell_same _ _ _ _ _ _ (unhide HIN)).trans ?_)
            have e : (cellsN .u8 (upN (padX k0.data.toList 54) k)).setIfInBounds k (.int .u8 54) = cellsN .u8 (upN (padX k0.data.toList 54) (k + 1)) := by
              rw [← unhide n54, x54]
              exact cellsN_set .u8 _ k 54
            rw [← e]
          · refine (heap_setCell_same _ _ _ _ _ _ ((heap_setCell_other _ _ _ _ (by simp)).trans (unhide HOU))).trans ?_
            have e : (cellsN .u8 (upN (padX k0.data.toList 92) k)).setIfInBounds k (.int .u8 92) = cellsN .u8 (upN (padX k0.data.toList 92) (k + 1)) := by
              rw [← unhide n92, x92]
              exact cellsN_set .u8 _ k 92
            rw [← e]
        case measure => (go_light; simp [intOf] <;> omega)
    · have hke : k = 64 := by omega
      have hlf1 := laidF_length k0.data.toList 54 hkl2
      have hlf2 := laidF_length k0.data.toList 92 hkl2
      rw [hke, upN_full _ p54] at hin
      rw [hke, upN_full _ p92] at hou
      have hc1 := run_convert_bytes_back (P := Tryd.prog) wr 45 9 5 ⟨w0.heap.size, 0, none⟩ 64 (laidF k0.data.toList 54) Tryd.underlying45 Tryd.underlying5 Tryd.underlying9 (Lib.bytes_of_row hin (by rw [hlf1]; exact (List.take_of_length_le (by rw [Array.length_toList, cellsN_size, p54]; exact Nat.le_refl _)).trans (padX_cells k0.data.toList 54 hkl2)))
      rw [hlf1] at hc1
      obtain ⟨y1, hy1⟩ : ∃ y : ByteArray, y = ⟨(laidF k0.data.toList 54).toArray⟩ := ⟨_, rfl⟩
      rw [← hy1] at hc1
      have hz1 : y1.size = 64 := by rw [hy1]; exact hlf1
      have hd1 : Hid (y1.data.toList = laidF k0.data.toList 54) := by show _ = _; rw [hy1]
      clear hy1
      have hTr := (hT0).all hbr
      have ek : (k : Int) = 64 := by omega
      rw [ek]
      clear l54 l92 p54 p92 hin ek
      go_wp2_with fail
      refine (rsum256_ex (y1 ++ s) wr g hTr (by rw [ByteArray.size_append]; omega)).mono ?_
      rintro e3 w3 ⟨y3, rfl, hy3, hv3, hb3⟩
      have hou3 := (hb3.block _ (by omega)).trans hou
      have hc2 := run_convert_bytes_back (P := Tryd.prog) w3 45 9 5 ⟨w0.heap.size + 1, 0, none⟩ 64 (laidF k0.data.toList 92) Tryd.underlying45 Tryd.underlying5 Tryd.underlying9 (Lib.bytes_of_row hou3 (by rw [hlf2]; exact (List.take_of_length_le (by rw [Array.length_toList, cellsN_size, padX_len k0.data.toList 92 hkl2]; exact Nat.le_refl _)).trans (padX_cells k0.data.toList 92 hkl2)))
      rw [hlf2] at hc2
      obtain ⟨y2, hy2⟩ : ∃ y : ByteArray, y = ⟨(laidF k0.data.toList 92).toArray⟩ := ⟨_, rfl⟩
      rw [← hy2] at hc2
      have hz2 : y2.size = 64 := by rw [hy2]; exact hlf2
      have hd2 : Hid (y2.data.toList = laidF k0.data.toList 92) := by show _ = _; rw [hy2]
      clear hy2
      have hT3 := hTr.all hb3
      clear hc1 hou hou3
      go_wp2_with fail
      refine (rsum256_ex (y2 ++ y3) w3 g hT3 (by rw [ByteArray.size_append]; omega)).mono ?_
      rintro e4 w4 ⟨y4, rfl, hy4, hv4, hb4⟩
      clear hc2
      go_wp2
      go_ret
      refine ⟨y4, rfl, hy4, ?_, hb0.trans ((hbr.trans ((hb3.mono hbr.size).trans (hb4.mono (Nat.le_trans hbr.size hb3.size)))).mono hb0.size)⟩
      show _ = _
      rw [unhide hv4, data_add, unhide hv3, data_add, unhide hd1, unhide hd2]
      unfold macF
      rw [if_pos (by rw [hkl]; omega), ← unhide hv0]
end Go.Proofs.YtgaddifabjoliaaDoor
