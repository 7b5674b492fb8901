import Derived.Test.YtgaddifabjoliaaDoorSum
import Derived.Test.YtgaddifabjoliaaDoorLaidF
import Derived.Test.YtgaddifabjoliaaDoorHex
namespace Go.Proofs.YtgaddifabjoliaaDoor
open Go.RowKit

theorem out_length (v : St) (n : Nat) : (v.out n).length = 8 * n := by
  simp only [St.out, List.length_append, be_length]; omega
theorem sumF_256 (l : List UInt8) : (sumF m256 l).length = 32 := by unfold sumF; exact out_length _ _
theorem sumF_512 (l : List UInt8) : (sumF m512 l).length = 64 := by unfold sumF; exact out_length _ _
theorem macF_length (k s : List UInt8) : (macF k s).length = 32 := sumF_256 _

set_option maxRecDepth 20000 in
theorem sum256_at (s : ByteArray) (w : World) (hL : Laid w) (hs : s.size < 2 ^ 60) :
    Calls Tryd.prog 6 #[.string s] w fun e w' => e = .returned (.string ⟨(sumF m256 s.data.toList).toArray⟩) ∧ Below w.heap.size w w' := by
  go_enter Tryd.func6, Tryd.ntmps6
  go_wp2_with (go_at_call 14; refine (sum32 s w hL hs).mono ?_)
  rintro e w1 ⟨rfl, hb⟩
  go_wp2
  go_ret
  exact ⟨rfl, hb⟩
theorem sum256_ex (s : ByteArray) (w : World) (hL : Laid w) (hs : s.size < 2 ^ 60) :
    Calls Tryd.prog 6 #[.string s] w fun e w' => ∃ y : ByteArray, e = .returned (.string y) ∧ y.size = 32 ∧ Hid (y.data.toList = sumF m256 s.data.toList) ∧ Below w.heap.size w w' :=
  (sum256_at s w hL hs).mono fun e w' h => ⟨_, h.1, by show (sumF m256 s.data.toList).toArray.size = 32; simp [sumF_256], rfl, h.2⟩
theorem laid_ex (key : ByteArray) (on : UInt8) (w : World) (hk : key.size ≤ 64) :
    Calls Tryd.prog 17 #[.string key, .int .u8 on.toNat] w fun e w' => ∃ y : ByteArray, e = .returned (.string y) ∧ y.size = 64 ∧ Hid (y.data.toList = laidF key.data.toList on) ∧ Below w.heap.size w w' :=
  (laid_any key on w hk).mono fun e w' h => ⟨_, h.1, by show (laidF key.data.toList on).toArray.size = 64; simp [laidF_length _ on (show key.data.toList.length ≤ 64 by simpa using hk)], rfl, h.2⟩
theorem laid_92 (key : ByteArray) (w : World) (hk : key.size ≤ 64) :
    Calls Tryd.prog 17 #[.string key, .int .u8 92] w fun e w' => ∃ y : ByteArray, e = .returned (.string y) ∧ y.size = 64 ∧ Hid (y.data.toList = laidF key.data.toList 92) ∧ Below w.heap.size w w' := laid_ex key 92 w hk
theorem laid_54 (key : ByteArray) (w : World) (hk : key.size ≤ 64) :
    Calls Tryd.prog 17 #[.string key, .int .u8 54] w fun e w' => ∃ y : ByteArray, e = .returned (.string y) ∧ y.size = 64 ∧ Hid (y.data.toList = laidF key.data.toList 54) ∧ Below w.heap.size w w' := laid_ex key 54 w hk

theorem data_add (a b : ByteArray) : (a ++ b).data.toList = a.data.toList ++ b.data.toList := by rw [ByteArray.data_append, Array.toList_append]

set_option maxRecDepth 20000 in
set_option maxHeartbeats 1000000 in
theorem mac_ex (key s : ByteArray) (w : World) (hL : Laid w) (hk : key.size < 2 ^ 59) (hs : s.size < 2 ^ 59) :
    Calls Tryd.prog 10 #[.string key, .string s] w fun e w' => ∃ y : ByteArray, e = .returned (.string y) ∧ y.size = 32 ∧ Hid (y.data.toList = macF key.data.toList s.data.toList) ∧ Below w.heap.size w w' := by
  have hkl : key.data.toList.length = key.size := by simp
  by_cases h64 : 64 < key.size
  · go_enter Tryd.func10, Tryd.ntmps10
    go_wp2_with (go_at_call 6; refine (sum256_ex key w hL (by omega)).mono ?_)
    rintro e w0 ⟨k, rfl, hks, hkv, hb0⟩
    have hL0 := hL.of hb0
    go_wp2_with (go_at_call 17; refine (laid_92 k w0 (by omega)).mono ?_)
    rintro e w1 ⟨y1, rfl, hy1, hv1, hb1⟩
    have hL1 := hL0.of hb1
    go_wp2_with (go_at_call 17; refine (laid_54 k w1 (by omega)).mono ?_)
    rintro e w2 ⟨y2, rfl, hy2, hv2, hb2⟩
    have hL2 := hL1.of hb2
    go_wp2_with (go_at_call 6; refine (sum256_ex (y2 ++ s) w2 hL2 (by rw [ByteArray.size_append]; omega)).mono ?_)
    rintro e w3 ⟨y3, rfl, hy3, hv3, hb3⟩
    have hL3 := hL2.of hb3
    go_wp2_with (go_at_call 6; refine (sum256_ex (y1 ++ y3) w3 hL3 (by rw [ByteArray.size_append]; omega)).mono ?_)
    rintro e w4 ⟨y4, rfl, hy4, hv4, hb4⟩
    go_wp2
    go_ret
    refine ⟨y4, rfl, hy4, ?_, hb0.trans ((hb1.mono hb0.size).trans ((hb2.mono (Nat.le_trans hb0.size hb1.size)).trans ((hb3.mono (Nat.le_trans hb0.size (Nat.le_trans hb1.size hb2.size))).trans (hb4.mono (Nat.le_trans hb0.size (Nat.le_trans hb1.size (Nat.le_trans hb2.size hb3.size)))))))⟩
    show _ = _
    rw [unhide hv4, data_add, unhide hv1, unhide hv3, data_add, unhide hv2]
    unfold macF
    rw [if_pos (by rw [hkl]; exact h64), unhide hkv]
  · go_enter Tryd.func10, Tryd.ntmps10
    go_wp2_with (go_at_call 17; refine (laid_92 key w (by omega)).mono ?_)
    rintro e w1 ⟨y1, rfl, hy1, hv1, hb1⟩
    have hL1 := hL.of hb1
    go_wp2_with (go_at_call 17; refine (laid_54 key w1 (by omega)).mono ?_)
    rintro e w2 ⟨y2, rfl, hy2, hv2, hb2⟩
    have hL2 := hL1.of hb2
    go_wp2_with (go_at_call 6; refine (sum256_ex (y2 ++ s) w2 hL2 (by rw [ByteArray.size_append]; omega)).mono ?_)
    rintro e w3 ⟨y3, rfl, hy3, hv3, hb3⟩
    have hL3 := hL2.of hb3
    go_wp2_with (go_at_call 6; refine (sum256_ex (y1 ++ y3) w3 hL3 (by rw [ByteArray.size_append]; omega)).mono ?_)
    rintro e w4 ⟨y4, rfl, hy4, hv4, hb4⟩
    go_wp2
    go_ret
    refine ⟨y4, rfl, hy4, ?_, hb1.trans ((hb2.mono hb1.size).trans ((hb3.mono (Nat.le_trans hb1.size hb2.size)).trans (hb4.mono (Nat.le_trans hb1.size (Nat.le_trans hb2.size hb3.size)))))⟩
    show _ = _
    rw [unhide hv4, data_add, unhide hv1, unhide hv3, data_add, unhide hv2]
    unfold macF
    rw [if_neg (by rw [hkl]; exact h64)]
end Go.Proofs.YtgaddifabjoliaaDoor
