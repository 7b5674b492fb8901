import Derived.Test.YtgaddifabjoliaaDoorRMac
import Derived.Test.YtgaddifabjoliaaDoorCallsB
namespace Go.Proofs.YtgaddifabjoliaaDoor
open Go.RowKit

theorem bytes_same {a b : ByteArray} (h : a.data.toList = b.data.toList) : a = b := by
  obtain ⟨⟨a⟩⟩ := a
  obtain ⟨⟨b⟩⟩ := b
  simp only at h
  rw [h]

theorem rmac_ex (key s : ByteArray) (w : World) (g : Nat) (hT : Tab w g) (hk : key.size < 140737488354000) (hs : s.size < 140737488354000) :
    Calls Tryd.prog 11 #[.pointer (some ⟨g, 0, none⟩), .string key, .string s] w fun e w' => ∃ y : ByteArray, e = .returned (.string y) ∧ y.size = 32 ∧ Hid (y.data.toList = macF key.data.toList s.data.toList) ∧ Below w.heap.size w w' := by
  by_cases h : key.size ≤ 64
  · exact rmac_short key s w g hT h hs
  · exact rmac_long key s w g hT (by omega) hk hs

set_option maxRecDepth 20000 in
set_option maxHeartbeats 2000000 in
theorem sums_walk (s key : ByteArray) (w : World) (hL : Laid w) (hs : s.size < 140737488354000) (hk : key.size < 140737488354000) :
    Calls Tryd.prog 3 #[.string s, .string key] w fun e w' => e = .returned (.bool true) ∧ Below w.heap.size w w' := by
  go_enter Tryd.func3, Tryd.ntmps3
  go_wp2_with fail
  refine (rnew w).mono ?_
  rintro e w1 ⟨g, rfl, hT1, hb1⟩
  have hL1 := hL.of hb1
  go_wp2_with fail
  refine (sum256_ex s w1 hL1 (by omega)).mono ?_
  rintro e w2 ⟨y2, rfl, hy2, hv2, hb2⟩
  have hL2 := hL1.of hb2
  have hT2 := hT1.all hb2
  go_wp2_with fail
  refine (rsum256_ex s w2 g hT2 (by omega)).mono ?_
  rintro e w3 ⟨y3, rfl, hy3, hv3, hb3⟩
  have hL3 := hL2.of hb3
  have hT3 := hT2.all hb3
  have e23 : y3 = y2 := bytes_same (by rw [unhide hv3, unhide hv2])
  subst e23
  go_wp2_with fail
  refine (sum512_ex s w3 hL3 (by omega)).mono ?_
  rintro e w4 ⟨y4, rfl, hy4, hv4, hb4⟩
  have hL4 := hL3.of hb4
  have hT4 := hT3.all hb4
  go_wp2_with fail
  refine (rsum512_ex s w4 g hT4 (by omega)).mono ?_
  rintro e w5 ⟨y5, rfl, hy5, hv5, hb5⟩
  have hL5 := hL4.of hb5
  have hT5 := hT4.all hb5
  have e45 : y5 = y4 := bytes_same (by rw [unhide hv5, unhide hv4])
  subst e45
  go_wp2_with fail
  refine (mac_ex key s w5 hL5 (by omega) (by omega)).mono ?_
  rintro e w6 ⟨y6, rfl, hy6, hv6, hb6⟩
  have hT6 := hT5.all hb6
  go_wp2_with fail
  refine (rmac_ex key s w6 g hT6 (by omega) (by omega)).mono ?_
  rintro e w7 ⟨y7, rfl, hy7, hv7, hb7⟩
  have e67 : y7 = y6 := bytes_same (by rw [unhide hv7, unhide hv6])
  subst e67
  have b2 := hb1.trans (hb2.mono hb1.size)
  have b3 := b2.trans (hb3.mono b2.size)
  have b4 := b3.trans (hb4.mono b3.size)
  have b5 := b4.trans (hb5.mono b4.size)
  have b6 := b5.trans (hb6.mono b5.size)
  have b7 := b6.trans (hb7.mono b6.size)
  go_wp2
  go_ret
  exact ⟨rfl, b7⟩
end Go.Proofs.YtgaddifabjoliaaDoor
