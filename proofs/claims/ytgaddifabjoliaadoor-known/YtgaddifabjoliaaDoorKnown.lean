import Derived.Test.YtgaddifabjoliaaDoorCallsB
import Derived.Test.YtgaddifabjoliaaDoorKnownM
namespace Go.Proofs.YtgaddifabjoliaaDoor
open Go.RowKit

theorem hex_to (x y : ByteArray) (w : World) (hs : x.size < 2 ^ 40) (hy : hexF x.data.toList = y.data.toList) :
    Calls Tryd.prog 12 #[.string x] w fun e w' => e = .returned (.string y) ∧ Below w.heap.size w w' := by
  have h := hex_any x w hs
  rw [hy] at h
  exact h
theorem bytes_eq {a b : ByteArray} (h : a.data.toList = b.data.toList) : a = b := by
  obtain ⟨⟨a⟩⟩ := a
  obtain ⟨⟨b⟩⟩ := b
  simp only at h
  rw [h]

set_option maxRecDepth 20000 in
set_option maxHeartbeats 2000000 in
theorem known_walk (s key : ByteArray) (w : World) (hL : Laid w) (hs : s.size < 2 ^ 50) (hk : key.size < 2 ^ 50) :
    Calls Tryd.prog 4 #[.string s, .string key] w fun e w' => e = .returned (.bool true) ∧ Below w.heap.size w w' := by
  go_enter Tryd.func4, Tryd.ntmps4
  go_wp2_with (go_at_call 6; refine (sum256_ex _ w hL (by decide)).mono ?_; rintro e w1 ⟨y1, rfl, hy1, hv1, hb1⟩)
  have hL1 := hL.of hb1
  go_wp2_with (go_at_call 12; refine (hex_to y1 ⟨([98, 97, 55, 56, 49, 54, 98, 102, 56, 102, 48, 49, 99, 102, 101, 97, 52, 49, 52, 49, 52, 48, 100, 101, 53, 100, 97, 101, 50, 50, 50, 51, 98, 48, 48, 51, 54, 49, 97, 51, 57, 54, 49, 55, 55, 97, 57, 99, 98, 52, 49, 48, 102, 102, 54, 49, 102, 50, 48, 48, 49, 53, 97, 100] : List UInt8).toArray⟩ w1 (by omega) (by rw [unhide hv1]; exact known_256)).mono ?_; rintro e w2 ⟨rfl, hb2⟩)
  have hL2 := hL1.of hb2
  go_wp2_with (go_at_call 8; refine (sum512_ex _ w2 hL2 (by decide)).mono ?_; rintro e w3 ⟨y3, rfl, hy3, hv3, hb3⟩)
  have hL3 := hL2.of hb3
  go_wp2_with (go_at_call 12; refine (hex_to y3 ⟨([100, 100, 97, 102, 51, 53, 97, 49, 57, 51, 54, 49, 55, 97, 98, 97, 99, 99, 52, 49, 55, 51, 52, 57, 97, 101, 50, 48, 52, 49, 51, 49, 49, 50, 101, 54, 102, 97, 52, 101, 56, 57, 97, 57, 55, 101, 97, 50, 48, 97, 57, 101, 101, 101, 101, 54, 52, 98, 53, 53, 100, 51, 57, 97, 50, 49, 57, 50, 57, 57, 50, 97, 50, 55, 52, 102, 99, 49, 97, 56, 51, 54, 98, 97, 51, 99, 50, 51, 97, 51, 102, 101, 101, 98, 98, 100, 52, 53, 52, 100, 52, 52, 50, 51, 54, 52, 51, 99, 101, 56, 48, 101, 50, 97, 57, 97, 99, 57, 52, 102, 97, 53, 52, 99, 97, 52, 57, 102] : List UInt8).toArray⟩ w3 (by omega) (by rw [unhide hv3]; exact known_512)).mono ?_; rintro e w4 ⟨rfl, hb4⟩)
  have hL4 := hL3.of hb4
  go_wp2_with (go_at_call 10; refine (mac_ex _ _ w4 hL4 (by decide) (by decide)).mono ?_; rintro e w5 ⟨y5, rfl, hy5, hv5, hb5⟩)
  have hL5 := hL4.of hb5
  go_wp2_with (go_at_call 12; refine (hex_to y5 ⟨([102, 55, 98, 99, 56, 51, 102, 52, 51, 48, 53, 51, 56, 52, 50, 52, 98, 49, 51, 50, 57, 56, 101, 54, 97, 97, 54, 102, 98, 49, 52, 51, 101, 102, 52, 100, 53, 57, 97, 49, 52, 57, 52, 54, 49, 55, 53, 57, 57, 55, 52, 55, 57, 100, 98, 99, 50, 100, 49, 97, 51, 99, 100, 56] : List UInt8).toArray⟩ w5 (by omega) (by rw [unhide hv5]; exact known_mac)).mono ?_; rintro e w6 ⟨rfl, hb6⟩)
  have hL6 := hL5.of hb6
  have hbs : Below w.heap.size w w6 := hb1.trans ((hb2.mono hb1.size).trans ((hb3.mono (Nat.le_trans hb1.size hb2.size)).trans ((hb4.mono (Nat.le_trans hb1.size (Nat.le_trans hb2.size hb3.size))).trans ((hb5.mono (Nat.le_trans hb1.size (Nat.le_trans hb2.size (Nat.le_trans hb3.size hb4.size)))).trans (hb6.mono (Nat.le_trans hb1.size (Nat.le_trans hb2.size (Nat.le_trans hb3.size (Nat.le_trans hb4.size hb5.size)))))))))
  clear hL1 hL2 hL3 hL4 hL5 hb1 hb2 hb3 hb4 hb5 hb6
  go_wp2_with (go_at_call 6; refine (sum256_ex s w6 hL6 (by omega)).mono ?_; rintro e w7 ⟨y7, rfl, hy7, hv7, hb7⟩)
  have hL7 := hL6.of hb7
  go_wp2_with (go_at_call 8; refine (sum512_ex s w7 hL7 (by omega)).mono ?_; rintro e w8 ⟨y8, rfl, hy8, hv8, hb8⟩)
  have hL8 := hL7.of hb8
  have hkl : key.data.toList.length = key.size := by simp
  rcases Nat.lt_trichotomy key.size 64 with h64 | h64 | h64
  · go_wp2_with (go_at_call 10; refine (mac_ex key s w8 hL8 (by omega) (by omega)).mono ?_; rintro e w9 ⟨y9, rfl, hy9, hv9, hb9⟩)
    have hL9 := hL8.of hb9
    have hbt : Below w.heap.size w w9 := hbs.trans ((hb7.mono hbs.size).trans ((hb8.mono (Nat.le_trans hbs.size hb7.size)).trans (hb9.mono (Nat.le_trans hbs.size (Nat.le_trans hb7.size hb8.size)))))
    clear hL6 hL7 hL8 hbs hb7 hb8 hb9
    refine (mac_ex key s w9 hL9 (by omega) (by omega)).mono ?_
    rintro e wa ⟨ya, rfl, hya, hva, hba⟩
    have hLa := hL9.of hba
    go_wp2_with fail
    refine (mac_ex _ s wa hLa ?a1 ?a2).mono ?_
    case a1 => (rw [ByteArray.size_append]; show key.size + 1 < _; omega)
    case a2 => omega
    rintro e wb ⟨yb, rfl, hyb, hvb, hbb⟩
    have hab : yb = ya := bytes_eq (by rw [unhide hva, unhide hvb, data_add]; exact mac_short _ _ (by omega))
    subst hab
    go_wp2
    go_ret
    exact ⟨rfl, hbt.trans ((hba.mono hbt.size).trans (hbb.mono (Nat.le_trans hbt.size hba.size)))⟩
  · go_wp2_with (go_at_call 10; refine (mac_ex key s w8 hL8 (by omega) (by omega)).mono ?_; rintro e w9 ⟨y9, rfl, hy9, hv9, hb9⟩)
    have hL9 := hL8.of hb9
    have hbt : Below w.heap.size w w9 := hbs.trans ((hb7.mono hbs.size).trans ((hb8.mono (Nat.le_trans hbs.size hb7.size)).trans (hb9.mono (Nat.le_trans hbs.size (Nat.le_trans hb7.size hb8.size)))))
    clear hL6 hL7 hL8 hbs hb7 hb8 hb9
    go_wp2
    go_ret
    exact ⟨rfl, hbt⟩
  · go_wp2_with (go_at_call 10; refine (mac_ex key s w8 hL8 (by omega) (by omega)).mono ?_; rintro e w9 ⟨y9, rfl, hy9, hv9, hb9⟩)
    have hL9 := hL8.of hb9
    have hbt : Below w.heap.size w w9 := hbs.trans ((hb7.mono hbs.size).trans ((hb8.mono (Nat.le_trans hbs.size hb7.size)).trans (hb9.mono (Nat.le_trans hbs.size (Nat.le_trans hb7.size hb8.size)))))
    clear hL6 hL7 hL8 hbs hb7 hb8 hb9
    refine (mac_ex key s w9 hL9 (by omega) (by omega)).mono ?_
    rintro e wa ⟨ya, rfl, hya, hva, hba⟩
    have hLa := hL9.of hba
    go_wp2_with fail
    refine (sum256_ex key wa hLa (by omega)).mono ?_
    rintro e wb ⟨yb, rfl, hyb, hvb, hbb⟩
    have hLb := hLa.of hbb
    go_wp2_with fail
    refine (mac_ex yb s wb hLb (by omega) (by omega)).mono ?_
    rintro e wc ⟨yc, rfl, hyc, hvc, hbc⟩
    have hac : yc = ya := bytes_eq (by rw [unhide hva, unhide hvc, unhide hvb]; exact mac_long _ _ (by omega))
    subst hac
    go_wp2
    go_ret
    exact ⟨rfl, hbt.trans ((hba.mono hbt.size).trans ((hbb.mono (Nat.le_trans hbt.size hba.size)).trans (hbc.mono (Nat.le_trans hbt.size (Nat.le_trans hba.size hbb.size)))))⟩
end Go.Proofs.YtgaddifabjoliaaDoor
