import Derived.Test.YtgaddifabjoliaaGreatDoorRfA
namespace Go.Proofs.YtgaddifabjoliaaGreatDoor
open Go.RowKit

/-- A byte at a place, 0 behind the end. -/
def byteN (s : ByteArray) (k : Nat) : Nat := if h : k < s.size then (s[k]'h).toNat else 0
theorem byteN_at (s : ByteArray) (k : Nat) (h : k < s.size) : byteN s k = s[k].toNat := dif_pos h
theorem byteN_list (s : ByteArray) (i k : Nat) : ((s.data.toList.drop i).getD k 0).toNat = byteN s (i + k) := by
  rw [List.getD_eq_getElem?_getD, List.getElem?_drop]
  unfold byteN
  by_cases h : i + k < s.size
  · rw [dif_pos h, List.getElem?_eq_getElem (by rw [Array.length_toList]; exact h)]
    rfl
  · rw [dif_neg h, List.getElem?_eq_none (by rw [Array.length_toList]; exact Nat.le_of_not_lt h)]
    rfl
theorem runeN_at (s : ByteArray) (i : Nat) : runeN (s.data.toList.drop i) = rune4 (s.size - i) (byteN s i) (byteN s (i + 1)) (byteN s (i + 2)) (byteN s (i + 3)) := by
  have hl : (s.data.toList.drop i).length = s.size - i := by rw [List.length_drop, Array.length_toList]; rfl
  unfold runeN
  rw [hl, byteN_list, byteN_list, byteN_list, byteN_list]
  rfl

def Cls (s : ByteArray) (i n : Nat) : Prop := (n = 2 ∧ 194 ≤ byteN s i ∧ byteN s i < 224) ∨ (n = 3 ∧ 224 ≤ byteN s i ∧ byteN s i < 240) ∨ (n = 4 ∧ 240 ≤ byteN s i ∧ byteN s i < 245)
def NotCont (x : Nat) : Prop := x < 128 ∨ 191 < x
theorem rune_not (s : ByteArray) (i n j : Nat) (hn : Cls s i n) (h1 : 1 ≤ j) (h2 : j < n) (h : NotCont (byteN s (i + j))) : runeN (s.data.toList.drop i) = 0 := by
  rw [runeN_at]
  unfold NotCont at h
  unfold rune4
  rcases hn with ⟨rfl, a, b⟩ | ⟨rfl, a, b⟩ | ⟨rfl, a, b⟩
  · rw [if_neg (by omega), if_neg (by omega), if_pos b]
    have : j = 1 := by omega
    subst this
    rw [if_neg (by omega)]
  · rw [if_neg (by omega), if_neg (by omega), if_neg (by omega), if_pos b]
    have : j = 1 ∨ j = 2 := by omega
    rcases this with rfl | rfl <;> rw [if_neg (by omega)]
  · rw [if_neg (by omega), if_neg (by omega), if_neg (by omega), if_neg (by omega), if_pos b]
    have hj : j = 1 ∨ j = 2 ∨ j = 3 := by omega
    rcases hj with rfl | rfl | rfl <;> rw [if_neg (by omega)]
theorem rune_short (s : ByteArray) (i n : Nat) (hn : Cls s i n) (h : s.size < i + n) : runeN (s.data.toList.drop i) = 0 := by
  rw [runeN_at]
  unfold rune4
  rcases hn with ⟨rfl, a, b⟩ | ⟨rfl, a, b⟩ | ⟨rfl, a, b⟩
  · rw [if_neg (by omega), if_neg (by omega), if_pos b, if_neg (by omega)]
  · rw [if_neg (by omega), if_neg (by omega), if_neg (by omega), if_pos b, if_neg (by omega)]
  · rw [if_neg (by omega), if_neg (by omega), if_neg (by omega), if_neg (by omega), if_pos b, if_neg (by omega)]
/-- Two bytes that do not go with each other. -/
def Clash (c d : Nat) : Prop := (c = 224 ∧ d < 160) ∨ (c = 237 ∧ 159 < d) ∨ (c = 240 ∧ d < 144) ∨ (c = 244 ∧ 143 < d)
theorem rune_end (s : ByteArray) (i n : Nat) (hn : Cls s i n) (h : i + n ≤ s.size) (hc : ∀ k, 1 ≤ k → k < n → ¬ NotCont (byteN s (i + k))) :
    (Clash (byteN s i) (byteN s (i + 1)) → runeN (s.data.toList.drop i) = 0) ∧ (¬ Clash (byteN s i) (byteN s (i + 1)) → runeN (s.data.toList.drop i) = n) := by
  rw [runeN_at]
  unfold rune4 Clash
  rcases hn with ⟨rfl, a, b⟩ | ⟨rfl, a, b⟩ | ⟨rfl, a, b⟩
  · have k1 := hc 1 (by omega) (by omega)
    unfold NotCont at k1
    rw [if_neg (by omega), if_neg (by omega), if_pos b, if_pos (by omega)]
    exact ⟨fun h => by omega, fun _ => rfl⟩
  · have k1 := hc 1 (by omega) (by omega)
    have k2 := hc 2 (by omega) (by omega)
    unfold NotCont at k1 k2
    rw [if_neg (by omega), if_neg (by omega), if_neg (by omega), if_pos b]
    exact ⟨fun h => by rw [if_neg (by omega)], fun h => by rw [if_pos (by omega)]⟩
  · have k1 := hc 1 (by omega) (by omega)
    have k2 := hc 2 (by omega) (by omega)
    have k3 := hc 3 (by omega) (by omega)
    unfold NotCont at k1 k2 k3
    rw [if_neg (by omega), if_neg (by omega), if_neg (by omega), if_neg (by omega), if_pos b]
    exact ⟨fun h => by rw [if_neg (by omega)], fun h => by rw [if_pos (by omega)]⟩

set_option maxRecDepth 100000 in
set_option maxHeartbeats 4000000 in
theorem runeAt_2 (s : ByteArray) (i : Nat) (w : World) (h : i < s.size) (hs : s.size ≤ 4000) (c1 : 194 ≤ s[i].toNat) (c2 : s[i].toNat < 224) :
    Calls Tryz.prog 96 #[.string s, .int .i64 i] w fun e w' => e = .returned (.int .i64 (runeN (s.data.toList.drop i) : Nat)) ∧ w' = w := by
  have hcl : Cls s i 2 := by
    unfold Cls
    rw [byteN_at s i h]
    exact Or.inl ⟨rfl, by omega, by omega⟩
  have HB := hide (byteN_at s i h)
  have HC := hide hcl
  by_cases hfit : i + 2 ≤ s.size
  · have hfi : ¬ ((i : Int) + 2 > (s.size : Int)) := by omega
    clear hcl
    go_enter Tryz.func96, Tryz.ntmps96
    go_wp2
    go_loop [7] (fun k => ∃ j : Nat, k = .int .i64 (j : Int) ∧ 1 ≤ j ∧ j ≤ 2 ∧ Hid (∀ m, 1 ≤ m → m < j → ¬ NotCont (byteN s (i + m)))) (fun k => 2 - (intOf k).toNat)
    case atStart => exact ⟨1, rfl, by omega, by omega, fun m h1 h2 => by omega⟩
    case round =>
      obtain ⟨j, rfl, j1, j2, HJ⟩ := hrel
      by_cases hlt : j < 2
      · have hij : i + j < s.size := by omega
        have HX := hide (byteN_at s (i + j) hij)
        by_cases x1 : s[i + j].toNat < 128
        · have hfin := rune_not s i 2 j (unhide HC) j1 hlt (by rw [unhide HX]; exact Or.inl x1)
          have HF := hide hfin
          clear hfin
          go_wp2
          go_ret
          exact ⟨by rw [unhide HF]; rfl, rfl⟩
        · by_cases x2 : 191 < s[i + j].toNat
          · have hfin := rune_not s i 2 j (unhide HC) j1 hlt (by rw [unhide HX]; exact Or.inr x2)
            have HF := hide hfin
            clear hfin
            go_wp2
            go_ret
            exact ⟨by rw [unhide HF]; rfl, rfl⟩
          · have HJ' : Hid (∀ m, 1 ≤ m → m < j + 1 → ¬ NotCont (byteN s (i + m))) := by
              intro m m1 m2
              by_cases e : m = j
              · subst e
                rw [unhide HX]
                unfold NotCont
                omega
              · exact unhide HJ m m1 (by omega)
            go_wp2
            go_round
            case rel => exact ⟨j + 1, by go_num, by omega, by omega, HJ'⟩
            case measure => simp [intOf]; omega
      · obtain rfl : j = 2 := by omega
        have hfin := rune_end s i 2 (unhide HC) hfit (unhide HJ)
        have hi1 : i + 1 < s.size := by omega
        rw [unhide HB, byteN_at s (i + 1) hi1] at hfin
        have HF := hide hfin
        have hb1 := UInt8.toNat_lt s[i + 1]
        clear hfin HJ
        have hz := (unhide HF).2 (by unfold Clash; omega)
        have HZ := hide hz
        clear hz
        go_wp2
        go_ret
        exact ⟨by rw [unhide HZ]; rfl, rfl⟩
  · have hfi : (i : Int) + 2 > (s.size : Int) := by omega
    have hfin := rune_short s i 2 hcl (by omega)
    have HF := hide hfin
    clear hcl hfin
    go_enter Tryz.func96, Tryz.ntmps96
    go_wp2
    go_ret
    exact ⟨by rw [unhide HF]; rfl, rfl⟩

set_option maxRecDepth 100000 in
set_option maxHeartbeats 4000000 in
theorem runeAt_3 (s : ByteArray) (i : Nat) (w : World) (h : i < s.size) (hs : s.size ≤ 4000) (c1 : 224 ≤ s[i].toNat) (c2 : s[i].toNat < 240) :
    Calls Tryz.prog 96 #[.string s, .int .i64 i] w fun e w' => e = .returned (.int .i64 (runeN (s.data.toList.drop i) : Nat)) ∧ w' = w := by
  have hcl : Cls s i 3 := by
    unfold Cls
    rw [byteN_at s i h]
    exact Or.inr (Or.inl ⟨rfl, by omega, by omega⟩)
  have HB := hide (byteN_at s i h)
  have HC := hide hcl
  by_cases hfit : i + 3 ≤ s.size
  · have hfi : ¬ ((i : Int) + 3 > (s.size : Int)) := by omega
    clear hcl
    go_enter Tryz.func96, Tryz.ntmps96
    go_wp2
    go_loop [7] (fun k => ∃ j : Nat, k = .int .i64 (j : Int) ∧ 1 ≤ j ∧ j ≤ 3 ∧ Hid (∀ m, 1 ≤ m → m < j → ¬ NotCont (byteN s (i + m)))) (fun k => 3 - (intOf k).toNat)
    case atStart => exact ⟨1, rfl, by omega, by omega, fun m h1 h2 => by omega⟩
    case round =>
      obtain ⟨j, rfl, j1, j2, HJ⟩ := hrel
      by_cases hlt : j < 3
      · have hij : i + j < s.size := by omega
        have HX := hide (byteN_at s (i + j) hij)
        by_cases x1 : s[i + j].toNat < 128
        · have hfin := rune_not s i 3 j (unhide HC) j1 hlt (by rw [unhide HX]; exact Or.inl x1)
          have HF := hide hfin
          clear hfin
          go_wp2
          go_ret
          exact ⟨by rw [unhide HF]; rfl, rfl⟩
        · by_cases x2 : 191 < s[i + j].toNat
          · have hfin := rune_not s i 3 j (unhide HC) j1 hlt (by rw [unhide HX]; exact Or.inr x2)
            have HF := hide hfin
            clear hfin
            go_wp2
            go_ret
            exact ⟨by rw [unhide HF]; rfl, rfl⟩
          · have HJ' : Hid (∀ m, 1 ≤ m → m < j + 1 → ¬ NotCont (byteN s (i + m))) := by
              intro m m1 m2
              by_cases e : m = j
              · subst e
                rw [unhide HX]
                unfold NotCont
                omega
              · exact unhide HJ m m1 (by omega)
            go_wp2
            go_round
            case rel => exact ⟨j + 1, by go_num, by omega, by omega, HJ'⟩
            case measure => simp [intOf]; omega
      · obtain rfl : j = 3 := by omega
        have hfin := rune_end s i 3 (unhide HC) hfit (unhide HJ)
        have hi1 : i + 1 < s.size := by omega
        rw [unhide HB, byteN_at s (i + 1) hi1] at hfin
        have HF := hide hfin
        have hb1 := UInt8.toNat_lt s[i + 1]
        clear hfin HJ
        by_cases ca : s[i].toNat = 224
        · by_cases cd : s[i + 1].toNat < 160
          · have hz := (unhide HF).1 (by unfold Clash; omega)
            have HZ := hide hz
            clear hz
            go_wp2
            go_ret
            exact ⟨by rw [unhide HZ]; rfl, rfl⟩
          · have hz := (unhide HF).2 (by unfold Clash; omega)
            have HZ := hide hz
            clear hz
            go_wp2
            go_ret
            exact ⟨by rw [unhide HZ]; rfl, rfl⟩
        · by_cases cb : s[i].toNat = 237
          · by_cases cd : 159 < s[i + 1].toNat
            · have hz := (unhide HF).1 (by unfold Clash; omega)
              have HZ := hide hz
              clear hz
              go_wp2
              go_ret
              exact ⟨by rw [unhide HZ]; rfl, rfl⟩
            · have hz := (unhide HF).2 (by unfold Clash; omega)
              have HZ := hide hz
              clear hz
              go_wp2
              go_ret
              exact ⟨by rw [unhide HZ]; rfl, rfl⟩
          · have hz := (unhide HF).2 (by unfold Clash; omega)
            have HZ := hide hz
            clear hz
            go_wp2
            go_ret
            exact ⟨by rw [unhide HZ]; rfl, rfl⟩
  · have hfi : (i : Int) + 3 > (s.size : Int) := by omega
    have hfin := rune_short s i 3 hcl (by omega)
    have HF := hide hfin
    clear hcl hfin
    go_enter Tryz.func96, Tryz.ntmps96
    go_wp2
    go_ret
    exact ⟨by rw [unhide HF]; rfl, rfl⟩

set_option maxRecDepth 100000 in
set_option maxHeartbeats 4000000 in
theorem runeAt_4 (s : ByteArray) (i : Nat) (w : World) (h : i < s.size) (hs : s.size ≤ 4000) (c1 : 240 ≤ s[i].toNat) (c2 : s[i].toNat < 245) :
    Calls Tryz.prog 96 #[.string s, .int .i64 i] w fun e w' => e = .returned (.int .i64 (runeN (s.data.toList.drop i) : Nat)) ∧ w' = w := by
  have hcl : Cls s i 4 := by
    unfold Cls
    rw [byteN_at s i h]
    exact Or.inr (Or.inr ⟨rfl, by omega, by omega⟩)
  have HB := hide (byteN_at s i h)
  have HC := hide hcl
  by_cases hfit : i + 4 ≤ s.size
  · have hfi : ¬ ((i : Int) + 4 > (s.size : Int)) := by omega
    clear hcl
    go_enter Tryz.func96, Tryz.ntmps96
    go_wp2
    go_loop [7] (fun k => ∃ j : Nat, k = .int .i64 (j : Int) ∧ 1 ≤ j ∧ j ≤ 4 ∧ Hid (∀ m, 1 ≤ m → m < j → ¬ NotCont (byteN s (i + m)))) (fun k => 4 - (intOf k).toNat)
    case atStart => exact ⟨1, rfl, by omega, by omega, fun m h1 h2 => by omega⟩
    case round =>
      obtain ⟨j, rfl, j1, j2, HJ⟩ := hrel
      by_cases hlt : j < 4
      · have hij : i + j < s.size := by omega
        have HX := hide (byteN_at s (i + j) hij)
        by_cases x1 : s[i + j].toNat < 128
        · have hfin := rune_not s i 4 j (unhide HC) j1 hlt (by rw [unhide HX]; exact Or.inl x1)
          have HF := hide hfin
          clear hfin
          go_wp2
          go_ret
          exact ⟨by rw [unhide HF]; rfl, rfl⟩
        · by_cases x2 : 191 < s[i + j].toNat
          · have hfin := rune_not s i 4 j (unhide HC) j1 hlt (by rw [unhide HX]; exact Or.inr x2)
            have HF := hide hfin
            clear hfin
            go_wp2
            go_ret
            exact ⟨by rw [unhide HF]; rfl, rfl⟩
          · have HJ' : Hid (∀ m, 1 ≤ m → m < j + 1 → ¬ NotCont (byteN s (i + m))) := by
              intro m m1 m2
              by_cases e : m = j
              · subst e
                rw [unhide HX]
                unfold NotCont
                omega
              · exact unhide HJ m m1 (by omega)
            go_wp2
            go_round
            case rel => exact ⟨j + 1, by go_num, by omega, by omega, HJ'⟩
            case measure => simp [intOf]; omega
      · obtain rfl : j = 4 := by omega
        have hfin := rune_end s i 4 (unhide HC) hfit (unhide HJ)
        have hi1 : i + 1 < s.size := by omega
        rw [unhide HB, byteN_at s (i + 1) hi1] at hfin
        have HF := hide hfin
        have hb1 := UInt8.toNat_lt s[i + 1]
        clear hfin HJ
        by_cases ca : s[i].toNat = 240
        · by_cases cd : s[i + 1].toNat < 144
          · have hz := (unhide HF).1 (by unfold Clash; omega)
            have HZ := hide hz
            clear hz
            go_wp2
            go_ret
            exact ⟨by rw [unhide HZ]; rfl, rfl⟩
          · have hz := (unhide HF).2 (by unfold Clash; omega)
            have HZ := hide hz
            clear hz
            go_wp2
            go_ret
            exact ⟨by rw [unhide HZ]; rfl, rfl⟩
        · by_cases cb : s[i].toNat = 244
          · by_cases cd : 143 < s[i + 1].toNat
            · have hz := (unhide HF).1 (by unfold Clash; omega)
              have HZ := hide hz
              clear hz
              go_wp2
              go_ret
              exact ⟨by rw [unhide HZ]; rfl, rfl⟩
            · have hz := (unhide HF).2 (by unfold Clash; omega)
              have HZ := hide hz
              clear hz
              go_wp2
              go_ret
              exact ⟨by rw [unhide HZ]; rfl, rfl⟩
          · have hz := (unhide HF).2 (by unfold Clash; omega)
            have HZ := hide hz
            clear hz
            go_wp2
            go_ret
            exact ⟨by rw [unhide HZ]; rfl, rfl⟩
  · have hfi : (i : Int) + 4 > (s.size : Int) := by omega
    have hfin := rune_short s i 4 hcl (by omega)
    have HF := hide hfin
    clear hcl hfin
    go_enter Tryz.func96, Tryz.ntmps96
    go_wp2
    go_ret
    exact ⟨by rw [unhide HF]; rfl, rfl⟩

set_option maxRecDepth 100000 in
set_option maxHeartbeats 4000000 in
theorem runeAt_1 (s : ByteArray) (i : Nat) (w : World) (h : i < s.size) (hs : s.size ≤ 4000) (c1 : s[i].toNat < 128) :
    Calls Tryz.prog 96 #[.string s, .int .i64 i] w fun e w' => e = .returned (.int .i64 (runeN (s.data.toList.drop i) : Nat)) ∧ w' = w := by
  have hr : runeN (s.data.toList.drop i) = 1 := by
    rw [runeN_at, byteN_at s i h]
    unfold rune4
    rw [if_pos c1]
  rw [hr]
  clear hr
  have hfi : ¬ ((i : Int) + 1 > (s.size : Int)) := by omega
  go_enter Tryz.func96, Tryz.ntmps96
  go_wp2
  go_loop [7] (fun k => k = .int .i64 1) (fun _ => 0)
  case atStart => rfl
  case round =>
    subst hrel
    go_wp2
    go_ret
    exact ⟨rfl, rfl⟩
set_option maxRecDepth 100000 in
set_option maxHeartbeats 4000000 in
theorem runeAt_0 (s : ByteArray) (i : Nat) (w : World) (h : i < s.size) (_hs : s.size ≤ 4000) (c1 : 128 ≤ s[i].toNat) (c2 : s[i].toNat < 194 ∨ 245 ≤ s[i].toNat) :
    Calls Tryz.prog 96 #[.string s, .int .i64 i] w fun e w' => e = .returned (.int .i64 (runeN (s.data.toList.drop i) : Nat)) ∧ w' = w := by
  have hr : runeN (s.data.toList.drop i) = 0 := by
    rw [runeN_at, byteN_at s i h]
    unfold rune4
    rw [if_neg (by omega)]
    rcases c2 with c2 | c2
    · rw [if_pos c2]
    · rw [if_neg (by omega), if_neg (by omega), if_neg (by omega), if_neg (by omega)]
  rw [hr]
  clear hr
  have hb := UInt8.toNat_lt s[i]
  rcases c2 with c2 | c2
  · go_enter Tryz.func96, Tryz.ntmps96
    go_wp2
    go_ret
    exact ⟨rfl, rfl⟩
  · go_enter Tryz.func96, Tryz.ntmps96
    go_wp2
    go_ret
    exact ⟨rfl, rfl⟩
theorem runeAt_calls (s : ByteArray) (i : Nat) (w : World) (h : i < s.size) (hs : s.size ≤ 4000) :
    Calls Tryz.prog 96 #[.string s, .int .i64 i] w fun e w' => e = .returned (.int .i64 (runeN (s.data.toList.drop i) : Nat)) ∧ w' = w := by
  by_cases a1 : s[i].toNat < 128
  · exact runeAt_1 s i w h hs a1
  by_cases a2 : s[i].toNat < 194
  · exact runeAt_0 s i w h hs (by omega) (Or.inl a2)
  by_cases a3 : s[i].toNat < 224
  · exact runeAt_2 s i w h hs (by omega) a3
  by_cases a4 : s[i].toNat < 240
  · exact runeAt_3 s i w h hs (by omega) a4
  by_cases a5 : s[i].toNat < 245
  · exact runeAt_4 s i w h hs (by omega) a5
  exact runeAt_0 s i w h hs (by omega) (Or.inr (by omega))
end Go.Proofs.YtgaddifabjoliaaGreatDoor

namespace Go.Proofs.YtgaddifabjoliaaGreatDoor
open Go.RowKit

theorem drop_cons (s : ByteArray) (i : Nat) (h : i < s.size) : s.data.toList.drop i = s[i] :: s.data.toList.drop (i + 1) := by
  rw [List.drop_eq_getElem_cons (by rw [Array.length_toList]; exact h)]
  rfl
theorem Rd.later {w w' : World} {r : Nat} {s : ByteArray} {i : Nat} {bad : Bool} (h : Rd w r s i bad) (hb : Below w.heap.size w w') : Rd w' r s i bad := by
  have hl := h.cells.2.2
  unfold Rd at *
  rw [hb.block r hl]
  exact h
theorem conv_fresh_at (w : World) (g : Nat) (hg : g = w.heap.size) (l : Bytes) : (convert 45 9 (.slice (some ⟨g, 0, none⟩) l.length l.length)).run Tryz.prog (w.alloc (.cells (Lib.byteCells l).toArray 5)) = .ok (.string ⟨l.toArray⟩) (w.alloc (.cells (Lib.byteCells l).toArray 5)) := by
  subst hg
  exact conv_fresh w l
def EscSays (r : Nat) (s : ByteArray) (i : Nat) (w : World) (e : Ending) (w' : World) : Prop := Own r w w' ∧
  ((escR (s.data.toList.drop i) = none ∧ e = .returned (.string ⟨#[]⟩) ∧ ∃ j, j ≤ 4100 ∧ Rd w' r s j true) ∨
   ∃ (c : Nat) (q : Bytes), escR (s.data.toList.drop i) = some ((c : Int), q) ∧ e = .returned (.string ⟨(encL c).toArray⟩) ∧ ∃ j, j ≤ s.size ∧ i < j ∧ s.data.toList.drop j = q ∧ Rd w' r s j false)
theorem esc_bad {r : Nat} {s : ByteArray} {i j : Nat} {w w' : World} (ho : Own r w w') (hz : escR (s.data.toList.drop i) = none) (hj : j ≤ 4100) (hr : Rd w' r s j true) : EscSays r s i w (.returned (.string ⟨#[]⟩)) w' := ⟨ho, Or.inl ⟨hz, rfl, j, hj, hr⟩⟩
theorem esc_fine {r : Nat} {s : ByteArray} {i j c : Nat} {w w' : World} (ho : Own r w w') (hz : escR (s.data.toList.drop i) = some ((c : Int), s.data.toList.drop j)) (hj : j ≤ s.size) (hij : i < j) (hr : Rd w' r s j false) : EscSays r s i w (.returned (.string ⟨(encL c).toArray⟩)) w' := ⟨ho, Or.inr ⟨c, _, hz, rfl, j, hj, hij, rfl, hr⟩⟩

set_option maxRecDepth 100000 in
set_option maxHeartbeats 1000000 in
theorem escape_end (r : Nat) (s : ByteArray) (i : Nat) (w : World) (h : Rd w r s i false) (hi : i ≤ s.size) (hs : s.size ≤ 4000) (hge : s.size ≤ i) :
    Calls Tryz.prog 97 #[.pointer (some ⟨r, 0, none⟩)] w (EscSays r s i w) := by
  have hz : escR (s.data.toList.drop i) = none := by rw [drop_far s i hge]; rfl
  have HZ := hide hz
  have HR := hide h
  obtain ⟨⟨c0, c1, c2⟩, cf, cl⟩ := h.cells
  have hgi : (s.size : Int) ≤ (i : Int) := by omega
  clear hz h
  go_enter Tryz.func97, Tryz.ntmps97
  go_wp2
  go_quiet (fail)
  go_wp2
  go_ret
  exact esc_bad (((Own.refl r w).drewN _).setCell 2 _) (unhide HZ) (by omega) (((unhide HR).drewN _).spoil true)

set_option maxRecDepth 100000 in
set_option maxHeartbeats 2000000 in
theorem escape_b (r : Nat) (s : ByteArray) (i : Nat) (w : World) (h : Rd w r s i false) (hs : s.size ≤ 4000) (hlt : i < s.size) (hc : s[i] = 98) :
    Calls Tryz.prog 97 #[.pointer (some ⟨r, 0, none⟩)] w (EscSays r s i w) := by
  have hz : escR (s.data.toList.drop i) = some (((8 : Nat) : Int), s.data.toList.drop (i + 1)) := by
    rw [drop_cons s i hlt, hc]; rfl
  have hx : s[i].toNat = 98 := by rw [hc]; rfl
  have HZ := hide hz
  have HR := hide h
  obtain ⟨⟨c0, c1, c2⟩, cf, cl⟩ := h.cells
  have hgi : ¬ ((s.size : Int) ≤ (i : Int)) := by omega
  clear hz h hc
  go_enter Tryz.func97, Tryz.ntmps97
  go_wp2
  go_quiet (fail)
  go_wp2
  go_quiet (fail)
  go_wp2
  go_ret
  exact esc_fine (c := 8) (j := i + 1) (((Own.refl r w).drewN _).setCell 1 _) (unhide HZ) (by omega) (by omega) (((unhide HR).drewN _).move (i + 1))

set_option maxRecDepth 100000 in
set_option maxHeartbeats 2000000 in
theorem escape_f (r : Nat) (s : ByteArray) (i : Nat) (w : World) (h : Rd w r s i false) (hs : s.size ≤ 4000) (hlt : i < s.size) (hc : s[i] = 102) :
    Calls Tryz.prog 97 #[.pointer (some ⟨r, 0, none⟩)] w (EscSays r s i w) := by
  have hz : escR (s.data.toList.drop i) = some (((12 : Nat) : Int), s.data.toList.drop (i + 1)) := by
    rw [drop_cons s i hlt, hc]; rfl
  have hx : s[i].toNat = 102 := by rw [hc]; rfl
  have HZ := hide hz
  have HR := hide h
  obtain ⟨⟨c0, c1, c2⟩, cf, cl⟩ := h.cells
  have hgi : ¬ ((s.size : Int) ≤ (i : Int)) := by omega
  clear hz h hc
  go_enter Tryz.func97, Tryz.ntmps97
  go_wp2
  go_quiet (fail)
  go_wp2
  go_quiet (fail)
  go_wp2
  go_ret
  exact esc_fine (c := 12) (j := i + 1) (((Own.refl r w).drewN _).setCell 1 _) (unhide HZ) (by omega) (by omega) (((unhide HR).drewN _).move (i + 1))

set_option maxRecDepth 100000 in
set_option maxHeartbeats 2000000 in
theorem escape_n (r : Nat) (s : ByteArray) (i : Nat) (w : World) (h : Rd w r s i false) (hs : s.size ≤ 4000) (hlt : i < s.size) (hc : s[i] = 110) :
    Calls Tryz.prog 97 #[.pointer (some ⟨r, 0, none⟩)] w (EscSays r s i w) := by
  have hz : escR (s.data.toList.drop i) = some (((10 : Nat) : Int), s.data.toList.drop (i + 1)) := by
    rw [drop_cons s i hlt, hc]; rfl
  have hx : s[i].toNat = 110 := by rw [hc]; rfl
  have HZ := hide hz
  have HR := hide h
  obtain ⟨⟨c0, c1, c2⟩, cf, cl⟩ := h.cells
  have hgi : ¬ ((s.size : Int) ≤ (i : Int)) := by omega
  clear hz h hc
  go_enter Tryz.func97, Tryz.ntmps97
  go_wp2
  go_quiet (fail)
  go_wp2
  go_quiet (fail)
  go_wp2
  go_ret
  exact esc_fine (c := 10) (j := i + 1) (((Own.refl r w).drewN _).setCell 1 _) (unhide HZ) (by omega) (by omega) (((unhide HR).drewN _).move (i + 1))

set_option maxRecDepth 100000 in
set_option maxHeartbeats 2000000 in
theorem escape_r (r : Nat) (s : ByteArray) (i : Nat) (w : World) (h : Rd w r s i false) (hs : s.size ≤ 4000) (hlt : i < s.size) (hc : s[i] = 114) :
    Calls Tryz.prog 97 #[.pointer (some ⟨r, 0, none⟩)] w (EscSays r s i w) := by
  have hz : escR (s.data.toList.drop i) = some (((13 : Nat) : Int), s.data.toList.drop (i + 1)) := by
    rw [drop_cons s i hlt, hc]; rfl
  have hx : s[i].toNat = 114 := by rw [hc]; rfl
  have HZ := hide hz
  have HR := hide h
  obtain ⟨⟨c0, c1, c2⟩, cf, cl⟩ := h.cells
  have hgi : ¬ ((s.size : Int) ≤ (i : Int)) := by omega
  clear hz h hc
  go_enter Tryz.func97, Tryz.ntmps97
  go_wp2
  go_quiet (fail)
  go_wp2
  go_quiet (fail)
  go_wp2
  go_ret
  exact esc_fine (c := 13) (j := i + 1) (((Own.refl r w).drewN _).setCell 1 _) (unhide HZ) (by omega) (by omega) (((unhide HR).drewN _).move (i + 1))

set_option maxRecDepth 100000 in
set_option maxHeartbeats 2000000 in
theorem escape_t (r : Nat) (s : ByteArray) (i : Nat) (w : World) (h : Rd w r s i false) (hs : s.size ≤ 4000) (hlt : i < s.size) (hc : s[i] = 116) :
    Calls Tryz.prog 97 #[.pointer (some ⟨r, 0, none⟩)] w (EscSays r s i w) := by
  have hz : escR (s.data.toList.drop i) = some (((9 : Nat) : Int), s.data.toList.drop (i + 1)) := by
    rw [drop_cons s i hlt, hc]; rfl
  have hx : s[i].toNat = 116 := by rw [hc]; rfl
  have HZ := hide hz
  have HR := hide h
  obtain ⟨⟨c0, c1, c2⟩, cf, cl⟩ := h.cells
  have hgi : ¬ ((s.size : Int) ≤ (i : Int)) := by omega
  clear hz h hc
  go_enter Tryz.func97, Tryz.ntmps97
  go_wp2
  go_quiet (fail)
  go_wp2
  go_quiet (fail)
  go_wp2
  go_ret
  exact esc_fine (c := 9) (j := i + 1) (((Own.refl r w).drewN _).setCell 1 _) (unhide HZ) (by omega) (by omega) (((unhide HR).drewN _).move (i + 1))

set_option maxRecDepth 100000 in
set_option maxHeartbeats 2000000 in
theorem escape_quote (r : Nat) (s : ByteArray) (i : Nat) (w : World) (h : Rd w r s i false) (hs : s.size ≤ 4000) (hlt : i < s.size) (hc : s[i] = 34) :
    Calls Tryz.prog 97 #[.pointer (some ⟨r, 0, none⟩)] w (EscSays r s i w) := by
  have hz : escR (s.data.toList.drop i) = some (((34 : Nat) : Int), s.data.toList.drop (i + 1)) := by
    rw [drop_cons s i hlt, hc]; rfl
  have hx : s[i].toNat = 34 := by rw [hc]; rfl
  have hcv : ∀ (W : World) (g : Nat), g = W.heap.size → _ := fun W g hg => conv_fresh_at W g hg [34]
  simp only [Lib.byteCells, List.map_cons, List.map_nil, List.length_cons, List.length_nil, show ((34 : UInt8).toNat : Int) = 34 from rfl] at hcv
  have HZ := hide hz
  have HR := hide h
  obtain ⟨⟨c0, c1, c2⟩, cf, cl⟩ := h.cells
  have hgi : ¬ ((s.size : Int) ≤ (i : Int)) := by omega
  clear hz h hc
  go_enter Tryz.func97, Tryz.ntmps97
  go_wp2
  go_quiet (fail)
  go_wp2
  go_quiet (fail)
  go_wp2
  go_ret
  refine esc_fine (c := 34) (j := i + 1) ((((Own.refl r w).drewN _).setCell 1 _).below ((Below.refl _ _).alloc (Nat.le_refl _) _)) (unhide HZ) (by omega) (by omega) ?_
  exact (((unhide HR).drewN _).move (i + 1)).later ((Below.refl _ _).alloc (Nat.le_refl _) _)

set_option maxRecDepth 100000 in
set_option maxHeartbeats 2000000 in
theorem escape_slash (r : Nat) (s : ByteArray) (i : Nat) (w : World) (h : Rd w r s i false) (hs : s.size ≤ 4000) (hlt : i < s.size) (hc : s[i] = 47) :
    Calls Tryz.prog 97 #[.pointer (some ⟨r, 0, none⟩)] w (EscSays r s i w) := by
  have hz : escR (s.data.toList.drop i) = some (((47 : Nat) : Int), s.data.toList.drop (i + 1)) := by
    rw [drop_cons s i hlt, hc]; rfl
  have hx : s[i].toNat = 47 := by rw [hc]; rfl
  have hcv : ∀ (W : World) (g : Nat), g = W.heap.size → _ := fun W g hg => conv_fresh_at W g hg [47]
  simp only [Lib.byteCells, List.map_cons, List.map_nil, List.length_cons, List.length_nil, show ((47 : UInt8).toNat : Int) = 47 from rfl] at hcv
  have HZ := hide hz
  have HR := hide h
  obtain ⟨⟨c0, c1, c2⟩, cf, cl⟩ := h.cells
  have hgi : ¬ ((s.size : Int) ≤ (i : Int)) := by omega
  clear hz h hc
  go_enter Tryz.func97, Tryz.ntmps97
  go_wp2
  go_quiet (fail)
  go_wp2
  go_quiet (fail)
  go_wp2
  go_ret
  refine esc_fine (c := 47) (j := i + 1) ((((Own.refl r w).drewN _).setCell 1 _).below ((Below.refl _ _).alloc (Nat.le_refl _) _)) (unhide HZ) (by omega) (by omega) ?_
  exact (((unhide HR).drewN _).move (i + 1)).later ((Below.refl _ _).alloc (Nat.le_refl _) _)

set_option maxRecDepth 100000 in
set_option maxHeartbeats 2000000 in
theorem escape_back (r : Nat) (s : ByteArray) (i : Nat) (w : World) (h : Rd w r s i false) (hs : s.size ≤ 4000) (hlt : i < s.size) (hc : s[i] = 92) :
    Calls Tryz.prog 97 #[.pointer (some ⟨r, 0, none⟩)] w (EscSays r s i w) := by
  have hz : escR (s.data.toList.drop i) = some (((92 : Nat) : Int), s.data.toList.drop (i + 1)) := by
    rw [drop_cons s i hlt, hc]; rfl
  have hx : s[i].toNat = 92 := by rw [hc]; rfl
  have hcv : ∀ (W : World) (g : Nat), g = W.heap.size → _ := fun W g hg => conv_fresh_at W g hg [92]
  simp only [Lib.byteCells, List.map_cons, List.map_nil, List.length_cons, List.length_nil, show ((92 : UInt8).toNat : Int) = 92 from rfl] at hcv
  have HZ := hide hz
  have HR := hide h
  obtain ⟨⟨c0, c1, c2⟩, cf, cl⟩ := h.cells
  have hgi : ¬ ((s.size : Int) ≤ (i : Int)) := by omega
  clear hz h hc
  go_enter Tryz.func97, Tryz.ntmps97
  go_wp2
  go_quiet (fail)
  go_wp2
  go_quiet (fail)
  go_wp2
  go_ret
  refine esc_fine (c := 92) (j := i + 1) ((((Own.refl r w).drewN _).setCell 1 _).below ((Below.refl _ _).alloc (Nat.le_refl _) _)) (unhide HZ) (by omega) (by omega) ?_
  exact (((unhide HR).drewN _).move (i + 1)).later ((Below.refl _ _).alloc (Nat.le_refl _) _)

set_option maxRecDepth 100000 in
set_option maxHeartbeats 2000000 in
theorem escape_other (r : Nat) (s : ByteArray) (i : Nat) (w : World) (h : Rd w r s i false) (hs : s.size ≤ 4000) (hlt : i < s.size) (hc : s[i] ≠ 34 ∧ s[i] ≠ 47 ∧ s[i] ≠ 92 ∧ s[i] ≠ 98 ∧ s[i] ≠ 102 ∧ s[i] ≠ 110 ∧ s[i] ≠ 114 ∧ s[i] ≠ 116 ∧ s[i] ≠ 117) :
    Calls Tryz.prog 97 #[.pointer (some ⟨r, 0, none⟩)] w (EscSays r s i w) := by
  obtain ⟨k34, k47, k92, k98, k102, k110, k114, k116, k117⟩ := hc
  have hz : escR (s.data.toList.drop i) = none := by
    rw [drop_cons s i hlt]
    have hsh : shortE s[i] = none := by
      unfold shortE
      rw [if_neg k34, if_neg k92, if_neg k47, if_neg k98, if_neg k102, if_neg k110, if_neg k114, if_neg k116]
    unfold escR
    simp only [hsh]
    rw [if_neg k117]
  have hne : ∀ d : UInt8, s[i] ≠ d → ((s[i].toNat : Int) == (d.toNat : Int)) = false := fun d hd => by
    rw [beq_eq_false_iff_ne]
    intro e
    exact hd (UInt8.toNat_inj.1 (by omega))
  have n34 : ((s[i].toNat : Int) == 34) = false := hne 34 k34
  have n47 : ((s[i].toNat : Int) == 47) = false := hne 47 k47
  have n92 : ((s[i].toNat : Int) == 92) = false := hne 92 k92
  have n98 : ((s[i].toNat : Int) == 98) = false := hne 98 k98
  have n102 : ((s[i].toNat : Int) == 102) = false := hne 102 k102
  have n110 : ((s[i].toNat : Int) == 110) = false := hne 110 k110
  have n114 : ((s[i].toNat : Int) == 114) = false := hne 114 k114
  have n116 : ((s[i].toNat : Int) == 116) = false := hne 116 k116
  have n117 : ((s[i].toNat : Int) == 117) = false := hne 117 k117
  have HZ := hide hz
  have HR := hide h
  obtain ⟨⟨c0, c1, c2⟩, cf, cl⟩ := h.cells
  have hgi : ¬ ((s.size : Int) ≤ (i : Int)) := by omega
  clear hz h k34 k47 k92 k98 k102 k110 k114 k116 k117 hne
  go_enter Tryz.func97, Tryz.ntmps97
  go_wp2
  go_quiet (fail)
  go_wp2
  go_quiet (fail)
  go_wp2
  go_ret
  exact esc_bad (j := i + 1) ((((Own.refl r w).drewN _).setCell 1 _).setCell 2 _) (unhide HZ) (by omega) ((((unhide HR).drewN _).move (i + 1)).spoil true)

theorem four_rest {l q : Bytes} {n : Int} (h : fourR l = some (n, q)) : q = l.drop 4 ∧ 4 ≤ l.length ∧ ∃ k : Nat, n = (k : Int) ∧ k < 65536 := by
  have hg := four_good ⟨_, _, h⟩
  match l, h with
  | a :: b :: c :: d :: r, h =>
    simp only [fourR] at h
    cases ha : hexD a with
    | none => simp [ha] at h
    | some x =>
      cases hb : hexD b with
      | none => simp [ha, hb] at h
      | some y =>
        cases hc : hexD c with
        | none => simp [ha, hb, hc] at h
        | some z =>
          cases hd : hexD d with
          | none => simp [ha, hb, hc, hd] at h
          | some u =>
            simp only [ha, hb, hc, hd, Option.some.injEq, Prod.mk.injEq] at h
            exact ⟨h.2.symm, by simp, hg⟩
theorem esc_u (s : ByteArray) (i : Nat) (hlt : i < s.size) (hc : s[i] = 117) : escR (s.data.toList.drop i) = unitE (s.data.toList.drop (i + 1)) := by
  rw [drop_cons s i hlt, hc]
  rfl
theorem four_at_is (s : ByteArray) (i : Nat) (hi : i ≤ 5000) (hs : s.size ≤ 4000) (v : Int) (hv : fourAt s i = v) (z : Int) (hz : z = (i : Int)) : ∀ w, Calls Tryz.prog 145 #[.string s, .int .i64 z] w fun e w' => e = .returned (.int .i64 v) ∧ w' = w := by
  intro w
  rw [hz, ← hv]
  exact four_calls s i w hi hs

set_option maxRecDepth 100000 in
set_option maxHeartbeats 2000000 in
theorem escape_u_none (r : Nat) (s : ByteArray) (i : Nat) (w : World) (h : Rd w r s i false) (hs : s.size ≤ 4000) (hlt : i < s.size) (hc : s[i] = 117) (hf : fourR (s.data.toList.drop (i + 1)) = none) :
    Calls Tryz.prog 97 #[.pointer (some ⟨r, 0, none⟩)] w (EscSays r s i w) := by
  have hz : escR (s.data.toList.drop i) = none := by
    rw [esc_u s i hlt hc]
    unfold unitE
    rw [hf]
  have hx : s[i].toNat = 117 := by rw [hc]; rfl
  have HF := hide (four_at_is s (i + 1) (by omega) hs (-1) (by unfold fourAt; rw [hf]) ((i : Int) + 1) (by omega))

  have HZ := hide hz
  have HR := hide h
  obtain ⟨⟨c0, c1, c2⟩, cf, cl⟩ := h.cells
  have hgi : ¬ ((s.size : Int) ≤ (i : Int)) := by omega
  clear hz h hc hf
  go_enter Tryz.func97, Tryz.ntmps97
  go_wp2
  go_quiet (fail)
  go_wp2
  go_quiet (fail)
  go_wp2
  go_quiet (exact Calls.quiet_of_same (unhide HF _))
  go_wp2
  go_ret
  exact esc_bad (j := i + 5) ((((((Own.refl r w).drewN _).setCell 1 _).drewN _).setCell 1 _).setCell 2 _) (unhide HZ) (by omega) ((((((unhide HR).drewN _).move (i + 1)).drewN _).move (i + 5)).spoil true)

set_option maxRecDepth 100000 in
set_option maxHeartbeats 2000000 in
theorem escape_u_low (r : Nat) (s : ByteArray) (i : Nat) (w : World) (h : Rd w r s i false) (hs : s.size ≤ 4000) (hlt : i < s.size) (hc : s[i] = 117) (n : Nat) (q : Bytes) (hf : fourR (s.data.toList.drop (i + 1)) = some ((n : Int), q)) (hn : 56320 ≤ n) (hn2 : n < 57344) :
    Calls Tryz.prog 97 #[.pointer (some ⟨r, 0, none⟩)] w (EscSays r s i w) := by
  have hz : escR (s.data.toList.drop i) = none := by
    rw [esc_u s i hlt hc]
    unfold unitE
    rw [hf]
    simp only
    rw [if_neg (by omega), if_pos (by omega)]
  have hx : s[i].toNat = 117 := by rw [hc]; rfl
  have HF := hide (four_at_is s (i + 1) (by omega) hs (n : Int) (by unfold fourAt; rw [hf]) ((i : Int) + 1) (by omega))

  have HZ := hide hz
  have HR := hide h
  obtain ⟨⟨c0, c1, c2⟩, cf, cl⟩ := h.cells
  have hgi : ¬ ((s.size : Int) ≤ (i : Int)) := by omega
  clear hz h hc hf
  go_enter Tryz.func97, Tryz.ntmps97
  go_wp2
  go_quiet (fail)
  go_wp2
  go_quiet (fail)
  go_wp2
  go_quiet (exact Calls.quiet_of_same (unhide HF _))
  go_wp2
  go_ret
  exact esc_bad (j := i + 5) ((((((Own.refl r w).drewN _).setCell 1 _).drewN _).setCell 1 _).setCell 2 _) (unhide HZ) (by omega) ((((((unhide HR).drewN _).move (i + 1)).drewN _).move (i + 5)).spoil true)

set_option maxRecDepth 100000 in
set_option maxHeartbeats 2000000 in
theorem escape_u_one (r : Nat) (s : ByteArray) (i : Nat) (w : World) (h : Rd w r s i false) (hs : s.size ≤ 4000) (hlt : i < s.size) (hc : s[i] = 117) (n : Nat) (q : Bytes) (hf : fourR (s.data.toList.drop (i + 1)) = some ((n : Int), q)) (hn : n < 55296 ∨ 57343 < n) :
    Calls Tryz.prog 97 #[.pointer (some ⟨r, 0, none⟩)] w (EscSays r s i w) := by
  obtain ⟨hq, hl, k, hk, hk2⟩ := four_rest hf
  obtain rfl : n = k := by omega
  rw [List.drop_drop] at hq
  rw [List.length_drop, Array.length_toList] at hl
  have hl5 : i + 5 ≤ s.size := by have : s.data.size = s.size := rfl; omega
  have hz : escR (s.data.toList.drop i) = some ((n : Int), s.data.toList.drop (i + 5)) := by
    rw [esc_u s i hlt hc]
    unfold unitE
    rw [hf]
    simp only
    rw [if_pos (by omega), hq]
  have hx : s[i].toNat = 117 := by rw [hc]; rfl
  have HF := hide (four_at_is s (i + 1) (by omega) hs (n : Int) (by unfold fourAt; rw [hf]) ((i : Int) + 1) (by omega))
  have HU := hide (utf_calls n (by omega))
  clear hq hk hl
  have HZ := hide hz
  have HR := hide h
  obtain ⟨⟨c0, c1, c2⟩, cf, cl⟩ := h.cells
  have hgi : ¬ ((s.size : Int) ≤ (i : Int)) := by omega
  clear hz h hc hf
  go_enter Tryz.func97, Tryz.ntmps97
  go_wp2
  go_quiet (fail)
  go_wp2
  go_quiet (fail)
  go_wp2
  go_quiet (exact Calls.quiet_of_same (unhide HF _))
  rcases hn with hn | hn
  all_goals
    go_wp2_with (go_at_call 146; refine (unhide HU _).mono ?_; rintro e w1 ⟨rfl, hb⟩)
    go_ret
    exact esc_fine (c := n) (j := i + 5) (((((((Own.refl r w).drewN _).setCell 1 _).drewN _).setCell 1 _)).below hb) (unhide HZ) (by omega) (by omega) ((((((unhide HR).drewN _).move (i + 1)).drewN _).move (i + 5)).later hb)
end Go.Proofs.YtgaddifabjoliaaGreatDoor
