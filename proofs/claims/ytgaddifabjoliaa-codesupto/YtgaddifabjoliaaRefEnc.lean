import Derived.Test.YtgaddifabjoliaaBacks
namespace Go.Proofs.Ytgaddifabjoliaa
open Go.RowKit

/-- The number of m bits from place i on. -/
def pv (L : List Nat) (i : Nat) : Nat → Nat
  | 0 => 0
  | m + 1 => 2 * pv L i m + L.getD (i + m) 0

theorem pv_six (L : List Nat) (i : Nat) : pv L i 6 = val [L.getD i 0, L.getD (i + 1) 0, L.getD (i + 2) 0, L.getD (i + 3) 0, L.getD (i + 4) 0, L.getD (i + 5) 0] := by
  simp [pv, val]

theorem pv_lt (L : List Nat) (hL : ∀ x ∈ L, x < 2) (i : Nat) : ∀ m, pv L i m < 2 ^ m
  | 0 => by simp [pv]
  | m + 1 => by
    have ih := pv_lt L hL i m
    have : L.getD (i + m) 0 < 2 := by
      rw [List.getD_eq_getElem?_getD]
      cases h : L[i + m]? with
      | none => simp
      | some x => exact hL x (List.mem_of_getElem? h)
    simp only [pv, Nat.pow_succ]; omega

theorem bits8_getD : ∀ (l : List UInt8) (k : Nat), (bits8 l).getD k 0 = if h : k < 8 * l.length then (l[k / 8]'(by omega)).toNat / 2 ^ (7 - k % 8) % 2 else 0
  | [], k => by simp [bits8]
  | c :: l, k => by
    have ih := bits8_getD l (k - 8)
    rw [bits8_cons]
    by_cases hk : k < 8
    · have h8 : k / 8 = 0 := by omega
      have hm : k % 8 = k := by omega
      have hlt : k < 8 * (c :: l).length := by simp only [List.length_cons]; omega
      rw [dif_pos hlt, bitsN_8]
      simp only [h8, hm, List.getElem_cons_zero]
      have hcs : k = 0 ∨ k = 1 ∨ k = 2 ∨ k = 3 ∨ k = 4 ∨ k = 5 ∨ k = 6 ∨ k = 7 := by omega
      rcases hcs with rfl | rfl | rfl | rfl | rfl | rfl | rfl | rfl <;> simp
    · have e1 : (bitsN 8 c.toNat ++ bits8 l).getD k 0 = (bits8 l).getD (k - 8) 0 := by
        rw [List.getD_eq_getElem?_getD, List.getElem?_append_right (by rw [bitsN_length]; omega), bitsN_length, ← List.getD_eq_getElem?_getD]
      rw [e1, ih]
      have hm : (k - 8) % 8 = k % 8 := by omega
      by_cases hl : k < 8 * (c :: l).length
      · have hl' : k - 8 < 8 * l.length := by simp only [List.length_cons] at hl; omega
        rw [dif_pos hl, dif_pos hl']
        have hd : k / 8 = (k - 8) / 8 + 1 := by omega
        simp only [hd, List.getElem_cons_succ, hm]
      · have hl' : ¬ k - 8 < 8 * l.length := by simp only [List.length_cons] at hl; omega
        rw [dif_neg hl, dif_neg hl']

theorem bit_int (n e : Nat) (hn : n < 256) : ((wrap64 (n : Int) / 2 ^ e).tmod 2) = ((n / 2 ^ e % 2 : Nat) : Int) := by
  have hw : wrap64 (n : Int) = (n : Int) := by unfold wrap64; omega
  rw [hw]
  have h1 : ((n : Int) / 2 ^ e) = ((n / 2 ^ e : Nat) : Int) := by simp
  rw [h1, Int.tmod_eq_emod_of_nonneg (Int.natCast_nonneg _)]
  simp

theorem bit_at (b : ByteArray) (k : Nat) (hk : k < 8 * b.size) : (bits8 b.data.toList).getD k 0 = (b[k / 8]'(by omega)).toNat / 2 ^ (7 - k % 8) % 2 := by
  rw [bits8_getD, dif_pos (by simpa using hk)]; rfl

theorem bit_yes (b : ByteArray) (k : Nat) (hk : k < 8 * b.size) (h : ((wrap64 ((b[k / 8]'(by omega)).toNat : Int) / 2 ^ (7 - k % 8)).tmod 2 == 1) = true) : (bits8 b.data.toList).getD k 0 = 1 := by
  rw [bit_at b k hk]
  rw [bit_int _ _ (UInt8.toNat_lt _), beq_iff_eq] at h
  omega
theorem bit_no (b : ByteArray) (k : Nat) (hk : k < 8 * b.size) (h : ((wrap64 ((b[k / 8]'(by omega)).toNat : Int) / 2 ^ (7 - k % 8)).tmod 2 == 1) = false) : (bits8 b.data.toList).getD k 0 = 0 := by
  rw [bit_at b k hk]
  rw [bit_int _ _ (UInt8.toNat_lt _), beq_eq_false_iff_ne] at h
  omega
theorem bit_beyond (b : ByteArray) (k : Nat) (hk : ¬ k < 8 * b.size) : (bits8 b.data.toList).getD k 0 = 0 := by
  rw [bits8_getD, dif_neg (by simpa using hk)]

theorem letter_cut (acc : List UInt8) (p : Nat) (hp : p < 64) : (⟨acc.toArray⟩ ++ (ByteArray.mk #[65, 66, 67, 68, 69, 70, 71, 72, 73, 74, 75, 76, 77, 78, 79, 80, 81, 82, 83, 84, 85, 86, 87, 88, 89, 90, 97, 98, 99, 100, 101, 102, 103, 104, 105, 106, 107, 108, 109, 110, 111, 112, 113, 114, 115, 116, 117, 118, 119, 120, 121, 122, 48, 49, 50, 51, 52, 53, 54, 55, 56, 57, 45, 95]).extract p (p + 1) : ByteArray) = ⟨(acc ++ [letter p]).toArray⟩ := by
  have e : ((ByteArray.mk #[65, 66, 67, 68, 69, 70, 71, 72, 73, 74, 75, 76, 77, 78, 79, 80, 81, 82, 83, 84, 85, 86, 87, 88, 89, 90, 97, 98, 99, 100, 101, 102, 103, 104, 105, 106, 107, 108, 109, 110, 111, 112, 113, 114, 115, 116, 117, 118, 119, 120, 121, 122, 48, 49, 50, 51, 52, 53, 54, 55, 56, 57, 45, 95]).extract p (p + 1)).data.toList = [letter p] := by
    rw [ByteArray.data_extract, Array.toList_extract]
    show (alpha.drop p).take (p + 1 - p) = [letter p]
    have h1 : alpha.drop p = alpha[p]'hp :: alpha.drop (p + 1) := List.drop_eq_getElem_cons hp
    have h2 : letter p = alpha[p]'hp := by unfold letter; rw [List.getD_eq_getElem?_getD, List.getElem?_eq_getElem hp]; rfl
    rw [h1, h2, Nat.add_sub_cancel_left]
    rfl
  refine (text_eq ?_).symm
  rw [ByteArray.data_append, Array.toList_append, e]

set_option maxHeartbeats 1000000 in
theorem refEncode_any (b : ByteArray) (w : World) (hb : b.size ≤ 8388608) :
    Calls Try.prog 8 #[.string b] w fun e w' => e = .returned (.string ⟨(enc b.data.toList).toArray⟩) ∧ w' = w := by
  go_enter Try.func8, Try.ntmps8
  go_wp2
  go_loop [3, 4] (fun out i => ∃ (j : Nat) (acc : List UInt8), i = .int .i64 (j : Int) ∧ out = .string ⟨acc.toArray⟩ ∧ j ≤ 8 * b.size + 5 ∧ 6 * acc.length ≤ j ∧ Hid (acc ++ emit ((bits8 b.data.toList).drop j) = enc b.data.toList)) (fun _ i => 8 * b.size + 6 - (intOf i).toNat)
  case atStart => exact ⟨0, [], rfl, rfl, by omega, by simp, rfl⟩
  case round =>
    obtain ⟨j, acc, rfl, rfl, hj, hal, hacc⟩ := hrel
    by_cases hlt : j < 8 * b.size
    · go_wp2
      go_loop [5, 6] (fun v k => ∃ m : Nat, m ≤ 6 ∧ k = .int .i64 ((j : Int) + (m : Int)) ∧ v = .int .i64 (pv (bits8 b.data.toList) j m : Int)) (fun _ k => j + 6 - (intOf k).toNat)
      case atStart => exact ⟨0, by omega, by go_num, rfl⟩
      case round =>
        obtain ⟨m, hm, rfl, rfl⟩ := hrel
        have hpl := pv_lt (bits8 b.data.toList) (bits8_lt _) j m
        have hpm : pv (bits8 b.data.toList) j m < 64 := Nat.lt_of_lt_of_le hpl (Nat.pow_le_pow_right (n := 2) (by decide) hm)
        generalize hpv : pv (bits8 b.data.toList) j m = p at hpl hpm
        have HPV := hide hpv
        clear hpv hpl
        by_cases hm6 : m < 6
        · by_cases hk : j + m < 8 * b.size
          · go_wp2
            all_goals
              go_round
              case rel =>
                refine ⟨m + 1, by omega, by go_num, ?_⟩
                first
                | (have hbit := bit_yes b (j + m) hk ‹_›; simp only [pv, hbit, unhide HPV]; go_num)
                | (have hbit := bit_no b (j + m) hk ‹_›; simp only [pv, hbit, unhide HPV]; go_num)
              case measure => simp [intOf]; omega
          · have hbit := bit_beyond b (j + m) hk
            have HBT := hide hbit
            clear hbit
            go_wp2
            go_round
            case rel => exact ⟨m + 1, by omega, by go_num, by simp only [pv, unhide HBT, unhide HPV]; go_num⟩
            case measure => simp [intOf]; omega
        · have hme : m = 6 := by omega
          subst hme
          have HA : Hid (acc ++ [letter p] ++ emit ((bits8 b.data.toList).drop (j + 6)) = enc b.data.toList) := by
            have h1 := hacc.out
            rw [emit_drop _ _ (by rw [bits8_length]; simpa using hlt), ← pv_six, unhide HPV] at h1
            show _ = _
            simpa using h1
          have HC := hide (letter_cut acc p hpm)
          go_wp2
          go_round
          case rel => exact ⟨j + 6, acc ++ [letter p], by go_num, by rw [← unhide HC], by omega, by simp; omega, HA⟩
          case measure => simp [intOf]; omega
    · have HA : Hid (acc = enc b.data.toList) := by
        have h1 := hacc.out
        rw [List.drop_eq_nil_of_le (by rw [bits8_length]; simp; omega)] at h1
        show _ = _
        simpa [emit] using h1
      clear hacc
      go_wp2
      go_ret
      rw [← unhide HA]
      exact ⟨rfl, rfl⟩
end Go.Proofs.Ytgaddifabjoliaa
