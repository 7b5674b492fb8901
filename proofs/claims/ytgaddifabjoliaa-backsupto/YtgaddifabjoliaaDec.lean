import Derived.Test.YtgaddifabjoliaaEnc
import Derived.Test.YtgaddifabjoliaaRead
namespace Go.Proofs.Ytgaddifabjoliaa
open Go.RowKit

theorem hide {p : Prop} (h : p) : Hid p := h
theorem unhide {p : Prop} (h : Hid p) : p := h

/-- The letters, as the program's constant has them. -/
def sixesText : ByteArray := ⟨#[65, 66, 67, 68, 69, 70, 71, 72, 73, 74, 75, 76, 77, 78, 79, 80, 81, 82, 83, 84, 85, 86, 87, 88, 89, 90, 97, 98, 99, 100, 101, 102, 103, 104, 105, 106, 107, 108, 109, 110, 111, 112, 113, 114, 115, 116, 117, 118, 119, 120, 121, 122, 48, 49, 50, 51, 52, 53, 54, 55, 56, 57, 45, 95]⟩

theorem toNat_toUInt8 (x : UInt8) : ((x.toNat : Nat) : Int).toNat.toUInt8 = x := by
  rw [Int.toNat_natCast]; simp

theorem index_hit (x : UInt8) (v : Nat) (w : World) (h : place x = some v) :
    Calls Try.prog 11 #[.string ⟨#[65, 66, 67, 68, 69, 70, 71, 72, 73, 74, 75, 76, 77, 78, 79, 80, 81, 82, 83, 84, 85, 86, 87, 88, 89, 90, 97, 98, 99, 100, 101, 102, 103, 104, 105, 106, 107, 108, 109, 110, 111, 112, 113, 114, 115, 116, 117, 118, 119, 120, 121, 122, 48, 49, 50, 51, 52, 53, 54, 55, 56, 57, 45, 95]⟩, .int .u8 x.toNat] w fun e w' => e = .returned (.int .i64 (v : Int)) ∧ w' = w := by
  have h1 := Try.strings_IndexByte sixesText x.toNat w
  have e1 : Lib.indexByte sixesText.data.toList ((x.toNat : Nat) : Int).toNat.toUInt8 = (v : Int) := by
    rw [toNat_toUInt8]; exact index_some x v h
  rw [e1] at h1
  exact h1

theorem index_miss (x : UInt8) (w : World) (h : place x = none) :
    Calls Try.prog 11 #[.string ⟨#[65, 66, 67, 68, 69, 70, 71, 72, 73, 74, 75, 76, 77, 78, 79, 80, 81, 82, 83, 84, 85, 86, 87, 88, 89, 90, 97, 98, 99, 100, 101, 102, 103, 104, 105, 106, 107, 108, 109, 110, 111, 112, 113, 114, 115, 116, 117, 118, 119, 120, 121, 122, 48, 49, 50, 51, 52, 53, 54, 55, 56, 57, 45, 95]⟩, .int .u8 x.toNat] w fun e w' => e = .returned (.int .i64 (-1)) ∧ w' = w := by
  have h1 := Try.strings_IndexByte sixesText x.toNat w
  have e1 : Lib.indexByte sixesText.data.toList ((x.toNat : Nat) : Int).toNat.toUInt8 = -1 := by
    rw [toNat_toUInt8]; exact index_none x h
  rw [e1] at h1
  exact h1

theorem builtN {B b n : Nat} {acc : List UInt8} {W : World} (hn : n < 256) (h : Lib.BuilderAt 30 5 B b (.pointer (some ⟨b, 0, none⟩)) (Lib.byteCells acc ++ [.int .u8 (n : Int)]) W) : Lib.IsBuilder 30 5 B b (Lib.byteCells (acc ++ [UInt8.ofNat n])) W := by
  have e : ((UInt8.ofNat n).toNat : Nat) = n := by rw [UInt8.toNat_ofNat']; exact Nat.mod_eq_of_lt hn
  refine built ?_
  rw [e]
  exact h

set_option maxHeartbeats 1000000 in
theorem decode_any (s : ByteArray) (w : World) (hs : s.size ≤ 8388608) :
    Calls Try.prog 6 #[.string s] w fun e w' => e = .returned (.tuple #[.string ⟨(outB s.data.toList).toArray⟩, .int .i64 (outE s.data.toList)]) ∧ Below w.heap.size w w' := by
  go_enter Try.func6, Try.ntmps6
  go_wp2
  go_loopw [5, 6, 11] (fun held count idx wr => ∃ (i h c : Nat) (acc : List UInt8) (vs : List Nat), i ≤ s.size ∧ idx = .int .i64 i ∧ held = .int .i64 h ∧ count = .int .i64 c ∧ c ≤ 6 ∧ c % 2 = 0 ∧ h < 2 ^ c ∧ 8 * acc.length + c ≤ 6 * i ∧
      Lib.IsBuilder 30 5 w.heap.size w.heap.size (Lib.byteCells acc) wr ∧ Below w.heap.size w wr ∧ Hid (places (s.data.toList.take i) = some vs) ∧ Hid (bits6 vs = bits8 acc ++ bitsN c h)) (fun _ _ idx _ => s.size - (intOf idx).toNat)
  case atStart =>
    exact ⟨0, 0, 0, [], [], Nat.zero_le _, rfl, rfl, rfl, by omega, by omega, by decide, by simp, Lib.fresh_isBuilder 30 5 w, (Below.refl _ w).alloc (Nat.le_refl _) _, rfl, rfl⟩
  case round =>
    obtain ⟨i, h, c, acc, vs, hi, rfl, rfl, rfl, hc, hc2, hh, hal, hI, hbw, hpl, hbt⟩ := hrel
    have hBw := hbw.size
    by_cases hlt : i < s.size
    · have hmem : s[i] ∈ s.data.toList := by
        have : s.data.toList[i]'(by simpa using hlt) ∈ s.data.toList := List.getElem_mem _
        exact this
      have htk : s.data.toList.take (i + 1) = s.data.toList.take i ++ [s[i]] := by
        rw [List.take_succ_eq_append_getElem (by simpa using hlt)]; rfl
      cases hp : place s[i] with
      | none =>
        have HD := hide (outB_none (dec_none _ _ hmem hp))
        have HP := hide hp
        clear hmem htk hp hpl hbt
        go_wp2_with (go_at_call 11; refine (index_miss _ _ (unhide HP)).mono ?_)
        rintro e W1 ⟨rfl, rfl⟩
        go_wp2
        go_ret2
        rw [(unhide HD).1, (unhide HD).2]
        exact ⟨rfl, hbw⟩
      | some v =>
        have hv := (place_some _ _ hp).1
        have HPL : Hid (places (s.data.toList.take (i + 1)) = some (vs ++ [v])) := by
          show places _ = _
          rw [htk]; exact places_snoc _ _ _ _ hpl.out hp
        have HP := hide hp
        clear hmem htk hp hpl
        have hcs : c = 0 ∨ c = 2 ∨ c = 4 ∨ c = 6 := by omega
        clear hc hc2
        have hjoin : ∀ c, bits6 vs = bits8 acc ++ bitsN c h → bits6 (vs ++ [v]) = bits8 acc ++ bitsN (c + 6) (h * 64 + v) := by
          intro c hb
          rw [bits6_append, hb, bitsN_join c 6 h v hv, List.append_assoc]
          simp [bits6]
        have hh64 : h < 64 := by rcases hcs with rfl | rfl | rfl | rfl <;> simp at hh <;> omega
        have hor : bits .or .i64 ((h : Int) * 64) (v : Int) = ((h * 64 + v : Nat) : Int) := or_join h v 6 (by omega) hv (by omega)
        have hnb : ∀ c, h < 2 ^ c → h * 64 + v < 2 ^ (c + 6) := by
          intro c hc
          have : (h + 1) * 2 ^ 6 ≤ 2 ^ c * 2 ^ 6 := Nat.mul_le_mul_right _ hc
          rw [Nat.pow_add]; omega
        generalize hn : h * 64 + v = n at hjoin hor hnb
        have HN := hide hn
        clear hn
        rcases hcs with rfl | rfl | rfl | rfl
        · have HB := hide (hjoin 0 hbt.out)
          have hn := hnb 0 hh
          clear hjoin hbt hh hnb
          go_wp2_with (go_at_call 11; refine (index_hit _ _ _ (unhide HP)).mono ?_)
          rintro e W1 ⟨rfl, rfl⟩
          go_wp2
          go_roundw
          case rel => exact ⟨i + 1, n, 6, acc, vs ++ [v], by omega, by go_num, rfl, rfl, by omega, by omega, hn, by omega, hI, hbw, HPL, HB⟩
          case measure => simp [intOf]; omega
        · have HB := hide (hjoin 2 hbt.out)
          have hn := hnb 2 hh
          clear hjoin hbt hh hnb
          have HB' : Hid (bits6 (vs ++ [v]) = bits8 (acc ++ [UInt8.ofNat n]) ++ bitsN 0 0) := by
            show _ = _
            have := dec_step 0 n acc hn
            rw [unhide HB]
            simp only [Nat.pow_zero, Nat.div_one, Nat.mod_one] at this
            exact this.symm
          simp at hn
          have hm : bits .and .i64 (n : Int) 0 = 0 := by simpa [Nat.mod_one] using and_mask n 0 (by omega) (by omega)
          clear HB
          go_wp2_with (go_at_call 11; refine (index_hit _ _ _ (unhide HP)).mono ?_)
          rintro e W1 ⟨rfl, rfl⟩
          go_wp2_with (go_at_call 9; refine (Try.Builder_WriteByte w.heap.size w.heap.size _ _ _ hI (by rw [Lib.byteCells_length]; omega) hBw).mono ?_)
          rintro e W2 ⟨rfl, h1, b1⟩
          have h2 := builtN hn h1
          go_wp2
          go_roundw
          case rel => exact ⟨i + 1, 0, 0, acc ++ [UInt8.ofNat n], vs ++ [v], by omega, by go_num, rfl, rfl, by omega, by omega, by decide, by simp; omega, h2, hbw.trans b1, HPL, HB'⟩
          case measure => simp [intOf]; omega
        · have HB := hide (hjoin 4 hbt.out)
          have hn := hnb 4 hh
          clear hjoin hbt hh hnb
          have HB' : Hid (bits6 (vs ++ [v]) = bits8 (acc ++ [UInt8.ofNat (n / 4)]) ++ bitsN 2 (n % 4)) := by
            show _ = _
            rw [unhide HB]
            exact (dec_step 2 n acc hn).symm
          simp at hn
          have hd : n / 4 < 256 := by omega
          have hm : bits .and .i64 (n : Int) 3 = ((n % 4 : Nat) : Int) := and_mask n 2 (by omega) (by omega)
          clear HB
          go_wp2_with (go_at_call 11; refine (index_hit _ _ _ (unhide HP)).mono ?_)
          rintro e W1 ⟨rfl, rfl⟩
          go_wp2_with (go_at_call 9; refine (Try.Builder_WriteByte w.heap.size w.heap.size _ _ _ hI (by rw [Lib.byteCells_length]; omega) hBw).mono ?_)
          rintro e W2 ⟨rfl, h1, b1⟩
          have h2 := builtN (n := n / 4) hd (by simpa using h1)
          go_wp2
          go_roundw
          case rel => exact ⟨i + 1, n % 4, 2, acc ++ [UInt8.ofNat (n / 4)], vs ++ [v], by omega, by go_num, by go_num, rfl, by omega, by omega, by simp; omega, by simp; omega, h2, hbw.trans b1, HPL, HB'⟩
          case measure => simp [intOf]; omega
        · have HB := hide (hjoin 6 hbt.out)
          have hn := hnb 6 hh
          clear hjoin hbt hh hnb
          have HB' : Hid (bits6 (vs ++ [v]) = bits8 (acc ++ [UInt8.ofNat (n / 16)]) ++ bitsN 4 (n % 16)) := by
            show _ = _
            rw [unhide HB]
            exact (dec_step 4 n acc hn).symm
          simp at hn
          have hd : n / 16 < 256 := by omega
          have hm : bits .and .i64 (n : Int) 15 = ((n % 16 : Nat) : Int) := and_mask n 4 (by omega) (by omega)
          clear HB
          go_wp2_with (go_at_call 11; refine (index_hit _ _ _ (unhide HP)).mono ?_)
          rintro e W1 ⟨rfl, rfl⟩
          go_wp2_with (go_at_call 9; refine (Try.Builder_WriteByte w.heap.size w.heap.size _ _ _ hI (by rw [Lib.byteCells_length]; omega) hBw).mono ?_)
          rintro e W2 ⟨rfl, h1, b1⟩
          have h2 := builtN (n := n / 16) hd (by simpa using h1)
          go_wp2
          go_roundw
          case rel => exact ⟨i + 1, n % 16, 4, acc ++ [UInt8.ofNat (n / 16)], vs ++ [v], by omega, by go_num, by go_num, rfl, by omega, by omega, by simp; omega, by simp; omega, h2, hbw.trans b1, HPL, HB'⟩
          case measure => simp [intOf]; omega
    · have hie : i = s.size := by omega
      have htk : s.data.toList.take i = s.data.toList := by rw [hie]; exact List.take_of_length_le (by simp)
      have he := dec_end s.data.toList acc vs c h (by rw [← htk]; exact hpl.out) hbt.out (by omega) hh
      have hcs : c = 6 ∨ c < 6 := by omega
      clear htk hie hpl hbt
      rcases hcs with rfl | hc6
      · rw [if_neg (by simp)] at he
        have HD := hide (outB_none he)
        clear he
        go_wp2
        go_ret2
        rw [(unhide HD).1, (unhide HD).2]
        exact ⟨rfl, hbw⟩
      · have e6 : ((c : Int) == 6) = false := beq_eq_false_iff_ne.2 (by omega)
        by_cases h0 : h = 0
        · rw [if_pos ⟨by omega, h0⟩] at he
          have HD := hide (outB_some he)
          clear he
          subst h0
          go_wp2_with (go_at_call 10; refine (Try.Builder_String_any w.heap.size w.heap.size acc _ hI hBw).mono ?_)
          rintro e W1 ⟨rfl, b1⟩
          go_wp2
          go_ret2
          rw [(unhide HD).1, (unhide HD).2]
          exact ⟨rfl, hbw.trans b1⟩
        · rw [if_neg (fun hx => h0 hx.2)] at he
          have HD := hide (outB_none he)
          have hne : ((h : Int) != 0) = true := by rw [bne_iff_ne]; omega
          clear he
          go_wp2
          go_ret2
          rw [(unhide HD).1, (unhide HD).2]
          exact ⟨rfl, hbw⟩
end Go.Proofs.Ytgaddifabjoliaa
