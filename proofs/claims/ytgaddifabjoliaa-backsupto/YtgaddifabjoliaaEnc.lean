import Derived.Test.YtgaddifabjoliaaShelf
import Derived.Test.YtgaddifabjoliaaBits
import Derived.WalkKit
import Derived.WalkSpells
import Derived.WalkLawsBesides
import Derived.Laws.BitsLemmas
namespace Go.Proofs.Ytgaddifabjoliaa
open Go.RowKit

theorem wraps_i64 (n : Int) (h₀ : 0 ≤ n) (h₁ : n < 2 ^ 62) : IntKind.i64.wrap n = n := by rw [IntKind.wrap_i64]; omega

theorem or_join (h x i : Nat) (hh : h < 2 ^ 20) (hx : x < 2 ^ i) (hi : i ≤ 8) : bits .or .i64 ((h : Int) * 2 ^ i) (x : Int) = ((h * 2 ^ i + x : Nat) : Int) := by
  have hp : 2 ^ i ≤ 2 ^ 8 := Nat.pow_le_pow_right (by decide) hi
  have hq : h * 2 ^ i ≤ 2 ^ 20 * 2 ^ 8 := Nat.mul_le_mul (by omega) hp
  have h1 : ((h : Int) * 2 ^ i) = ((h * 2 ^ i : Nat) : Int) := by simp
  rw [bits_join .i64 62 (by decide) wraps_i64 i _ _ (by rw [h1]; omega) (by simp) (by rw [h1]; omega) (by omega) (by exact_mod_cast hx) (by omega)]
  simp

theorem and_mask (h i : Nat) (hh : h < 2 ^ 20) (hi : i ≤ 8) : bits .and .i64 (h : Int) (2 ^ i - 1) = ((h % 2 ^ i : Nat) : Int) := by
  rw [bits_mask .i64 62 (by decide) wraps_i64 i (by omega) _ (by omega) (by omega)]
  simp

theorem emit_step (c v : Nat) (hv : v < 2 ^ (6 + c)) (r : List Nat) : emit (bitsN (6 + c) v ++ r) = letter (v / 2 ^ c) :: emit (bitsN c (v % 2 ^ c) ++ r) := by
  have : v / 2 ^ c < 64 := by
    rw [Nat.div_lt_iff_lt_mul (Nat.two_pow_pos c)]
    rw [Nat.pow_add] at hv
    exact hv
  rw [bitsN_split, List.append_assoc, emit_six _ this]

theorem emit_tail2 (h : Nat) (hh : h < 4) : emit (bitsN 2 h) = [letter (h * 16)] := by
  simp only [bitsN, emit, val, List.foldl]
  congr 2
  simp; omega
theorem emit_tail4 (h : Nat) (hh : h < 16) : emit (bitsN 4 h) = [letter (h * 4)] := by
  simp only [bitsN, emit, val, List.foldl]
  congr 2
  simp; omega

theorem sixes_at (k : Nat) (hk : k < 64) : (ByteArray.mk #[65, 66, 67, 68, 69, 70, 71, 72, 73, 74, 75, 76, 77, 78, 79, 80, 81, 82, 83, 84, 85, 86, 87, 88, 89, 90, 97, 98, 99, 100, 101, 102, 103, 104, 105, 106, 107, 108, 109, 110, 111, 112, 113, 114, 115, 116, 117, 118, 119, 120, 121, 122, 48, 49, 50, 51, 52, 53, 54, 55, 56, 57, 45, 95])[k]'hk = letter k := by
  have : alpha.getD k 0 = alpha[k]'hk := by rw [List.getD_eq_getElem?_getD, List.getElem?_eq_getElem hk]; rfl
  exact this.symm

theorem built {B b : Nat} {acc : List UInt8} {x : UInt8} {W : World} (h : Lib.BuilderAt 30 5 B b (.pointer (some ⟨b, 0, none⟩)) (Lib.byteCells acc ++ [.int .u8 x.toNat]) W) : Lib.IsBuilder 30 5 B b (Lib.byteCells (acc ++ [x])) W := by
  rw [Lib.byteCells_append]; exact Or.inr h

theorem enc_step (c h : Nat) (acc E : List UInt8) (r : List Nat) (hh : h < 2 ^ (6 + c)) (H : acc ++ emit (bitsN (6 + c) h ++ r) = E) : acc ++ [letter (h / 2 ^ c)] ++ emit (bitsN c (h % 2 ^ c) ++ r) = E := by
  rw [emit_step c h hh] at H
  simpa using H

theorem enc_step0 (h : Nat) (acc E : List UInt8) (r : List Nat) (hh : h < 64) (H : acc ++ emit (bitsN 6 h ++ r) = E) : acc ++ [letter h] ++ emit (bitsN 0 0 ++ r) = E := by
  rw [emit_six h hh] at H
  simpa [bitsN] using H

set_option maxHeartbeats 1000000 in
theorem encode_any (b : ByteArray) (w : World) (hb : b.size ≤ 8388608) :
    Calls Try.prog 5 #[.string b] w fun e w' => e = .returned (.string ⟨(enc b.data.toList).toArray⟩) ∧ Below w.heap.size w w' := by
  go_enter Try.func5, Try.ntmps5
  go_wp2
  go_loopw [4, 5, 9] (fun held count idx wr => ∃ (i h c : Nat) (acc : List UInt8), i ≤ b.size ∧ idx = .int .i64 i ∧ held = .int .i64 h ∧ count = .int .i64 c ∧ c ≤ 4 ∧ c % 2 = 0 ∧ h < 2 ^ c ∧ 6 * acc.length + c ≤ 8 * i ∧
      Lib.IsBuilder 30 5 w.heap.size w.heap.size (Lib.byteCells acc) wr ∧ Below w.heap.size w wr ∧ Hid (acc ++ emit (bitsN c h ++ bits8 (b.data.toList.drop i)) = enc b.data.toList)) (fun _ _ idx _ => b.size - (intOf idx).toNat)
  case atStart =>
    exact ⟨0, 0, 0, [], Nat.zero_le _, rfl, rfl, rfl, by omega, by omega, by decide, by simp, Lib.fresh_isBuilder 30 5 w, (Below.refl _ w).alloc (Nat.le_refl _) _, rfl⟩
  case round =>
    obtain ⟨i, h, c, acc, hi, rfl, rfl, rfl, hc, hc2, hh, hal, hI, hbw, hacc⟩ := hrel
    have hBw := hbw.size
    have hh16 : h < 16 := Nat.lt_of_lt_of_le hh (Nat.pow_le_pow_right (n := 2) (by decide) hc)
    by_cases hlt : i < b.size
    · have hx := UInt8.toNat_lt b[i]
      have hor : bits .or .i64 ((h : Int) * 256) (b[i].toNat : Int) = ((h * 256 + b[i].toNat : Nat) : Int) := by
        have := or_join h b[i].toNat 8 (by omega) hx (by omega)
        simpa using this
      have hacc' : Hid (acc ++ emit (bitsN (c + 8) (h * 256 + b[i].toNat) ++ bits8 (b.data.toList.drop (i + 1))) = enc b.data.toList) := by
        have hd : b.data.toList.drop i = b[i] :: b.data.toList.drop (i + 1) := List.drop_eq_getElem_cons (by simpa using hlt)
        have h1 := hacc.out
        rw [hd, bits8_cons, ← List.append_assoc, ← bitsN_join c 8 h _ hx] at h1
        exact h1
      have hn : h * 256 + b[i].toNat < 2 ^ (c + 8) := by
        have : (h + 1) * 2 ^ 8 ≤ 2 ^ c * 2 ^ 8 := Nat.mul_le_mul_right _ hh
        rw [Nat.pow_add]; omega
      clear hacc hh
      go_wp2
      go_loopw [4, 5] (fun held count wr => ∃ (h c : Nat) (acc : List UInt8), held = .int .i64 h ∧ count = .int .i64 c ∧ c ≤ 12 ∧ c % 2 = 0 ∧ h < 2 ^ c ∧ 6 * acc.length + c ≤ 8 * (i + 1) ∧
        Lib.IsBuilder 30 5 w.heap.size w.heap.size (Lib.byteCells acc) wr ∧ Below w.heap.size w wr ∧ Hid (acc ++ emit (bitsN c h ++ bits8 (b.data.toList.drop (i + 1))) = enc b.data.toList)) (fun _ count _ => (intOf count).toNat)
      case atStart =>
        exact ⟨h * 256 + b[i].toNat, c + 8, acc, by go_num, by go_num, by omega, by omega, hn, by omega, hI, hbw, hacc'⟩
      case round =>
        clear hI hbw hacc' hal hor hn hBw
        obtain ⟨h, c, acc, rfl, rfl, hc, hc2, hh, hal, hI, hbw, hacc⟩ := hrel
        have hBw := hbw.size
        by_cases h6 : 6 ≤ c
        · have hcs : c = 6 ∨ c = 8 ∨ c = 10 ∨ c = 12 := by omega
          clear h6 hc hc2
          rcases hcs with rfl | rfl | rfl | rfl
          · have hm : bits .and .i64 (h : Int) 0 = 0 := by simpa [Nat.mod_one] using and_mask h 0 (by omega) (by omega)
            simp at hh
            have HS := enc_step0 h acc _ _ hh hacc.out
            have HS' : Hid (_ = _) := HS
            clear HS hacc
            go_wp2_with (go_at_call 9; refine (Try.Builder_WriteByte w.heap.size w.heap.size _ _ _ hI (by rw [Lib.byteCells_length]; omega) hBw).mono ?_)
            rintro e W1 ⟨rfl, h1, b1⟩
            have h2 := built h1
            rw [sixes_at h hh] at h2
            go_wp2
            go_roundw
            case rel => exact ⟨0, 0, acc ++ [letter h], rfl, rfl, by omega, by omega, by decide, by simp; omega, h2, hbw.trans b1, HS'⟩
            case measure => simp [intOf]
          · have hm : bits .and .i64 (h : Int) 3 = ((h % 4 : Nat) : Int) := and_mask h 2 (by omega) (by omega)
            have HS := enc_step 2 h acc _ _ hh hacc.out
            have HS' : Hid (_ = _) := HS
            have hd : h / 4 < 64 := by simp at hh; omega
            simp at hh
            clear HS hacc
            go_wp2_with (go_at_call 9; refine (Try.Builder_WriteByte w.heap.size w.heap.size _ _ _ hI (by rw [Lib.byteCells_length]; omega) hBw).mono ?_)
            rintro e W1 ⟨rfl, h1, b1⟩
            have h2 := built h1
            rw [sixes_at (h / 4) hd] at h2
            go_wp2
            go_roundw
            case rel => exact ⟨h % 4, 2, acc ++ [letter (h / 4)], by go_num, rfl, by omega, by omega, by simp; omega, by simp; omega, h2, hbw.trans b1, HS'⟩
            case measure => simp [intOf]
          · have hm : bits .and .i64 (h : Int) 15 = ((h % 16 : Nat) : Int) := and_mask h 4 (by omega) (by omega)
            have HS := enc_step 4 h acc _ _ hh hacc.out
            have HS' : Hid (_ = _) := HS
            have hd : h / 16 < 64 := by simp at hh; omega
            simp at hh
            clear HS hacc
            go_wp2_with (go_at_call 9; refine (Try.Builder_WriteByte w.heap.size w.heap.size _ _ _ hI (by rw [Lib.byteCells_length]; omega) hBw).mono ?_)
            rintro e W1 ⟨rfl, h1, b1⟩
            have h2 := built h1
            rw [sixes_at (h / 16) hd] at h2
            go_wp2
            go_roundw
            case rel => exact ⟨h % 16, 4, acc ++ [letter (h / 16)], by go_num, rfl, by omega, by omega, by simp; omega, by simp; omega, h2, hbw.trans b1, HS'⟩
            case measure => simp [intOf]
          · have hm : bits .and .i64 (h : Int) 63 = ((h % 64 : Nat) : Int) := and_mask h 6 (by omega) (by omega)
            have HS := enc_step 6 h acc _ _ hh hacc.out
            have HS' : Hid (_ = _) := HS
            have hd : h / 64 < 64 := by simp at hh; omega
            simp at hh
            clear HS hacc
            go_wp2_with (go_at_call 9; refine (Try.Builder_WriteByte w.heap.size w.heap.size _ _ _ hI (by rw [Lib.byteCells_length]; omega) hBw).mono ?_)
            rintro e W1 ⟨rfl, h1, b1⟩
            have h2 := built h1
            rw [sixes_at (h / 64) hd] at h2
            go_wp2
            go_roundw
            case rel => exact ⟨h % 64, 6, acc ++ [letter (h / 64)], by go_num, rfl, by omega, by omega, by simp; omega, by simp; omega, h2, hbw.trans b1, HS'⟩
            case measure => simp [intOf]
        · go_wp2
          go_roundw
          case rel => exact ⟨i + 1, h, c, acc, by omega, by go_num, rfl, rfl, by omega, hc2, hh, by omega, hI, hbw, hacc⟩
          case measure => simp [intOf]; omega
    · have hie : i = b.size := by omega
      have hdr : b.data.toList.drop i = [] := by rw [hie]; exact List.drop_eq_nil_of_le (by simp)
      have ha := hacc.out
      rw [hdr] at ha
      clear hacc hdr hie
      have hcs : c = 0 ∨ c = 2 ∨ c = 4 := by omega
      clear hc hc2
      rcases hcs with rfl | rfl | rfl
      · have ha' : acc = enc b.data.toList := by simpa [bitsN, bits8, emit] using ha
        have HA : Hid (acc = enc b.data.toList) := ha'
        clear ha ha'
        go_wp2_with (go_at_call 10; refine (Try.Builder_String_any w.heap.size w.heap.size acc _ hI hBw).mono ?_)
        rintro e W1 ⟨rfl, b1⟩
        go_wp2
        go_ret
        rw [← HA.out]
        exact ⟨rfl, hbw.trans b1⟩
      · have hh4 : h < 4 := hh
        have HA : Hid (acc ++ [letter (h * 16)] = enc b.data.toList) := by
          have h1 := ha
          simp only [bits8, List.flatMap_nil, List.append_nil] at h1
          rw [emit_tail2 h hh4] at h1
          exact h1
        clear ha hh
        have hd : h * 16 < 64 := by omega
        go_wp2_with (first | (go_at_call 9; refine (Try.Builder_WriteByte w.heap.size w.heap.size _ _ _ hI (by rw [Lib.byteCells_length]; omega) hBw).mono ?_))
        rintro e W1 ⟨rfl, h1, b1⟩
        have h2 := built h1
        rw [sixes_at (h * 16) hd] at h2
        have hBw1 := b1.size
        go_wp2_with (first | (go_at_call 10; refine (Try.Builder_String_any w.heap.size w.heap.size _ _ h2 (by omega)).mono ?_))
        rintro e W2 ⟨rfl, b2⟩
        go_wp2
        go_ret
        rw [← HA.out]
        exact ⟨rfl, (hbw.trans b1).trans b2⟩
      · have hh4 : h < 16 := hh
        have HA : Hid (acc ++ [letter (h * 4)] = enc b.data.toList) := by
          have h1 := ha
          simp only [bits8, List.flatMap_nil, List.append_nil] at h1
          rw [emit_tail4 h hh4] at h1
          exact h1
        clear ha hh
        have hd : h * 4 < 64 := by omega
        go_wp2_with (first | (go_at_call 9; refine (Try.Builder_WriteByte w.heap.size w.heap.size _ _ _ hI (by rw [Lib.byteCells_length]; omega) hBw).mono ?_))
        rintro e W1 ⟨rfl, h1, b1⟩
        have h2 := built h1
        rw [sixes_at (h * 4) hd] at h2
        have hBw1 := b1.size
        go_wp2_with (first | (go_at_call 10; refine (Try.Builder_String_any w.heap.size w.heap.size _ _ h2 (by omega)).mono ?_))
        rintro e W2 ⟨rfl, b2⟩
        go_wp2
        go_ret
        rw [← HA.out]
        exact ⟨rfl, (hbw.trans b1).trans b2⟩
end Go.Proofs.Ytgaddifabjoliaa
