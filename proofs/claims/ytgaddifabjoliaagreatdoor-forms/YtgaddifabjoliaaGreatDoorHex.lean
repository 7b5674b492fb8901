import Derived.Test.YtgaddifabjoliaaGreatDoorTrees
import Derived.Laws.BitsLemmas
import Derived.Laws.Cover4
import Derived.BigQuiet
namespace Go.Proofs.YtgaddifabjoliaaGreatDoor
open Go.RowKit

/-- A digit of sixteens. -/
def hexD (c : UInt8) : Option Nat :=
  if 48 ≤ c.toNat ∧ c.toNat ≤ 57 then some (c.toNat - 48)
  else if 97 ≤ c.toNat ∧ c.toNat ≤ 102 then some (c.toNat - 87)
  else if 65 ≤ c.toNat ∧ c.toNat ≤ 70 then some (c.toNat - 55)
  else none

theorem hexD_lt {c : UInt8} {n : Nat} (h : hexD c = some n) : n < 16 := by
  unfold hexD at h
  repeat' split at h
  all_goals simp at h
  all_goals omega

set_option maxHeartbeats 400000 in
theorem hexDigit_any (c : UInt8) (w : World) :
    Calls Tryz.prog 100 #[.int .u8 c.toNat] w fun e w' => (match hexD c with
      | none => e = .returned (.tuple #[.int .i32 0, .bool false])
      | some n => e = .returned (.tuple #[.int .i32 (n : Int), .bool true])) ∧ w' = w := by
  have hc := UInt8.toNat_lt c
  unfold hexD
  generalize c.toNat = x at hc
  by_cases h1 : 48 ≤ x ∧ x ≤ 57
  · rw [if_pos h1]
    obtain ⟨h1, h2⟩ := h1
    go_enter Tryz.func100, Tryz.ntmps100
    go_wp2
    go_ret2
    refine ⟨?_, rfl⟩
    have e1 : ((x - 48 : Nat) : Int) = (x : Int) - 48 := by omega
    rw [e1]
    rfl
  · rw [if_neg h1]
    have h1' : x < 48 ∨ 57 < x := by omega
    clear h1
    by_cases h3 : 97 ≤ x ∧ x ≤ 102
    · rw [if_pos h3]
      obtain ⟨h3, h4⟩ := h3
      have h5 : 57 < x := by omega
      clear h1'
      go_enter Tryz.func100, Tryz.ntmps100
      go_wp2
      go_ret2
      refine ⟨?_, rfl⟩
      have e1 : ((x - 87 : Nat) : Int) = (x : Int) - 97 + 10 := by omega
      rw [e1]
      rfl
    · rw [if_neg h3]
      have h3' : x < 97 ∨ 102 < x := by omega
      clear h3
      by_cases h6 : 65 ≤ x ∧ x ≤ 70
      · rw [if_pos h6]
        obtain ⟨h6, h7⟩ := h6
        have h8 : 57 < x := by omega
        have h9 : x < 97 := by omega
        clear h1' h3'
        go_enter Tryz.func100, Tryz.ntmps100
        go_wp2
        go_ret2
        refine ⟨?_, rfl⟩
        have e1 : ((x - 55 : Nat) : Int) = (x : Int) - 65 + 10 := by omega
        rw [e1]
        rfl
      · rw [if_neg h6]
        have h6' : x < 65 ∨ 70 < x := by omega
        clear h6
        rcases h1' with a | a <;> rcases h3' with b | b <;> rcases h6' with d | d <;> first | (exfalso; omega) | skip
        all_goals
          go_enter Tryz.func100, Tryz.ntmps100
          go_wp2
          go_ret2
          exact ⟨rfl, rfl⟩

def fourR : Bytes → Option (Int × Bytes)
  | a :: b :: c :: d :: r => match hexD a, hexD b, hexD c, hexD d with
    | some x, some y, some z, some u => some ((((x * 16 + y) * 16 + z) * 16 + u : Nat), r)
    | _, _, _, _ => none
  | _ => none

def wholeF (n : Int) : Option Int := if n < 55296 ∨ 57343 < n then some n else none
def pairedF (h l : Int) : Option Int := if h < 55296 ∨ 56320 ≤ h ∨ l < 56320 ∨ 57343 < l then none else some (65536 + 1024 * (h - 55296) + (l - 56320))

set_option maxHeartbeats 400000 in
theorem wholeRune_makes (w : World) : Makes 46 #[] repI32 repI32 wholeF w := by
  refine ⟨enters_of Tryz.func46 (by kernel_rfl) rfl, ?_⟩
  intro W B x v hW hB hx
  have hv : v = .int .i32 x := hx
  subst hv
  clear hx
  unfold wholeF
  by_cases h1 : x < 55296
  · rw [if_pos (Or.inl h1)]
    go_enter Tryz.func46, Tryz.ntmps46
    go_wp2
    go_ret2
    exact ⟨Below.refl _ _, Or.inr ⟨x, _, rfl, rfl, rfl⟩⟩
  · by_cases h2 : 57343 < x
    · rw [if_pos (Or.inr h2)]
      go_enter Tryz.func46, Tryz.ntmps46
      go_wp2
      go_ret2
      exact ⟨Below.refl _ _, Or.inr ⟨x, _, rfl, rfl, rfl⟩⟩
    · rw [if_neg (by omega)]
      go_enter Tryz.func46, Tryz.ntmps46
      go_wp2
      go_ret2
      exact ⟨Below.refl _ _, Or.inl ⟨rfl, _, trivial, rfl⟩⟩

set_option maxHeartbeats 400000 in
theorem pairedRune_joins (w : World) : Joins 48 #[] repI32 repI32 repI32 pairedF w := by
  refine ⟨enters_of Tryz.func48 (by kernel_rfl) rfl, ?_⟩
  intro W B x v y u hW hB hx hy
  have hv : v = .int .i32 x := hx
  have hu : u = .int .i32 y := hy
  subst hv
  subst hu
  clear hx hy
  unfold pairedF
  by_cases h1 : x < 55296
  · rw [if_pos (Or.inl h1)]
    go_enter Tryz.func48, Tryz.ntmps48
    go_wp2
    go_ret2
    exact ⟨Below.refl _ _, Or.inl ⟨rfl, _, trivial, rfl⟩⟩
  · by_cases h2 : 56320 ≤ x
    · rw [if_pos (Or.inr (Or.inl h2))]
      go_enter Tryz.func48, Tryz.ntmps48
      go_wp2
      go_ret2
      exact ⟨Below.refl _ _, Or.inl ⟨rfl, _, trivial, rfl⟩⟩
    · by_cases h3 : y < 56320
      · rw [if_pos (Or.inr (Or.inr (Or.inl h3)))]
        go_enter Tryz.func48, Tryz.ntmps48
        go_wp2
        go_ret2
        exact ⟨Below.refl _ _, Or.inl ⟨rfl, _, trivial, rfl⟩⟩
      · by_cases h4 : 57343 < y
        · rw [if_pos (Or.inr (Or.inr (Or.inr h4)))]
          go_enter Tryz.func48, Tryz.ntmps48
          go_wp2
          go_ret2
          exact ⟨Below.refl _ _, Or.inl ⟨rfl, _, trivial, rfl⟩⟩
        · rw [if_neg (by omega)]
          go_enter Tryz.func48, Tryz.ntmps48
          go_wp2
          go_ret2
          exact ⟨Below.refl _ _, Or.inr ⟨_, _, rfl, rfl, rfl⟩⟩

/-- The text of runes. -/
def runesF (l : List Int) : Bytes := (runesBytes l).data.toList

set_option maxHeartbeats 400000 in
theorem runesText_makes (w : World) : Makes 55 #[] repRunes repText (fun l => some (runesF l)) w := by
  refine ⟨enters_of Tryz.func55 (by kernel_rfl) rfl, ?_⟩
  intro W B x v hW hB hx
  obtain ⟨ho, _⟩ := hx
  have hcv : (convert 103 9 v).run Tryz.prog W = .ok (.string ⟨(runesF x).toArray⟩) W := by
    rcases ho.2 with ⟨rfl, h0⟩ | ⟨g, cap, cur, rfl, _⟩
    · have : x = [] := List.length_eq_zero_iff.1 h0
      subst this
      rw [run_convert_runes_nil W 103 9 21 _ _ Tryz.underlying103 Tryz.underlying21 Tryz.underlying9]
      rfl
    · have := run_convert_runes (P := Tryz.prog) W 103 9 21 ⟨g, 0, none⟩ x.length cap x (Nat.le_refl _) Tryz.underlying103 Tryz.underlying21 Tryz.underlying9 (fun j hj => ho.cells (g := g) rfl j _ (by simp [List.getElem?_eq_getElem hj]))
      rw [this, List.take_length]
      rfl
  obtain ⟨a, l, p, hv⟩ := slice_of ho
  subst hv
  clear ho
  go_enter Tryz.func55, Tryz.ntmps55
  go_wp2
  go_ret2
  exact ⟨Below.refl _ _, Or.inr ⟨_, _, rfl, rfl, rfl⟩⟩
/-- The number of the first digits. -/
def hexV (s : ByteArray) : Nat → Nat
  | 0 => 0
  | i + 1 => hexV s i * 16 + ((s.data.toList[i]?.bind hexD).getD 0)

theorem or16 (n d : Nat) (hn : n < 4096) (hd : d < 16) : bits .or .i32 ((n : Int) * 16) (d : Int) = ((n * 16 + d : Nat) : Int) := by
  rw [bits_join .i32 31 (by decide) wraps_i32 4 _ _ (by omega) (by omega) (by omega) (by omega) (by omega) (by omega)]
  simp

theorem hexV_lt (s : ByteArray) : ∀ i, hexV s i < 16 ^ i
  | 0 => by simp [hexV]
  | i + 1 => by
    have ih := hexV_lt s i
    have hd : (s.data.toList[i]?.bind hexD).getD 0 < 16 := by
      cases h : s.data.toList[i]?.bind hexD with
      | none => simp
      | some n =>
        obtain ⟨c, _, hc⟩ := Option.bind_eq_some_iff.1 h
        exact hexD_lt hc
    simp only [hexV, Nat.pow_succ]; omega

theorem four_at (s : ByteArray) (h4 : 4 ≤ s.size) : fourR s.data.toList = if (hexD s[0]).isSome ∧ (hexD s[1]).isSome ∧ (hexD s[2]).isSome ∧ (hexD s[3]).isSome then some ((hexV s 4 : Int), s.data.toList.drop 4) else none := by
  obtain ⟨⟨l⟩⟩ := s
  have hl : 4 ≤ l.length := h4
  match l, hl, h4 with
  | a :: b :: c :: d :: r, _, _ =>
    have e0 : (⟨⟨a :: b :: c :: d :: r⟩⟩ : ByteArray)[0] = a := rfl
    have e1 : (⟨⟨a :: b :: c :: d :: r⟩⟩ : ByteArray)[1] = b := rfl
    have e2 : (⟨⟨a :: b :: c :: d :: r⟩⟩ : ByteArray)[2] = c := rfl
    have e3 : (⟨⟨a :: b :: c :: d :: r⟩⟩ : ByteArray)[3] = d := rfl
    rw [e0, e1, e2, e3]
    simp only [fourR, hexV, List.getElem?_cons_zero, List.getElem?_cons_succ, Option.bind_some, List.drop_succ_cons, List.drop_zero]
    cases hexD a <;> cases hexD b <;> cases hexD c <;> cases hexD d <;> simp

set_option maxHeartbeats 1000000 in
theorem fourHex_reads (w : World) : Reads 44 #[] repI32 (.int .i32 0) fourR w := by
  refine ⟨enters_of Tryz.func44 (by kernel_rfl) rfl, ?_, ?_⟩
  · intro s x r h
    match s, h with
    | a :: b :: c :: d :: q, h =>
      simp only [fourR] at h
      split at h
      · simp at h
        obtain ⟨_, rfl⟩ := h
        simp; omega
      · simp at h
  intro W s hW hs
  by_cases h4 : 4 ≤ s.size
  · have hf := four_at s h4
    go_enter Tryz.func44, Tryz.ntmps44
    have HF := hide hf
    clear hf
    go_wp2
    go_loop [5, 16] (fun n idx => ∃ i : Nat, i ≤ 4 ∧ idx = .int .i64 i ∧ n = .int .i32 (hexV s i : Int) ∧ Hid (∀ j (hj : j < i) (hs : j < s.size), (hexD (s[j]'hs)).isSome)) (fun _ idx => 4 - (intOf idx).toNat)
    case atStart => exact ⟨0, by omega, rfl, rfl, fun j hj => absurd hj (Nat.not_lt_zero _)⟩
    case round =>
      obtain ⟨i, hi, rfl, rfl, hok⟩ := hrel
      by_cases hlt : i < 4
      · have hv := hexV_lt s i
        have hv' : hexV s i < 4096 := Nat.lt_of_lt_of_le hv (Nat.pow_le_pow_right (n := 16) (by decide) (by omega : i ≤ 3))
        have hst : hexV s (i + 1) = hexV s i * 16 + ((s.data.toList[i]?.bind hexD).getD 0) := rfl
        have his : i < s.size := by omega
        have hget : s.data.toList[i]? = some s[i] := by
          rw [List.getElem?_eq_getElem (by simpa using his)]; rfl
        rw [hget, Option.bind_some] at hst
        generalize hexV s i = n at hv' hst
        cases hd : hexD s[i] with
        | none =>
          have hfin : fourR s.data.toList = none := by
            rw [unhide HF, if_neg]
            intro hx
            have hcs : i = 0 ∨ i = 1 ∨ i = 2 ∨ i = 3 := by omega
            rcases hcs with rfl | rfl | rfl | rfl <;> simp [hd] at hx
          have HFI := hide hfin
          have hcon := hexDigit_any s[i]
          rw [hd] at hcon
          have HC := hide hcon
          clear hcon hfin hd hst hv hget hok
          go_wp2_with (first | (go_at_call 100; refine (unhide HC _).mono ?_; rintro e w1 ⟨rfl, rfl⟩) | (go_at_call 99; refine (fail_rune _).mono ?_))
          rintro e w2 ⟨rfl, rfl⟩
          go_wp2
          go_ret3
          exact ⟨Below.refl _ _, Or.inl ⟨unhide HFI, rfl⟩⟩
        | some d =>
          have hd16 := hexD_lt hd
          rw [hd, Option.getD_some] at hst
          have HST := hide hst
          have hor := or16 n d hv' hd16
          have hok' : Hid (∀ j (hj : j < i + 1) (hs : j < s.size), (hexD (s[j]'hs)).isSome) := by
            intro j hj hjs
            by_cases hji : j = i
            · subst hji; rw [hd]; rfl
            · exact hok.out j (by omega) hjs
          have hcon := hexDigit_any s[i]
          rw [hd] at hcon
          have HC := hide hcon
          clear hcon hd hst hv hget hok
          go_wp2_with (go_at_call 100; refine (unhide HC _).mono ?_; rintro e w1 ⟨rfl, rfl⟩)
          go_round
          case rel => exact ⟨i + 1, by omega, by go_num, by rw [unhide HST]; go_num, hok'⟩
          case measure => simp [intOf]; omega
      · have hie : i = 4 := by omega
        subst hie
        obtain ⟨r, hr⟩ : ∃ r : ByteArray, r.data.toList = s.data.toList.drop 4 := ⟨⟨(s.data.toList.drop 4).toArray⟩, rfl⟩
        have hfin : fourR s.data.toList = some ((hexV s 4 : Int), r.data.toList) := by
          rw [unhide HF, if_pos ⟨hok.out 0 (by omega) (by omega), hok.out 1 (by omega) (by omega), hok.out 2 (by omega) (by omega), hok.out 3 (by omega) (by omega)⟩, hr]
        have hex : s.extract 4 s.size = r := by
          apply (text_eq _).symm.trans
          · rfl
          · rw [hr, ByteArray.data_extract, Array.toList_extract]
            simp [List.take_of_length_le]
        have HFI := hide hfin
        have HEX := hide hex
        have h4i : (4 : Int) ≤ (s.size : Int) := by omega
        clear hfin hr hok hex
        go_wp2
        go_region
        all_goals
          go_wp2
          go_ret3
          rw [unhide HEX]
          exact ⟨drewB, Or.inr ⟨_, r.data.toList, _, unhide HFI, rfl, rfl⟩⟩
  · have hfin : fourR s.data.toList = none := by
      have hl : s.data.toList.length < 4 := by simpa using h4
      generalize s.data.toList = l at hl
      match l, hl with
      | [], _ => rfl
      | [_], _ => rfl
      | [_, _], _ => rfl
      | [_, _, _], _ => rfl
      | _ :: _ :: _ :: _ :: _, h => simp at h; omega
    have HFI := hide hfin
    clear hfin
    go_enter Tryz.func44, Tryz.ntmps44
    go_wp2_with (go_at_call 99; refine (fail_rune _).mono ?_)
    rintro e w2 ⟨rfl, rfl⟩
    go_wp2
    go_ret3
    exact ⟨Below.refl _ _, Or.inl ⟨unhide HFI, rfl⟩⟩
end Go.Proofs.YtgaddifabjoliaaGreatDoor
