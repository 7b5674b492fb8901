import Derived.Test.YtgaddifabjoliaaGreatDoorCost
import Derived.BigQuiet
import Derived.Deep.RegionHeld3
import Derived.Test.YtgaddifabjoliaaGreatDoorFoA
import Derived.Lib.BufferRead
namespace Go.Proofs.YtgaddifabjoliaaGreatDoor
open Go.RowKit

/-- A reader of the document's answer: its text, its place, whether it went wrong. -/
def Rd (w : World) (r : Nat) (s : ByteArray) (i : Nat) (bad : Bool) : Prop := w.heap[r]? = some (.cells #[.string s, .int .i64 i, .bool bad] 51 (0, 0))

theorem Rd.cells {w : World} {r : Nat} {s : ByteArray} {i : Nat} {bad : Bool} (h : Rd w r s i bad) :
    (w.cell? ⟨r, 0, none⟩ = some (.string s) ∧ w.cell? ⟨r, 1, none⟩ = some (.int .i64 i) ∧ w.cell? ⟨r, 2, none⟩ = some (.bool bad)) ∧ (∀ j, w.frozen? ⟨r, j, none⟩ = false) ∧ r < w.heap.size := by
  unfold Rd at h
  exact ⟨⟨by simp [World.cell?, h], by simp [World.cell?, h], by simp [World.cell?, h]⟩, fun j => by simp [World.frozen?, h], (Array.getElem?_eq_some_iff.1 h).1⟩
theorem Rd.move {w : World} {r : Nat} {s : ByteArray} {i : Nat} {bad : Bool} (h : Rd w r s i bad) (j : Nat) : Rd (w.setCell ⟨r, 1, none⟩ (.int .i64 j)) r s j bad := by
  unfold Rd at *
  simp [World.setCell, Array.getElem?_modify, h]
theorem Rd.spoil {w : World} {r : Nat} {s : ByteArray} {i : Nat} {bad : Bool} (h : Rd w r s i bad) (b : Bool) : Rd (w.setCell ⟨r, 2, none⟩ (.bool b)) r s i b := by
  unfold Rd at *
  simp [World.setCell, Array.getElem?_modify, h]
/-- Nothing but the reader is turned. -/
def Own (r : Nat) (w w' : World) : Prop := w.grownBy w' (some r)
theorem Own.refl (r : Nat) (w : World) : Own r w w := ⟨rfl, rfl, rfl, Nat.le_refl _, fun _ _ _ => rfl⟩
theorem Own.trans {r : Nat} {a b c : World} (h : Own r a b) (k : Own r b c) : Own r a c :=
  ⟨k.os.trans h.os, k.tape.trans h.tape, k.output.trans h.output, Nat.le_trans h.size k.size, fun i hi hne => (k.block i (Nat.lt_of_lt_of_le hi h.size) hne).trans (h.block i hi hne)⟩
theorem Own.setCell {r : Nat} {a w : World} (h : Own r a w) (j : Nat) (v : Value) : Own r a (w.setCell ⟨r, j, none⟩ v) := by
  refine h.trans ⟨rfl, rfl, rfl, by simp, fun k hk hne => ?_⟩
  exact Below.heap_setCell w ⟨r, j, none⟩ v k (fun e => hne (by rw [e]))
theorem Own.below {r : Nat} {a w w' : World} (h : Own r a w) (hb : Below w.heap.size w w') : Own r a w' :=
  h.trans ⟨hb.os, hb.tape, hb.output, hb.size, fun k hk _ => hb.block k hk⟩
theorem Own.drew {r : Nat} {a w : World} (h : Own r a w) : Own r a w.drew := h.below drewB
theorem Rd.drew {w : World} {r : Nat} {s : ByteArray} {i : Nat} {bad : Bool} (h : Rd w r s i bad) : Rd w.drew r s i bad := h

def placeOf (r : Nat) (w : World) : Nat := match w.cell? ⟨r, 1, none⟩ with
  | some v => (intOf v).toNat
  | none => 0
/-- How many blanks stand from a place on. -/
def blanksAt (s : ByteArray) (i : Nat) : Nat := ((s.data.toList.drop i).takeWhile isBlank).length

theorem takeWhile_p (p : UInt8 → Bool) : ∀ (l : Bytes) (k : Nat), k ≤ l.length → (∀ j (_hj : j < k) (hl : j < l.length), p l[j] = true) → (∀ hl : k < l.length, p l[k] = false) → (l.takeWhile p).length = k
  | [], k, hk, _, _ => by simp at hk; simp [hk]
  | c :: l, 0, _, _, h2 => by
    have := h2 (by simp)
    simp at this
    simp [this]
  | c :: l, k + 1, hk, h1, h2 => by
    have hc := h1 0 (by omega) (by simp)
    simp at hc
    simp only [List.takeWhile_cons, hc, if_true, List.length_cons]
    congr 1
    refine takeWhile_p p l k (by simpa using hk) (fun j hj hl => ?_) (fun hl => ?_)
    · have := h1 (j + 1) (by omega) (by simpa using hl)
      simpa using this
    · have := h2 (by simpa using hl)
      simpa using this
theorem blanks_is (s : ByteArray) (i j : Nat) (hj : i + j ≤ s.size) (h1 : ∀ k, k < j → ∀ h : i + k < s.size, isBlank (s[i + k]'h) = true) (h2 : ∀ h : i + j < s.size, isBlank (s[i + j]'h) = false) : blanksAt s i = j := by
  unfold blanksAt
  have hl : (s.data.toList.drop i).length = s.size - i := by rw [List.length_drop, Array.length_toList]; rfl
  refine takeWhile_p isBlank _ j (by omega) (fun k hk hl' => ?_) (fun hl' => ?_)
  · rw [List.getElem_drop]; exact h1 k hk (by omega)
  · rw [List.getElem_drop]; exact h2 (by omega)
theorem Rd.place {w : World} {r : Nat} {s : ByteArray} {i : Nat} {bad : Bool} (h : Rd w r s i bad) : placeOf r w = i := by
  unfold placeOf
  rw [h.cells.1.2.1]
  simp [intOf]
theorem blank_next {r : Nat} {s : ByteArray} {i j m : Nat} {bad : Bool} {w wr : World} (HM : i + j = m) (hlt : m < s.size) (HO : Own r w wr) (HR : Rd wr r s m bad) (HB : ∀ k, k < j → ∀ h : i + k < s.size, isBlank (s[i + k]'h) = true) (hc : isBlank s[m] = true) :
    (∃ j, i + j ≤ s.size ∧ Hid (Own r w (wr.setCell ⟨r, 1, none⟩ (.int .i64 ((m : Int) + 1))).drew) ∧ Hid (Rd (wr.setCell ⟨r, 1, none⟩ (.int .i64 ((m : Int) + 1))).drew r s (i + j) bad) ∧ Hid (∀ k, k < j → ∀ h : i + k < s.size, isBlank (s[i + k]'h) = true)) ∧
    s.size - placeOf r (wr.setCell ⟨r, 1, none⟩ (.int .i64 ((m : Int) + 1))).drew < s.size - placeOf r wr := by
  have hr : Rd (wr.setCell ⟨r, 1, none⟩ (.int .i64 ((m : Int) + 1))).drew r s (m + 1) bad := (HR.move (m + 1)).drew
  refine ⟨⟨j + 1, by omega, (HO.setCell 1 _).drew, ?_, ?_⟩, ?_⟩
  · show Rd _ _ _ _ _
    rw [← Nat.add_assoc, HM]; exact hr
  · intro k hk h
    by_cases hkj : k = j
    · subst hkj; subst HM; exact hc
    · exact HB k (by omega) h
  · rw [hr.place, HR.place]; omega

set_option maxHeartbeats 8000000 in
theorem blank_calls (r : Nat) (s : ByteArray) (i : Nat) (bad : Bool) (w : World) (h : Rd w r s i bad) (hi : i ≤ s.size) (hs : s.size ≤ 4000) :
    Calls Tryz.prog 15 #[.pointer (some ⟨r, 0, none⟩)] w fun e w' => e = .returned (.tuple #[]) ∧ Own r w w' ∧ Rd w' r s (i + blanksAt s i) bad := by
  have HR := hide h
  clear h
  go_enter Tryz.func15, Tryz.ntmps15
  go_wp2
  go_loopw [] (fun wr => ∃ j : Nat, i + j ≤ s.size ∧ Hid (Own r w wr) ∧ Hid (Rd wr r s (i + j) bad) ∧ Hid (∀ k, k < j → ∀ h : i + k < s.size, isBlank (s[i + k]'h) = true)) (fun wr => s.size - placeOf r wr)
  case atStart => exact ⟨0, by omega, Own.refl _ _, unhide HR, fun k hk => absurd hk (Nat.not_lt_zero _)⟩
  case round =>
    obtain ⟨j, hj, HO, HRR, HB⟩ := hrel
    obtain ⟨⟨c0, c1, c2⟩, cf, cl⟩ := (unhide HRR).cells
    obtain ⟨m, hm⟩ : ∃ m, i + j = m := ⟨_, rfl⟩
    rw [hm] at hj c1 HRR
    have HM := hide hm
    by_cases hlt : m < s.size
    · have hlti : (m : Int) < (s.size : Int) := by omega
      have hib : isBlank s[m] = (s[m] == 32 || s[m] == 9 || s[m] == 10 || s[m] == 13) := rfl
      by_cases hc32 : s[m] = 32
      · have HC := hide (show isBlank s[m] = true by rw [hib, hc32]; rfl)
        have e32 : s[m].toNat = 32 := by rw [hc32]; rfl
        clear hm hib hc32
        go_wp2
        go_region
        all_goals
          go_wp2
          exact blank_next (unhide HM) hlt (unhide HO) (unhide HRR) (unhide HB) (unhide HC)
      have n32 : ((s[m].toNat : Int) == 32) = false := by rw [beq_eq_false_iff_ne]; intro e; exact hc32 (UInt8.toNat.inj (by show s[m].toNat = 32; omega))
      by_cases hc9 : s[m] = 9
      · have HC := hide (show isBlank s[m] = true by rw [hib, hc9]; rfl)
        have e9 : s[m].toNat = 9 := by rw [hc9]; rfl
        clear hm hib hc9 hc32 n32
        go_wp2
        go_region
        all_goals
          go_wp2
          exact blank_next (unhide HM) hlt (unhide HO) (unhide HRR) (unhide HB) (unhide HC)
      have n9 : ((s[m].toNat : Int) == 9) = false := by rw [beq_eq_false_iff_ne]; intro e; exact hc9 (UInt8.toNat.inj (by show s[m].toNat = 9; omega))
      by_cases hc10 : s[m] = 10
      · have HC := hide (show isBlank s[m] = true by rw [hib, hc10]; rfl)
        have e10 : s[m].toNat = 10 := by rw [hc10]; rfl
        clear hm hib hc10 hc9 hc32 n32 n9
        go_wp2
        go_region
        all_goals
          go_wp2
          exact blank_next (unhide HM) hlt (unhide HO) (unhide HRR) (unhide HB) (unhide HC)
      have n10 : ((s[m].toNat : Int) == 10) = false := by rw [beq_eq_false_iff_ne]; intro e; exact hc10 (UInt8.toNat.inj (by show s[m].toNat = 10; omega))
      by_cases hc13 : s[m] = 13
      · have HC := hide (show isBlank s[m] = true by rw [hib, hc13]; rfl)
        have e13 : s[m].toNat = 13 := by rw [hc13]; rfl
        clear hm hib hc13 hc10 hc9 hc32 n32 n9 n10
        go_wp2
        go_region
        all_goals
          go_wp2
          exact blank_next (unhide HM) hlt (unhide HO) (unhide HRR) (unhide HB) (unhide HC)
      have n13 : ((s[m].toNat : Int) == 13) = false := by rw [beq_eq_false_iff_ne]; intro e; exact hc13 (UInt8.toNat.inj (by show s[m].toNat = 13; omega))
      have hfin : blanksAt s i = j := by
        refine blanks_is s i j (by omega) (unhide HB) (fun h => ?_)
        subst hm
        rw [hib]
        simp [hc32, hc9, hc10, hc13]
      have HFI := hide hfin
      clear hm hib hc13 hc10 hc9 hc32 hfin
      go_wp2
      go_region
      all_goals
        go_wp2
        go_end0
        refine ⟨rfl, (unhide HO).drew, ?_⟩
        rw [unhide HFI, unhide HM]
        exact (unhide HRR).drew
    · have hfin : blanksAt s i = j := blanks_is s i j (by omega) (unhide HB) (fun h => by omega)
      have HFI := hide hfin
      clear hm hfin
      go_wp2
      go_region
      all_goals
        go_wp2
        go_end0
        refine ⟨rfl, (unhide HO).drew, ?_⟩
        rw [unhide HFI, unhide HM]
        exact (unhide HRR).drew
end Go.Proofs.YtgaddifabjoliaaGreatDoor

namespace Go.Proofs.YtgaddifabjoliaaGreatDoor
open Go.RowKit

/-- Does this text stand at a place, behind blanks? -/
def seesAt (s : ByteArray) (i : Nat) (t : ByteArray) : Bool := t.data.toList.isPrefixOf (s.data.toList.drop (i + blanksAt s i))

theorem blanks_le (s : ByteArray) (i : Nat) (hi : i ≤ s.size) : i + blanksAt s i ≤ s.size := by
  unfold blanksAt
  have h := (List.takeWhile_prefix isBlank (l := s.data.toList.drop i)).length_le
  have hl : (s.data.toList.drop i).length = s.size - i := by rw [List.length_drop, Array.length_toList]; rfl
  omega

theorem piece (s t : ByteArray) (m : Nat) (_hm : m + t.size ≤ s.size) : ((s.extract m (m + t.size)).toList == t.toList) = t.data.toList.isPrefixOf (s.data.toList.drop m) := by
  rw [ByteArray.toList_eq, ByteArray.toList_eq, ByteArray.data_extract, Array.toList_extract]
  have hl : t.data.toList.length = t.size := by rw [Array.length_toList]; rfl
  have e : (s.data.toList.extract m (m + t.size)) = (s.data.toList.drop m).take t.data.toList.length := by
    rw [List.extract_eq_take_drop, hl]; congr 1; omega
  rw [e]
  cases h : t.data.toList.isPrefixOf (s.data.toList.drop m) with
  | true => rw [← List.prefix_iff_eq_take.1 (List.isPrefixOf_iff_prefix.1 h)]; simp
  | false =>
    rw [beq_eq_false_iff_ne]
    intro e2
    have : t.data.toList <+: s.data.toList.drop m := List.prefix_iff_eq_take.2 e2.symm
    rw [List.isPrefixOf_iff_prefix.2 this] at h
    cases h

end Go.Proofs.YtgaddifabjoliaaGreatDoor

namespace Go.Proofs.YtgaddifabjoliaaGreatDoor
open Go.RowKit

set_option maxHeartbeats 400000 in
theorem sixteen_any (c : UInt8) (w : World) :
    Calls Tryz.prog 171 #[.int .u8 c.toNat] w fun e w' => (match hexD c with
      | none => e = .returned (.int .i64 (-1))
      | some n => e = .returned (.int .i64 (n : Int))) ∧ w' = w := by
  have hc := UInt8.toNat_lt c
  unfold hexD
  generalize c.toNat = x at hc
  by_cases h1 : 48 ≤ x ∧ x ≤ 57
  · rw [if_pos h1]
    obtain ⟨h1, h2⟩ := h1
    go_enter Tryz.func171, Tryz.ntmps171
    go_wp2
    go_ret
    refine ⟨?_, rfl⟩
    have e1 : ((x - 48 : Nat) : Int) = (x : Int) - 48 := by omega
    rw [e1]
    rfl
  · rw [if_neg h1]
    have h1' : x < 48 ∨ 57 < x := by omega
    clear h1
    by_cases h3 : 97 ≤ x ∧ x ≤ 102
    · rw [if_pos h3]
      obtain ⟨h3, h4⟩ := h3
      have h5 : 57 < x := by omega
      clear h1'
      go_enter Tryz.func171, Tryz.ntmps171
      go_wp2
      go_ret
      refine ⟨?_, rfl⟩
      have e1 : ((x - 87 : Nat) : Int) = (x : Int) - 97 + 10 := by omega
      rw [e1]
      rfl
    · rw [if_neg h3]
      have h3' : x < 97 ∨ 102 < x := by omega
      clear h3
      by_cases h6 : 65 ≤ x ∧ x ≤ 70
      · rw [if_pos h6]
        obtain ⟨h6, h7⟩ := h6
        have h8 : 57 < x := by omega
        have h9 : x < 97 := by omega
        clear h1' h3'
        go_enter Tryz.func171, Tryz.ntmps171
        go_wp2
        go_ret
        refine ⟨?_, rfl⟩
        have e1 : ((x - 55 : Nat) : Int) = (x : Int) - 65 + 10 := by omega
        rw [e1]
        rfl
      · rw [if_neg h6]
        have h6' : x < 65 ∨ 70 < x := by omega
        clear h6
        rcases h1' with a | a <;> rcases h3' with b | b <;> rcases h6' with d | d <;> first | (exfalso; omega) | skip
        all_goals
          go_enter Tryz.func171, Tryz.ntmps171
          go_wp2
          go_ret
          exact ⟨rfl, rfl⟩

/-- Four digits at a place, as the document's answer has them: -1 where there are none. -/
def fourAt (s : ByteArray) (i : Nat) : Int := match fourR (s.data.toList.drop i) with
  | some (n, _) => n
  | none => -1

set_option maxHeartbeats 2000000 in
theorem four_calls (s : ByteArray) (i : Nat) (w : World) (hi : i ≤ 5000) (hs : s.size ≤ 4000) :
    Calls Tryz.prog 145 #[.string s, .int .i64 i] w fun e w' => e = .returned (.int .i64 (fourAt s i)) ∧ w' = w := by
  by_cases hfit : i + 4 ≤ s.size
  · have hfi : ¬ ((i : Int) + 4 > (s.size : Int)) := by omega
    obtain ⟨q, hq⟩ : ∃ q : ByteArray, q.data.toList = s.data.toList.drop i := ⟨⟨(s.data.toList.drop i).toArray⟩, rfl⟩
    have hqs : q.size = s.size - i := by rw [text_size hq, List.length_drop, Array.length_toList]; rfl
    have hqa : ∀ k (h : k < q.size) (h' : i + k < s.size), q[k]'h = s[i + k]'h' := by
      intro k h h'
      have e1 : q[k] = q.data.toList[k]'(by rw [Array.length_toList]; exact h) := rfl
      have e2 : s[i + k] = s.data.toList[i + k]'(by rw [Array.length_toList]; exact h') := rfl
      rw [e1, e2]
      simp only [hq, List.getElem_drop]
    have hf := four_at q (by omega)
    rw [hq] at hf
    have hfa : fourAt s i = match fourR (s.data.toList.drop i) with
      | some (n, _) => n
      | none => -1 := rfl
    rw [hf] at hfa
    have HF := hide hfa
    have HQA := hide hqa
    clear hf hfa hqa
    go_enter Tryz.func145, Tryz.ntmps145
    go_wp2
    go_loop [5, 6] (fun n idx => ∃ k : Nat, k ≤ 4 ∧ idx = .int .i64 ((i + k : Nat) : Int) ∧ n = .int .i64 (hexV q k : Int) ∧ Hid (∀ j, j < k → ∀ h : j < q.size, (hexD (q[j]'h)).isSome)) (fun _ idx => i + 4 - (intOf idx).toNat)
    case atStart => exact ⟨0, by omega, rfl, rfl, fun j hj => absurd hj (Nat.not_lt_zero _)⟩
    case round =>
      obtain ⟨k, hk, rfl, rfl, hok⟩ := hrel
      by_cases hlt : k < 4
      · have hv := hexV_lt q k
        have hv' : hexV q k < 4096 := Nat.lt_of_lt_of_le hv (Nat.pow_le_pow_right (n := 16) (by decide) (by omega : k ≤ 3))
        have hst : hexV q (k + 1) = hexV q k * 16 + ((q.data.toList[k]?.bind hexD).getD 0) := rfl
        have hkq : k < q.size := by omega
        have hks : i + k < s.size := by omega
        have hget : q.data.toList[k]? = some q[k] := by
          rw [List.getElem?_eq_getElem (by simpa using hkq)]; rfl
        rw [hget, Option.bind_some, unhide HQA k hkq hks] at hst
        have hq2 := unhide HQA k hkq hks
        obtain ⟨m, hm⟩ : ∃ m, i + k = m := ⟨_, rfl⟩
        simp only [hm] at hst hks hq2 ⊢
        have hmi : (m : Int) < (i : Int) + 4 := by omega
        generalize hexV q k = n at hv' hst
        cases hd : hexD s[m] with
        | none =>
          have hfin : fourAt s i = -1 := by
            rw [unhide HF, if_neg]
            intro hx
            rw [← hq2] at hd
            have hcs : k = 0 ∨ k = 1 ∨ k = 2 ∨ k = 3 := by omega
            rcases hcs with rfl | rfl | rfl | rfl <;> simp [hd] at hx
          have HFI := hide hfin
          have hcon := sixteen_any s[m]
          rw [hd] at hcon
          have HC := hide hcon
          clear hcon hfin hd hst hv hget hok hq2 hm
          go_wp2_with (go_at_call 171; refine (unhide HC _).mono ?_; rintro e w1 ⟨rfl, rfl⟩)
          go_ret
          exact ⟨by rw [unhide HFI]; rfl, rfl⟩
        | some d =>
          have hd16 := hexD_lt hd
          rw [hd, Option.getD_some] at hst
          have HST := hide hst
          have hok' : Hid (∀ j, j < k + 1 → ∀ h : j < q.size, (hexD (q[j]'h)).isSome) := by
            intro j hj hjs
            by_cases hji : j = k
            · subst hji; rw [hq2, hd]; rfl
            · exact hok.out j (by omega) hjs
          have hcon := sixteen_any s[m]
          rw [hd] at hcon
          have HC := hide hcon
          have HM := hide hm
          clear hcon hd hst hv hget hok hq2 hm
          go_wp2_with (go_at_call 171; refine (unhide HC _).mono ?_; rintro e w1 ⟨rfl, rfl⟩)
          go_round
          case rel => exact ⟨k + 1, by omega, by rw [← Nat.add_assoc, unhide HM]; go_num, by rw [unhide HST]; go_num, hok'⟩
          case measure => simp [intOf]; omega
      · have hke : k = 4 := by omega
        subst hke
        have hfin : fourAt s i = (hexV q 4 : Int) := by
          rw [unhide HF, if_pos ⟨hok.out 0 (by omega) (by omega), hok.out 1 (by omega) (by omega), hok.out 2 (by omega) (by omega), hok.out 3 (by omega) (by omega)⟩]
        have HFI := hide hfin
        clear hok hfin
        go_wp2
        go_ret
        exact ⟨by rw [unhide HFI]; rfl, rfl⟩
  · have hfi : (i : Int) + 4 > (s.size : Int) := by omega
    have hfin : fourAt s i = -1 := by
      unfold fourAt
      have hl : (s.data.toList.drop i).length < 4 := by rw [List.length_drop, Array.length_toList]; show s.size - i < 4; omega
      generalize s.data.toList.drop i = l at hl
      match l, hl with
      | [], _ => rfl
      | [_], _ => rfl
      | [_, _], _ => rfl
      | [_, _, _], _ => rfl
      | _ :: _ :: _ :: _ :: _, h => simp at h; omega
    rw [hfin]
    clear hfin
    go_enter Tryz.func145, Tryz.ntmps145
    go_wp2
    go_ret
    exact ⟨rfl, rfl⟩
end Go.Proofs.YtgaddifabjoliaaGreatDoor

namespace Go.Proofs.YtgaddifabjoliaaGreatDoor
open Go.RowKit

theorem drop_far (s : ByteArray) (i : Nat) (h : s.size ≤ i) : s.data.toList.drop i = [] := by
  rw [List.drop_eq_nil_iff, Array.length_toList]; exact h
theorem blanks_far (s : ByteArray) (i : Nat) (h : s.size ≤ i) : blanksAt s i = 0 := by
  unfold blanksAt; rw [drop_far s i h]; rfl

set_option maxHeartbeats 1000000 in
theorem blank_far (r : Nat) (s : ByteArray) (i : Nat) (bad : Bool) (w : World) (h : Rd w r s i bad) (hi : s.size ≤ i) (_hi2 : i ≤ 5000) (_hs : s.size ≤ 4000) :
    Calls Tryz.prog 15 #[.pointer (some ⟨r, 0, none⟩)] w fun e w' => e = .returned (.tuple #[]) ∧ Own r w w' ∧ Rd w' r s i bad := by
  have HR := hide h
  clear h
  go_enter Tryz.func15, Tryz.ntmps15
  go_wp2
  go_loopw [] (fun wr => Hid (Own r w wr) ∧ Hid (Rd wr r s i bad)) (fun _ => 0)
  case atStart => exact ⟨Own.refl _ _, unhide HR⟩
  case round =>
    obtain ⟨HO, HRR⟩ := hrel
    obtain ⟨⟨c0, c1, c2⟩, cf, cl⟩ := (unhide HRR).cells
    have hlt : ¬ (i < s.size) := by omega
    clear hi
    go_wp2
    go_region
    all_goals
      go_wp2
      go_end0
      exact ⟨rfl, (unhide HO).drew, (unhide HRR).drew⟩
theorem blank_any (r : Nat) (s : ByteArray) (i : Nat) (bad : Bool) (w : World) (h : Rd w r s i bad) (hi : i ≤ 5000) (hs : s.size ≤ 4000) :
    Calls Tryz.prog 15 #[.pointer (some ⟨r, 0, none⟩)] w fun e w' => e = .returned (.tuple #[]) ∧ Own r w w' ∧ Rd w' r s (i + blanksAt s i) bad := by
  by_cases hle : i ≤ s.size
  · exact blank_calls r s i bad w h hle hs
  · rw [blanks_far s i (by omega)]
    exact blank_far r s i bad w h (by omega) hi hs
theorem blanks_bound (s : ByteArray) (i : Nat) (hi : i ≤ 5000) (hs : s.size ≤ 4000) : i + blanksAt s i ≤ 5000 := by
  by_cases hle : i ≤ s.size
  · have := blanks_le s i hle; omega
  · rw [blanks_far s i (by omega)]; omega

theorem Own.drewN {r : Nat} {a w : World} (h : Own r a w) (n : Nat) : Own r a (w.drewN n) := h.trans ⟨rfl, rfl, rfl, Nat.le_refl _, fun _ _ _ => rfl⟩
theorem Rd.drewN {w : World} {r : Nat} {s : ByteArray} {i : Nat} {bad : Bool} (h : Rd w r s i bad) (n : Nat) : Rd (w.drewN n) r s i bad := h

/-- What sees answers. -/
def saw (s : ByteArray) (i : Nat) (bad : Bool) (t : ByteArray) : Bool := !bad && seesAt s i t
def sawTo (s : ByteArray) (i : Nat) (bad : Bool) (t : ByteArray) : Nat := i + blanksAt s i + if saw s i bad t then t.size else 0

set_option maxHeartbeats 2000000 in
theorem sees_calls (r : Nat) (s : ByteArray) (i : Nat) (bad : Bool) (t : ByteArray) (w : World) (h : Rd w r s i bad) (hi : i ≤ 5000) (hs : s.size ≤ 4000) (ht : t.size ≤ 10) (h0 : 0 < t.size) :
    Calls Tryz.prog 38 #[.pointer (some ⟨r, 0, none⟩), .string t] w fun e w' => e = .returned (.bool (saw s i bad t)) ∧ Own r w w' ∧ Rd w' r s (sawTo s i bad t) bad := by
  have HB := hide (blank_any r s i bad w h hi hs)
  have hbb := blanks_bound s i hi hs
  have hsee : seesAt s i t = t.data.toList.isPrefixOf (s.data.toList.drop (i + blanksAt s i)) := rfl
  have hto : sawTo s i bad t = i + blanksAt s i + if saw s i bad t then t.size else 0 := rfl
  have hsaw : saw s i bad t = (!bad && seesAt s i t) := rfl
  clear h
  generalize hm : i + blanksAt s i = m at hsee hbb hto
  have HM := hide hm
  rw [hm] at HB
  clear hm
  cases bad with
  | true =>
    have e1 : saw s i true t = false := rfl
    rw [e1] at hto ⊢
    have e2 : sawTo s i true t = m := hto
    rw [e2]
    clear hto hsaw e1 e2 hsee
    go_enter Tryz.func38, Tryz.ntmps38
    go_wp2_with (go_at_call 15; refine (unhide HB).mono ?_; rintro e w1 ⟨rfl, ho, hr⟩)
    have HO := hide ho
    have HR := hide hr
    obtain ⟨⟨c0, c1, c2⟩, cf, cl⟩ := hr.cells
    clear ho hr
    go_quiet (fail)
    go_wp2
    go_ret
    exact ⟨rfl, (unhide HO).drewN _, (unhide HR).drewN _⟩
  | false =>
    by_cases hfit : m + t.size ≤ s.size
    · have hp := piece s t m hfit
      cases hb : t.data.toList.isPrefixOf (s.data.toList.drop m) with
      | true =>
        rw [hb] at hp hsee
        rw [hsee] at hsaw
        have e1 : saw s i false t = true := hsaw
        rw [e1] at hto ⊢
        have e2 : sawTo s i false t = m + t.size := hto
        rw [e2]
        clear hto hsaw e1 e2 hsee hb
        have hlen : decide ((s.size : Int) - (m : Int) < (t.size : Int)) = false := decide_eq_false (by omega)
        go_enter Tryz.func38, Tryz.ntmps38
        go_wp2_with (go_at_call 15; refine (unhide HB).mono ?_; rintro e w1 ⟨rfl, ho, hr⟩)
        have HO := hide ho
        have HR := hide hr
        obtain ⟨⟨c0, c1, c2⟩, cf, cl⟩ := hr.cells
        clear ho hr
        go_quiet (fail)
        go_wp2
        go_ret
        refine ⟨rfl, ((unhide HO).drewN _).setCell 1 _, ?_⟩
        exact ((unhide HR).drewN _).move _
      | false =>
        rw [hb] at hp hsee
        rw [hsee] at hsaw
        have e1 : saw s i false t = false := hsaw
        rw [e1] at hto ⊢
        have e2 : sawTo s i false t = m := hto
        rw [e2]
        clear hto hsaw e1 e2 hsee hb
        have hlen : decide ((s.size : Int) - (m : Int) < (t.size : Int)) = false := decide_eq_false (by omega)
        go_enter Tryz.func38, Tryz.ntmps38
        go_wp2_with (go_at_call 15; refine (unhide HB).mono ?_; rintro e w1 ⟨rfl, ho, hr⟩)
        have HO := hide ho
        have HR := hide hr
        obtain ⟨⟨c0, c1, c2⟩, cf, cl⟩ := hr.cells
        clear ho hr
        go_quiet (fail)
        go_wp2
        go_ret
        exact ⟨rfl, (unhide HO).drewN _, (unhide HR).drewN _⟩
    · have e0 : seesAt s i t = false := by
        rw [hsee]
        cases hb : t.data.toList.isPrefixOf (s.data.toList.drop m) with
        | false => rfl
        | true =>
          have := (List.isPrefixOf_iff_prefix.1 hb).length_le
          rw [List.length_drop, Array.length_toList, Array.length_toList] at this
          have e3 : t.data.size = t.size := rfl
          have e4 : s.data.size = s.size := rfl
          omega
      rw [e0] at hsaw
      have e1 : saw s i false t = false := hsaw
      rw [e1] at hto ⊢
      have e2 : sawTo s i false t = m := hto
      rw [e2]
      clear hto hsaw e0 e1 e2 hsee
      have hlen : decide ((s.size : Int) - (m : Int) < (t.size : Int)) = true := decide_eq_true (by omega)
      go_enter Tryz.func38, Tryz.ntmps38
      go_wp2_with (go_at_call 15; refine (unhide HB).mono ?_; rintro e w1 ⟨rfl, ho, hr⟩)
      have HO := hide ho
      have HR := hide hr
      obtain ⟨⟨c0, c1, c2⟩, cf, cl⟩ := hr.cells
      clear ho hr
      go_quiet (fail)
      go_wp2
      go_ret
      exact ⟨rfl, (unhide HO).drewN _, (unhide HR).drewN _⟩
end Go.Proofs.YtgaddifabjoliaaGreatDoor

namespace Go.Proofs.YtgaddifabjoliaaGreatDoor
open Go.RowKit

set_option maxHeartbeats 1000000 in
theorem must_calls (r : Nat) (s : ByteArray) (i : Nat) (bad : Bool) (t : ByteArray) (w : World) (h : Rd w r s i bad) (hi : i ≤ 5000) (hs : s.size ≤ 4000) (ht : t.size ≤ 10) (h0 : 0 < t.size) :
    Calls Tryz.prog 42 #[.pointer (some ⟨r, 0, none⟩), .string t] w fun e w' => e = .returned (.tuple #[]) ∧ Own r w w' ∧ Rd w' r s (sawTo s i bad t) (!saw s i bad t) := by
  have HB := hide (sees_calls r s i bad t w h hi hs ht h0)
  have hsb : saw s i bad t = true → bad = false := by
    intro e
    cases bad with
    | true => cases e
    | false => rfl
  clear h
  generalize sawTo s i bad t = m at HB ⊢
  cases hsaw : saw s i bad t with
  | true =>
    have hbf := hsb hsaw
    subst hbf
    rw [hsaw] at HB
    clear hsb hsaw
    go_enter Tryz.func42, Tryz.ntmps42
    go_wp2_with (go_at_call 38; refine (unhide HB).mono ?_; rintro e w1 ⟨rfl, ho, hr⟩)
    go_end0
    exact ⟨rfl, ho, hr⟩
  | false =>
    rw [hsaw] at HB
    clear hsb hsaw
    go_enter Tryz.func42, Tryz.ntmps42
    go_wp2_with (go_at_call 38; refine (unhide HB).mono ?_; rintro e w1 ⟨rfl, ho, hr⟩; have HO := hide ho; have HR := hide hr; obtain ⟨⟨c0, c1, c2⟩, cf, cl⟩ := hr.cells; clear ho hr)
    go_end0
    exact ⟨rfl, (unhide HO).setCell 2 _, (unhide HR).spoil true⟩
end Go.Proofs.YtgaddifabjoliaaGreatDoor

namespace Go.Proofs.YtgaddifabjoliaaGreatDoor
open Go.RowKit

theorem conv_fresh (w : World) (l : Bytes) : (convert 45 9 (.slice (some ⟨w.heap.size, 0, none⟩) l.length l.length)).run Tryz.prog (w.alloc (.cells (Lib.byteCells l).toArray 5)) = .ok (.string ⟨l.toArray⟩) (w.alloc (.cells (Lib.byteCells l).toArray 5)) := by
  have hg : (w.alloc (.cells (Lib.byteCells l).toArray 5)).heap[w.heap.size]? = some (.cells (Lib.byteCells l).toArray 5 (0, 0)) := by
    show (w.heap.push _)[_]? = _
    exact Array.getElem?_push_size
  refine run_convert_bytes_back _ 45 9 5 ⟨w.heap.size, 0, none⟩ l.length l Tryz.underlying45 Tryz.underlying5 Tryz.underlying9 (Lib.bytes_of_row hg ?_)
  exact List.take_of_length_le (by simp [Lib.byteCells])

set_option maxRecDepth 100000 in
set_option maxHeartbeats 2000000 in
theorem utf_calls (c : Nat) (hg : c ≤ 1114111) (w : World) :
    Calls Tryz.prog 146 #[.int .i64 c] w fun e w' => e = .returned (.string ⟨(encL c).toArray⟩) ∧ Below w.heap.size w w' := by
  by_cases h1 : c < 128
  · have hE : encL c = [UInt8.ofNat c] := encL_low c h1
    rw [hE]
    clear hE
    have hcv := conv_fresh w [UInt8.ofNat c]
    simp only [Lib.byteCells, List.map_cons, List.map_nil, List.length_cons, List.length_nil, of8 c (by omega)] at hcv
    go_enter Tryz.func146, Tryz.ntmps146
    go_wp2
    go_ret
    exact ⟨rfl, (Below.refl _ _).alloc (Nat.le_refl _) _⟩
  · by_cases h2 : c < 2048
    · obtain ⟨b0, hb0, z0⟩ : ∃ b0 : UInt8, UInt8.ofNat (192 + c / 64) = b0 ∧ ((b0.toNat : Nat) : Int) = 192 + (c : Int) / 64 := ⟨_, rfl, by rw [of8 _ (by omega)]; omega⟩
      obtain ⟨b1, hb1, z1⟩ : ∃ b1 : UInt8, UInt8.ofNat (128 + c % 64) = b1 ∧ ((b1.toNat : Nat) : Int) = 128 + (c : Int) % 64 := ⟨_, rfl, by rw [of8 _ (by omega)]; omega⟩
      have hE : encL c = [b0, b1] := by
        unfold encL
        rw [if_neg h1, if_pos h2, hb0, hb1]
      rw [hE]
      have hcv := conv_fresh w [b0, b1]
      simp only [Lib.byteCells, List.map_cons, List.map_nil, List.length_cons, List.length_nil, z0, z1] at hcv
      clear hE hb0 hb1 z0 z1
      go_enter Tryz.func146, Tryz.ntmps146
      go_wp2
      go_ret
      exact ⟨rfl, (Below.refl _ _).alloc (Nat.le_refl _) _⟩
    · by_cases h3 : c < 65536
      · obtain ⟨k, hk, kb⟩ : ∃ k : Nat, (c : Int) / 64 = (k : Int) ∧ k < 1024 := ⟨c / 64, by omega, by omega⟩
        obtain ⟨a, ha, ab⟩ : ∃ a : Nat, (c : Int) / 4096 = (a : Int) ∧ a < 16 := ⟨c / 4096, by omega, by omega⟩
        obtain ⟨b0, hb0, z0⟩ : ∃ b0 : UInt8, UInt8.ofNat (224 + c / 4096) = b0 ∧ ((b0.toNat : Nat) : Int) = 224 + (a : Int) := ⟨_, rfl, by rw [of8 _ (by omega)]; omega⟩
        obtain ⟨b1, hb1, z1⟩ : ∃ b1 : UInt8, UInt8.ofNat (128 + c / 64 % 64) = b1 ∧ ((b1.toNat : Nat) : Int) = 128 + (k : Int) % 64 := ⟨_, rfl, by rw [of8 _ (by omega)]; omega⟩
        obtain ⟨b2, hb2, z2⟩ : ∃ b2 : UInt8, UInt8.ofNat (128 + c % 64) = b2 ∧ ((b2.toNat : Nat) : Int) = 128 + (c : Int) % 64 := ⟨_, rfl, by rw [of8 _ (by omega)]; omega⟩
        have hE : encL c = [b0, b1, b2] := by
          unfold encL
          rw [if_neg h1, if_neg h2, if_pos h3, hb0, hb1, hb2]
        rw [hE]
        have hcv := conv_fresh w [b0, b1, b2]
        simp only [Lib.byteCells, List.map_cons, List.map_nil, List.length_cons, List.length_nil, z0, z1, z2] at hcv
        have hd1 : decide ((c : Int) < 128) = false := decide_eq_false (by omega)
        have hd2 : decide ((c : Int) < 2048) = false := decide_eq_false (by omega)
        have hd3 : decide ((c : Int) < 65536) = true := decide_eq_true (by omega)
        clear hE hb0 hb1 hb2 z0 z1 z2 h1 h2 h3
        go_enter Tryz.func146, Tryz.ntmps146
        go_wp2
        go_ret
        exact ⟨rfl, (Below.refl _ _).alloc (Nat.le_refl _) _⟩
      · obtain ⟨k, hk, kb⟩ : ∃ k : Nat, (c : Int) / 64 = (k : Int) ∧ k < 20000 := ⟨c / 64, by omega, by omega⟩
        obtain ⟨a, ha, ab⟩ : ∃ a : Nat, (c : Int) / 4096 = (a : Int) ∧ a < 300 := ⟨c / 4096, by omega, by omega⟩
        obtain ⟨d, hd, db⟩ : ∃ d : Nat, (c : Int) / 262144 = (d : Int) ∧ d < 5 := ⟨c / 262144, by omega, by omega⟩
        obtain ⟨b0, hb0, z0⟩ : ∃ b0 : UInt8, UInt8.ofNat (240 + c / 262144) = b0 ∧ ((b0.toNat : Nat) : Int) = 240 + (d : Int) := ⟨_, rfl, by rw [of8 _ (by omega)]; omega⟩
        obtain ⟨b1, hb1, z1⟩ : ∃ b1 : UInt8, UInt8.ofNat (128 + c / 4096 % 64) = b1 ∧ ((b1.toNat : Nat) : Int) = 128 + (a : Int) % 64 := ⟨_, rfl, by rw [of8 _ (by omega)]; omega⟩
        obtain ⟨b2, hb2, z2⟩ : ∃ b2 : UInt8, UInt8.ofNat (128 + c / 64 % 64) = b2 ∧ ((b2.toNat : Nat) : Int) = 128 + (k : Int) % 64 := ⟨_, rfl, by rw [of8 _ (by omega)]; omega⟩
        obtain ⟨b3, hb3, z3⟩ : ∃ b3 : UInt8, UInt8.ofNat (128 + c % 64) = b3 ∧ ((b3.toNat : Nat) : Int) = 128 + (c : Int) % 64 := ⟨_, rfl, by rw [of8 _ (by omega)]; omega⟩
        have hE : encL c = [b0, b1, b2, b3] := by
          unfold encL
          rw [if_neg h1, if_neg h2, if_neg h3, hb0, hb1, hb2, hb3]
        rw [hE]
        have hcv := conv_fresh w [b0, b1, b2, b3]
        simp only [Lib.byteCells, List.map_cons, List.map_nil, List.length_cons, List.length_nil, z0, z1, z2, z3] at hcv
        have hd1 : decide ((c : Int) < 128) = false := decide_eq_false (by omega)
        have hd2 : decide ((c : Int) < 2048) = false := decide_eq_false (by omega)
        have hd3 : decide ((c : Int) < 65536) = false := decide_eq_false (by omega)
        clear hE hb0 hb1 hb2 hb3 z0 z1 z2 z3 h1 h2 h3
        go_enter Tryz.func146, Tryz.ntmps146
        go_wp2
        go_ret
        exact ⟨rfl, (Below.refl _ _).alloc (Nat.le_refl _) _⟩
end Go.Proofs.YtgaddifabjoliaaGreatDoor
