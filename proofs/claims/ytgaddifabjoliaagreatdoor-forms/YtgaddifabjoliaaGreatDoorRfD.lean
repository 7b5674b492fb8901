import Derived.Test.YtgaddifabjoliaaGreatDoorRfC
import Derived.Laws.AppendOwn
import Derived.Maps.AppendAt
import Derived.Laws.OwnMore
import Derived.Test.YtgaddifabjoliaaGreatDoorRefNm
import Derived.Test.YtgaddifabjoliaaGreatDoorRefNp
namespace Go.Proofs.YtgaddifabjoliaaGreatDoor
open Go.RowKit

/-! ### What sees answers, told by the text that is left -/
theorem skip_at (s : ByteArray) (i : Nat) : s.data.toList.drop (i + blanksAt s i) = skipB (s.data.toList.drop i) := by
  unfold blanksAt skipB
  rw [← List.drop_drop]
  generalize s.data.toList.drop i = l
  induction l with
  | nil => rfl
  | cons c l ih =>
    by_cases h : isBlank c = true
    · rw [List.takeWhile_cons_of_pos h, List.dropWhile_cons_of_pos h, List.length_cons, List.drop_succ_cons, ih]
    · rw [List.takeWhile_cons_of_neg h, List.dropWhile_cons_of_neg h]
      rfl
theorem saw_one (s : ByteArray) (i : Nat) (c : UInt8) (hi : i ≤ s.size) :
    (saw s i false ⟨#[c]⟩ = true ∧ skipB (s.data.toList.drop i) = c :: s.data.toList.drop (sawTo s i false ⟨#[c]⟩) ∧ sawTo s i false ⟨#[c]⟩ ≤ s.size ∧ i < sawTo s i false ⟨#[c]⟩) ∨
    (saw s i false ⟨#[c]⟩ = false ∧ (∀ q, skipB (s.data.toList.drop i) ≠ c :: q) ∧ sawTo s i false ⟨#[c]⟩ = i + blanksAt s i) := by
  have hb := blanks_le s i hi
  have him : i ≤ i + blanksAt s i := Nat.le_add_right _ _
  have hk := skip_at s i
  have hd : saw s i false ⟨#[c]⟩ = ([c] : Bytes).isPrefixOf (s.data.toList.drop (i + blanksAt s i)) := rfl
  have ht : sawTo s i false ⟨#[c]⟩ = i + blanksAt s i + if saw s i false ⟨#[c]⟩ then 1 else 0 := rfl
  generalize i + blanksAt s i = m at *
  by_cases hm : m < s.size
  · rw [drop_cons s m hm, prefix_one] at hd
    rw [drop_cons s m hm] at hk
    by_cases e : c = s[m]
    · left
      rw [show (c == s[m]) = true by simpa using e] at hd
      rw [hd, if_pos rfl] at ht
      refine ⟨hd, ?_, by omega, ?_⟩
      · rw [ht, ← hk, e]
      · omega
    · right
      rw [show (c == s[m]) = false by simpa using e] at hd
      rw [hd, if_neg (by decide)] at ht
      refine ⟨hd, fun q hq => ?_, ht⟩
      rw [← hk] at hq
      exact e (List.cons.inj hq).1.symm
  · right
    rw [drop_far s m (by omega)] at hd hk
    have hd' : saw s i false ⟨#[c]⟩ = false := hd
    rw [hd', if_neg (by decide)] at ht
    exact ⟨hd', fun q hq => (by rw [← hk] at hq; cases hq), ht⟩

/-- A name and its colon. -/
def nameE (l : Bytes) : Option (Bytes × Bytes) := match skipB l with
  | [] => none
  | c :: q => if c = 34 then (match textE q with
    | none => none
    | some (t, r) => match skipB r with
      | [] => none
      | c2 :: r2 => if c2 = 58 then some (t, r2) else none) else none
theorem member_name {α : Type} (R : Bytes → Option (α × Bytes)) (s : Bytes) : memberR quotedR R s = match nameE s with
    | none => none
    | some (t, r) => (R r).map fun z => ((t, z.1), z.2) := by
  unfold nameE
  cases hs : skipB s with
  | nil => exact member_no R s (fun q h => by rw [hs] at h; cases h)
  | cons c q =>
    simp only
    by_cases h : c = 34
    · subst h
      rw [if_pos rfl]
      cases ht : textE q with
      | none => exact member_text R s q hs ht
      | some y =>
        obtain ⟨t, r⟩ := y
        simp only
        cases hr : skipB r with
        | nil => exact member_colon R s q t r hs ht (fun r2 h2 => by rw [hr] at h2; cases h2)
        | cons c2 r2 =>
          simp only
          by_cases h2 : c2 = 58
          · subst h2
            rw [if_pos rfl]
            exact member_some R s q t r r2 hs ht hr
          · rw [if_neg h2]
            exact member_colon R s q t r hs ht (fun r3 h3 => by rw [hr] at h3; exact h2 (List.cons.inj h3).1)
    · rw [if_neg h]
      exact member_no R s (fun r h3 => by rw [hs] at h3; exact h (List.cons.inj h3).1)

set_option maxHeartbeats 1000000 in
theorem text_bad (r : Nat) (s : ByteArray) (i : Nat) (w : World) (h : Rd w r s i true) :
    Calls Tryz.prog 39 #[.pointer (some ⟨r, 0, none⟩)] w fun e w' => e = .returned (.string ⟨#[]⟩) ∧ w' = w := by
  obtain ⟨⟨c0, c1, c2⟩, cf, cl⟩ := h.cells
  clear h
  go_enter Tryz.func39, Tryz.ntmps39
  go_wp2
  go_loopw [] (fun wr => wr = w) (fun _ => 0)
  case atStart => rfl
  case round =>
    subst hrel
    go_wp2
    go_ret
    exact ⟨rfl, rfl⟩

/-! ### Names, one behind the other -/
def strs (ns : List Bytes) : List Value := ns.map fun t => .string ⟨t.toArray⟩
/-- Nothing but those blocks is turned. -/
def Kept (P : Nat → Prop) (w w' : World) : Prop := w'.os = w.os ∧ w'.tape = w.tape ∧ w'.output = w.output ∧ w.heap.size ≤ w'.heap.size ∧ ∀ k, k < w.heap.size → ¬ P k → w'.heap[k]? = w.heap[k]?
theorem Kept.refl (P : Nat → Prop) (w : World) : Kept P w w := ⟨rfl, rfl, rfl, Nat.le_refl _, fun _ _ _ => rfl⟩
theorem Kept.trans {P : Nat → Prop} {a b c : World} (h : Kept P a b) (k : Kept P b c) : Kept P a c :=
  ⟨k.1.trans h.1, k.2.1.trans h.2.1, k.2.2.1.trans h.2.2.1, Nat.le_trans h.2.2.2.1 k.2.2.2.1, fun i hi hn => (k.2.2.2.2 i (Nat.lt_of_lt_of_le hi h.2.2.2.1) hn).trans (h.2.2.2.2 i hi hn)⟩
theorem Kept.weak {P Q : Nat → Prop} {a b : World} (h : Kept P a b) (hq : ∀ k, P k → Q k) : Kept Q a b := ⟨h.1, h.2.1, h.2.2.1, h.2.2.2.1, fun k hk hn => h.2.2.2.2 k hk (fun hp => hn (hq k hp))⟩
theorem Own.kept {r : Nat} {a b : World} (h : Own r a b) {P : Nat → Prop} (hp : P r) : Kept P a b := ⟨h.os, h.tape, h.output, h.size, fun k hk hn => h.block k hk (fun e => hn (by rw [Option.some.inj e]; exact hp))⟩
theorem Kept.setCell {P : Nat → Prop} {a w : World} (h : Kept P a w) (p : Addr) (v : Value) (hp : P p.block ∨ a.heap.size ≤ p.block) : Kept P a (w.setCell p v) := by
  refine ⟨h.1, h.2.1, h.2.2.1, Nat.le_trans h.2.2.2.1 (by simp), fun k hk hn => ?_⟩
  rw [← h.2.2.2.2 k hk hn]
  refine Below.heap_setCell w p v k (fun e => ?_)
  rcases hp with hp | hp
  · exact hn (by rw [e]; exact hp)
  · omega
theorem Rd.kept {P : Nat → Prop} {w w' : World} {r : Nat} {s : ByteArray} {i : Nat} {bad : Bool} (h : Rd w r s i bad) (hk : Kept P w w') (hp : ¬ P r) : Rd w' r s i bad := by
  have hl := h.cells.2.2
  unfold Rd at *
  rw [hk.2.2.2.2 r hl hp]
  exact h
theorem boxV.kept {P : Nat → Prop} {o : Nat} {k : Int} {t : ByteArray} {l m : Value} {w w' : World} (h : boxV o k t l m w) (hk : Kept P w w') (hp : ¬ P o) : boxV o k t l m w' := by
  have hl := h.cells.2.2
  unfold boxV at *
  rw [hk.2.2.2.2 o hl hp]
  exact h
theorem boxV.names {o : Nat} {k : Int} {t : ByteArray} {l m : Value} {w : World} (h : boxV o k t l m w) (m' : Value) : boxV o k t l m' (w.setCell ⟨o, 3, none⟩ m') := by
  unfold boxV at *
  simp [World.setCell, Array.getElem?_modify, h]
theorem boxV.items {o : Nat} {k : Int} {t : ByteArray} {l m : Value} {w : World} (h : boxV o k t l m w) (l' : Value) : boxV o k t l' m (w.setCell ⟨o, 2, none⟩ l') := by
  unfold boxV at *
  simp [World.setCell, Array.getElem?_modify, h]
theorem boxV.kind {o : Nat} {k : Int} {t : ByteArray} {l m : Value} {w : World} (h : boxV o k t l m w) (k' : Int) : boxV o k' t l m (w.setCell ⟨o, 0, none⟩ (.int .u8 k')) := by
  unfold boxV at *
  simp [World.setCell, Array.getElem?_modify, h]
end Go.Proofs.YtgaddifabjoliaaGreatDoor

namespace Go.Proofs.YtgaddifabjoliaaGreatDoor
open Go.RowKit

/-- must, of one sign, and text: wherever the reader stands. -/
def MustSays (r : Nat) (s : ByteArray) (i : Nat) (bad : Bool) (c : UInt8) (w : World) (e : Ending) (w' : World) : Prop :=
  ∃ (j : Nat) (b : Bool), e = .returned (.tuple #[]) ∧ Own r w w' ∧ Rd w' r s j b ∧ j ≤ 4100 ∧ (b = true → bad = true ∨ ∀ q, skipB (s.data.toList.drop i) ≠ c :: q) ∧ (b = false → bad = false ∧ skipB (s.data.toList.drop i) = c :: s.data.toList.drop j ∧ j ≤ s.size ∧ i < j)
theorem must_any (r : Nat) (s : ByteArray) (i : Nat) (bad : Bool) (c : UInt8) (w : World) (h : Rd w r s i bad) (hi : i ≤ 4100) (hib : bad = false → i ≤ s.size) (hs : s.size ≤ 4000) :
    Calls Tryz.prog 42 #[.pointer (some ⟨r, 0, none⟩), .string ⟨#[c]⟩] w (MustSays r s i bad c w) := by
  refine (must_calls r s i bad ⟨#[c]⟩ w h (by omega) hs (show 1 ≤ 10 by decide) (show 0 < 1 by decide)).mono ?_
  rintro e w' ⟨rfl, ho, hr⟩
  cases bad with
  | true =>
    have e1 : saw s i true ⟨#[c]⟩ = false := rfl
    have e2 : sawTo s i true ⟨#[c]⟩ = i + blanksAt s i := rfl
    rw [e1, e2] at hr
    refine ⟨_, _, rfl, ho, hr, ?_, fun _ => Or.inl rfl, fun h => by cases h⟩
    by_cases hle : i ≤ s.size
    · have := blanks_le s i hle; omega
    · rw [blanks_far s i (by omega)]; omega
  | false =>
    rcases saw_one s i c (hib rfl) with ⟨h1, h2, h3, h4⟩ | ⟨h1, h2, h3⟩
    · rw [h1] at hr
      exact ⟨_, _, rfl, ho, hr, by omega, fun h => (by cases h), fun _ => ⟨rfl, h2, h3, h4⟩⟩
    · rw [h1, h3] at hr
      have := blanks_le s i (hib rfl)
      exact ⟨_, _, rfl, ho, hr, by omega, fun _ => Or.inr h2, fun h => by cases h⟩
def TextAny (r : Nat) (s : ByteArray) (i : Nat) (bad : Bool) (w : World) (e : Ending) (w' : World) : Prop :=
  ∃ (t : ByteArray) (j : Nat) (b : Bool), e = .returned (.string t) ∧ t.size ≤ 16400 ∧ Own r w w' ∧ Rd w' r s j b ∧ j ≤ 4100 ∧ (b = true → bad = true ∨ textE (s.data.toList.drop i) = none) ∧ (b = false → bad = false ∧ textE (s.data.toList.drop i) = some (t.data.toList, s.data.toList.drop j) ∧ j ≤ s.size ∧ i < j)
theorem text_any (r : Nat) (s : ByteArray) (i : Nat) (bad : Bool) (w : World) (h : Rd w r s i bad) (hi : i ≤ 4100) (hib : bad = false → i ≤ s.size) (hs : s.size ≤ 4000) :
    Calls Tryz.prog 39 #[.pointer (some ⟨r, 0, none⟩)] w (TextAny r s i bad w) := by
  cases bad with
  | true =>
    refine (text_bad r s i w h).mono ?_
    rintro e w' ⟨rfl, rfl⟩
    exact ⟨⟨#[]⟩, i, true, rfl, Nat.zero_le _, Own.refl _ _, h, hi, fun _ => Or.inl rfl, fun h => by cases h⟩
  | false =>
    refine (text_calls r s i w h (hib rfl) hs).mono ?_
    rintro e w' ⟨ho, ⟨hz, rfl, j, hj, hr⟩ | ⟨t, q, hz, hl, rfl, j, hj, hij, hq, hr⟩⟩
    · exact ⟨⟨#[]⟩, j, true, rfl, Nat.zero_le _, ho, hr, hj, fun _ => Or.inr hz, fun h => by cases h⟩
    · exact ⟨⟨t.toArray⟩, j, false, rfl, hl, ho, hr, by omega, fun h => (by cases h), fun _ => ⟨rfl, by rw [hz, hq], hj, hij⟩⟩

/-- What a member's name leaves. -/
def MemSays (r o : Nat) (s : ByteArray) (i : Nat) (K : Int) (l m : Value) (ns : List Bytes) (B : Nat) (w : World) (e : Ending) (w' : World) : Prop :=
  ∃ (t : Bytes) (j : Nat) (b : Bool) (m' : Value), e = .returned (.tuple #[]) ∧ Kept (fun k => k = r ∨ k = o ∨ m.ownBlock = some k) w w' ∧ Rd w' r s j b ∧ j ≤ 4100 ∧ boxV o K ⟨#[]⟩ l m' w' ∧
    w'.ownsRow B 9 1 m' (ns ++ [t]).length (strs (ns ++ [t])) ∧ (∀ g, m'.ownBlock = some g → m.ownBlock = some g ∨ w.heap.size ≤ g) ∧ t.length ≤ 16400 ∧
    (b = true → nameE (s.data.toList.drop i) = none ∨ ∃ t' q, nameE (s.data.toList.drop i) = some (t', q) ∧ t' ∈ ns) ∧ (b = false → nameE (s.data.toList.drop i) = some (t, s.data.toList.drop j) ∧ t ∉ ns ∧ j ≤ s.size ∧ i < j)

theorem name_ok {s : ByteArray} {i j1 j2 j3 : Nat} {t : Bytes} (h1 : skipB (s.data.toList.drop i) = 34 :: s.data.toList.drop j1) (h2 : textE (s.data.toList.drop j1) = some (t, s.data.toList.drop j2)) (h3 : skipB (s.data.toList.drop j2) = 58 :: s.data.toList.drop j3) : nameE (s.data.toList.drop i) = some (t, s.data.toList.drop j3) := by
  unfold nameE
  rw [h1]
  simp only
  rw [if_pos trivial, h2]
  simp only
  rw [h3]
  simp only
  rw [if_pos trivial]
theorem name_no1 {l : Bytes} (h : ∀ q, skipB l ≠ 34 :: q) : nameE l = none := by
  unfold nameE
  cases hs : skipB l with
  | nil => rfl
  | cons c q => simp only; rw [if_neg (fun e => h q (by rw [hs, e]))]
theorem name_no2 {l q : Bytes} (h1 : skipB l = 34 :: q) (h2 : textE q = none) : nameE l = none := by
  unfold nameE
  rw [h1]
  simp only
  rw [if_pos trivial, h2]
theorem name_no3 {l q t r : Bytes} (h1 : skipB l = 34 :: q) (h2 : textE q = some (t, r)) (h3 : ∀ q, skipB r ≠ 58 :: q) : nameE l = none := by
  unfold nameE
  rw [h1]
  simp only
  rw [if_pos trivial, h2]
  simp only
  cases hs : skipB r with
  | nil => rfl
  | cons c q => simp only; rw [if_neg (fun e => h3 q (by rw [hs, e]))]

theorem Tryz.info_string : (Tryz.prog.info? 9).map (fun i => (i.zero, i.size, i.bytes)) = some (some (.string ⟨#[]⟩), 1, 16) := by kernel_rfl
set_option maxRecDepth 100000 in
set_option maxHeartbeats 4000000 in
theorem member_calls (r o : Nat) (s : ByteArray) (i : Nat) (K : Int) (l m : Value) (ns : List Bytes) (B : Nat) (w : World) (h : Rd w r s i false) (hi : i ≤ s.size) (hs : s.size ≤ 4000) (hb : boxV o K ⟨#[]⟩ l m w) (hro : o ≠ r)
    (hm : w.ownsRow B 9 1 m ns.length (strs ns)) (hB : r < B ∧ o < B ∧ B ≤ w.heap.size) (hn : ns.length ≤ 4000) :
    Calls Tryz.prog 41 #[.pointer (some ⟨r, 0, none⟩), .pointer (some ⟨o, 0, none⟩)] w (MemSays r o s i K l m ns B w) := by
  obtain ⟨i0, hi0, hz0, hz1, hz2⟩ := info_parts Tryz.info_string
  have HBX := hide hb
  have HMR := hide hm
  have HM1 := hide (must_any r s i false 34 w h (by omega) (fun _ => hi) hs)
  clear h hb hm
  go_enter Tryz.func41, Tryz.ntmps41
  go_wp2_with (go_at_call 42; refine (unhide HM1).mono ?_)
  intro e w1 hm1
  obtain ⟨j1, b1, rfl, ho1, hr1, hj1, ht1, hf1⟩ := hm1
  have HT1 := hide ht1
  have HF1 := hide hf1
  have HT := hide (text_any r s j1 b1 w1 hr1 hj1 (fun e => (hf1 e).2.2.1) hs)
  have HO1 := hide ho1
  clear HM1 ht1 hf1 hr1 ho1
  go_wp2_with (go_at_call 39; refine (unhide HT).mono ?_)
  intro e w2 hm2
  obtain ⟨t, j2, b2, rfl, htl, ho2, hr2, hj2, ht2, hf2⟩ := hm2
  have HT2 := hide ht2
  have HF2 := hide hf2
  have HM3 := hide (must_any r s j2 b2 58 w2 hr2 hj2 (fun e => (hf2 e).2.2.1) hs)
  have HO2 := hide ((unhide HO1).trans ho2)
  clear HT ht2 hf2 hr2 ho2 HO1
  go_wp2_with (go_at_call 42; refine (unhide HM3).mono ?_)
  intro e w3 hm3
  obtain ⟨j3, b3, rfl, ho3, hr3, hj3, ht3, hf3⟩ := hm3
  have hO3 : Own r w w3 := (unhide HO2).trans ho3
  have HBAD := hide (show b3 = true → nameE (s.data.toList.drop i) = none from fun e => by
    rcases ht3 e with h | h
    · rcases unhide HT2 h with h | h
      · rcases unhide HT1 h with h | h
        · cases h
        · exact name_no1 h
      · cases hb1 : b1 with
        | true => rcases unhide HT1 hb1 with h | h; cases h; exact name_no1 h
        | false => exact name_no2 (unhide HF1 hb1).2.1 h
    · cases hb1 : b1 with
      | true => rcases unhide HT1 hb1 with h | h; cases h; exact name_no1 h
      | false =>
        cases hb2 : b2 with
        | true => rcases unhide HT2 hb2 with h | h; rw [hb1] at h; cases h; exact name_no2 (unhide HF1 hb1).2.1 h
        | false => exact name_no3 (unhide HF1 hb1).2.1 (unhide HF2 hb2).2.1 h)
  have HGOOD := hide (show b3 = false → nameE (s.data.toList.drop i) = some (t.data.toList, s.data.toList.drop j3) ∧ j3 ≤ s.size ∧ i < j3 from fun e => by
    have g3 := hf3 e
    have g2 := unhide HF2 g3.1
    have g1 := unhide HF1 g2.1
    exact ⟨name_ok g1.2.1 g2.2.1 g3.2.1, g3.2.2.1, by omega⟩)
  have HR3 := hide hr3
  have HO3 := hide hO3
  have HB3 := hide ((unhide HBX).own hO3 hro)
  have HM := hide (owns_stays (unhide HMR) (fun g hg hlt => hO3.block g hlt (fun e => by have := (unhide HMR).lt g hg; have := Option.some.inj e; omega)))
  have hsz := hO3.size
  clear HM3 ht3 hf3 hr3 ho3 HO2 HT1 HF1 HT2 HF2 HBX HMR hO3
  go_wp2
  go_loopw [5] (fun k wr => ∃ (n : Nat) (b : Bool), k = .int .i64 (n : Int) ∧ n ≤ ns.length ∧ Hid (Own r w wr ∧ Rd wr r s j3 b ∧ boxV o K ⟨#[]⟩ l m wr ∧ wr.ownsRow B 9 1 m ns.length (strs ns)) ∧ Hid (b = (b3 || decide (t.data.toList ∈ ns.take n)))) (fun k _ => ns.length - (intOf k).toNat)
  case atStart => exact ⟨0, b3, rfl, Nat.zero_le _, ⟨unhide HO3, unhide HR3, unhide HB3, unhide HM⟩, by show b3 = _; simp⟩
  case round =>
    obtain ⟨n, b, rfl, hn1, HI, HBB⟩ := hrel
    obtain ⟨ho, hr, hbx, hmr⟩ := unhide HI
    have HO := hide ho
    have HR := hide hr
    have HBX := hide hbx
    have HMR := hide hmr
    obtain ⟨⟨c0, c1, c2⟩, cf, cl⟩ := hr.cells
    obtain ⟨⟨d0, d1, d2, d3⟩, df, dl⟩ := hbx.cells
    have hszr := ho.size
    clear HI ho hr hbx HO3 HR3 HB3 HM
    by_cases hlt : n < ns.length
    · obtain ⟨g, cap, cur, rfl, hBg, _⟩ : ∃ g cap cur, m = .slice (some ⟨g, 0, none⟩) ns.length cap ∧ B ≤ g ∧ wr.heap[g]? = some (.cells cur 9 (0, 0)) := by
        rcases hmr.2 with ⟨_, h0⟩ | ⟨g, cap, cur, e1, e2, e3, _⟩
        · omega
        · exact ⟨g, cap, cur, e1, e2, e3⟩
      obtain ⟨x, hx⟩ : ∃ x : ByteArray, x = ⟨(ns[n]).toArray⟩ := ⟨_, rfl⟩
      have hcell : wr.cell? ⟨g, n, none⟩ = some (.string x) := by
        rw [hmr.cellAt n (by omega), hx]
        unfold strs
        rw [List.getElem?_map, List.getElem?_eq_getElem hlt]
        rfl
      have hse : (x.toList == t.toList) = decide (ns[n] = t.data.toList) := by
        rw [ByteArray.toList_eq, ByteArray.toList_eq, hx]
        by_cases h : ns[n] = t.data.toList
        · rw [decide_eq_true h, h]; simp
        · rw [decide_eq_false h, beq_eq_false_iff_ne]; exact h
      have htk : (decide (t.data.toList ∈ ns.take (n + 1)) : Bool) = (decide (t.data.toList ∈ ns.take n) || decide (ns[n] = t.data.toList)) := by
        rw [List.take_succ_eq_append_getElem hlt, Bool.eq_iff_iff]
        simp only [decide_eq_true_eq, Bool.or_eq_true, List.mem_append, List.mem_singleton]
        rw [eq_comm (a := t.data.toList)]
      clear hx
      have HTK := hide htk
      clear htk hmr
      by_cases heq : ns[n] = t.data.toList
      · rw [decide_eq_true heq] at hse
        have HEQ := hide heq
        clear heq
        go_wp2
        go_roundw
        case rel =>
          refine ⟨n + 1, true, by go_num, by omega, ⟨(unhide HO).setCell 2 _, (unhide HR).spoil true, (unhide HBX).own ((Own.refl r _).setCell 2 _) hro, ownsRow_setCell_other (unhide HMR) (a := ⟨r, 2, none⟩) (fun e => by have := Option.some.inj e; simp at this; omega) _⟩, ?_⟩
          show true = _
          rw [unhide HTK, decide_eq_true (unhide HEQ)]
          simp
        case measure => simp [intOf]; omega
      · rw [decide_eq_false heq] at hse
        have HEQ := hide heq
        clear heq
        go_wp2
        go_roundw
        case rel =>
          refine ⟨n + 1, b, by go_num, by omega, ⟨unhide HO, unhide HR, unhide HBX, unhide HMR⟩, ?_⟩
          show b = _
          rw [unhide HTK, decide_eq_false (unhide HEQ), unhide HBB, Bool.or_false]
        case measure => simp [intOf]; omega
    · have hne : n = ns.length := by omega
      have hall : ns.take n = ns := List.take_of_length_le (by omega)
      rw [hall] at HBB
      clear hall
      obtain ⟨ma, mp, rfl⟩ : ∃ ma mp, m = .slice ma ns.length mp := by
        rcases hmr.2 with ⟨e, h0⟩ | ⟨g, cap, cur, e1, _⟩
        · exact ⟨none, 0, by rw [e, h0]⟩
        · exact ⟨_, _, e1⟩
      have hown1 := hmr.alloc (.cells #[.string t] 9)
      have hBr : B ≤ wr.heap.size := by omega
      clear hmr
      go_wp2_with (at_builtin; refine wpList_append_own_at _ rfl _ _ 35 rfl B 9 i0 (.string ⟨#[]⟩) 1 16 Tryz.underlying35 hi0 hz0 hz1 hz2 rfl (by decide) _ _ _ rfl hown1 ⟨wr.heap.size, 0, none⟩ 1 1 [.string t] rfl rfl ?c1 ?c2 ?c3 ?c4 ?c5 ?_)
      case c1 => exact cell_one_new wr (.string t) _
      case c2 => intro y hy; simp at hy; subst hy; rfl
      case c3 => unfold maxLen; omega
      case c4 => omega
      case c5 => simp; omega
      intro v' w2 hown' hgrow hnn hat
      obtain ⟨va, vl, vp, rfl⟩ := slice_of hown'
      have hlm := hown1.lt
      have hkw : Kept (fun k => k = r ∨ k = o ∨ (Value.slice ma ns.length mp).ownBlock = some k) w w2 := by
        refine ((unhide HO).kept (Or.inl rfl)).trans ((((Own.refl r wr).alloc _).kept (Or.inl rfl)).trans ⟨hgrow.os, hgrow.tape, hgrow.output, hgrow.size, fun k hk hnp => hgrow.block k hk (fun e => hnp (Or.inr (Or.inr e.symm)))⟩)
      have hk2 : Kept (fun k => (Value.slice ma ns.length mp).ownBlock = some k) wr w2 := by
        refine ⟨hgrow.os, hgrow.tape, hgrow.output, Nat.le_trans (by simp) hgrow.size, fun k hk hnp => ?_⟩
        rw [hgrow.block k (by simp; omega) (fun e => hnp e.symm), Below.heap_alloc _ _ _ hk]
      have hnr : ¬ (Value.slice ma ns.length mp).ownBlock = some r := fun e => by have := (hlm r e).1; omega
      have hno : ¬ (Value.slice ma ns.length mp).ownBlock = some o := fun e => by have := (hlm o e).1; omega
      have hb2 := (unhide HBX).kept hk2 hno
      have hr2 := (unhide HR).kept hk2 hnr
      have HB2 := hide hb2
      have HR2 := hide hr2
      have HK := hide hkw
      have HOW := hide hown'
      have HAT := hide (show ∀ g, (Value.slice va vl vp).ownBlock = some g → (Value.slice ma ns.length mp).ownBlock = some g ∨ w.heap.size ≤ g from fun g hg => by
        rcases hat with e | e
        · exact Or.inl (e ▸ hg)
        · rw [e] at hg
          simp at hg
          exact Or.inr (by omega))
      clear c0 c1 c2 cf cl d0 d1 d2 d3 df dl
      obtain ⟨⟨d0, d1, d2, d3⟩, df, dl⟩ := hb2.cells
      clear hb2 hr2 hkw hk2 hown' hgrow hnn hat hown1 hlm
      go_wp2
      go_end0
      have hlen : (ns ++ [t.data.toList]).length = ns.length + 1 := by simp
      have hstr : strs (ns ++ [t.data.toList]) = strs ns ++ [.string t] := by
        unfold strs
        rw [List.map_append]
        rfl
      refine ⟨t.data.toList, j3, b, .slice va vl vp, rfl, (unhide HK).setCell _ _ (Or.inl (Or.inr (Or.inl rfl))), (unhide HR2).apart _ _ hro, hj3, (unhide HB2).names _, ?_, unhide HAT, htl, fun e => ?_, fun e => ?_⟩
      · rw [hlen, hstr]
        exact ownsRow_setCell_below (unhide HOW) (a := ⟨o, 3, none⟩) (by show o < B; omega) _
      · have hbb : b = (b3 || decide (t.data.toList ∈ ns)) := unhide HBB
        rw [e] at hbb
        cases h3 : b3 with
        | true => exact Or.inl (unhide HBAD h3)
        | false =>
          rw [h3, Bool.false_or] at hbb
          exact Or.inr ⟨_, _, (unhide HGOOD h3).1, of_decide_eq_true hbb.symm⟩
      · have hbb : b = (b3 || decide (t.data.toList ∈ ns)) := unhide HBB
        rw [e] at hbb
        cases h3 : b3 with
        | true => rw [h3] at hbb; cases hbb
        | false =>
          rw [h3, Bool.false_or] at hbb
          have hg := unhide HGOOD h3
          exact ⟨hg.1, of_decide_eq_false hbb.symm, hg.2.1, hg.2.2⟩
end Go.Proofs.YtgaddifabjoliaaGreatDoor

namespace Go.Proofs.YtgaddifabjoliaaGreatDoor
open Go.RowKit

/-! ### Values as the document's answer has them -/
def leafX : Leaf → Value
  | .inl none => valV 119 ⟨#[110, 117, 108, 108]⟩ nilV nilV
  | .inl (some true) => valV 119 ⟨#[116, 114, 117, 101]⟩ nilV nilV
  | .inl (some false) => valV 119 ⟨#[102, 97, 108, 115, 101]⟩ nilV nilV
  | .inr (.inl n) => valV 110 ⟨(Lib.itoa n).toArray⟩ nilV nilV
  | .inr (.inr t) => valV 115 ⟨t.toArray⟩ nilV nilV
def repLeafX : Rep Leaf := { rel := fun _ _ x v => v = leafX x, shape := fun _ => True, anti := fun h _ => h, stays := fun h _ => h, inside := fun h => h }
def repNames : Rep (List Bytes) :=
  { rel := fun F w ns v => w.ownsRow 0 9 1 v ns.length (strs ns) ∧ ∀ g, v.ownBlock = some g → F g
    shape := fun _ => True
    anti := fun h hF => ⟨h.1, fun g hg => hF g (h.2 g hg)⟩
    stays := fun h ha => ⟨owns_stays h.1 fun g hg hlt => ha.2 g (h.2 g hg) hlt, h.2⟩
    inside := fun h => ⟨h.1, fun g hg => ⟨h.2 g hg, (h.1.lt g hg).2⟩⟩ }
abbrev repItemsX {α : Type} (rep : Rep α) : Rep (List α) := repList 4 37 4001 rep
def relX {α : Type} (rep : Rep α) (F : Nat → Prop) (w : World) : Node α → Value → Prop
  | .inl x, v => v = leafX x
  | .inr (.inl xs), v => ∃ l, v = valV 108 ⟨#[]⟩ l nilV ∧ (repItemsX rep).rel F w xs l
  | .inr (.inr ms), v => ∃ l m ms0, v = valV 111 ⟨#[]⟩ l m ∧ Once ms0 ∧ byName ms0 = ms ∧ (repItemsX rep).rel F w (ms0.map Prod.snd) l ∧ repNames.rel F w (ms0.map Prod.fst) m
def repNodeX {α : Type} (rep : Rep α) : Rep (Node α) :=
  { rel := relX rep
    shape := fun _ => True
    anti := fun {F F' w x v} h hF => by
      rcases x with x | xs | ms
      · exact h
      · obtain ⟨l, h1, h2⟩ := h
        exact ⟨l, h1, (repItemsX rep).anti h2 hF⟩
      · obtain ⟨l, m, ms0, h1, h2, h3, h4, h5⟩ := h
        exact ⟨l, m, ms0, h1, h2, h3, (repItemsX rep).anti h4 hF, repNames.anti h5 hF⟩
    stays := fun {F w w' x v} h ha => by
      rcases x with x | xs | ms
      · exact h
      · obtain ⟨l, h1, h2⟩ := h
        exact ⟨l, h1, (repItemsX rep).stays h2 ha⟩
      · obtain ⟨l, m, ms0, h1, h2, h3, h4, h5⟩ := h
        exact ⟨l, m, ms0, h1, h2, h3, (repItemsX rep).stays h4 ha, repNames.stays h5 ha⟩
    inside := fun {F w x v} h => by
      rcases x with x | xs | ms
      · exact h
      · obtain ⟨l, h1, h2⟩ := h
        exact ⟨l, h1, (repItemsX rep).inside h2⟩
      · obtain ⟨l, m, ms0, h1, h2, h3, h4, h5⟩ := h
        exact ⟨l, m, ms0, h1, h2, h3, (repItemsX rep).inside h4, repNames.inside h5⟩ }
def repX : (d : Nat) → Rep (JT d)
  | 0 => repLeafX
  | d + 1 => repNodeX (repX d)
theorem leaf_rep (d : Nat) (x : Leaf) (F : Nat → Prop) (w : World) : (repX d).rel F w (leafJ d x) (leafX x) := by
  cases d with
  | zero => exact rfl
  | succ d => exact rfl

/-! ### Values, by what stands at a place -/
theorem skip_idem (s : ByteArray) (i : Nat) (_hi : i ≤ s.size) : blanksAt s (i + blanksAt s i) = 0 := by
  have h := skip_at s i
  have hk : skipB (skipB (s.data.toList.drop i)) = skipB (s.data.toList.drop i) := skip_skip _
  unfold blanksAt at *
  rw [h]
  have h2 : (skipB (s.data.toList.drop i)).takeWhile isBlank = [] := by
    generalize s.data.toList.drop i = l
    unfold skipB
    induction l with
    | nil => rfl
    | cons c l ih =>
      by_cases hb : isBlank c = true
      · rw [List.dropWhile_cons_of_pos hb]; exact ih
      · rw [List.dropWhile_cons_of_neg hb, List.takeWhile_cons_of_neg hb]
  rw [h2]
  rfl
theorem val_blank (d : Nat) (l : Bytes) : valR d (skipB l) = valR d l := by rw [val_is, val_is, skip_skip]
theorem name_skip (l : Bytes) : nameE (skipB l) = nameE l := by unfold nameE; rw [skip_skip]
theorem prefix_drop {t l : Bytes} (h : t.isPrefixOf l = true) : l = t ++ l.drop t.length := by
  obtain ⟨r, hr⟩ := List.isPrefixOf_iff_prefix.1 h
  rw [← hr, List.drop_left' rfl]
theorem val_word (d : Nat) (l : Bytes) (t : Bytes) (x : Option Bool) (ht : (t, x) ∈ [([110, 117, 108, 108], none), ([116, 114, 117, 101], some true), ([102, 97, 108, 115, 101], some false)]) (h : t.isPrefixOf (skipB l) = true) : valR d l = some (leafJ d (.inl x), skipB ((skipB l).drop t.length)) := by
  have hp := prefix_drop h
  rw [val_is, hp]
  have hb : bareR d (t ++ (skipB l).drop t.length) = some (leafJ d (.inl x), (skipB l).drop t.length) := by
    have hs := simple_word t x ht ((skipB l).drop t.length)
    simp only [List.mem_cons, List.not_mem_nil, or_false, Prod.mk.injEq] at ht
    rcases ht with ⟨rfl, rfl⟩ | ⟨rfl, rfl⟩ | ⟨rfl, rfl⟩
    all_goals
      rw [List.cons_append] at hs ⊢
      rw [bare_simple d _ _ (by decide) (by decide), hs]
      rfl
  rw [hb, List.drop_left' rfl]
  rfl
theorem val_quote (d : Nat) (l q : Bytes) (h : skipB l = 34 :: q) : valR d l = (textE q).map fun y => (leafJ d (.inr (.inr y.1)), skipB y.2) := by
  rw [val_is, h, bare_simple d 34 q (by decide) (by decide), simple_quote]
  cases textE q <;> rfl
theorem val_number (d : Nat) (l q : Bytes) (c : UInt8) (h : skipB l = c :: q) (hc : isDig c = true ∨ c = 45) : valR d l = (numberR (c :: q)).map fun y => (leafJ d (.inr (.inl y.1)), skipB y.2) := by
  have h91 : c ≠ 91 ∧ c ≠ 123 := by
    rcases hc with hc | rfl
    · exact ⟨(by rintro rfl; cases hc), (by rintro rfl; cases hc)⟩
    · decide
  rw [val_is, h, bare_simple d c q h91.1 h91.2, simple_number c q hc]
  cases numberR (c :: q) <;> rfl
theorem val_none (d : Nat) (l : Bytes) (hw : ∀ t ∈ ([[110, 117, 108, 108], [116, 114, 117, 101], [102, 97, 108, 115, 101]] : List Bytes), t.isPrefixOf (skipB l) = false) (h34 : ∀ q, skipB l ≠ 34 :: q) (hn : ∀ c q, skipB l = c :: q → isDig c = false ∧ c ≠ 45)
    (hb : (∀ q, skipB l ≠ 91 :: q) ∧ (∀ q, skipB l ≠ 123 :: q) ∨ d = 0) : valR d l = none := by
  rw [val_is]
  cases hs : skipB l with
  | nil => rw [bare_nil]; rfl
  | cons c q =>
    rw [hs] at hw h34 hn hb
    have hnc := hn c q rfl
    have hsb : c = 91 ∨ c = 123 ∨ simpleR (c :: q) = none := by
      exact Or.inr (Or.inr (simple_bad c q hnc.1 hnc.2 (fun e => h34 q (by rw [e])) (hw _ (by simp)) (hw _ (by simp)) (hw _ (by simp))))
    by_cases h91 : c = 91 ∨ c = 123
    · rcases hb with hb | rfl
      · rcases h91 with rfl | rfl
        · exact absurd rfl (hb.1 q)
        · exact absurd rfl (hb.2 q)
      · rw [bare_flat c q h91]
        rfl
    · have h1 : c ≠ 91 := fun e => h91 (Or.inl e)
      have h2 : c ≠ 123 := fun e => h91 (Or.inr e)
      rcases hsb with e | e | e
      · exact absurd e h1
      · exact absurd e h2
      · rw [bare_simple d c q h1 h2, e]
        rfl
theorem val_list (d : Nat) (l q : Bytes) (h : skipB l = 91 :: q) : valR (d + 1) l = match listR [91] [93] (valR d) (91 :: q) with
    | none => none
    | some y => some (arrJ d y.1, skipB y.2) := by
  rw [val_is, h, node_list]
  cases listR [91] [93] (valR d) (91 :: q) <;> rfl
theorem val_object (d : Nat) (l q : Bytes) (h : skipB l = 123 :: q) : valR (d + 1) l = match listR [123] [125] (memberR quotedR (valR d)) (123 :: q) with
    | none => none
    | some y => if Once y.1 then some (objJ d (byName y.1), skipB y.2) else none := by
  rw [val_is, h, node_object]
  cases listR [123] [125] (memberR quotedR (valR d)) (123 :: q) with
  | none => rfl
  | some y =>
    simp only [Option.bind_some]
    by_cases ho : Once y.1
    · rw [if_pos ho, if_pos ho]; rfl
    · rw [if_neg ho, if_neg ho]; rfl
end Go.Proofs.YtgaddifabjoliaaGreatDoor

namespace Go.Proofs.YtgaddifabjoliaaGreatDoor

/-! ### One element more, of a list and of an object -/
theorem shrinks_val (d : Nat) : Shrinks (valR d) := fun s x r h => by have := cost_val d s x r h; omega
theorem shrinks_mem (d : Nat) : Shrinks (memberR quotedR (valR d)) := shrinks_both _ (shrinks_padded shrinks_quoted) (shrinks_after _ (shrinks_val d))
theorem elems_none {α : Type} {R : Bytes → Option (α × Bytes)} (hR : Shrinks R) {b : UInt8} (hb : b ≠ 44) {t : Bytes} (h : R t = none) : elemsE R b t = none := by
  rw [elems_is R hR b hb, h]
theorem elems_more {α : Type} {R : Bytes → Option (α × Bytes)} (hR : Shrinks R) {b : UInt8} (hb : b ≠ 44) {t q : Bytes} {x : α} (h : R t = some (x, 44 :: q)) : elemsE R b t = (elemsE R b q).map fun y => (x :: y.1, y.2) := by
  rw [elems_is R hR b hb, h]
  simp only [moreE, if_true]
theorem elems_end {α : Type} {R : Bytes → Option (α × Bytes)} (hR : Shrinks R) {b : UInt8} (hb : b ≠ 44) {t q : Bytes} {x : α} (h : R t = some (x, b :: q)) : elemsE R b t = some ([x], q) := by
  rw [elems_is R hR b hb, h]
  simp only [moreE]
  rw [if_neg hb, if_pos trivial]
  rfl
theorem elems_bad {α : Type} {R : Bytes → Option (α × Bytes)} (hR : Shrinks R) {b : UInt8} (hb : b ≠ 44) {t r : Bytes} {x : α} (h : R t = some (x, r)) (h1 : ∀ q, r ≠ 44 :: q) (h2 : ∀ q, r ≠ b :: q) : elemsE R b t = none := by
  rw [elems_is R hR b hb, h]
  cases r with
  | nil => rfl
  | cons c q =>
    simp only [moreE]
    rw [if_neg (fun e => h1 q (by rw [e])), if_neg (fun e => h2 q (by rw [e]))]
    rfl
/-- What the whole is read as, when xs have been read and t is left. -/
def wholeE {α : Type} (R : Bytes → Option (α × Bytes)) (b : UInt8) (xs : List α) (t : Bytes) : Option (List α × Bytes) := (elemsE R b t).map fun y => (xs ++ y.1, y.2)
theorem whole_start {α : Type} (R : Bytes → Option (α × Bytes)) (b : UInt8) (t : Bytes) : elemsE R b t = wholeE R b [] t := by
  unfold wholeE
  cases elemsE R b t <;> rfl
theorem whole_none {α : Type} {R : Bytes → Option (α × Bytes)} (hR : Shrinks R) {b : UInt8} (hb : b ≠ 44) {xs : List α} {t : Bytes} (h : R t = none) : wholeE R b xs t = none := by
  unfold wholeE
  rw [elems_none hR hb h]
  rfl
theorem whole_more {α : Type} {R : Bytes → Option (α × Bytes)} (hR : Shrinks R) {b : UInt8} (hb : b ≠ 44) {xs : List α} {t q : Bytes} {x : α} (h : R t = some (x, 44 :: q)) : wholeE R b xs t = wholeE R b (xs ++ [x]) q := by
  unfold wholeE
  rw [elems_more hR hb h]
  cases elemsE R b q with
  | none => rfl
  | some y => simp
theorem whole_end {α : Type} {R : Bytes → Option (α × Bytes)} (hR : Shrinks R) {b : UInt8} (hb : b ≠ 44) {xs : List α} {t q : Bytes} {x : α} (h : R t = some (x, b :: q)) : wholeE R b xs t = some (xs ++ [x], q) := by
  unfold wholeE
  rw [elems_end hR hb h]
  rfl
theorem whole_bad {α : Type} {R : Bytes → Option (α × Bytes)} (hR : Shrinks R) {b : UInt8} (hb : b ≠ 44) {xs : List α} {t r : Bytes} {x : α} (h : R t = some (x, r)) (h1 : ∀ q, r ≠ 44 :: q) (h2 : ∀ q, r ≠ b :: q) : wholeE R b xs t = none := by
  unfold wholeE
  rw [elems_bad hR hb h h1 h2]
  rfl
/-- What an object is, of its members. -/
def objZ (d : Nat) (T : Option (List (Named (JT d)) × Bytes)) : Option (JT (d + 1) × Bytes) := match T with
  | none => none
  | some y => if Once y.1 then some (objJ d (byName y.1), skipB y.2) else none
theorem once_not {α : Type} (ms rest : List (Named α)) (t : Bytes) (x : α) (h : t ∈ ms.map Prod.fst) : ¬ Once (ms ++ (t, x) :: rest) := by
  intro ho
  unfold Once at ho
  rw [List.map_append, List.map_cons, List.nodup_append] at ho
  exact ho.2.2 t h t (by simp) rfl
theorem once_more {α : Type} (ms : List (Named α)) (t : Bytes) (x : α) (ho : Once ms) (h : t ∉ ms.map Prod.fst) : Once (ms ++ [(t, x)]) := by
  unfold Once at *
  rw [List.map_append, List.nodup_append]
  refine ⟨ho, by simp, ?_⟩
  intro a ha b hb e
  simp at hb
  subst hb
  subst e
  exact h ha
theorem obj_name_none (d : Nat) {ms : List (Named (JT d))} {t : Bytes} (h : nameE t = none) : objZ d (wholeE (memberR quotedR (valR d)) 125 ms t) = none := by
  rw [whole_none (shrinks_mem d) (by decide) (by rw [member_name, h])]
  rfl
theorem obj_dup (d : Nat) {ms : List (Named (JT d))} {t n q : Bytes} (h : nameE t = some (n, q)) (hn : n ∈ ms.map Prod.fst) : objZ d (wholeE (memberR quotedR (valR d)) 125 ms t) = none := by
  have hm : memberR quotedR (valR d) t = (valR d q).map fun z => ((n, z.1), z.2) := by rw [member_name, h]
  unfold wholeE
  rw [elems_is _ (shrinks_mem d) 125 (by decide), hm]
  cases valR d q with
  | none => rfl
  | some z =>
    simp only [Option.map_some]
    cases moreE (memberR quotedR (valR d)) 125 z.2 with
    | none => rfl
    | some y =>
      show (if Once (ms ++ (n, z.1) :: y.1) then _ else none) = none
      rw [if_neg (once_not ms y.1 n z.1 hn)]
theorem obj_val_none (d : Nat) {ms : List (Named (JT d))} {t n q : Bytes} (h : nameE t = some (n, q)) (hv : valR d q = none) : objZ d (wholeE (memberR quotedR (valR d)) 125 ms t) = none := by
  rw [whole_none (shrinks_mem d) (by decide) (by rw [member_name, h]; simp only; rw [hv]; rfl)]
  rfl
theorem mem_some (d : Nat) {t n q r : Bytes} {x : JT d} (h : nameE t = some (n, q)) (hv : valR d q = some (x, r)) : memberR quotedR (valR d) t = some ((n, x), r) := by rw [member_name, h]; simp only; rw [hv]; rfl
end Go.Proofs.YtgaddifabjoliaaGreatDoor

namespace Go.Proofs.YtgaddifabjoliaaGreatDoor
open Go.RowKit

def Is4 (v : Value) : Prop := ∃ (k : Int) (t : ByteArray) (a : Option Addr) (l p : Nat) (a' : Option Addr) (l' p' : Nat), v = .agg #[.int .u8 k, .string t, .slice a l p, .slice a' l' p']
def ValSays (d r : Nat) (s : ByteArray) (i : Nat) (w : World) (e : Ending) (w' : World) : Prop :=
  ∃ (v : Value) (j : Nat) (b : Bool), e = .returned v ∧ Is4 v ∧ Own r w w' ∧ Rd w' r s j b ∧ j ≤ 4100 ∧ (b = true → valR d (s.data.toList.drop i) = none) ∧
    (b = false → ∃ x, valR d (s.data.toList.drop i) = some (x, skipB (s.data.toList.drop j)) ∧ j ≤ s.size ∧ i < j ∧ (repX d).rel (From w.heap.size) w' x v)
theorem is4_val (k : Int) (t : ByteArray) (a : Option Addr) (l p : Nat) (a' : Option Addr) (l' p' : Nat) : Is4 (valV k t (.slice a l p) (.slice a' l' p')) := ⟨k, t, a, l, p, a', l', p', rfl⟩
theorem is4_nil (k : Int) (t : ByteArray) : Is4 (valV k t nilV nilV) := is4_val _ _ _ _ _ _ _ _

set_option maxRecDepth 100000 in
set_option maxHeartbeats 1000000 in
theorem value_bad (r : Nat) (s : ByteArray) (i : Nat) (z : Int) (w : World) (h : Rd w r s i true) :
    Calls Tryz.prog 14 #[.pointer (some ⟨r, 0, none⟩), .int .i64 z] w fun e w' => e = .returned (valV 0 ⟨#[]⟩ nilV nilV) ∧ Own r w w' ∧ Rd w' r s i true := by
  have hrl := h.cells.2.2
  have hne : w.heap.size ≠ r := by omega
  have h1 := h.later ((Below.refl _ w).alloc (Nat.le_refl _) (.cells #[.int .u8 0, .string ⟨#[]⟩, nilV, nilV] 37))
  have HR := hide h1
  obtain ⟨⟨c0, c1, c2⟩, cf, cl⟩ := h.cells
  clear h h1
  go_enter Tryz.func14, Tryz.ntmps14
  go_wp2
  refine bodyPost_ret (v := valV 0 ⟨#[]⟩ nilV nilV) (by simp [results, Tryz.results14, go_sem, valV, *]) rfl ?_
  exact ⟨rfl, (Own.refl r w).alloc _, unhide HR⟩

theorem Own.cell {r : Nat} {a b : World} (h : Own r a b) (p : Addr) (hl : p.block < a.heap.size) (hr : p.block ≠ r) : b.cell? p = a.cell? p := by
  unfold World.cell?
  rw [h.block p.block hl (fun e => hr (Option.some.inj e))]

set_option maxRecDepth 100000 in
set_option maxHeartbeats 2000000 in
theorem number_end (r : Nat) (s : ByteArray) (i : Nat) (w : World) (h : Rd w r s i false) (hs : s.size ≤ 4000) (hf : i = s.size) :
    Calls Tryz.prog 40 #[.pointer (some ⟨r, 0, none⟩)] w (NumSays r s i w) := by
  have HL := hide (fun w1 (hb : Below w.heap.size w w1) => h.later hb)
  have HB := hide (fun w1 hr => blank_any r s i false w1 hr (by omega) hs)
  rw [blanks_far s i (by omega), Nat.add_zero] at HB
  have hrl := h.cells.2.2
  have hne : w.heap.size ≠ r := by omega
  have hbx : boxV w.heap.size 0 ⟨#[]⟩ nilV nilV (w.alloc (.cells #[.int .u8 0, .string ⟨#[]⟩, nilV, nilV] 37)) := by
    show (w.heap.push _)[_]? = _
    exact Array.getElem?_push_size
  have HBX := hide hbx
  have HNS := hide (show ¬ NumStart s i from fun ⟨h, _⟩ => by omega)
  have k1 : decide (i < s.size) = false := decide_eq_false (by omega)
  have k2 : decide ((i : Int) < (s.size : Int)) = false := decide_eq_false (by omega)
  have hii : i ≤ 4000 := by omega
  clear hbx h hf
  go_enter Tryz.func40, Tryz.ntmps40
  go_wp2_with (go_at_call 15; refine (unhide HB _ (unhide HL _ ((Below.refl _ _).alloc (Nat.le_refl _) _))).mono ?_; rintro e w1 ⟨rfl, ho, hr⟩; have HO := hide (((Own.refl r w).alloc _).trans ho); have HR := hide hr; have HX := hide ((unhide HBX).own ho hne); obtain ⟨⟨c0, c1, c2⟩, cf, cl⟩ := hr.cells; clear ho hr)
  go_quiet (fail)
  go_wp2
  clear c0 c1 c2 cf cl HB HL HBX
  go_loopw [6] (fun n wr => n = .int .i64 0 ∧ Hid (Own r w wr ∧ Rd wr r s i false ∧ boxV w.heap.size 0 ⟨#[]⟩ nilV nilV wr)) (fun _ _ => 0)
  case atStart => exact ⟨rfl, (unhide HO).drewN _, (unhide HR).drewN _, unhide HX⟩
  case round =>
    obtain ⟨rfl, HI⟩ := hrel
    obtain ⟨ho, hr, hb⟩ := unhide HI
    have HOO := hide ho
    have HRR := hide hr
    obtain ⟨⟨c0, c1, c2⟩, cf, cl⟩ := hr.cells
    obtain ⟨⟨b0, b1, b2, b3⟩, bf, bl⟩ := hb.cells
    clear ho hr hb HI HO HR HX
    have kpf : ((i : Int) == (i : Int)) = true := by rw [beq_iff_eq]
    go_wp2
    go_quiet (fail)
    go_wp2
    refine bodyPost_ret (v := .tuple #[valV 0 ⟨#[]⟩ nilV nilV, .bool false]) (by simp [results, Tryz.results40, go_sem, valV, *]) rfl ?_
    exact ⟨own4 ((unhide HOO).drewN _) _ _ _ _ (Nat.le_refl _), Or.inl ⟨unhide HNS, rfl, rd5 ((unhide HRR).drewN _) hne _ _ _ _⟩⟩
/-- number, where blanks have been passed. -/
theorem number_any (r : Nat) (s : ByteArray) (m : Nat) (w : World) (h : Rd w r s m false) (hm : m ≤ s.size) (hs : s.size ≤ 4000) (hb : blanksAt s m = 0) :
    Calls Tryz.prog 40 #[.pointer (some ⟨r, 0, none⟩)] w (NumSays r s m w) := by
  by_cases hl : m < s.size
  · by_cases h45 : s[m] = 45
    · exact number_minus r s m w h hm hs m (by omega) hl h45
    · exact number_plain r s m w h hm hs m (by omega) hl h45
  · exact number_end r s m w h hs (by omega)

/-- sees, ahead of a value. -/
theorem sees_at (r : Nat) (s : ByteArray) (i m : Nat) (t : ByteArray) (w : World) (p : Nat) (hm : i + blanksAt s i = m) (hi : i ≤ s.size) (hp : p = i ∨ p = m) (h : Rd w r s p false) (hs : s.size ≤ 4000) (ht : t.size ≤ 10) (h0 : 0 < t.size) :
    Calls Tryz.prog 38 #[.pointer (some ⟨r, 0, none⟩), .string t] w fun e w' => e = .returned (.bool (t.data.toList.isPrefixOf (s.data.toList.drop m))) ∧ Own r w w' ∧ Rd w' r s (m + if t.data.toList.isPrefixOf (s.data.toList.drop m) then t.size else 0) false := by
  have hb := blanks_le s i hi
  have hpm : p + blanksAt s p = m := by
    rcases hp with rfl | rfl
    · exact hm
    · rw [← hm, skip_idem s i hi]
      omega
  have h1 := sees_calls r s p false t w h (by omega) hs ht h0
  have e1 : saw s p false t = t.data.toList.isPrefixOf (s.data.toList.drop (p + blanksAt s p)) := rfl
  have e2 : sawTo s p false t = p + blanksAt s p + if saw s p false t then t.size else 0 := rfl
  rw [hpm] at e1 e2
  rw [e2, e1] at h1
  exact h1

def word3 : Nat → ByteArray
  | 0 => ⟨#[110, 117, 108, 108]⟩
  | 1 => ⟨#[116, 114, 117, 101]⟩
  | _ => ⟨#[102, 97, 108, 115, 101]⟩
def word3B : Nat → Option Bool
  | 0 => none
  | 1 => some true
  | _ => some false
theorem word3_mem (n : Nat) : ((word3 n).data.toList, word3B n) ∈ [(([110, 117, 108, 108] : Bytes), (none : Option Bool)), ([116, 114, 117, 101], some true), ([102, 97, 108, 115, 101], some false)] := by
  match n with
  | 0 => simp [word3, word3B]
  | 1 => simp [word3, word3B]
  | n + 2 => simp [word3, word3B]
theorem word3_leaf (n : Nat) : leafX (.inl (word3B n)) = valV 119 (word3 n) nilV nilV := by
  match n with
  | 0 => rfl
  | 1 => rfl
  | n + 2 => rfl
theorem word3_size (n : Nat) : (word3 n).size ≤ 10 ∧ 0 < (word3 n).size := by
  match n with
  | 0 => exact ⟨by decide, by decide⟩
  | 1 => exact ⟨by decide, by decide⟩
  | n + 2 => exact ⟨by show 5 ≤ 10; decide, by show 0 < 5; decide⟩

end Go.Proofs.YtgaddifabjoliaaGreatDoor

namespace Go.Proofs.YtgaddifabjoliaaGreatDoor
open Go.RowKit

theorem sees_hit (r : Nat) (s : ByteArray) (m : Nat) (c : UInt8) (hb : blanksAt s m = 0) (hl : m < s.size) (hc : s[m] = c) (hs : s.size ≤ 4000) : ∀ w, Rd w r s m false →
    Calls Tryz.prog 38 #[.pointer (some ⟨r, 0, none⟩), .string ⟨#[c]⟩] w fun e w' => e = .returned (.bool true) ∧ Own r w w' ∧ Rd w' r s (m + 1) false := by
  intro w h
  have h1 := sees_at r s m m ⟨#[c]⟩ w m (by omega) (by omega) (Or.inl rfl) h hs (show 1 ≤ 10 by decide) (show 0 < 1 by decide)
  have e : ([c] : Bytes).isPrefixOf (s.data.toList.drop m) = true := by rw [drop_cons s m hl, prefix_one, hc]; simp
  have e2 : (⟨#[c]⟩ : ByteArray).data.toList.isPrefixOf (s.data.toList.drop m) = true := e
  rw [e2] at h1
  exact h1
theorem sees_miss (r : Nat) (s : ByteArray) (m : Nat) (c : UInt8) (hb : blanksAt s m = 0) (hm : m ≤ s.size) (hc : ∀ h : m < s.size, s[m] ≠ c) (hs : s.size ≤ 4000) : ∀ w, Rd w r s m false →
    Calls Tryz.prog 38 #[.pointer (some ⟨r, 0, none⟩), .string ⟨#[c]⟩] w fun e w' => e = .returned (.bool false) ∧ Own r w w' ∧ Rd w' r s m false := by
  intro w h
  have h1 := sees_at r s m m ⟨#[c]⟩ w m (by omega) hm (Or.inl rfl) h hs (show 1 ≤ 10 by decide) (show 0 < 1 by decide)
  have e : ([c] : Bytes).isPrefixOf (s.data.toList.drop m) = false := by
    by_cases hl : m < s.size
    · rw [drop_cons s m hl, prefix_one, beq_eq_false_iff_ne]
      exact fun e => hc hl e.symm
    · rw [drop_far s m (by omega)]
      rfl
  have e2 : (⟨#[c]⟩ : ByteArray).data.toList.isPrefixOf (s.data.toList.drop m) = false := e
  rw [e2] at h1
  exact h1
theorem val_fine {d r : Nat} {s : ByteArray} {i j : Nat} {w w' : World} {v : Value} {x : JT d} (h4 : Is4 v) (ho : Own r w w') (hr : Rd w' r s j false) (hj : j ≤ s.size) (hs : s.size ≤ 4000) (hij : i < j) (hz : valR d (s.data.toList.drop i) = some (x, skipB (s.data.toList.drop j))) (hv : (repX d).rel (From w.heap.size) w' x v) : ValSays d r s i w (.returned v) w' :=
  ⟨v, j, false, rfl, h4, ho, hr, by omega, fun h => (by cases h), fun _ => ⟨x, hz, hj, hij, hv⟩⟩
theorem val_wrong {d r : Nat} {s : ByteArray} {i j : Nat} {w w' : World} {v : Value} (h4 : Is4 v) (ho : Own r w w') (hr : Rd w' r s j true) (hj : j ≤ 4100) (hz : valR d (s.data.toList.drop i) = none) : ValSays d r s i w (.returned v) w' :=
  ⟨v, j, true, rfl, h4, ho, hr, hj, fun _ => hz, fun h => (by cases h)⟩

/-- What goes on behind a bracket is told elsewhere. -/
def Opens (s : ByteArray) (m : Nat) : Prop := ∃ h : m < s.size, s[m] = 91 ∨ s[m] = 123

set_option maxRecDepth 100000 in
set_option maxHeartbeats 1500000 in
theorem value_leaf (d : Nat) (r : Nat) (s : ByteArray) (i : Nat) (w : World) (h : Rd w r s i false) (hi : i ≤ s.size) (hs : s.size ≤ 4000) (_hd : d ≤ 8) (hop : ¬ Opens s (i + blanksAt s i) ∨ d = 0) :
    Calls Tryz.prog 14 #[.pointer (some ⟨r, 0, none⟩), .int .i64 ((8 : Int) - d)] w (ValSays d r s i w) := by
  obtain ⟨m, hm⟩ : ∃ m, i + blanksAt s i = m := ⟨_, rfl⟩
  have hms : m ≤ s.size := by rw [← hm]; exact blanks_le s i hi
  have him : i ≤ m := by omega
  have hb0 : blanksAt s m = 0 := by rw [← hm]; exact skip_idem s i hi
  rw [hm] at hop
  have HL := hide (show skipB (s.data.toList.drop i) = s.data.toList.drop m by rw [← hm]; exact (skip_at s i).symm)
  have HB0 := hide hb0
  have HOP := hide hop
  have hrl := h.cells.2.2
  have hne : w.heap.size ≠ r := by omega
  have hrd1 := (h.later ((Below.refl _ w).alloc (Nat.le_refl _) (.cells #[.int .u8 0, .string ⟨#[]⟩, nilV, nilV] 37)))
  have hrd := hrd1.later ((Below.refl _ _).alloc (Nat.le_refl _) (.cells #[.string ⟨#[110, 117, 108, 108]⟩, .string ⟨#[116, 114, 117, 101]⟩, .string ⟨#[102, 97, 108, 115, 101]⟩] 9))
  have HRD := hide hrd
  have HM := hide hm
  have hbx : boxV w.heap.size 0 ⟨#[]⟩ nilV nilV (w.alloc (.cells #[.int .u8 0, .string ⟨#[]⟩, nilV, nilV] 37)) := by
    show (w.heap.push _)[_]? = _
    exact Array.getElem?_push_size
  have HBX := hide hbx
  obtain ⟨⟨c0, c1, c2⟩, cf, cl⟩ := h.cells
  clear h hrd hrd1 hm hbx hb0 hop
  go_enter Tryz.func14, Tryz.ntmps14
  go_wp2
  clear c0 c1 c2 cf cl
  go_loopw [6] (fun k wr => ∃ (n p : Nat), k = .int .i64 (n : Int) ∧ n ≤ 3 ∧ (p = i ∨ p = m) ∧ (0 < n → p = m) ∧ Hid (Own r w wr ∧ Rd wr r s p false ∧ boxV w.heap.size 0 ⟨#[]⟩ nilV nilV wr ∧ w.heap.size + 1 < wr.heap.size ∧ (∀ q, q < 3 → wr.cell? ⟨w.heap.size + 1, q, none⟩ = some (.string (word3 q)))) ∧ Hid (∀ q, q < n → (word3 q).data.toList.isPrefixOf (s.data.toList.drop m) = false)) (fun k _ => 3 - (intOf k).toNat)
  case atStart =>
    refine ⟨0, i, rfl, by omega, Or.inl rfl, fun h => by omega, ⟨((Own.refl r w).alloc _).alloc _, unhide HRD, (unhide HBX).own ((Own.refl r _).alloc _) hne, by simp, ?_⟩, fun q h => by omega⟩
    intro q hq
    rw [World.cell?_alloc_at _ _ _ _ (by simp)]
    match q, hq with
    | 0, _ => rfl
    | 1, _ => rfl
    | 2, _ => rfl
  case round =>
    obtain ⟨n, p, rfl, hn, hp, hpn, HI, HW⟩ := hrel
    obtain ⟨ho, hr, hbx, hsz, hcw⟩ := unhide HI
    have hszr := ho.size
    by_cases hlt : n < 3
    · have hcell := hcw n hlt
      have hw3 := word3_size n
      have HSE := hide (fun w1 hr => sees_at r s i m (word3 n) w1 p (unhide HM) hi hp hr hs hw3.1 hw3.2)
      have HO := hide ho
      have HR := hide hr
      have HB := hide hbx
      have HC := hide hcw
      cases hpre : (word3 n).data.toList.isPrefixOf (s.data.toList.drop m) with
      | true =>
        rw [hpre] at HSE
        have hple := (List.isPrefixOf_iff_prefix.1 hpre).length_le
        rw [List.length_drop, Array.length_toList, Array.length_toList] at hple
        have hple2 : m + (word3 n).size ≤ s.size := by
          have e1 : (word3 n).data.size = (word3 n).size := rfl
          have e2 : s.data.size = s.size := rfl
          omega
        have HZ := hide (show valR d (s.data.toList.drop i) = some (leafJ d (.inl (word3B n)), skipB (s.data.toList.drop (m + (word3 n).size))) by
          rw [val_word d (s.data.toList.drop i) _ _ (word3_mem n) (by rw [unhide HL]; exact hpre), unhide HL, List.drop_drop, Array.length_toList]
          rfl)
        clear ho hr hbx hcw HI hpre hple
        go_wp2_with (go_at_call 38; refine (unhide HSE _ (unhide HR)).mono ?_; rintro e w1 ⟨rfl, ho, hr⟩; have HO1 := hide ((unhide HO).trans ho); have HR1 := hide hr; have hcell1 : w1.cell? ⟨w.heap.size + 1, n, none⟩ = some (.string (word3 n)) := (ho.cell _ (by show w.heap.size + 1 < _; omega) (by show w.heap.size + 1 ≠ r; omega)).trans hcell; obtain ⟨⟨b0, b1, b2, b3⟩, bf, bl⟩ := ((unhide HB).own ho hne).cells; clear ho hr)
        refine bodyPost_ret (v := valV 119 (word3 n) nilV nilV) (by simp [results, Tryz.results14, go_sem, valV, *]) rfl ?_
        exact val_fine (j := m + (word3 n).size) (is4_nil _ _) (own4 (unhide HO1) _ _ _ _ (Nat.le_refl _)) (rd5 (unhide HR1) hne _ _ _ _) hple2 hs (by omega) (unhide HZ) (by rw [← word3_leaf]; exact leaf_rep _ _ _ _)
      | false =>
        rw [hpre] at HSE
        have HPRE := hide hpre
        clear ho hr hbx hcw HI hpre
        go_wp2_with (go_at_call 38; refine (unhide HSE _ (unhide HR)).mono ?_; rintro e w1 ⟨rfl, ho, hr⟩; have HO1 := hide ho; have HR1 := hide hr; clear ho hr)
        go_roundw
        case rel =>
          have ho := unhide HO1
          have hs1 := ho.size
          refine ⟨n + 1, m, by go_num, by omega, Or.inr rfl, fun _ => rfl, ⟨(unhide HO).trans ho, unhide HR1, (unhide HB).own ho hne, by omega, fun q hq => (ho.cell _ (by show w.heap.size + 1 < _; omega) (by show w.heap.size + 1 ≠ r; omega)).trans (unhide HC q hq)⟩, fun q hq => ?_⟩
          by_cases e : q = n
          · subst e; exact unhide HPRE
          · exact unhide HW q (by omega)
        case measure => simp [intOf]; omega
    · obtain rfl : n = 3 := by omega
      obtain rfl : m = p := (hpn (by omega)).symm
      have HO := hide ho
      have HR := hide hr
      have HB := hide hbx
      have HWN := hide (show ∀ t ∈ ([[110, 117, 108, 108], [116, 114, 117, 101], [102, 97, 108, 115, 101]] : List Bytes), t.isPrefixOf (skipB (s.data.toList.drop i)) = false from fun t ht => by
        rw [unhide HL]
        simp only [List.mem_cons, List.not_mem_nil, or_false] at ht
        rcases ht with rfl | rfl | rfl
        · exact unhide HW 0 (by omega)
        · exact unhide HW 1 (by omega)
        · exact unhide HW 2 (by omega))
      clear ho hr hbx hcw HI HW HRD HBX hpn hp
      by_cases h34 : ∃ h : m < s.size, s[m] = 34
      · obtain ⟨hl, hc⟩ := h34
        have HSE := hide (sees_hit r s m 34 (unhide HB0) hl hc hs)
        have HQ := hide (show skipB (s.data.toList.drop i) = 34 :: s.data.toList.drop (m + 1) by rw [unhide HL, drop_cons s m hl, hc])
        go_wp2_with (first | (go_at_call 38; refine (unhide HSE _ (unhide HR)).mono ?_; rintro e w1 ⟨rfl, ho, hr⟩; have HO1 := hide ((unhide HO).trans ho); have HR1 := hide hr; have HB1 := hide ((unhide HB).own ho hne); clear ho hr) | (go_at_call 39; refine (text_calls r s (m + 1) _ (unhide HR1) (by omega) hs).mono ?_))
        intro e w2 htx
        obtain ⟨ho2, ⟨hz, rfl, j, hj, hr2⟩ | ⟨t, q, hz, hl2, rfl, j, hj, hmj, hq, hr2⟩⟩ := htx
        · have HO2 := hide ((unhide HO1).trans ho2)
          have HR2 := hide hr2
          obtain ⟨⟨b0, b1, b2, b3⟩, bf, bl⟩ := ((unhide HB1).own ho2 hne).cells
          have HZ := hide (show valR d (s.data.toList.drop i) = none by rw [val_quote d _ _ (unhide HQ), hz]; rfl)
          clear ho2 hr2 hz
          go_wp2
          refine bodyPost_ret (v := valV 115 ⟨#[]⟩ nilV nilV) (by simp [results, Tryz.results14, go_sem, valV, *]) rfl ?_
          exact val_wrong (is4_nil _ _) (own4 (unhide HO2) _ _ _ _ (Nat.le_refl _)) (rd5 (unhide HR2) hne _ _ _ _) hj (unhide HZ)
        · have HO2 := hide ((unhide HO1).trans ho2)
          have HR2 := hide hr2
          obtain ⟨⟨b0, b1, b2, b3⟩, bf, bl⟩ := ((unhide HB1).own ho2 hne).cells
          have HZ := hide (show valR d (s.data.toList.drop i) = some (leafJ d (.inr (.inr t)), skipB (s.data.toList.drop j)) by rw [val_quote d _ _ (unhide HQ), hz, hq]; rfl)
          clear ho2 hr2 hz hq
          go_wp2
          refine bodyPost_ret (v := valV 115 ⟨t.toArray⟩ nilV nilV) (by simp [results, Tryz.results14, go_sem, valV, *]) rfl ?_
          exact val_fine (j := j) (is4_nil _ _) (own4 (unhide HO2) _ _ _ _ (Nat.le_refl _)) (rd5 (unhide HR2) hne _ _ _ _) hj hs (by omega) (unhide HZ) (leaf_rep d (.inr (.inr t)) _ _)
      · have HSE := hide (sees_miss r s m 34 (unhide HB0) hms (fun hl e => h34 ⟨hl, e⟩) hs)
        have H34 := hide h34
        clear h34
        go_wp2_with (first | (go_at_call 38; refine (unhide HSE _ (unhide HR)).mono ?_; rintro e w1 ⟨rfl, ho, hr⟩; have HO1 := hide ((unhide HO).trans ho); have HR1 := hide hr; have HB1 := hide ((unhide HB).own ho hne); clear ho hr) | (go_at_call 40; refine (number_any r s m _ (unhide HR1) hms hs (unhide HB0)).mono ?_))
        intro e w2 hnum
        obtain ⟨ho2, ⟨hns, rfl, hr2⟩ | ⟨hst, hz, t, j, hj, rfl, hr2⟩ | ⟨hst, nn, q, hz, rfl, j, hj, hmj, hq, hr2⟩⟩ := hnum
        · have HZ := hide (show valR d (s.data.toList.drop i) = none from val_none d _ (unhide HWN) (fun q h => by
              rw [unhide HL] at h
              by_cases hl : m < s.size
              · rw [drop_cons s m hl] at h
                exact unhide H34 ⟨hl, (List.cons.inj h).1⟩
              · rw [drop_far s m (by omega)] at h
                cases h) (fun c q h => by
              rw [unhide HL] at h
              by_cases hl : m < s.size
              · rw [drop_cons s m hl] at h
                rw [← (List.cons.inj h).1]
                exact ⟨by cases e : isDig s[m] with | false => rfl | true => exact absurd ⟨hl, Or.inr e⟩ hns, fun e => hns ⟨hl, Or.inl e⟩⟩
              · rw [drop_far s m (by omega)] at h
                cases h) (by
              rcases unhide HOP with ho | ho
              · refine Or.inl ⟨fun q h => ?_, fun q h => ?_⟩
                all_goals
                  rw [unhide HL] at h
                  by_cases hl : m < s.size
                  · rw [drop_cons s m hl] at h
                    first | exact ho ⟨hl, Or.inl (List.cons.inj h).1⟩ | exact ho ⟨hl, Or.inr (List.cons.inj h).1⟩
                  · rw [drop_far s m (by omega)] at h
                    cases h
              · exact Or.inr ho))
          have HRA := hide (hr2.later ((Below.refl _ _).alloc (Nat.le_refl _) (.cells #[.int .u8 0, .string ⟨#[]⟩, nilV, nilV] 37)))
          have HOA := hide (((unhide HO1).trans ho2).alloc (.cells #[.int .u8 0, .string ⟨#[]⟩, nilV, nilV] 37))
          have HBA := hide (((unhide HB1).own ho2 hne).own ((Own.refl r _).alloc (.cells #[.int .u8 0, .string ⟨#[]⟩, nilV, nilV] 37)) hne)
          clear ho2 hr2 hns HB1 HO1 HR1
          unfold valV
          by_cases h91 : ∃ h : m < s.size, s[m] = 91
          · obtain ⟨hl, hc⟩ := h91
            have hd0 : d = 0 := (unhide HOP).resolve_left (fun h => h ⟨hl, Or.inl hc⟩)
            have kd : ((8 : Int) - (d : Int) == 8) = true := by rw [beq_iff_eq]; omega
            have HS1 := hide (sees_hit r s m 91 (unhide HB0) hl hc hs)
            clear hc hd0
            go_wp2_with (go_at_call 38; refine (unhide HS1 _ (unhide HRA)).mono ?_; rintro e w3 ⟨rfl, ho, hr⟩; have HO3 := hide ((unhide HOA).trans ho); have HR3 := hide hr; have HB3 := hide ((unhide HBA).own ho hne); obtain ⟨⟨c0, c1, c2⟩, cf, cl⟩ := hr.cells; obtain ⟨⟨b0, b1, b2, b3⟩, bf, bl⟩ := (unhide HB3).cells; clear ho hr)
            refine bodyPost_ret (v := valV 0 ⟨#[]⟩ nilV nilV) (by simp [results, Tryz.results14, go_sem, valV, *]) rfl ?_
            exact val_wrong (j := m + 1) (is4_nil _ _) (own5 (unhide HO3) _ _ _ _ _ (Nat.le_refl _)) (rd5 ((unhide HR3).spoil true) hne _ _ _ _) (by omega) (unhide HZ)
          · have HS1 := hide (sees_miss r s m 91 (unhide HB0) hms (fun hl e => h91 ⟨hl, e⟩) hs)
            clear h91
            by_cases h123 : ∃ h : m < s.size, s[m] = 123
            · obtain ⟨hl, hc⟩ := h123
              have hd0 : d = 0 := (unhide HOP).resolve_left (fun h => h ⟨hl, Or.inr hc⟩)
              have kd : ((8 : Int) - (d : Int) == 8) = true := by rw [beq_iff_eq]; omega
              have HS2 := hide (sees_hit r s m 123 (unhide HB0) hl hc hs)
              clear hc hd0
              go_wp2_with (first | (go_at_call_of 38 (Value.string ⟨#[91]⟩); refine (unhide HS1 _ (unhide HRA)).mono ?_; rintro e w3 ⟨rfl, ho, hr⟩; have HO3 := hide ((unhide HOA).trans ho); have HR3 := hide hr; have HB3 := hide ((unhide HBA).own ho hne); obtain ⟨⟨c0, c1, c2⟩, cf, cl⟩ := hr.cells; obtain ⟨⟨b0, b1, b2, b3⟩, bf, bl⟩ := (unhide HB3).cells; clear ho hr) | (go_at_call_of 38 (Value.string ⟨#[123]⟩); refine (unhide HS2 _ (unhide HR3)).mono ?_; rintro e w4 ⟨rfl, ho, hr⟩; have HO4 := hide ((unhide HO3).trans ho); have HR4 := hide hr; have HB4 := hide ((unhide HB3).own ho hne); obtain ⟨⟨c0, c1, c2⟩, cf, cl⟩ := hr.cells; obtain ⟨⟨b0, b1, b2, b3⟩, bf, bl⟩ := (unhide HB4).cells; clear ho hr))
              refine bodyPost_ret (v := valV 0 ⟨#[]⟩ nilV nilV) (by simp [results, Tryz.results14, go_sem, valV, *]) rfl ?_
              exact val_wrong (j := m + 1) (is4_nil _ _) (own5 (unhide HO4) _ _ _ _ _ (Nat.le_refl _)) (rd5 ((unhide HR4).spoil true) hne _ _ _ _) (by omega) (unhide HZ)
            · have HS2 := hide (sees_miss r s m 123 (unhide HB0) hms (fun hl e => h123 ⟨hl, e⟩) hs)
              clear h123
              go_wp2_with (first | (go_at_call_of 38 (Value.string ⟨#[91]⟩); refine (unhide HS1 _ (unhide HRA)).mono ?_; rintro e w3 ⟨rfl, ho, hr⟩; have HO3 := hide ((unhide HOA).trans ho); have HR3 := hide hr; have HB3 := hide ((unhide HBA).own ho hne); obtain ⟨⟨c0, c1, c2⟩, cf, cl⟩ := hr.cells; obtain ⟨⟨b0, b1, b2, b3⟩, bf, bl⟩ := (unhide HB3).cells; clear ho hr) | (go_at_call_of 38 (Value.string ⟨#[123]⟩); refine (unhide HS2 _ (unhide HR3)).mono ?_; rintro e w4 ⟨rfl, ho, hr⟩; have HO4 := hide ((unhide HO3).trans ho); have HR4 := hide hr; have HB4 := hide ((unhide HB3).own ho hne); obtain ⟨⟨c0, c1, c2⟩, cf, cl⟩ := hr.cells; obtain ⟨⟨b0, b1, b2, b3⟩, bf, bl⟩ := (unhide HB4).cells; clear ho hr))
              refine bodyPost_ret (v := valV 0 ⟨#[]⟩ nilV nilV) (by simp [results, Tryz.results14, go_sem, valV, *]) rfl ?_
              exact val_wrong (j := m) (is4_nil _ _) (own5 (unhide HO4) _ _ _ _ _ (Nat.le_refl _)) (rd5 ((unhide HR4).spoil true) hne _ _ _ _) (by omega) (unhide HZ)
        · obtain ⟨hl, hc⟩ := hst
          have HO2 := hide ((unhide HO1).trans ho2)
          have HR2 := hide hr2
          have hb2 := (unhide HB1).own ho2 hne
          obtain ⟨⟨b0, b1, b2, b3⟩, bf, bl⟩ := hb2.cells
          have HZ := hide (show valR d (s.data.toList.drop i) = none by rw [val_number d _ _ s[m] (by rw [unhide HL, drop_cons s m hl]) hc.symm, ← drop_cons s m hl, hz]; rfl)
          clear ho2 hr2 hz hb2 hc
          unfold valV
          go_wp2
          refine bodyPost_ret (v := valV 110 t nilV nilV) (by simp [results, Tryz.results14, go_sem, valV, *]) rfl ?_
          exact val_wrong (is4_nil _ _) ((own4 (unhide HO2) _ _ _ _ (Nat.le_refl _)).alloc _) ((rd5 (unhide HR2) hne _ _ _ _).later ((Below.refl _ _).alloc (Nat.le_refl _) _)) hj (unhide HZ)
        · obtain ⟨hl, hc⟩ := hst
          have HO2 := hide ((unhide HO1).trans ho2)
          have HR2 := hide hr2
          obtain ⟨⟨b0, b1, b2, b3⟩, bf, bl⟩ := ((unhide HB1).own ho2 hne).cells
          have HZ := hide (show valR d (s.data.toList.drop i) = some (leafJ d (.inr (.inl nn)), skipB (s.data.toList.drop j)) by rw [val_number d _ _ s[m] (by rw [unhide HL, drop_cons s m hl]) hc.symm, ← drop_cons s m hl, hz, hq]; rfl)
          clear ho2 hr2 hz hc hq
          unfold valV
          go_wp2
          refine bodyPost_ret (v := valV 110 ⟨(Lib.itoa nn).toArray⟩ nilV nilV) (by simp [results, Tryz.results14, go_sem, valV, *]) rfl ?_
          exact val_fine (j := j) (is4_nil _ _) ((own4 (unhide HO2) _ _ _ _ (Nat.le_refl _)).alloc _) ((rd5 (unhide HR2) hne _ _ _ _).later ((Below.refl _ _).alloc (Nat.le_refl _) _)) hj hs (by omega) (unhide HZ) (leaf_rep d (.inr (.inl nn)) _ _)
end Go.Proofs.YtgaddifabjoliaaGreatDoor
