import Derived.Test.YtgaddifabjoliaaGreatDoorRfD
import Derived.Deep.AppendLies
import Derived.Test.YtgaddifabjoliaaGreatDoorRfC
import Derived.Test.YtgaddifabjoliaaGreatDoorFoA
namespace Go.Proofs.YtgaddifabjoliaaGreatDoor
open Go.RowKit

/-- Values, read one behind the other into a box. -/
def Rows4 (P : Nat → Prop) (d o : Nat) (l : Value) (xs : List (JT d)) (cs : List (List Value)) (w : World) : Prop :=
  (∃ F, (∀ k, F k → (o < k ∧ k < w.heap.size) ∧ ¬ P k) ∧ Elems 4 (repX d) F w xs cs ∧ ∀ g, l.ownBlock = some g → ¬ F g) ∧ w.ownsRow (o + 1) 37 4 l xs.length cs.flatten

theorem set_four (xs : List Value) (n : Nat) (hl : xs.length = n * 4) (z0 z1 z2 z3 c0 c1 c2 c3 : Value) :
    ((((xs ++ [z0, z1, z2, z3]).set (n * 4) c0).set (n * 4 + 1) c1).set (n * 4 + 2) c2).set (n * 4 + 3) c3 = xs ++ [c0, c1, c2, c3] := by
  rw [← hl]
  simp []

/-- What an append of one value, laid as a zero value and then stored, leaves. -/
theorem rows_more {P : Nat → Prop} {d o g cap lwr : Nat} {l : Value} {xs : List (JT d)} {cs : List (List Value)} {w5 w6 : World} {c0 c1 c2 c3 : Value}
    (hrow : Rows4 P d o l xs cs w5) (hP : ∀ k, P k → k < lwr) (hlw : ∀ k, l.ownBlock = some k → k < lwr) (hol : o < lwr) (hlw5 : lwr ≤ w5.heap.size)
    (hown : w6.ownsRow (o + 1) 37 4 (.slice (some ⟨g, 0, none⟩) (xs.length + 1) cap) (xs.length + 1) (cs.flatten ++ [.int .u8 0, .string ⟨#[]⟩, .slice none 0 0, .slice none 0 0]))
    (hk6 : Kept (fun k => l.ownBlock = some k) w5 w6) (_hsz : w5.heap.size + 2 ≤ w6.heap.size) (hat : l.ownBlock = some g ∨ g = w5.heap.size + 2) :
    let W := (((((w6.setCell ⟨g, xs.length * 4, none⟩ c0).setCell ⟨g, xs.length * 4 + 1, none⟩ c1).setCell ⟨g, xs.length * 4 + 2, none⟩ c2).setCell ⟨g, xs.length * 4 + 3, none⟩ c3).setCell ⟨o, 2, none⟩ (.slice (some ⟨g, 0, none⟩) (xs.length + 1) cap))
    Kept (fun k => k = o ∨ l.ownBlock = some k) w5 W ∧ (∀ K m, boxV o K ⟨#[]⟩ l m w5 → boxV o K ⟨#[]⟩ (.slice (some ⟨g, 0, none⟩) (xs.length + 1) cap) m W) ∧
    (∀ x, (repX d).rel (From lwr) w5 x (.agg #[c0, c1, c2, c3]) → Rows4 P d o (.slice (some ⟨g, 0, none⟩) (xs.length + 1) cap) (xs ++ [x]) (cs ++ [[c0, c1, c2, c3]]) W) := by
  intro W
  obtain ⟨⟨F, f1, f2, f3⟩, f4⟩ := hrow
  have hfl := (elems_length f2).2
  have hog : o ≠ g := by
    rintro rfl
    rcases hat with e | e
    · have := (f4.lt _ e).1; omega
    · omega
  have hg1 := hown.lt g rfl
  have hgc : (l.ownBlock = some g) ∨ w5.heap.size ≤ g := by
    rcases hat with e | e
    · exact Or.inl e
    · exact Or.inr (by omega)
  have hkW : Kept (fun k => k = o ∨ l.ownBlock = some k) w5 W := by
    have h0 := hk6.weak (Q := fun k => k = o ∨ l.ownBlock = some k) (fun k h => Or.inr h)
    have hp : (g = o ∨ l.ownBlock = some g) ∨ w5.heap.size ≤ g := hgc.elim (fun e => Or.inl (Or.inr e)) Or.inr
    exact ((((h0.setCell _ _ hp).setCell _ _ hp).setCell _ _ hp).setCell _ _ hp).setCell _ _ (Or.inl (Or.inl rfl))
  refine ⟨hkW, ?_, ?_⟩
  · intro K m hb
    have h6 := hb.kept hk6 (fun e => by have := (f4.lt _ e).1; omega)
    have h7 : ∀ (V : World) (j : Nat) (v : Value), boxV o K ⟨#[]⟩ l m V → boxV o K ⟨#[]⟩ l m (V.setCell ⟨g, j, none⟩ v) := fun V j v h => by
      unfold boxV at *
      rw [Below.heap_setCell V ⟨g, j, none⟩ v o hog]
      exact h
    exact (h7 _ _ _ (h7 _ _ _ (h7 _ _ _ (h7 _ _ _ h6)))).items _
  · intro x hx
    have hsW := hkW.2.2.2.1
    refine ⟨⟨fun k => F k ∨ (lwr ≤ k ∧ k < w5.heap.size), ?_, ?_, ?_⟩, ?_⟩
    · rintro k (hk | hk)
      · have := f1 k hk; exact ⟨⟨this.1.1, by omega⟩, this.2⟩
      · exact ⟨⟨by omega, by omega⟩, fun hp => by have := hP k hp; omega⟩
    · have ab : ∀ G : Nat → Prop, (∀ k, G k → k ≠ o ∧ l.ownBlock ≠ some k) → AboveF G w5 W := fun G hG => ⟨hsW, fun k hk hlt => hkW.2.2.2.2 k hlt (fun h => h.elim (hG k hk).1 (hG k hk).2)⟩
      refine elems_append (elems_anti (fun k hk => Or.inl hk) (elems_stays (ab F (fun k hk => ⟨by have := (f1 k hk).1; omega, fun e => f3 k e hk⟩)) f2)) ⟨?_, rfl, trivial⟩
      refine (repX d).anti (F := fun k => From lwr k ∧ k < w5.heap.size) ((repX d).stays ((repX d).inside hx) (ab _ (fun k hk => ⟨?_, fun e => ?_⟩))) (fun k hk => Or.inr hk)
      · have h1 : lwr ≤ k := hk.1
        omega
      · have h1 : lwr ≤ k := hk.1
        have := hlw k e
        omega
    · intro k hk hF
      obtain rfl : g = k := Option.some.inj hk
      rcases hF with hF | hF
      · rcases hat with e | e
        · exact f3 g e hF
        · have := (f1 g hF).1; omega
      · rcases hat with e | e
        · have := hlw g e; omega
        · omega
    · have h1 := ((((hown.stored (xs.length * 4) c0).1.stored (xs.length * 4 + 1) c1).1.stored (xs.length * 4 + 2) c2).1.stored (xs.length * 4 + 3) c3).1
      rw [set_four _ _ hfl] at h1
      have h2 := ownsRow_setCell_other h1 (a := ⟨o, 2, none⟩) (fun e => hog (Option.some.inj e).symm) (.slice (some ⟨g, 0, none⟩) (xs.length + 1) cap)
      have e1 : (xs ++ [x]).length = xs.length + 1 := by simp
      have e2 : (cs ++ [[c0, c1, c2, c3]]).flatten = cs.flatten ++ [c0, c1, c2, c3] := by simp
      rw [e1, e2]
      exact h2

/-- What is known behind an append of a zero value to a box's row. -/
structure AppF (o : Nat) (l : Value) (n : Nat) (zs : List Value) (w5 : World) (x0 x1 x2 x3 : Value) (g cap : Nat) (w6 : World) : Prop where
  kept : Kept (fun k => l.ownBlock = some k) w5 w6
  size : w5.heap.size + 2 ≤ w6.heap.size
  own : w6.ownsRow (o + 1) 37 4 (.slice (some ⟨g, 0, none⟩) (n + 1) cap) (n + 1) (zs ++ [.int .u8 0, .string ⟨#[]⟩, .slice none 0 0, .slice none 0 0])
  at' : l.ownBlock = some g ∨ g = w5.heap.size + 2
  ngo : o ≠ g
  ngx : w5.heap.size ≠ g
  q0 : w6.cell? ⟨g, n * 4, none⟩ = some (.int .u8 0)
  q1 : w6.cell? ⟨g, n * 4 + 1, none⟩ = some (.string ⟨#[]⟩)
  q2 : w6.cell? ⟨g, n * 4 + 2, none⟩ = some (.slice none 0 0)
  q3 : w6.cell? ⟨g, n * 4 + 3, none⟩ = some (.slice none 0 0)
  qf : ∀ j, w6.frozen? ⟨g, j, none⟩ = false
  of : ∀ j, w6.frozen? ⟨o, j, none⟩ = false
  s0 : w6.cell? ⟨o, 2, none⟩ = some l
  s1 : w6.cell? ⟨w5.heap.size, 0, none⟩ = some x0
  s2 : w6.cell? ⟨w5.heap.size, 1, none⟩ = some x1
  s3 : w6.cell? ⟨w5.heap.size, 2, none⟩ = some x2
  s4 : w6.cell? ⟨w5.heap.size, 3, none⟩ = some x3

theorem row_last {w : World} {B g cap n : Nat} {xs : List Value} (h : w.ownsRow B 37 4 (.slice (some ⟨g, 0, none⟩) (n + 1) cap) (n + 1) (xs ++ [.int .u8 0, .string ⟨#[]⟩, .slice none 0 0, .slice none 0 0])) (hl : xs.length = n * 4) :
    w.cell? ⟨g, n * 4, none⟩ = some (.int .u8 0) ∧ w.cell? ⟨g, n * 4 + 1, none⟩ = some (.string ⟨#[]⟩) ∧ w.cell? ⟨g, n * 4 + 2, none⟩ = some (.slice none 0 0) ∧ w.cell? ⟨g, n * 4 + 3, none⟩ = some (.slice none 0 0) ∧ ∀ j, w.frozen? ⟨g, j, none⟩ = false := by
  have hc : ∀ j, j < 4 → w.cell? ⟨g, n * 4 + j, none⟩ = ([.int .u8 0, .string ⟨#[]⟩, .slice none 0 0, .slice none 0 0] : List Value)[j]? := fun j hj => by
    rw [h.cellAt (n * 4 + j) (by omega), List.getElem?_append_right (by omega), show n * 4 + j - xs.length = j by omega]
  exact ⟨hc 0 (by omega), hc 1 (by omega), hc 2 (by omega), hc 3 (by omega), fun j => h.frozenAt j⟩
theorem Tryz.info_refValue : (Tryz.prog.info? 37).map (fun i => (i.zero, i.size, i.bytes)) = some (some (.agg #[.int .u8 0, .string ⟨#[]⟩, .slice none 0 0, .slice none 0 0]), 4, 72) := by kernel_rfl

/-- The append itself, at a step of a region that draws: W is w5 with two blocks more. -/
theorem step_more {ops : Array Oper} {op : Oper} {a : Act} {K : Act → World → Prop} {Q : Exit → Act → World → Prop} {E : Prop} {W : World} (hgd : op.guard = none) (s x : Operand)
    (ho : op.op = .call { callee := .builtin .append, args := #[s, x], argTypes := #[34, 34] })
    (o : Nat) (l : Value) (n : Nat) (zs : List Value) (w5 : World) (x0 x1 x2 x3 : Value) (hs : a.eval s = l) (hx : a.eval x = .slice (some ⟨w5.heap.size + 1, 0, none⟩) 1 1)
    (hWo : W.os = w5.os) (hWt : W.tape = w5.tape) (hWu : W.output = w5.output) (hWh : W.heap = ((w5.alloc (.cells #[x0, x1, x2, x3] 37)).alloc (.cells #[.int .u8 0, .string ⟨#[]⟩, .slice none 0 0, .slice none 0 0] 37)).heap)
    (hown : w5.ownsRow (o + 1) 37 4 l n zs) (hn : n ≤ 5000) (hol : o < w5.heap.size) (hvf : ∀ j, w5.frozen? ⟨o, j, none⟩ = false) (hv2 : w5.cell? ⟨o, 2, none⟩ = some l)
    (h : ∀ g cap w6, AppF o l n zs w5 x0 x1 x2 x3 g cap w6 → K (a.put op.dst (.slice (some ⟨g, 0, none⟩) (n + 1) cap)) w6) :
    if Region.wanted op (yielded ops a.tmps) = true then Oper.wp Tryz.prog op a W K Q else E := by
  obtain ⟨i0, hi0, hz1, hz2, hz3⟩ := info_parts Tryz.info_refValue
  have hsz : W.heap.size = w5.heap.size + 2 := by rw [hWh]; simp
  have hold : ∀ k, k < w5.heap.size → W.heap[k]? = w5.heap[k]? := fun k hk => by
    rw [hWh, Below.heap_alloc _ _ _ (by simp; omega), Below.heap_alloc _ _ _ hk]
  have hxb : W.heap[w5.heap.size]? = some (.cells #[x0, x1, x2, x3] 37 (0, 0)) := by
    rw [hWh, Below.heap_alloc _ _ _ (by simp)]
    exact heap_alloc_new w5 _
  have hzb : W.heap[w5.heap.size + 1]? = some (.cells #[.int .u8 0, .string ⟨#[]⟩, .slice none 0 0, .slice none 0 0] 37 (0, 0)) := by
    rw [hWh]
    have := heap_alloc_new (w5.alloc (.cells #[x0, x1, x2, x3] 37)) (.cells #[.int .u8 0, .string ⟨#[]⟩, .slice none 0 0, .slice none 0 0] 37)
    rw [show (w5.alloc (.cells #[x0, x1, x2, x3] 37)).heap.size = w5.heap.size + 1 by simp] at this
    exact this
  have hownW : W.ownsRow (o + 1) 37 4 l n zs := owns_stays hown (fun g _ hlt => hold g hlt)
  have hlo : l.ownBlock ≠ some o := fun e => by have := (hown.lt _ e).1; omega
  have hlx : l.ownBlock ≠ some w5.heap.size := fun e => by have := (hown.lt _ e).2; omega
  refine step_append_lies _ hgd s x _ ho (o + 1) 37 i0 _ 4 72 Tryz.underlying34 hi0 hz1 hz2 hz3 rfl (by omega) l n zs hs hownW ⟨w5.heap.size + 1, 0, none⟩ 1 1 [.int .u8 0, .string ⟨#[]⟩, .slice none 0 0, .slice none 0 0] hx rfl (World.news_of_block hzb) (by simp [Value.oneCell']) (by omega) (by unfold maxLen; omega) (by omega) (by omega) (w5.heap.size + 2) hsz ?_
  intro g cap w6 hown6 hgrow hat hlt6
  obtain ⟨q0, q1, q2, q3, qf⟩ := row_last hown6 hown.1
  have ngo : o ≠ g := by
    rintro rfl
    rcases hat with e | e
    · exact hlo e
    · omega
  have ngx : w5.heap.size ≠ g := by
    intro e
    subst e
    rcases hat with e | e
    · exact hlx e
    · omega
  have hs6 := hgrow.size
  have fo : w6.heap[o]? = w5.heap[o]? := (hgrow.block o (by omega) (Ne.symm hlo)).trans (hold o hol)
  have fx : w6.heap[w5.heap.size]? = some (.cells #[x0, x1, x2, x3] 37 (0, 0)) := (hgrow.block _ (by omega) (Ne.symm hlx)).trans hxb
  refine h g cap w6 ⟨⟨hgrow.os.trans hWo, hgrow.tape.trans hWt, hgrow.output.trans hWu, by omega, fun k hk hnp => (hgrow.block k (by omega) (fun e => hnp e.symm)).trans (hold k hk)⟩, by omega, hown6, hat, ngo, ngx, q0, q1, q2, q3, qf, fun j => ?_, ?_, ?_, ?_, ?_, ?_⟩
  · rw [World.frozen?_of_block (w := w5) (by exact fo)]; exact hvf j
  · rw [World.cell?_of_block (w := w5) (by exact fo)]; exact hv2
  all_goals simp [World.cell?, fx]
end Go.Proofs.YtgaddifabjoliaaGreatDoor

namespace Go.Proofs.YtgaddifabjoliaaGreatDoor
open Go.RowKit

def ValueIH (d r : Nat) (s : ByteArray) : Prop := ∀ (z : Int), z = (8 : Int) - d → ∀ (i : Nat) (w : World), Rd w r s i false → i ≤ s.size → Calls Tryz.prog 14 #[.pointer (some ⟨r, 0, none⟩), .int .i64 z] w (ValSays d r s i w)
theorem word3_not (q : Nat) (s : ByteArray) (m : Nat) (hl : m < s.size) (hc : s[m] = 91 ∨ s[m] = 123) : (word3 q).data.toList.isPrefixOf (s.data.toList.drop m) = false := by
  rw [drop_cons s m hl]
  rcases hc with hc | hc <;> rw [hc] <;> match q with
  | 0 => rfl
  | 1 => rfl
  | q + 2 => rfl
def SeesIs (s : ByteArray) (i : Nat) (bad : Bool) (c : UInt8) (j : Nat) (b : Bool) : Prop :=
  (bad = true → b = false) ∧ (bad = false → (b = true ∧ skipB (s.data.toList.drop i) = c :: s.data.toList.drop j ∧ j ≤ s.size ∧ i < j) ∨ (b = false ∧ (∀ q, skipB (s.data.toList.drop i) ≠ c :: q) ∧ s.data.toList.drop j = skipB (s.data.toList.drop i) ∧ j ≤ s.size ∧ i ≤ j))
theorem SeesIs.le {s : ByteArray} {i : Nat} {bad : Bool} {c : UInt8} {j : Nat} {b : Bool} (h : SeesIs s i bad c j b) (e : bad = false) : j ≤ s.size := by
  rcases h.2 e with ⟨_, _, h, _⟩ | ⟨_, _, _, h, _⟩ <;> exact h
def SeesSays (r : Nat) (s : ByteArray) (i : Nat) (bad : Bool) (c : UInt8) (w : World) (e : Ending) (w' : World) : Prop :=
  ∃ (j : Nat) (b : Bool), e = .returned (.bool b) ∧ Own r w w' ∧ Rd w' r s j bad ∧ j ≤ 4100 ∧ SeesIs s i bad c j b
theorem sees_any (r : Nat) (s : ByteArray) (i : Nat) (bad : Bool) (c : UInt8) (w : World) (h : Rd w r s i bad) (hi : i ≤ 4100) (hib : bad = false → i ≤ s.size) (hs : s.size ≤ 4000) :
    Calls Tryz.prog 38 #[.pointer (some ⟨r, 0, none⟩), .string ⟨#[c]⟩] w (SeesSays r s i bad c w) := by
  refine (sees_calls r s i bad ⟨#[c]⟩ w h (by omega) hs (show 1 ≤ 10 by decide) (show 0 < 1 by decide)).mono ?_
  rintro e w' ⟨rfl, ho, hr⟩
  cases bad with
  | true =>
    have e1 : saw s i true ⟨#[c]⟩ = false := rfl
    have e2 : sawTo s i true ⟨#[c]⟩ = i + blanksAt s i := rfl
    rw [e2] at hr
    refine ⟨_, _, rfl, ho, hr, ?_, fun _ => e1, fun h => by cases h⟩
    by_cases hle : i ≤ s.size
    · have := blanks_le s i hle; omega
    · rw [blanks_far s i (by omega)]; omega
  | false =>
    rcases saw_one s i c (hib rfl) with ⟨h1, h2, h3, h4⟩ | ⟨h1, h2, h3⟩
    · exact ⟨_, _, rfl, ho, hr, by omega, fun h => (by cases h), fun _ => Or.inl ⟨h1, h2, h3, h4⟩⟩
    · have hb := blanks_le s i (hib rfl)
      refine ⟨_, _, rfl, ho, hr, by omega, fun h => (by cases h), fun _ => Or.inr ⟨h1, h2, ?_, by omega, by omega⟩⟩
      rw [h3]
      exact skip_at s i
theorem elems_skip (d : Nat) (b : UInt8) (l : Bytes) : elemsE (valR d) b (skipB l) = elemsE (valR d) b l := by
  unfold elemsE bothR
  rw [val_blank]
theorem mem_blank (d : Nat) (l : Bytes) : memberR quotedR (valR d) (skipB l) = memberR quotedR (valR d) l := by rw [member_name, member_name, name_skip]
theorem elems_skip_m (d : Nat) (b : UInt8) (l : Bytes) : elemsE (memberR quotedR (valR d)) b (skipB l) = elemsE (memberR quotedR (valR d)) b l := by
  unfold elemsE bothR
  rw [mem_blank]

def over (t : Value) (n : Nat) : Nat := match t with
  | .bool true => 0
  | _ => n
theorem then_world {K : Act → World → Prop} {Q : Exit → Act → World → Prop} {e : Exit} {a : Act} {W : World} (S : World → Prop) (hS : S W) (h : ∀ W', S W' → Exit.then K Q e a W') : Exit.then K Q e a W := h W hS
theorem key_first {G P : Prop} (hG : G) (h : Hid G → P) : P := h hG
theorem own_kept {P : Nat → Prop} {r : Nat} {a b c : World} (h : Own r a b) (hk : Kept P b c) (hp : ∀ k, k < a.heap.size → ¬ k = r → ¬ P k) : Own r a c :=
  ⟨hk.1.trans h.os, hk.2.1.trans h.tape, hk.2.2.1.trans h.output, Nat.le_trans h.size hk.2.2.2.1, fun k hlt hne => (hk.2.2.2.2 k (Nat.lt_of_lt_of_le hlt h.size) (hp k hlt (fun e => hne (by rw [e])))).trans (h.block k hlt hne)⟩

/-- value, wherever the reader stands. -/
def ValIs (d : Nat) (s : ByteArray) (i : Nat) (bad : Bool) (j : Nat) (b : Bool) (lwr : Nat) (w' : World) (v : List Value) : Prop := (b = true → bad = true ∨ valR d (s.data.toList.drop i) = none) ∧
    (b = false → bad = false ∧ ∃ x, valR d (s.data.toList.drop i) = some (x, skipB (s.data.toList.drop j)) ∧ j ≤ s.size ∧ i < j ∧ (repX d).rel (From lwr) w' x (.agg v.toArray))
theorem ValIs.le {d : Nat} {s : ByteArray} {i : Nat} {bad : Bool} {j : Nat} {b : Bool} {lwr : Nat} {w' : World} {v : List Value} (h : ValIs d s i bad j b lwr w' v) (e : b = false) : j ≤ s.size := by
  obtain ⟨_, x, _, h, _⟩ := h.2 e
  exact h
def ValAny (d r : Nat) (s : ByteArray) (i : Nat) (bad : Bool) (w : World) (e : Ending) (w' : World) : Prop :=
  ∃ (k : Int) (t : ByteArray) (a : Option Addr) (l p : Nat) (a' : Option Addr) (l' p' : Nat) (j : Nat) (b : Bool), e = .returned (.agg #[.int .u8 k, .string t, .slice a l p, .slice a' l' p']) ∧ Own r w w' ∧ Rd w' r s j b ∧ j ≤ 4100 ∧ ValIs d s i bad j b w.heap.size w' [.int .u8 k, .string t, .slice a l p, .slice a' l' p']
theorem value_any {d r : Nat} {s : ByteArray} (IH : ValueIH d r s) (z : Int) (hz : z = (8 : Int) - d) (i : Nat) (bad : Bool) (w : World) (h : Rd w r s i bad) (hi : i ≤ 4100) (hib : bad = false → i ≤ s.size) :
    Calls Tryz.prog 14 #[.pointer (some ⟨r, 0, none⟩), .int .i64 z] w (ValAny d r s i bad w) := by
  cases bad with
  | true =>
    refine (value_bad r s i z w h).mono ?_
    rintro e w' ⟨rfl, ho, hr⟩
    exact ⟨_, _, _, _, _, _, _, _, i, true, rfl, ho, hr, hi, fun _ => Or.inl rfl, fun h => by cases h⟩
  | false =>
    refine (IH z hz i w h (hib rfl)).mono ?_
    rintro e w' ⟨v, j, b, rfl, ⟨k, t, a, l, p, a', l', p', rfl⟩, ho, hr, hj, hbt, hbf⟩
    exact ⟨k, t, a, l, p, a', l', p', j, b, rfl, ho, hr, hj, fun e => Or.inr (hbt e), fun e => ⟨rfl, hbf e⟩⟩

theorem Rows4.own {P : Nat → Prop} {d o r : Nat} {l : Value} {xs : List (JT d)} {cs : List (List Value)} {w w' : World} (h : Rows4 P d o l xs cs w) (ho : Own r w w') (hr : r ≤ o) : Rows4 P d o l xs cs w' := by
  obtain ⟨⟨F, f1, f2, f3⟩, f4⟩ := h
  have hs := ho.size
  have hrr : ∀ k, o < k → k ≠ r := fun k hk => by omega
  exact ⟨⟨F, fun k hk => ⟨⟨(f1 k hk).1.1, by have := (f1 k hk).1.2; omega⟩, (f1 k hk).2⟩, elems_stays ⟨hs, fun k hk hlt => ho.block k hlt (fun e => hrr k (f1 k hk).1.1 (Option.some.inj e))⟩ f2, f3⟩, owns_stays f4 (fun g hg hlt => ho.block g hlt (fun e => hrr g (f4.lt g hg).1 (Option.some.inj e)))⟩
theorem owns_own {B r n : Nat} {T : TypeId} {k : Nat} {l : Value} {zs : List Value} {w w' : World} (h : w.ownsRow B T k l n zs) (ho : Own r w w') (hr : r < B) : w'.ownsRow B T k l n zs :=
  owns_stays h (fun g hg hlt => ho.block g hlt (fun e => by have := (h.lt g hg).1; have := Option.some.inj e; omega))
theorem owns_apart {B B' n n' k k' : Nat} {T T' : TypeId} {l l' : Value} {zs zs' : List Value} {w : World} (h : w.ownsRow B T k l n zs) (h' : w.ownsRow B' T' k' l' n' zs') (hT : T ≠ T') (g : Nat) (hg : l.ownBlock = some g) : l'.ownBlock ≠ some g := by
  intro hg'
  rcases h.2 with ⟨rfl, _⟩ | ⟨g1, cap, cur, rfl, _, hb, _⟩
  · cases hg
  · rcases h'.2 with ⟨rfl, _⟩ | ⟨g2, cap', cur', rfl, _, hb', _⟩
    · cases hg'
    · obtain rfl : g1 = g := Option.some.inj hg
      obtain rfl : g2 = g1 := Option.some.inj hg'
      rw [hb] at hb'
      injection hb' with e
      injection e with _ e2
      exact hT e2
theorem len_of {w : World} {B T k n lp : Nat} {ll : Nat} {a : Option Addr} {zs : List Value} (h : w.ownsRow B T k (.slice a ll lp) n zs) : ll = n := by
  rcases h.2 with ⟨e, h0⟩ | ⟨g, cap, cur, e, _⟩
  · rw [h0]; cases e; rfl
  · cases e; rfl

/-- What is known within a list: T is what the whole of it is read as. -/
def InList (d r o m : Nat) (s : ByteArray) (T : Option (List (JT d) × Bytes)) (w : World) (ov : Bool) (xs : List (JT d)) (cs : List (List Value)) (l : Value) (j : Nat) (b : Bool) (wr : World) : Prop :=
  Own r w wr ∧ Rd wr r s j b ∧ j ≤ 4100 ∧ boxV w.heap.size 0 ⟨#[]⟩ nilV nilV wr ∧ boxV o 108 ⟨#[]⟩ l nilV wr ∧ (∃ a n p, l = .slice a n p) ∧ (b = false → Rows4 (fun _ => False) d o l xs cs wr) ∧ xs.length ≤ j ∧ (b = true → T = none) ∧
    (b = false → j ≤ s.size ∧ m < j ∧ ((ov = true ∧ ∃ q, T = some (xs, q) ∧ skipB q = skipB (s.data.toList.drop j)) ∨ (ov = false ∧ T = wholeE (valR d) 93 xs (s.data.toList.drop j))))
/-- Behind the append. -/
def Put (d r o lwr : Nat) (P : Nat → Prop) (s : ByteArray) (w w5 : World) (K : Int) (l nm : Value) (xs : List (JT d)) (cs : List (List Value)) (v : List Value) (gg cap j5 : Nat) (b5 : Bool) (W : World) : Prop :=
  Kept (fun k => k = o ∨ l.ownBlock = some k) w5 W ∧ Own r w W ∧ Rd W r s j5 b5 ∧ boxV w.heap.size 0 ⟨#[]⟩ nilV nilV W ∧ boxV o K ⟨#[]⟩ (.slice (some ⟨gg, 0, none⟩) (xs.length + 1) cap) nm W ∧ ∀ x, (repX d).rel (From lwr) w5 x (.agg v.toArray) → Rows4 P d o (.slice (some ⟨gg, 0, none⟩) (xs.length + 1) cap) (xs ++ [x]) (cs ++ [v]) W

theorem put_more {d r o lwr : Nat} {P : Nat → Prop} {s : ByteArray} {w w5 w6 : World} {K : Int} {l nm : Value} {xs : List (JT d)} {cs : List (List Value)} {c0 c1 c2 c3 : Value} {gg cap j5 : Nat} {b5 : Bool}
    (hap : AppF o l xs.length cs.flatten w5 c0 c1 c2 c3 gg cap w6) (hrow : Rows4 P d o l xs cs w5) (hP : ∀ k, P k → k < lwr) (hlw : ∀ k, l.ownBlock = some k → k < lwr) (hol : o < lwr) (hlw5 : lwr ≤ w5.heap.size)
    (ho : Own r w w5) (hr : Rd w5 r s j5 b5) (hb : boxV w.heap.size 0 ⟨#[]⟩ nilV nilV w5) (hv : boxV o K ⟨#[]⟩ l nm w5) (hwo : w.heap.size < o) (hro : r < w.heap.size) :
    Put d r o lwr P s w w5 K l nm xs cs [c0, c1, c2, c3] gg cap j5 b5 (((((w6.setCell ⟨gg, xs.length * 4, none⟩ c0).setCell ⟨gg, xs.length * 4 + 1, none⟩ c1).setCell ⟨gg, xs.length * 4 + 2, none⟩ c2).setCell ⟨gg, xs.length * 4 + 3, none⟩ c3).setCell ⟨o, 2, none⟩ (.slice (some ⟨gg, 0, none⟩) (xs.length + 1) cap)) := by
  obtain ⟨hkW, hbW, hrW⟩ := rows_more hrow hP hlw hol hlw5 hap.own hap.kept hap.size hap.at'
  have hf : ∀ k, k ≤ w.heap.size → ¬ (k = o ∨ l.ownBlock = some k) := fun k hk h => by
    rcases h with h | h
    · omega
    · have := (hrow.2.lt k h).1; omega
  exact ⟨hkW, own_kept ho hkW (fun k hk _ => hf k (by omega)), hr.kept hkW (hf r (by omega)), hb.kept hkW (hf _ (Nat.le_refl _)), hbW _ _ hv, hrW⟩

theorem set_swap (w : World) {a b : Addr} (h : a.block ≠ b.block) (x y : Value) : (w.setCell a x).setCell b y = (w.setCell b y).setCell a x := by
  unfold World.setCell
  congr 1
  apply Array.ext_getElem?
  intro i
  simp only [Array.getElem?_modify]
  by_cases h1 : b.block = i
  · have h2 : a.block ≠ i := fun e => h (e.trans h1.symm)
    simp [h1, h2]
  · by_cases h2 : a.block = i
    · simp [h1, h2]
    · simp [h1, h2]
theorem put_more' {d r o lwr : Nat} {P : Nat → Prop} {s : ByteArray} {w w5 w6 : World} {K : Int} {l nm : Value} {xs : List (JT d)} {cs : List (List Value)} {c0 c1 c2 c3 : Value} {gg cap j5 : Nat} {b5 : Bool}
    (hap : AppF o l xs.length cs.flatten w5 c0 c1 c2 c3 gg cap w6) (hrow : Rows4 P d o l xs cs w5) (hP : ∀ k, P k → k < lwr) (hlw : ∀ k, l.ownBlock = some k → k < lwr) (hol : o < lwr) (hlw5 : lwr ≤ w5.heap.size)
    (ho : Own r w w5) (hr : Rd w5 r s j5 b5) (hb : boxV w.heap.size 0 ⟨#[]⟩ nilV nilV w5) (hv : boxV o K ⟨#[]⟩ l nm w5) (hwo : w.heap.size < o) (hro : r < w.heap.size) :
    Put d r o lwr P s w w5 K l nm xs cs [c0, c1, c2, c3] gg cap j5 b5 (((((w6.setCell ⟨o, 2, none⟩ (.slice (some ⟨gg, 0, none⟩) (xs.length + 1) cap)).setCell ⟨gg, xs.length * 4, none⟩ c0).setCell ⟨gg, xs.length * 4 + 1, none⟩ c1).setCell ⟨gg, xs.length * 4 + 2, none⟩ c2).setCell ⟨gg, xs.length * 4 + 3, none⟩ c3) := by
  have hn := hap.ngo
  rw [set_swap w6 (a := ⟨o, 2, none⟩) (b := ⟨gg, xs.length * 4, none⟩) hn, set_swap _ (a := ⟨o, 2, none⟩) (b := ⟨gg, xs.length * 4 + 1, none⟩) hn, set_swap _ (a := ⟨o, 2, none⟩) (b := ⟨gg, xs.length * 4 + 2, none⟩) hn, set_swap _ (a := ⟨o, 2, none⟩) (b := ⟨gg, xs.length * 4 + 3, none⟩) hn]
  exact put_more hap hrow hP hlw hol hlw5 ho hr hb hv hwo hro

/-- A comma: the next one. -/
theorem list_more {d r o m lwr : Nat} {s : ByteArray} {T : Option (List (JT d) × Bytes)} {w w5 w7 w8 : World} {xs : List (JT d)} {cs : List (List Value)} {l : Value} {v : List Value} {gg cap j j5 j8 : Nat} {b5 : Bool}
    (hT : T = wholeE (valR d) 93 xs (s.data.toList.drop j)) (hmj : m < j) (hxl : xs.length ≤ j) (hro : r ≤ o) (hor : o ≠ r) (hne : w.heap.size ≠ r)
    (hv5 : ValIs d s j false j5 b5 lwr w5 v)
    (hp : Put d r o lwr (fun _ => False) s w w5 108 l nilV xs cs v gg cap j5 b5 w7) (ho8 : Own r w7 w8) (hr8 : Rd w8 r s j8 b5) (hj8 : j8 ≤ 4100) (hs8 : SeesIs s j5 b5 44 j8 true) :
    ∃ x, InList d r o m s T w false (xs ++ [x]) (cs ++ [v]) (.slice (some ⟨gg, 0, none⟩) (xs.length + 1) cap) j8 false w8 ∧ j < j8 ∧ j8 ≤ s.size ∧ Rd w8 r s j8 false := by
  have hbf5 := hv5.2
  obtain ⟨hbt8, hbf8⟩ := hs8
  cases b5 with
  | true => cases hbt8 rfl
  | false =>
    obtain ⟨_, x, hx, h1, h2, h3⟩ := hbf5 rfl
    rcases hbf8 rfl with ⟨_, h4, h5, h6⟩ | ⟨h, _⟩
    · obtain ⟨_, p1, p2, p3, p4, p5⟩ := hp
      rw [h4] at hx
      refine ⟨x, ⟨p1.trans ho8, hr8, hj8, p3.own ho8 hne, p4.own ho8 hor, ⟨_, _, _, rfl⟩, fun _ => (p5 x h3).own ho8 hro, by simp; omega, fun h => (by cases h), fun _ => ⟨h5, by omega, Or.inr ⟨rfl, ?_⟩⟩⟩, by omega, h5, hr8⟩
      rw [hT]
      exact whole_more (shrinks_val d) (by decide) hx
    · cases h
/-- No comma: the bracket has to stand there. -/
theorem list_over {d r o m lwr : Nat} {s : ByteArray} {T : Option (List (JT d) × Bytes)} {w w5 w7 w8 w9 : World} {xs : List (JT d)} {cs : List (List Value)} {l : Value} {v : List Value} {gg cap j j5 j8 j9 : Nat} {b5 b9 : Bool}
    (hT : T = wholeE (valR d) 93 xs (s.data.toList.drop j)) (hmj : m < j) (hxl : xs.length ≤ j) (hro : r ≤ o) (hor : o ≠ r) (hne : w.heap.size ≠ r)
    (hv5 : ValIs d s j false j5 b5 lwr w5 v)
    (hp : Put d r o lwr (fun _ => False) s w w5 108 l nilV xs cs v gg cap j5 b5 w7) (ho8 : Own r w7 w8) (hs8 : SeesIs s j5 b5 44 j8 false)
    (ho9 : Own r w8 w9) (hr9 : Rd w9 r s j9 b9) (hj9 : j9 ≤ 4100) (hbt9 : b9 = true → b5 = true ∨ ∀ q, skipB (s.data.toList.drop j8) ≠ 93 :: q) (hbf9 : b9 = false → b5 = false ∧ skipB (s.data.toList.drop j8) = 93 :: s.data.toList.drop j9 ∧ j9 ≤ s.size ∧ j8 < j9) :
    ∃ xs' cs', InList d r o m s T w true xs' cs' (.slice (some ⟨gg, 0, none⟩) (xs.length + 1) cap) j9 b9 w9 := by
  obtain ⟨hbt5, hbf5⟩ := hv5
  obtain ⟨_, hbf8⟩ := hs8
  obtain ⟨_, p1, p2, p3, p4, p5⟩ := hp
  have ho := ho8.trans ho9
  cases b9 with
  | true =>
    refine ⟨[], [], p1.trans ho, hr9, hj9, p3.own ho hne, p4.own ho hor, ⟨_, _, _, rfl⟩, fun h => (by cases h), Nat.zero_le _, fun _ => ?_, fun h => (by cases h)⟩
    rw [hT]
    cases b5 with
    | true =>
      rcases hbt5 rfl with h | h
      · cases h
      · exact whole_none (shrinks_val d) (by decide) h
    | false =>
      obtain ⟨_, x, hx, h1, h2, h3⟩ := hbf5 rfl
      rcases hbf8 rfl with ⟨h, _⟩ | ⟨_, h4, h5, h6, h7⟩
      · cases h
      · rcases hbt9 rfl with h | h
        · cases h
        · refine whole_bad (shrinks_val d) (by decide) hx h4 (fun q e => h q ?_)
          rw [h5, skip_skip, e]
  | false =>
    obtain ⟨rfl, h8, h9, h10⟩ := hbf9 rfl
    obtain ⟨_, x, hx, h1, h2, h3⟩ := hbf5 rfl
    rcases hbf8 rfl with ⟨h, _⟩ | ⟨_, h4, h5, h6, h7⟩
    · cases h
    · have hx2 : valR d (s.data.toList.drop j) = some (x, 93 :: s.data.toList.drop j9) := by rw [hx, ← h8, h5, skip_skip]
      refine ⟨xs ++ [x], cs ++ [v], p1.trans ho, hr9, hj9, p3.own ho hne, p4.own ho hor, ⟨_, _, _, rfl⟩, fun _ => (p5 x h3).own ho hro, by simp; omega, fun h => (by cases h), fun _ => ⟨h9, by omega, Or.inl ⟨rfl, _, ?_, rfl⟩⟩⟩
      rw [hT]
      exact whole_end (shrinks_val d) (by decide) hx2
end Go.Proofs.YtgaddifabjoliaaGreatDoor

namespace Go.Proofs.YtgaddifabjoliaaGreatDoor
open Go.RowKit

/-- What is known within an object: T is what the whole of it is read as. -/
def InObj (d r o m : Nat) (s : ByteArray) (T : Option (List (Named (JT d)) × Bytes)) (w : World) (ov : Bool) (ms : List (Named (JT d))) (cs : List (List Value)) (l nm : Value) (j : Nat) (b : Bool) (wr : World) : Prop :=
  Own r w wr ∧ Rd wr r s j b ∧ j ≤ 4100 ∧ boxV w.heap.size 0 ⟨#[]⟩ nilV nilV wr ∧ boxV o 111 ⟨#[]⟩ l nm wr ∧ (∃ a n p, l = .slice a n p) ∧ (∃ a n p, nm = .slice a n p) ∧
    (b = false → Rows4 (fun k => nm.ownBlock = some k) d o l (ms.map Prod.snd) cs wr ∧ wr.ownsRow (o + 1) 9 1 nm (ms.map Prod.fst).length (strs (ms.map Prod.fst)) ∧ Once ms) ∧ ms.length ≤ j ∧ (b = true → objZ d T = none) ∧
    (b = false → j ≤ s.size ∧ m < j ∧ ((ov = true ∧ ∃ q, T = some (ms, q) ∧ skipB q = skipB (s.data.toList.drop j)) ∨ (ov = false ∧ T = wholeE (memberR quotedR (valR d)) 125 ms (s.data.toList.drop j))))
theorem owns_kept {P : Nat → Prop} {B n k : Nat} {T : TypeId} {l : Value} {zs : List Value} {w w' : World} (h : w.ownsRow B T k l n zs) (hk : Kept P w w') (hp : ∀ g, l.ownBlock = some g → ¬ P g) : w'.ownsRow B T k l n zs :=
  owns_stays h (fun g hg hlt => hk.2.2.2.2 g hlt (hp g hg))
/-- The rows of values do not lie where the names have been laid. -/
theorem Rows4.named {d o r : Nat} {l nm nm' : Value} {xs : List (JT d)} {cs : List (List Value)} {wr w3 : World} (h : Rows4 (fun k => nm.ownBlock = some k) d o l xs cs wr) (hk : Kept (fun k => k = r ∨ k = o ∨ nm.ownBlock = some k) wr w3) (hr : r ≤ o) (hat : ∀ g, nm'.ownBlock = some g → nm.ownBlock = some g ∨ wr.heap.size ≤ g) (hap : ∀ g, l.ownBlock = some g → nm.ownBlock ≠ some g) : Rows4 (fun k => nm'.ownBlock = some k) d o l xs cs w3 := by
  obtain ⟨⟨F, f1, f2, f3⟩, f4⟩ := h
  have hs := hk.2.2.2.1
  have hfar : ∀ k, o < k → nm.ownBlock ≠ some k → ¬ (k = r ∨ k = o ∨ nm.ownBlock = some k) := fun k hk hn h => by
    rcases h with h | h | h
    · omega
    · omega
    · exact hn h
  refine ⟨⟨F, fun k hF => ⟨⟨(f1 k hF).1.1, by have := (f1 k hF).1.2; omega⟩, fun e => ?_⟩, elems_stays ⟨hs, fun k hF hlt => hk.2.2.2.2 k hlt (hfar k (f1 k hF).1.1 (f1 k hF).2)⟩ f2, f3⟩, owns_stays f4 (fun g hg hlt => hk.2.2.2.2 g hlt (hfar g (f4.lt g hg).1 (hap g hg)))⟩
  rcases hat k e with h | h
  · exact (f1 k hF).2 h
  · have := (f1 k hF).1.2
    omega

theorem obj_more {d r o m lwr : Nat} {s : ByteArray} {T : Option (List (Named (JT d)) × Bytes)} {w w5 w7 w8 : World} {ms : List (Named (JT d))} {cs : List (List Value)} {l nm : Value} {xs : List (JT d)} {v : List Value} {t : Bytes} {gg cap j j3 j5 j8 : Nat} {b3 b5 : Bool}
    (hT : T = wholeE (memberR quotedR (valR d)) 125 ms (s.data.toList.drop j)) (hmj : m < j) (hxl : ms.length ≤ j) (hro : r ≤ o) (hor : o ≠ r) (hne : w.heap.size ≠ r) (hon : Once ms) (hxs : ms.map Prod.snd = xs)
    (hbf3 : b3 = false → nameE (s.data.toList.drop j) = some (t, s.data.toList.drop j3) ∧ t ∉ ms.map Prod.fst ∧ j3 ≤ s.size ∧ j < j3)
    (hv5 : ValIs d s j3 b3 j5 b5 lwr w5 v)
    (hp : Put d r o lwr (fun k => nm.ownBlock = some k) s w w5 111 l nm xs cs v gg cap j5 b5 w7) (hnm : ∃ a n p, nm = .slice a n p)
    (hn5 : w5.ownsRow (o + 1) 9 1 nm (ms.map Prod.fst ++ [t]).length (strs (ms.map Prod.fst ++ [t]))) (hap : ∀ g, nm.ownBlock = some g → l.ownBlock ≠ some g)
    (ho8 : Own r w7 w8) (hr8 : Rd w8 r s j8 b5) (hj8 : j8 ≤ 4100) (hs8 : SeesIs s j5 b5 44 j8 true) :
    ∃ x, InObj d r o m s T w false (ms ++ [(t, x)]) (cs ++ [v]) (.slice (some ⟨gg, 0, none⟩) (xs.length + 1) cap) nm j8 false w8 ∧ j < j8 ∧ j8 ≤ s.size ∧ Rd w8 r s j8 false := by
  have hbf5 := hv5.2
  obtain ⟨hbt8, hbf8⟩ := hs8
  subst hxs
  cases b5 with
  | true => cases hbt8 rfl
  | false =>
    obtain ⟨rfl, x, hx, h1, h2, h3⟩ := hbf5 rfl
    obtain ⟨g1, g2, g3, g4⟩ := hbf3 rfl
    rcases hbf8 rfl with ⟨_, h4, h5, h6⟩ | ⟨h, _⟩
    · obtain ⟨p0, p1, p2, p3, p4, p5⟩ := hp
      rw [h4] at hx
      have hn8 : w8.ownsRow (o + 1) 9 1 nm (ms.map Prod.fst ++ [t]).length (strs (ms.map Prod.fst ++ [t])) :=
        owns_own (owns_kept hn5 p0 (fun g hg h => by
          rcases h with h | h
          · have := (hn5.lt g hg).1; omega
          · exact hap g hg h)) ho8 (by omega)
      refine ⟨x, ⟨p1.trans ho8, hr8, hj8, p3.own ho8 hne, p4.own ho8 hor, ⟨_, _, _, rfl⟩, hnm, fun _ => ⟨?_, ?_, once_more ms t x hon g2⟩, by simp; omega, fun h => (by cases h), fun _ => ⟨h5, by omega, Or.inr ⟨rfl, ?_⟩⟩⟩, by omega, h5, hr8⟩
      · have := (p5 x h3).own ho8 hro
        rw [List.map_append]
        exact this
      · rw [List.map_append]
        exact hn8
      · rw [hT]
        exact whole_more (shrinks_mem d) (by decide) (mem_some d g1 hx)
    · cases h
theorem obj_over {d r o m lwr : Nat} {s : ByteArray} {T : Option (List (Named (JT d)) × Bytes)} {w w5 w7 w8 w9 : World} {ms : List (Named (JT d))} {cs : List (List Value)} {l nm : Value} {xs : List (JT d)} {v : List Value} {t : Bytes} {gg cap j j3 j5 j8 j9 : Nat} {b3 b5 b9 : Bool}
    (hT : T = wholeE (memberR quotedR (valR d)) 125 ms (s.data.toList.drop j)) (hmj : m < j) (hxl : ms.length ≤ j) (hro : r ≤ o) (hor : o ≠ r) (hne : w.heap.size ≠ r) (hon : Once ms) (hxs : ms.map Prod.snd = xs)
    (hbt3 : b3 = true → nameE (s.data.toList.drop j) = none ∨ ∃ t' q, nameE (s.data.toList.drop j) = some (t', q) ∧ t' ∈ ms.map Prod.fst)
    (hbf3 : b3 = false → nameE (s.data.toList.drop j) = some (t, s.data.toList.drop j3) ∧ t ∉ ms.map Prod.fst ∧ j3 ≤ s.size ∧ j < j3)
    (hv5 : ValIs d s j3 b3 j5 b5 lwr w5 v)
    (hp : Put d r o lwr (fun k => nm.ownBlock = some k) s w w5 111 l nm xs cs v gg cap j5 b5 w7) (hnm : ∃ a n p, nm = .slice a n p)
    (hn5 : w5.ownsRow (o + 1) 9 1 nm (ms.map Prod.fst ++ [t]).length (strs (ms.map Prod.fst ++ [t]))) (hap : ∀ g, nm.ownBlock = some g → l.ownBlock ≠ some g)
    (ho8 : Own r w7 w8) (hs8 : SeesIs s j5 b5 44 j8 false)
    (ho9 : Own r w8 w9) (hr9 : Rd w9 r s j9 b9) (hj9 : j9 ≤ 4100) (hbt9 : b9 = true → b5 = true ∨ ∀ q, skipB (s.data.toList.drop j8) ≠ 125 :: q) (hbf9 : b9 = false → b5 = false ∧ skipB (s.data.toList.drop j8) = 125 :: s.data.toList.drop j9 ∧ j9 ≤ s.size ∧ j8 < j9) :
    ∃ ms' cs', InObj d r o m s T w true ms' cs' (.slice (some ⟨gg, 0, none⟩) (xs.length + 1) cap) nm j9 b9 w9 := by
  obtain ⟨hbt5, hbf5⟩ := hv5
  obtain ⟨_, hbf8⟩ := hs8
  subst hxs
  obtain ⟨p0, p1, p2, p3, p4, p5⟩ := hp
  have ho := ho8.trans ho9
  cases b9 with
  | true =>
    refine ⟨[], [], p1.trans ho, hr9, hj9, p3.own ho hne, p4.own ho hor, ⟨_, _, _, rfl⟩, hnm, fun h => (by cases h), Nat.zero_le _, fun _ => ?_, fun h => (by cases h)⟩
    rw [hT]
    cases b3 with
    | true =>
      rcases hbt3 rfl with h | ⟨t', q, h, hm⟩
      · exact obj_name_none d h
      · exact obj_dup d h hm
    | false =>
      obtain ⟨g1, g2, g3, g4⟩ := hbf3 rfl
      cases b5 with
      | true =>
        rcases hbt5 rfl with h | h
        · cases h
        · exact obj_val_none d g1 h
      | false =>
        obtain ⟨_, x, hx, h1, h2, h3⟩ := hbf5 rfl
        rcases hbf8 rfl with ⟨h, _⟩ | ⟨_, h4, h5, h6, h7⟩
        · cases h
        · rcases hbt9 rfl with h | h
          · cases h
          · rw [whole_bad (shrinks_mem d) (by decide) (mem_some d g1 hx) h4 (fun q e => h q (by rw [h5, skip_skip, e]))]
            rfl
  | false =>
    obtain ⟨rfl, h8, h9, h10⟩ := hbf9 rfl
    obtain ⟨rfl, x, hx, h1, h2, h3⟩ := hbf5 rfl
    obtain ⟨g1, g2, g3, g4⟩ := hbf3 rfl
    rcases hbf8 rfl with ⟨h, _⟩ | ⟨_, h4, h5, h6, h7⟩
    · cases h
    · have hx2 : valR d (s.data.toList.drop j3) = some (x, 125 :: s.data.toList.drop j9) := by rw [hx, ← h8, h5, skip_skip]
      have hn9 : w9.ownsRow (o + 1) 9 1 nm (ms.map Prod.fst ++ [t]).length (strs (ms.map Prod.fst ++ [t])) :=
        owns_own (owns_kept hn5 p0 (fun g hg h => by
          rcases h with h | h
          · have := (hn5.lt g hg).1; omega
          · exact hap g hg h)) ho (by omega)
      refine ⟨ms ++ [(t, x)], cs ++ [v], p1.trans ho, hr9, hj9, p3.own ho hne, p4.own ho hor, ⟨_, _, _, rfl⟩, hnm, fun _ => ⟨?_, ?_, once_more ms t x hon g2⟩, by simp; omega, fun h => (by cases h), fun _ => ⟨h9, by omega, Or.inl ⟨rfl, _, ?_, rfl⟩⟩⟩
      · have := (p5 x h3).own ho hro
        rw [List.map_append]
        exact this
      · rw [List.map_append]
        exact hn9
      · rw [hT]
        exact whole_end (shrinks_mem d) (by decide) (mem_some d g1 hx2)
end Go.Proofs.YtgaddifabjoliaaGreatDoor

namespace Go.Proofs.YtgaddifabjoliaaGreatDoor
open Go.RowKit

/-! ### A value's one form, by the document's answer -/
def Fours {α : Type} (rep : Rep α) : Prop := ∀ F w x v, rep.rel F w x v → Is4 v
theorem fours_leaf : Fours repLeafX := fun _ _ x v h => by
  have h' : v = leafX x := h
  rw [h']
  rcases x with (_ | (_ | _)) | _ | _ <;> exact is4_nil _ _
theorem fours_node {α : Type} (rep : Rep α) : Fours (repNodeX rep) := by
  intro F w x v h
  rcases x with x | xs | ms
  · exact fours_leaf F w x v h
  · obtain ⟨l, rfl, _, cs, F', _, _, h3, _⟩ := h
    obtain ⟨a, n, p, rfl⟩ := slice_of h3
    exact is4_val _ _ _ _ _ _ _ _
  · obtain ⟨l, m, ms0, rfl, _, _, ⟨_, cs, F', _, _, h3, _⟩, h4, _⟩ := h
    obtain ⟨a, n, p, rfl⟩ := slice_of h3
    obtain ⟨a, n, p, rfl⟩ := slice_of h4
    exact is4_val _ _ _ _ _ _ _ _
theorem fours_x : ∀ d, Fours (repX d)
  | 0 => fours_leaf
  | _ + 1 => fours_node _
/-- A row of values: its cells. -/
theorem row4 {α : Type} {rep : Rep α} (h4 : Fours rep) {F : Nat → Prop} {w : World} {xs : List α} {v : Value} (h : (repItemsX rep).rel F w xs v) :
    ∃ a p, v = .slice a xs.length p ∧ ((a = none ∧ xs.length = 0) ∨ ∃ g, a = some ⟨g, 0, none⟩ ∧ g < w.heap.size ∧ ∀ i (h : i < xs.length), ∃ k t c l q c' l' q',
      w.cell? ⟨g, i * 4, none⟩ = some (.int .u8 k) ∧ w.cell? ⟨g, i * 4 + 1, none⟩ = some (.string t) ∧ w.cell? ⟨g, i * 4 + 2, none⟩ = some (.slice c l q) ∧ w.cell? ⟨g, i * 4 + 3, none⟩ = some (.slice c' l' q') ∧
      rep.rel F w xs[i] (.agg #[.int .u8 k, .string t, .slice c l q, .slice c' l' q'])) := by
  obtain ⟨hN, cs, F', hF, hE, ho, hblk⟩ := h
  have HO := ho
  obtain ⟨h1, h2, h3⟩ := elems_at hE
  rcases ho.2 with ⟨rfl, h0⟩ | ⟨g, cap, cur, rfl, hbase, hb, hn, hm, hs, ht⟩
  · exact ⟨none, 0, by rw [h0], Or.inl ⟨rfl, h0⟩⟩
  · refine ⟨_, cap, rfl, Or.inr ⟨g, rfl, (HO.lt g rfl).2, fun i hi => ?_⟩⟩
    have hi' : i < cs.length := by omega
    obtain ⟨k, t, c, l, q, c', l', q', hv⟩ := h4 _ _ _ _ (h3 i hi hi')
    have hcs : cs[i] = [.int .u8 k, .string t, .slice c l q, .slice c' l' q'] := by
      injection hv with hv
      simpa using congrArg Array.toList hv
    have hat : ∀ j, j < 4 → w.cell? ⟨g, i * 4 + j, none⟩ = (cs[i])[j]? := by
      intro j hj
      rw [HO.cellAt (i * 4 + j) (by omega), flatten_at i j h2 hi' hj]
    refine ⟨k, t, c, l, q, c', l', q', ?_, ?_, ?_, ?_, ?_⟩
    · have := hat 0 (by omega); rw [hcs] at this; simpa using this
    · have := hat 1 (by omega); rw [hcs] at this; simpa using this
    · have := hat 2 (by omega); rw [hcs] at this; simpa using this
    · have := hat 3 (by omega); rw [hcs] at this; simpa using this
    · have := rep.anti (h3 i hi hi') hF
      rw [hcs] at this
      exact this
/-- A row of names: its cells. -/
theorem rowN {F : Nat → Prop} {w : World} {ns : List Bytes} {v : Value} (h : repNames.rel F w ns v) :
    ∃ a p, v = .slice a ns.length p ∧ ((a = none ∧ ns.length = 0) ∨ ∃ g, a = some ⟨g, 0, none⟩ ∧ g < w.heap.size ∧ ∀ i (h : i < ns.length), w.cell? ⟨g, i, none⟩ = some (.string ⟨(ns[i]).toArray⟩)) := by
  obtain ⟨ho, _⟩ := h
  have HO := ho
  rcases ho.2 with ⟨rfl, h0⟩ | ⟨g, cap, cur, rfl, hbase, hb, hn, hm, hs, ht⟩
  · exact ⟨none, 0, by rw [h0], Or.inl ⟨rfl, h0⟩⟩
  · refine ⟨_, cap, rfl, Or.inr ⟨g, rfl, (HO.lt g rfl).2, fun i hi => ?_⟩⟩
    rw [HO.cellAt i (by omega)]
    unfold strs
    rw [List.getElem?_map, List.getElem?_eq_getElem hi]
    rfl
theorem below_drewN (w : World) (n : Nat) : Below w.heap.size w (w.drewN n) := ⟨rfl, rfl, rfl, by simp, fun _ _ => rfl⟩
theorem less_is : ∀ a b : Bytes, Op.bytesLess a b = ltB a b
  | [], [] => rfl
  | [], _ :: _ => rfl
  | _ :: _, [] => rfl
  | a :: xs, b :: ys => by
    have ih := less_is xs ys
    unfold ltB at *
    rw [Op.bytesLess, ih, Lib.compareBytes]
    by_cases h1 : a < b
    · simp [h1]
    · by_cases h2 : b < a
      · have hne : a ≠ b := fun e => by subst e; exact h1 h2
        simp [h1, h2, hne]
      · have e : a = b := by
          apply UInt8.toNat.inj
          rw [UInt8.lt_iff_toNat_lt] at *
          omega
        subst e
        simp [h1]

/-- What Form answers for what stands so. -/
def FormX {α : Type} (rep : Rep α) (f : α → Bytes) : Prop := ∀ (x : α) (v : Value) (F : Nat → Prop) (w : World), rep.rel F w x v → (f x).length ≤ 200000 →
  Calls Tryz.prog 10 #[v] w fun e w' => e = .returned (.string ⟨(f x).toArray⟩) ∧ Below w.heap.size w w'

set_option maxRecDepth 100000 in
set_option maxHeartbeats 2000000 in
theorem form_leaf : FormX repLeafX leafF := by
  intro x v F w hx hl
  have hv : v = leafX x := hx
  subst hv
  rcases x with (_ | (_ | _)) | n | t
  · simp only [leafX, leafF, valV]
    go_enter Tryz.func10, Tryz.ntmps10
    go_wp2
    go_ret
    exact ⟨rfl, (Below.refl _ _).alloc (Nat.le_refl _) _⟩
  · simp only [leafX, leafF, valV]
    go_enter Tryz.func10, Tryz.ntmps10
    go_wp2
    go_ret
    exact ⟨rfl, (Below.refl _ _).alloc (Nat.le_refl _) _⟩
  · simp only [leafX, leafF, valV]
    go_enter Tryz.func10, Tryz.ntmps10
    go_wp2
    go_ret
    exact ⟨rfl, (Below.refl _ _).alloc (Nat.le_refl _) _⟩
  · obtain ⟨s, hs⟩ : ∃ s : ByteArray, s = ⟨(Lib.itoa n).toArray⟩ := ⟨_, rfl⟩
    simp only [leafX, leafF, valV]
    rw [← hs]
    clear hs
    go_enter Tryz.func10, Tryz.ntmps10
    go_wp2
    go_ret
    exact ⟨rfl, (Below.refl _ _).alloc (Nat.le_refl _) _⟩
  · obtain ⟨s, hs⟩ : ∃ s : ByteArray, s = ⟨t.toArray⟩ := ⟨_, rfl⟩
    have hst : s.data.toList = t := by rw [hs]
    have hss : s.size ≤ 200000 := by
      have h1 := textF_ge t
      have h2 : (textF t).length ≤ 200000 := hl
      rw [text_size hst]
      omega
    simp only [leafX, leafF, valV]
    rw [← hs, ← hst]
    clear hs hst hl
    go_enter Tryz.func10, Tryz.ntmps10
    go_wp2_with (go_at_call 16; refine (quoted_calls s _ hss).mono ?_; rintro e w1 ⟨rfl, n, rfl⟩)
    go_ret
    exact ⟨rfl, up ((Below.refl _ _).alloc (Nat.le_refl _) _) (below_drewN _ _)⟩
end Go.Proofs.YtgaddifabjoliaaGreatDoor

namespace Go.Proofs.YtgaddifabjoliaaGreatDoor
open Go.RowKit

theorem boxV.later {o : Nat} {k : Int} {t : ByteArray} {l m : Value} {w w' : World} (h : boxV o k t l m w) (hb : Below w.heap.size w w') : boxV o k t l m w' := by
  have hl := h.cells.2.2
  unfold boxV at *
  rw [hb.block o hl]
  exact h

set_option maxRecDepth 100000 in
set_option maxHeartbeats 4000000 in
theorem form_items {α : Type} (rep : Rep α) (h4 : Fours rep) (f : α → Bytes) (hf : FormX rep f) (xs : List α) (l : Value) (F : Nat → Prop) (w : World) (hx : (repItemsX rep).rel F w xs l) (hl : (listF f xs).length ≤ 200000) :
    Calls Tryz.prog 10 #[valV 108 ⟨#[]⟩ l nilV] w fun e w' => e = .returned (.string ⟨(listF f xs).toArray⟩) ∧ Below w.heap.size w w' := by
  have hxN : xs.length ≤ 4001 := hx.1
  obtain ⟨a, p, rfl, hrow⟩ := row4 h4 hx
  have hbx : boxV w.heap.size 108 ⟨#[]⟩ (.slice a xs.length p) nilV (w.alloc (.cells #[.int .u8 108, .string ⟨#[]⟩, .slice a xs.length p, nilV] 37)) := by
    show (w.heap.push _)[_]? = _
    exact Array.getElem?_push_size
  have HBX := hide hbx
  have HROW := hide hrow
  have HF := hide hf
  have hll : (sep (xs.map f)).length + 2 ≤ 200000 := by simp only [listF, List.length_append, List.length_cons, List.length_nil] at hl; omega
  unfold valV
  clear hbx hrow hf hx hl
  go_enter Tryz.func10, Tryz.ntmps10
  go_wp2
  go_loopw [3, 4] (fun out idx wr => ∃ i : Nat, i ≤ xs.length ∧ idx = .int .i64 (i : Int) ∧ out = .string ⟨([91] ++ sep ((xs.map f).take i)).toArray⟩ ∧ Hid (Below w.heap.size w wr ∧ boxV w.heap.size 108 ⟨#[]⟩ (.slice a xs.length p) nilV wr)) (fun _ idx _ => xs.length - (intOf idx).toNat)
  case atStart => exact ⟨0, by omega, rfl, rfl, (Below.refl _ _).alloc (Nat.le_refl _) _, unhide HBX⟩
  case round =>
    obtain ⟨i, hi, rfl, rfl, HI⟩ := hrel
    obtain ⟨hb, hv⟩ := unhide HI
    obtain ⟨⟨v0, v1, v2, v3⟩, vf, vl⟩ := hv.cells
    have hle := sep_le (xs.map f) i
    by_cases hlt : i < xs.length
    · rcases unhide HROW with ⟨_, h0⟩ | ⟨g, rfl, hgl, hrow⟩
      · omega
      obtain ⟨k, t, c, l, q, c', l', q', h0, h1, h2, h3, hr⟩ := hrow i hlt
      have hcell : ∀ o, wr.cell? ⟨g, o, none⟩ = w.cell? ⟨g, o, none⟩ := fun o => hb.cell (p := ⟨g, o, none⟩) hgl
      have h0' := (hcell _).trans h0
      have h1' := (hcell _).trans h1
      have h2' := (hcell _).trans h2
      have h3' := (hcell _).trans h3
      have hstep := sep_step (xs.map f) i (by simpa using hlt)
      rw [List.getElem_map] at hstep
      have hle1 := sep_le (xs.map f) (i + 1)
      have hfl : (f xs[i]).length ≤ 200000 := by
        have e2 := congrArg List.length hstep
        simp only [List.length_append] at e2
        omega
      have HCALL := hide (unhide HF xs[i] _ F wr (rep.stays hr (above_of_below hb)) hfl)
      have HB := hide hb
      have HV := hide hv
      obtain ⟨A, hA⟩ : ∃ A, [91] ++ sep ((xs.map f).take i) = A := ⟨_, rfl⟩
      have hAl : A.length ≤ 200000 := by rw [← hA]; simp; omega
      have HNX := hide (show [91] ++ sep ((xs.map f).take (i + 1)) = A ++ ((if i = 0 then [] else [44]) ++ f xs[i]) by rw [hstep, ← hA, List.append_assoc])
      obtain ⟨y, hy⟩ : ∃ y : ByteArray, y = ⟨(f xs[i]).toArray⟩ := ⟨_, rfl⟩
      have hys : y.size ≤ 200000 := by
        rw [hy]
        show (f xs[i]).toArray.size ≤ _
        simp; omega
      rw [← hy] at HCALL
      have HY := hide hy
      obtain ⟨B, hB⟩ : ∃ B : ByteArray, B = ⟨A.toArray⟩ := ⟨_, rfl⟩
      have hBs : B.size ≤ 200000 := by
        rw [hB]
        show A.toArray.size ≤ _
        simp; omega
      have HBY := hide hB
      rw [hA, ← hB]
      clear hstep h0 h1 h2 h3 hr hcell hrow hb hv HI hA hy hB hle hle1
      by_cases hz : i = 0
      · subst hz
        go_wp2_with (go_at_call 10; refine (unhide HCALL).mono ?_; rintro e w2 ⟨rfl, hw2⟩; have HW2 := hide hw2; clear hw2)
        go_roundw
        case rel =>
          refine ⟨1, by omega, by go_num, ?_, (unhide HB).trans ((unhide HW2).mono (unhide HB).size), (unhide HV).later (unhide HW2)⟩
          rw [unhide HNX, unhide HY, unhide HBY, bytes_app]
          rfl
        case measure => simp [intOf]; omega
      · have hzi : (0 : Int) < (i : Int) := by omega
        rw [if_neg hz] at HNX
        go_wp2_with (go_at_call 10; refine (unhide HCALL).mono ?_; rintro e w2 ⟨rfl, hw2⟩; have HW2 := hide hw2; clear hw2)
        go_roundw
        case rel =>
          refine ⟨i + 1, by omega, by go_num, ?_, (unhide HB).trans ((unhide HW2).mono (unhide HB).size), (unhide HV).later (unhide HW2)⟩
          rw [unhide HNX, unhide HY, unhide HBY]
          show Value.string ((⟨A.toArray⟩ : ByteArray) ++ ⟨([44] : Bytes).toArray⟩ ++ ⟨(f xs[i]).toArray⟩) = _
          rw [bytes_app, bytes_app, List.append_assoc]
        case measure => simp [intOf]; omega
    · have hie : (xs.map f).take i = xs.map f := List.take_of_length_le (by simp; omega)
      rw [hie]
      obtain ⟨A, hA⟩ : ∃ A, [91] ++ sep (xs.map f) = A := ⟨_, rfl⟩
      have hacc : listF f xs = A ++ [93] := by rw [← hA]; rfl
      have hAl : A.length ≤ 200000 := by rw [← hA]; simp; omega
      rw [hA]
      have HACC := hide hacc
      have HB := hide hb
      clear hA hacc hie hb hv HI
      go_wp2
      go_ret
      refine ⟨?_, unhide HB⟩
      rw [unhide HACC]
      show Ending.returned (.string ((⟨A.toArray⟩ : ByteArray) ++ ⟨([93] : Bytes).toArray⟩)) = _
      rw [bytes_app]
end Go.Proofs.YtgaddifabjoliaaGreatDoor

namespace Go.Proofs.YtgaddifabjoliaaGreatDoor
open Go.RowKit

/-- What is known of the row of names, and of the row of values, wherever the walk stands. -/
theorem form_tail {α : Type} (f : α → Bytes) (ms : List (Named α)) (n b : Nat) (hb : b < ms.length) (h : n < (byName ms).length) (e : ms[b] = (byName ms)[n]) :
    sep (((byName ms).map (pairF f)).take (n + 1)) = sep (((byName ms).map (pairF f)).take n) ++ ((if n = 0 then [] else [44]) ++ (textF ms[b].1 ++ ([58] ++ f ms[b].2))) := by
  have hs := sep_step ((byName ms).map (pairF f)) n (by simpa using h)
  rw [List.getElem_map] at hs
  rw [hs, e]
  rfl

set_option maxRecDepth 100000 in
set_option maxHeartbeats 8000000 in
theorem form_members {α : Type} (rep : Rep α) (h4 : Fours rep) (f : α → Bytes) (hf : FormX rep f) (ms : List (Named α)) (l m : Value) (F : Nat → Prop) (w : World) (hon : Once ms) (hx : (repItemsX rep).rel F w (ms.map Prod.snd) l) (hm : repNames.rel F w (ms.map Prod.fst) m) (hl : (objectF f (byName ms)).length ≤ 200000) :
    Calls Tryz.prog 10 #[valV 111 ⟨#[]⟩ l m] w fun e w' => e = .returned (.string ⟨(objectF f (byName ms)).toArray⟩) ∧ Below w.heap.size w w' := by
  obtain ⟨len, hlen⟩ : ∃ len, ms.length = len := ⟨_, rfl⟩
  have hxN : len ≤ 4001 := by have := hx.1; rw [List.length_map] at this; omega
  have e1 : (ms.map Prod.snd).length = len := by rw [List.length_map, hlen]
  have e2 : (ms.map Prod.fst).length = len := by rw [List.length_map, hlen]
  obtain ⟨a, p, hla, hrow⟩ := row4 h4 hx
  obtain ⟨na, np, hna, hnrow⟩ := rowN hm
  rw [e1] at hla
  rw [e2] at hna
  subst hla
  subst hna
  have hbx : boxV w.heap.size 111 ⟨#[]⟩ (.slice a len p) (.slice na len np) (w.alloc (.cells #[.int .u8 111, .string ⟨#[]⟩, .slice a len p, .slice na len np] 37)) := by
    show (w.heap.push _)[_]? = _
    exact Array.getElem?_push_size
  have HBX := hide hbx
  have hrow' : (a = none ∧ len = 0) ∨ ∃ g, a = some ⟨g, 0, none⟩ ∧ g < w.heap.size ∧ ∀ i (h : i < ms.length), ∃ k t c l q c' l' q',
      w.cell? ⟨g, i * 4, none⟩ = some (.int .u8 k) ∧ w.cell? ⟨g, i * 4 + 1, none⟩ = some (.string t) ∧ w.cell? ⟨g, i * 4 + 2, none⟩ = some (.slice c l q) ∧ w.cell? ⟨g, i * 4 + 3, none⟩ = some (.slice c' l' q') ∧
      rep.rel F w ms[i].2 (.agg #[.int .u8 k, .string t, .slice c l q, .slice c' l' q']) := by
    rcases hrow with h | ⟨g, h1, h2, h3⟩
    · exact Or.inl ⟨h.1, by omega⟩
    · refine Or.inr ⟨g, h1, h2, fun i hi => ?_⟩
      have := h3 i (by omega)
      rw [List.getElem_map] at this
      exact this
  have hnrow' : (na = none ∧ len = 0) ∨ ∃ g, na = some ⟨g, 0, none⟩ ∧ g < w.heap.size ∧ ∀ i (h : i < ms.length), w.cell? ⟨g, i, none⟩ = some (.string ⟨(ms[i].1).toArray⟩) := by
    rcases hnrow with h | ⟨g, h1, h2, h3⟩
    · exact Or.inl ⟨h.1, by omega⟩
    · refine Or.inr ⟨g, h1, h2, fun i hi => ?_⟩
      have := h3 i (by omega)
      rw [List.getElem_map] at this
      exact this
  have HROW := hide hrow'
  have HNROW := hide hnrow'
  have HF := hide hf
  have HON := hide hon
  have hbl : (byName ms).length = len := by rw [byName_length, hlen]
  have HBL := hide hbl
  have HLEN := hide hlen
  have hll : (sep ((byName ms).map (pairF f))).length + 2 ≤ 200000 := by simp only [objectF, List.length_append, List.length_cons, List.length_nil] at hl; omega
  unfold valV
  clear hbx hrow hrow' hnrow hnrow' hf hx hm hl hon hbl hlen e1 e2
  go_enter Tryz.func10, Tryz.ntmps10
  go_wp2
  go_loopw [6, 7, 8] (fun out last idx wr => ∃ (n : Nat) (la : Int), n ≤ len ∧ idx = .int .i64 (n : Int) ∧ last = .int .i64 la ∧ out = .string ⟨([123] ++ sep (((byName ms).map (pairF f)).take n)).toArray⟩ ∧ Hid (LastIs ms n la) ∧ Hid (Below w.heap.size w wr ∧ boxV w.heap.size 111 ⟨#[]⟩ (.slice a len p) (.slice na len np) wr)) (fun _ _ idx _ => len - (intOf idx).toNat)
  case atStart => exact ⟨0, -1, by omega, rfl, rfl, rfl, Or.inl ⟨rfl, rfl⟩, (Below.refl _ _).alloc (Nat.le_refl _) _, unhide HBX⟩
  case round =>
    obtain ⟨n, la, hn, rfl, rfl, rfl, HLA, HI⟩ := hrel
    obtain ⟨hb, hv⟩ := unhide HI
    obtain ⟨⟨v0, v1, v2, v3⟩, vf, vl⟩ := hv.cells
    have hle := sep_le ((byName ms).map (pairF f)) n
    by_cases hlt : n < len
    · rcases unhide HROW with ⟨_, h0⟩ | ⟨g, rfl, hgl, hrow⟩
      · omega
      rcases unhide HNROW with ⟨_, h0⟩ | ⟨ng, rfl, hngl, hnrow⟩
      · omega
      have hncell : ∀ i (h : i < ms.length), wr.cell? ⟨ng, i, none⟩ = some (.string ⟨(ms[i].1).toArray⟩) := fun i hi => (hb.cell (p := ⟨ng, i, none⟩) hngl).trans (hnrow i hi)
      have HNC := hide hncell
      have HB := hide hb
      have HV := hide hv
      have HR := hide hrow
      clear hb hv hrow hnrow hncell
      go_wp2
      go_loopw [9, 10] (fun best idx wr' => ∃ (i : Nat) (be : Int), i ≤ len ∧ idx = .int .i64 (i : Int) ∧ best = .int .i64 be ∧ Hid (BestIs ms n i be) ∧ Hid (∃ q, wr' = wr.drewN q)) (fun _ idx _ => len - (intOf idx).toNat)
      case atStart => exact ⟨0, -1, by omega, rfl, rfl, best_start ms n, 0, rfl⟩
      case round =>
        obtain ⟨i, be, hi, rfl, rfl, HBE, q, rfl⟩ := hrel
        by_cases hli : i < len
        · have hims : i < ms.length := by have := unhide HLEN; omega
          obtain ⟨xi, hxi⟩ : ∃ xi : ByteArray, xi = ⟨(ms[i].1).toArray⟩ := ⟨_, rfl⟩
          have ci := unhide HNC i hims
          rw [← hxi] at ci
          have i0 : (0 : Int) ≤ (i : Int) := by omega
          have i1 : (i : Int) < (len : Int) := by omega
          have hbcase : be = -1 ∨ ∃ (b : Nat) (hb : b < ms.length), be = (b : Int) := by
            rcases unhide HBE with ⟨h, _⟩ | ⟨b, hb, h, _⟩
            · exact Or.inl h
            · exact Or.inr ⟨b, hb, h⟩
          rcases unhide HLA with ⟨rfl, rfl⟩ | ⟨j, hjm, rfl, hj1, hj2, hj3⟩
          · rcases hbcase with rfl | ⟨b, hbm, rfl⟩
            · clear hlt
              have HS := hide (best_first (unhide HBE) hims (left_first ms _))
              clear hxi
              go_wp2
              go_quiet (fail)
              go_wp2
              go_roundw
              case rel => exact ⟨i + 1, (i : Int), by omega, by go_num, rfl, unhide HS, _, rfl⟩
              case measure => simp [intOf]; omega
            · clear hlt
              have hb2 : b < ms.length := hbm
              obtain ⟨xb, hxb⟩ : ∃ xb : ByteArray, xb = ⟨(ms[b].1).toArray⟩ := ⟨_, rfl⟩
              have cb := unhide HNC b hbm
              rw [← hxb] at cb
              have kb : decide ((b : Int) < 0) = false := decide_eq_false (by omega)
              have b0 : (0 : Int) ≤ (b : Int) := by omega
              have b1 : (b : Int) < (len : Int) := by have := unhide HLEN; omega
              have b1n : b < len := by have := unhide HLEN; omega
              have hcb : Op.bytesLess xi.toList xb.toList = ltB ms[i].1 ms[b].1 := by rw [ByteArray.toList_eq, ByteArray.toList_eq, hxi, hxb, less_is]
              cases hc2 : ltB ms[i].1 ms[b].1 with
              | true =>
                rw [hc2] at hcb
                have HS := hide (best_less hbm (unhide HBE) hims (left_first ms _) hc2)
                clear hc2 hxb hxi
                go_wp2
                go_quiet (fail)
                go_wp2
                go_roundw
                case rel => exact ⟨i + 1, (i : Int), by omega, by go_num, rfl, unhide HS, _, rfl⟩
                case measure => simp [intOf]; omega
              | false =>
                rw [hc2] at hcb
                have HS := hide (best_keep hbm (unhide HBE) hims hc2)
                clear hc2 hxb hxi
                go_wp2
                go_quiet (fail)
                go_wp2
                go_roundw
                case rel => exact ⟨i + 1, (b : Int), by omega, by go_num, rfl, unhide HS, _, rfl⟩
                case measure => simp [intOf]; omega
          · have hLi := left_last hjm hj1 hj2 hj3 ms[i].1
            obtain ⟨xj, hxj⟩ : ∃ xj : ByteArray, xj = ⟨(ms[j].1).toArray⟩ := ⟨_, rfl⟩
            have cj := unhide HNC j hjm
            rw [← hxj] at cj
            have kj : decide ((j : Int) < 0) = false := decide_eq_false (by omega)
            have j0 : (0 : Int) ≤ (j : Int) := by omega
            have j1 : (j : Int) < (len : Int) := by have := unhide HLEN; omega
            have j1n : j < len := by have := unhide HLEN; omega
            have hcl : Op.bytesLess xi.toList xj.toList = ltB ms[i].1 ms[j].1 := by rw [ByteArray.toList_eq, ByteArray.toList_eq, hxi, hxj, less_is]
            have hce : (xi.toList == xj.toList) = decide (ms[i].1 = ms[j].1) := by
              rw [ByteArray.toList_eq, ByteArray.toList_eq, hxi, hxj]
              by_cases h : ms[i].1 = ms[j].1
              · rw [decide_eq_true h, h]; simp
              · rw [decide_eq_false h, beq_eq_false_iff_ne]; exact h
            cases hc1 : ltB ms[j].1 ms[i].1 with
            | false =>
              rw [hc1] at hLi
              have HS := hide (best_skip (unhide HBE) hims (fun h => by cases hLi.1 h))
              by_cases he : ms[i].1 = ms[j].1
              · rw [decide_eq_true he] at hce
                rw [he, ltB_irrefl] at hcl
                clear hc1 hLi hxj hxi hj1 hj2 hj3 he
                go_wp2
                go_quiet (fail)
                go_wp2
                go_roundw
                case rel => exact ⟨i + 1, be, by omega, by go_num, rfl, unhide HS, _, rfl⟩
                case measure => simp [intOf]; omega
              · rw [decide_eq_false he] at hce
                rw [ltB_or hc1 (fun e => he e.symm)] at hcl
                clear hc1 hLi hxj hxi hj1 hj2 hj3 he
                go_wp2
                go_quiet (fail)
                go_wp2
                go_roundw
                case rel => exact ⟨i + 1, be, by omega, by go_num, rfl, unhide HS, _, rfl⟩
                case measure => simp [intOf]; omega
            | true =>
              rw [ltB_asymm hc1] at hcl
              rw [decide_eq_false (fun e => by rw [e, ltB_irrefl] at hc1; cases hc1)] at hce
              have HLI := hide (hLi.2 hc1)
              clear hc1 hLi hxj hj1 hj2 hj3
              rcases hbcase with rfl | ⟨b, hbm, rfl⟩
              · clear hlt
                have HS := hide (best_first (unhide HBE) hims (unhide HLI))
                clear hxi
                go_wp2
                go_quiet (fail)
                go_wp2
                go_roundw
                case rel => exact ⟨i + 1, (i : Int), by omega, by go_num, rfl, unhide HS, _, rfl⟩
                case measure => simp [intOf]; omega
              · clear hlt
                have hb2 : b < ms.length := hbm
                obtain ⟨xb, hxb⟩ : ∃ xb : ByteArray, xb = ⟨(ms[b].1).toArray⟩ := ⟨_, rfl⟩
                have cb := unhide HNC b hbm
                rw [← hxb] at cb
                have kb : decide ((b : Int) < 0) = false := decide_eq_false (by omega)
                have b0 : (0 : Int) ≤ (b : Int) := by omega
                have b1 : (b : Int) < (len : Int) := by have := unhide HLEN; omega
                have b1n : b < len := by have := unhide HLEN; omega
                have hcb : Op.bytesLess xi.toList xb.toList = ltB ms[i].1 ms[b].1 := by rw [ByteArray.toList_eq, ByteArray.toList_eq, hxi, hxb, less_is]
                cases hc2 : ltB ms[i].1 ms[b].1 with
                | true =>
                  rw [hc2] at hcb
                  have HS := hide (best_less hbm (unhide HBE) hims (unhide HLI) hc2)
                  clear hc2 hxb hxi
                  go_wp2
                  go_quiet (fail)
                  go_wp2
                  go_roundw
                  case rel => exact ⟨i + 1, (i : Int), by omega, by go_num, rfl, unhide HS, _, rfl⟩
                  case measure => simp [intOf]; omega
                | false =>
                  rw [hc2] at hcb
                  have HS := hide (best_keep hbm (unhide HBE) hims hc2)
                  clear hc2 hxb hxi
                  go_wp2
                  go_quiet (fail)
                  go_wp2
                  go_roundw
                  case rel => exact ⟨i + 1, (b : Int), by omega, by go_num, rfl, unhide HS, _, rfl⟩
                  case measure => simp [intOf]; omega
        · obtain ⟨b, hbm, rfl, hbn, hbe⟩ := best_end (unhide HON) (by have := unhide HLEN; omega) (unhide HBE) (by have := unhide HLEN; omega)
          obtain ⟨k, t, c, l, q1, c', l', q2, h0, h1, h2, h3, hr⟩ := unhide HR b hbm
          have hb := unhide HB
          have hcell : ∀ o, wr.cell? ⟨g, o, none⟩ = w.cell? ⟨g, o, none⟩ := fun o => hb.cell (p := ⟨g, o, none⟩) hgl
          have h0' := (hcell _).trans h0
          have h1' := (hcell _).trans h1
          have h2' := (hcell _).trans h2
          have h3' := (hcell _).trans h3
          obtain ⟨xb, hxb⟩ : ∃ xb : ByteArray, xb = ⟨(ms[b].1).toArray⟩ := ⟨_, rfl⟩
          have cb := unhide HNC b hbm
          rw [← hxb] at cb
          have hxbl : xb.data.toList = ms[b].1 := by rw [hxb]
          have b0 : (0 : Int) ≤ (b : Int) := by omega
          have b1 : (b : Int) < (len : Int) := by have := unhide HLEN; omega
          have b1n : b < len := by have := unhide HLEN; omega
          have htail := form_tail f ms n b hbm hbn hbe
          rw [← hxbl] at htail
          have hle1 := sep_le ((byName ms).map (pairF f)) (n + 1)
          have hlt' := congrArg List.length htail
          simp only [List.length_append, List.length_cons, List.length_nil] at hlt'
          have hfl : (f ms[b].2).length ≤ 200000 := by omega
          have htl : (textF xb.data.toList).length ≤ 200000 := by omega
          have hxs : xb.size ≤ 200000 := by
            have := textF_ge xb.data.toList
            have e : xb.size = xb.data.toList.length := by rw [Array.length_toList]; rfl
            omega
          have hbq : Below w.heap.size w (wr.drewN q) := hb.trans ((below_drewN wr q).mono hb.size)
          have HCALL := hide (unhide HF ms[b].2 _ F (wr.drewN q) (rep.stays hr (above_of_below hbq)) hfl)
          have HBQ := hide hbq
          have HVQ := hide ((unhide HV).later (below_drewN wr q))
          obtain ⟨A, hA⟩ : ∃ A, [123] ++ sep (((byName ms).map (pairF f)).take n) = A := ⟨_, rfl⟩
          have hAl : A.length ≤ 200000 := by rw [← hA]; simp; omega
          obtain ⟨T, hT⟩ : ∃ T, textF xb.data.toList = T := ⟨_, rfl⟩
          obtain ⟨Y, hY⟩ : ∃ Y, f ms[b].2 = Y := ⟨_, rfl⟩
          rw [hT, hY] at htail
          rw [hT] at htl
          rw [hY] at hfl HCALL
          have HNX := hide (show [123] ++ sep (((byName ms).map (pairF f)).take (n + 1)) = A ++ ((if n = 0 then [] else [44]) ++ (T ++ ([58] ++ Y))) by rw [htail, ← hA, List.append_assoc])
          obtain ⟨y, hy⟩ : ∃ y : ByteArray, y = ⟨Y.toArray⟩ := ⟨_, rfl⟩
          have hys : y.size ≤ 200000 := by rw [hy]; show Y.toArray.size ≤ _; simp; omega
          obtain ⟨tb, htb⟩ : ∃ tb : ByteArray, tb = ⟨T.toArray⟩ := ⟨_, rfl⟩
          have hts : tb.size ≤ 200000 := by rw [htb]; show T.toArray.size ≤ _; simp; omega
          obtain ⟨B, hB⟩ : ∃ B : ByteArray, B = ⟨A.toArray⟩ := ⟨_, rfl⟩
          have hBs : B.size ≤ 200000 := by rw [hB]; show A.toArray.size ≤ _; simp; omega
          have HQC := hide (fun w' => quoted_calls xb w' hxs)
          rw [hT, ← htb] at HQC
          rw [← hy] at HCALL
          have HY := hide hy
          have HTB := hide htb
          have HBY := hide hB
          have HLS := hide (show LastIs ms (n + 1) (b : Int) from Or.inr ⟨b, hbm, rfl, hbn, Nat.succ_pos n, hbe⟩)
          have hcw : ∀ w', Below (wr.drewN q).heap.size (wr.drewN q) w' → w'.cell? ⟨ng, b, none⟩ = some (.string xb) := fun w' h => (h.cell (p := ⟨ng, b, none⟩) (by have := hb.size; show ng < wr.heap.size; omega)).trans cb
          have HCW := hide hcw
          have HUP := hide (fun (w1 w2 : World) (h1 : Below (wr.drewN q).heap.size (wr.drewN q) w1) (h2 : Below w1.heap.size w1 w2) => up h1 h2)
          rw [hA, ← hB]
          clear hcw htail hle1 hlt' h0 h1 h2 h3 hr hcell hb hbq hA hT hY hy htb hB hxb hxbl hle HI HLA HBE hbe hbn
          by_cases hz : n = 0
          · subst hz
            go_wp2_with (first | (go_at_call 10; refine (unhide HCALL).mono ?_; rintro e w2 ⟨rfl, hw2⟩; have HW2 := hide hw2; have cb2 := unhide HCW _ hw2; obtain ⟨⟨d0, d1, d2, d3⟩, df, dl⟩ := ((unhide HVQ).later hw2).cells; clear hw2) | (go_at_call 16; refine (unhide HQC _).mono ?_; rintro e w3 ⟨rfl, n3, rfl⟩))
            go_roundw
            case rel =>
              refine ⟨1, (b : Int), by omega, by go_num, rfl, ?_, unhide HLS, (unhide HBQ).trans ((up (unhide HW2) (below_drewN _ _)).mono (unhide HBQ).size), ((unhide HVQ).later (up (unhide HW2) (below_drewN _ _)))⟩
              rw [unhide HNX, unhide HY, unhide HTB, unhide HBY]
              show Value.string ((⟨A.toArray⟩ : ByteArray) ++ ⟨T.toArray⟩ ++ ⟨([58] : Bytes).toArray⟩ ++ ⟨Y.toArray⟩) = _
              rw [bytes_app, bytes_app, bytes_app, List.append_assoc, List.append_assoc]
              rfl
            case measure => simp [intOf]; omega
          · have hzi : (0 : Int) < (n : Int) := by omega
            rw [if_neg hz] at HNX
            go_wp2_with (first | (go_at_call 10; refine (unhide HCALL).mono ?_; rintro e w2 ⟨rfl, hw2⟩; have HW2 := hide hw2; have cb2 := unhide HCW _ hw2; obtain ⟨⟨d0, d1, d2, d3⟩, df, dl⟩ := ((unhide HVQ).later hw2).cells; clear hw2) | (go_at_call 16; refine (unhide HQC _).mono ?_; rintro e w3 ⟨rfl, n3, rfl⟩))
            go_roundw
            case rel =>
              refine ⟨n + 1, (b : Int), by omega, by go_num, rfl, ?_, unhide HLS, (unhide HBQ).trans ((up (unhide HW2) (below_drewN _ _)).mono (unhide HBQ).size), ((unhide HVQ).later (up (unhide HW2) (below_drewN _ _)))⟩
              rw [unhide HNX, unhide HY, unhide HTB, unhide HBY]
              show Value.string ((⟨A.toArray⟩ : ByteArray) ++ ⟨([44] : Bytes).toArray⟩ ++ ⟨T.toArray⟩ ++ ⟨([58] : Bytes).toArray⟩ ++ ⟨Y.toArray⟩) = _
              rw [bytes_app, bytes_app, bytes_app, bytes_app, List.append_assoc, List.append_assoc, List.append_assoc]
            case measure => simp [intOf]; omega
    · have hie : ((byName ms).map (pairF f)).take n = (byName ms).map (pairF f) := List.take_of_length_le (by simp; have := unhide HBL; omega)
      rw [hie]
      obtain ⟨A, hA⟩ : ∃ A, [123] ++ sep ((byName ms).map (pairF f)) = A := ⟨_, rfl⟩
      have hacc : objectF f (byName ms) = A ++ [125] := by rw [← hA]; rfl
      have hAl : A.length ≤ 200000 := by rw [← hA]; simp; omega
      rw [hA]
      have HACC := hide hacc
      have HB := hide hb
      clear hA hacc hie hb hv HI
      go_wp2
      go_ret
      refine ⟨?_, unhide HB⟩
      rw [unhide HACC]
      show Ending.returned (.string ((⟨A.toArray⟩ : ByteArray) ++ ⟨([125] : Bytes).toArray⟩)) = _
      rw [bytes_app]
end Go.Proofs.YtgaddifabjoliaaGreatDoor
