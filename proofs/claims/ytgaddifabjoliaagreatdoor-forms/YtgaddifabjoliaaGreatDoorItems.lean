import Derived.Test.YtgaddifabjoliaaGreatDoorWrt
namespace Go.Proofs.YtgaddifabjoliaaGreatDoor
open Go.RowKit

def sep : List Bytes → Bytes
  | [] => []
  | x :: l => x ++ l.flatMap fun y => [44] ++ y
theorem sep_step (l : List Bytes) (i : Nat) (h : i < l.length) : sep (l.take (i + 1)) = sep (l.take i) ++ ((if i = 0 then [] else [44]) ++ l[i]) := by
  match l, i, h with
  | x :: l, 0, _ => simp [sep]
  | x :: l, i + 1, h =>
    have h' : i < l.length := by simpa using h
    simp only [List.take_succ_cons, sep, List.take_add_one (l := l) (i := i), List.getElem?_eq_getElem h', Option.toList_some, List.flatMap_append, List.flatMap_cons, List.flatMap_nil, List.append_nil, List.getElem_cons_succ, Nat.succ_ne_zero, if_false, List.append_assoc]

theorem sep_le (l : List Bytes) (i : Nat) : (sep (l.take i)).length ≤ (sep l).length := by
  match l, i with
  | [], _ => simp [sep]
  | x :: l, 0 => simp [sep]
  | x :: l, i + 1 =>
    have h : l.flatMap (fun y => [44] ++ y) = (l.take i).flatMap (fun y => [44] ++ y) ++ (l.drop i).flatMap (fun y => [44] ++ y) := by
      rw [← List.flatMap_append, List.take_append_drop]
    simp only [List.take_succ_cons, sep, List.length_append, h]
    omega

theorem flatten_at {k : Nat} : ∀ {cs : List (List Value)} (i j : Nat), (∀ c ∈ cs, c.length = k) → (hi : i < cs.length) → j < k → cs.flatten[i * k + j]? = (cs[i])[j]?
  | c :: cs, 0, j, h, _, hj => by
    have hc := h c (by simp)
    rw [List.flatten_cons, Nat.zero_mul, Nat.zero_add, List.getElem?_append_left (by omega)]
    rfl
  | c :: cs, i + 1, j, h, hi, hj => by
    have hc := h c (by simp)
    rw [List.flatten_cons, List.getElem?_append_right (by rw [hc, Nat.add_mul]; omega)]
    have e : (i + 1) * k + j - c.length = i * k + j := by rw [hc, Nat.add_mul]; omega
    rw [e, flatten_at i j (fun c hc => h c (by simp [hc])) (by simpa using hi) hj]
    rfl

theorem elems_at {α : Type} {k : Nat} {rep : Rep α} {F : Nat → Prop} {w : World} : ∀ {xs : List α} {cs : List (List Value)}, Elems k rep F w xs cs → cs.length = xs.length ∧ (∀ c ∈ cs, c.length = k) ∧ ∀ i (h : i < xs.length) (h' : i < cs.length), rep.rel F w xs[i] (.agg (cs[i]).toArray)
  | [], [], _ => ⟨rfl, (fun c hc => by cases hc), fun i h => absurd h (Nat.not_lt_zero _)⟩
  | x :: xs, c :: cs, h => by
    obtain ⟨h1, h2, h3⟩ := elems_at h.2.2
    refine ⟨by simp [h1], ?_, ?_⟩
    · intro d hd
      rcases List.mem_cons.1 hd with rfl | hd
      · exact h.2.1
      · exact h2 d hd
    · intro i hi hi'
      cases i with
      | zero => exact h.1
      | succ i => exact h3 i (by simpa using hi) (by simpa using hi')
  | [], _ :: _, h => h.elim
  | _ :: _, [], h => h.elim

/-- Blocks that a write onto the builder b leaves alone. -/
def Safe (b : Nat) (F : Nat → Prop) (w : World) : Prop := ∀ k, F k → k ≠ b ∧ ∃ o, w.heap[k]? = some o ∧ ∀ c fz, o ≠ .cells c 5 fz
theorem Safe.above {b : Nat} {F : Nat → Prop} {w w' : World} (h : Safe b F w) (hk : Lib.OthersKept 5 (some b) w w') (hs : w.heap.size ≤ w'.heap.size) : AboveF F w w' := by
  refine ⟨hs, fun k hF _ => ?_⟩
  obtain ⟨h1, o, h2, h3⟩ := h k hF
  rw [hk k o h2 (fun e => h1 (by injection e)) h3, h2]
theorem Safe.later {b : Nat} {F : Nat → Prop} {w w' : World} (h : Safe b F w) (hk : Lib.OthersKept 5 (some b) w w') : Safe b F w' := by
  intro k hF
  obtain ⟨h1, o, h2, h3⟩ := h k hF
  exact ⟨h1, o, hk k o h2 (fun e => h1 (by injection e)) h3, h3⟩
theorem Safe.less {b : Nat} {F F' : Nat → Prop} {w : World} (h : Safe b F w) (hF : ∀ k, F' k → F k) : Safe b F' w := fun k hk => h k (hF k hk)

def Tab (B : Nat) (w : World) : Prop := ∀ w', Below B w w' → Lib.TabIs Tryz.prog w' "internal/strconv.uint64pow10" .u64 Lib.pow10Tab
theorem Tab.on {B : Nat} {w w1 : World} (h : Tab B w) (hb : Below B w w1) : Tab B w1 := fun w' h' => h w' (hb.trans h')
abbrev Bld (B b : Nat) (acc : Bytes) (w : World) : Prop := Lib.IsBuilderF 47 5 B b (Lib.byteCells acc) w

/-- How something is written. -/
def WriteSays {α : Type} (rep : Rep α) (f : α → Bytes) : Prop := ∀ (B b : Nat) (acc : Bytes) (x : α) (v : Value) (F : Nat → Prop) (w : World), Bld B b acc w → rep.rel F w x v → Safe b F w → acc.length + 8 * (f x).length ≤ 140737488355328 → B ≤ w.heap.size → Tab B w →
  Calls Tryz.prog 12 #[v, .pointer (some ⟨b, 0, none⟩)] w fun e w' => e = .returned (.tuple #[]) ∧ Wr B b acc (f x) w w'

theorem Wr.from {B b : Nat} {acc x : Bytes} {w w1 w2 : World} (h : Wr B b acc x w1 w2) (hb : Below w.heap.size w w1) (hB : B ≤ w.heap.size) : Wr B b acc x w w2 :=
  ⟨h.1, (hb.mono hB).trans h.2.1, ((Lib.OthersKept.refl _ _ w).below hb).trans h.2.2⟩
theorem WriteSays.boxed {α : Type} {rep : Rep α} {f : α → Bytes} (h : WriteSays rep f) {B b : Nat} {acc : Bytes} {x : α} {v : Value} {F : Nat → Prop} {w w1 : World} (hb : Below w.heap.size w w1) (h1 : Bld B b acc w) (h2 : rep.rel F w x v) (h3 : Safe b F w) (h4 : acc.length + 8 * (f x).length ≤ 140737488355328) (h5 : B ≤ w.heap.size) (h6 : Tab B w) :
    Calls Tryz.prog 12 #[v, .pointer (some ⟨b, 0, none⟩)] w1 fun e w' => e = .returned (.tuple #[]) ∧ Hid (Wr B b acc (f x) w w') := by
  have hk : Lib.OthersKept 5 (some b) w w1 := (Lib.OthersKept.refl _ _ w).below hb
  refine (h B b acc x v F w1 (isBuilder_later h1 hb) (rep.stays h2 (h3.above hk hb.size)) (h3.later hk) h4 (Nat.le_trans h5 hb.size) (h6.on (hb.mono h5))).mono ?_
  rintro e w' ⟨he, hw⟩
  exact ⟨he, hw.from hb h5⟩

theorem kept_cells {B b : Nat} {acc x : Bytes} {wr w2 : World} {l : Array Value} {T : TypeId} (h : Wr B b acc x (wr.alloc (.cells l T)) w2) (hb : b < wr.heap.size) (hT : T ≠ 5) : w2.heap[wr.heap.size]? = some (.cells l T (0, 0)) :=
  h.2.2 wr.heap.size _ Array.getElem?_push_size (fun e => by injection e; omega) (fun c fz e => by injection e with _ e _; exact hT e)
theorem builder_lt {B b : Nat} {acc : Bytes} {w : World} (h : Bld B b acc w) : b < w.heap.size := h.elim (fun x => x.lt) (fun x => x.lt)
theorem WriteSays.after {α : Type} {rep : Rep α} {f : α → Bytes} (h : WriteSays rep f) {B b : Nat} {acc y : Bytes} {x : α} {v : Value} {F : Nat → Prop} {w w1 : World} (hw : Wr B b acc y w w1) (h2 : rep.rel F w x v) (h3 : Safe b F w) (h4 : (acc ++ y).length + 8 * (f x).length ≤ 140737488355328) (h5 : B ≤ w.heap.size) (h6 : Tab B w) :
    Calls Tryz.prog 12 #[v, .pointer (some ⟨b, 0, none⟩)] w1 fun e w' => e = .returned (.tuple #[]) ∧ Hid (Wr B b acc (y ++ f x) w w') := by
  refine (h B b (acc ++ y) x v F w1 hw.1 (rep.stays h2 (h3.above hw.2.2 hw.2.1.size)) (h3.later hw.2.2) h4 (hw.lt h5) (h6.on hw.2.1)).mono ?_
  rintro e w' ⟨he, hw'⟩
  exact ⟨he, hw.trans hw'⟩

/-- A row of values: its cells. -/
theorem row5 {α : Type} {rep : Rep α} (h5 : Fives rep) {F : Nat → Prop} {w : World} {xs : List α} {v : Value} (h : (repItems rep).rel F w xs v) :
    ∃ a p, v = .slice a xs.length p ∧ ((a = none ∧ xs.length = 0) ∨ ∃ g, a = some ⟨g, 0, none⟩ ∧ F g ∧ ∀ i (h : i < xs.length), ∃ k n t c l q c' l' q',
      w.cell? ⟨g, i * 5, none⟩ = some (.int .i64 k) ∧ w.cell? ⟨g, i * 5 + 1, none⟩ = some (.int .i64 n) ∧ w.cell? ⟨g, i * 5 + 2, none⟩ = some (.string t) ∧ w.cell? ⟨g, i * 5 + 3, none⟩ = some (.slice c l q) ∧ w.cell? ⟨g, i * 5 + 4, none⟩ = some (.slice c' l' q') ∧
      rep.rel F w xs[i] (.agg #[.int .i64 k, .int .i64 n, .string t, .slice c l q, .slice c' l' q'])) := by
  obtain ⟨hN, cs, F', hF, hE, ho, hblk⟩ := h
  have HO := ho
  obtain ⟨h1, h2, h3⟩ := elems_at hE
  rcases ho.2 with ⟨rfl, h0⟩ | ⟨g, cap, cur, rfl, hbase, hb, hn, hm, hs, ht⟩
  · exact ⟨none, 0, by rw [h0], Or.inl ⟨rfl, h0⟩⟩
  · refine ⟨_, cap, rfl, Or.inr ⟨g, rfl, (hblk g rfl).1, fun i hi => ?_⟩⟩
    have hi' : i < cs.length := by omega
    obtain ⟨k, n, t, c, l, q, c', l', q', hv⟩ := h5 _ _ _ _ (h3 i hi hi')
    have hcs : cs[i] = [.int .i64 k, .int .i64 n, .string t, .slice c l q, .slice c' l' q'] := by
      injection hv with hv
      simpa using congrArg Array.toList hv
    have hat : ∀ j, j < 5 → w.cell? ⟨g, i * 5 + j, none⟩ = (cs[i])[j]? := by
      intro j hj
      rw [HO.cellAt (i * 5 + j) (by omega), flatten_at i j h2 hi' hj]
    refine ⟨k, n, t, c, l, q, c', l', q', ?_, ?_, ?_, ?_, ?_, ?_⟩
    · have := hat 0 (by omega); rw [hcs] at this; simpa using this
    · have := hat 1 (by omega); rw [hcs] at this; simpa using this
    · have := hat 2 (by omega); rw [hcs] at this; simpa using this
    · have := hat 3 (by omega); rw [hcs] at this; simpa using this
    · have := hat 4 (by omega); rw [hcs] at this; simpa using this
    · have := rep.anti (h3 i hi hi') hF
      rw [hcs] at this
      exact this

def listF {α : Type} (f : α → Bytes) (xs : List α) : Bytes := [91] ++ sep (xs.map f) ++ [93]

set_option maxHeartbeats 2000000 in
theorem writeItems_calls {α : Type} (rep : Rep α) (h5 : Fives rep) (f : α → Bytes) (hw : WriteSays rep f) (B b : Nat) (acc : Bytes) (xs : List α) (v : Value) (F : Nat → Prop) (w : World) (hI : Bld B b acc w) (hx : (repItems rep).rel F w xs v) (hS : Safe b F w) (hl : acc.length + 8 * (listF f xs).length ≤ 140737488355328) (hB : B ≤ w.heap.size) (hT : Tab B w) :
    Calls Tryz.prog 36 #[.pointer (some ⟨b, 0, none⟩), v] w fun e w' => e = .returned (.tuple #[]) ∧ Wr B b acc (listF f xs) w w' := by
  have hxN : xs.length ≤ 4001 := hx.1
  obtain ⟨a, p, hv, hrow⟩ := row5 h5 hx
  subst hv
  have hl1 : acc.length + 1 ≤ 140737488355328 := by simp [listF] at hl; omega
  have HI := hide hI
  have HROW := hide hrow
  have HS := hide hS
  have HT := hide hT
  have HWS := hide hw
  clear hI hrow hS hT hw hx h5
  go_enter Tryz.func36, Tryz.ntmps36
  go_wp2_with (go_at_call 95; refine (writeByte B b acc 91 _ (unhide HI) hl1 hB).mono ?_; rintro e w1 ⟨rfl, hw1⟩; have HW1 := hide hw1; clear hw1)
  go_loopw [10] (fun idx wr => ∃ i : Nat, i ≤ xs.length ∧ idx = .int .i64 i ∧ Hid (Wr B b acc ([91] ++ sep ((xs.map f).take i)) w wr)) (fun idx _ => xs.length - (intOf idx).toNat)
  case atStart => exact ⟨0, by omega, rfl, unhide HW1⟩
  case round =>
    obtain ⟨i, hi, rfl, HW⟩ := hrel
    have hBr := (unhide HW).lt hB
    obtain ⟨A, hA⟩ : ∃ A, acc ++ ([91] ++ sep ((xs.map f).take i)) = A := ⟨_, rfl⟩
    have hIA := (unhide HW).1
    rw [hA] at hIA
    have HIA := hide hIA
    have HA := hide hA
    clear hIA hA
    by_cases hlt : i < xs.length
    · have hlti : (i : Int) < (xs.length : Int) := by omega
      rcases unhide HROW with ⟨_, h0⟩ | ⟨g, rfl, hFg, hrow⟩
      · omega
      obtain ⟨k, n, t, c, l, q, c', l', q', h0, h1, h2, h3, h4, hr⟩ := hrow i hlt
      have hab := (unhide HS).above (unhide HW).2.2 (unhide HW).2.1.size
      have hgl : g < w.heap.size := World.block_lt_of_cell? w _ h0
      have hcell : ∀ o, wr.cell? ⟨g, o, none⟩ = w.cell? ⟨g, o, none⟩ := fun o => by simp only [World.cell?, hab.2 g hFg hgl]
      have h0' := (hcell _).trans h0
      have h1' := (hcell _).trans h1
      have h2' := (hcell _).trans h2
      have h3' := (hcell _).trans h3
      have h4' := (hcell _).trans h4
      have HREL := hide (rep.stays hr hab)
      have HSF := hide ((unhide HS).later (unhide HW).2.2)
      have HTB := hide ((unhide HT).on (unhide HW).2.1)
      have hstep := sep_step (xs.map f) i (by simpa using hlt)
      rw [List.getElem_map] at hstep
      have hnext : ∀ w2, Wr B b A ((if i = 0 then [] else [44]) ++ f xs[i]) wr w2 → Wr B b acc ([91] ++ sep ((xs.map f).take (i + 1))) w w2 := by
        intro w2 h2
        rw [hstep, ← List.append_assoc]
        exact (unhide HW).trans (by rw [unhide HA]; exact h2)
      have HNX := hide hnext
      have hlA : A.length + 8 * ((if i = 0 then [] else [44]) ++ f xs[i]).length ≤ 140737488355328 := by
        have e1 := congrArg List.length (unhide HA)
        have e2 := congrArg List.length hstep
        have e3 := sep_le (xs.map f) (i + 1)
        simp only [List.length_append, List.length_cons, List.length_nil, listF] at e1 e2 hl ⊢
        omega
      clear hnext hstep HW HA h0 h1 h2 h3 h4 hr hcell hrow hab hgl
      by_cases hz : i = 0
      · subst hz
        have hlz : A.length + 8 * (f xs[0]).length ≤ 140737488355328 := hlA
        go_wp2_with (go_at_call 12; refine ((unhide HWS).boxed ((Below.refl _ _).alloc (Nat.le_refl _) _) (unhide HIA) (unhide HREL) (unhide HSF) hlz hBr (unhide HTB)).mono ?_; rintro e w2 ⟨rfl, HW2⟩)
        go_roundw
        case rel => exact ⟨1, by omega, by go_num, unhide HNX _ (unhide HW2)⟩
        case measure => simp [intOf]; omega
      · have hzi : (0 : Int) < (i : Int) := by omega
        rw [if_neg hz] at hlA HNX
        have hlz : A.length + 1 ≤ 140737488355328 := by simp at hlA; omega
        have hlz2 : (A ++ [44]).length + 8 * (f xs[i]).length ≤ 140737488355328 := by simp at hlA ⊢; omega
        have hblt := builder_lt (unhide HIA)
        go_wp2_with (first
          | (go_at_call 95; refine (writeByte B b A 44 _ (isBuilder_later (unhide HIA) ((Below.refl _ _).alloc (Nat.le_refl _) _)) hlz (by simp; omega)).mono ?_; rintro e w2 ⟨rfl, hw2⟩; have HW2 := hide (hw2.from ((Below.refl _ _).alloc (Nat.le_refl _) _) hBr); obtain ⟨⟨q0, q1, q2, q3, q4⟩, qf, ql⟩ := box5h (kept_cells hw2 hblt (by decide)); clear hw2)
          | (go_at_call 12; refine ((unhide HWS).after (unhide HW2) (unhide HREL) (unhide HSF) hlz2 hBr (unhide HTB)).mono ?_; rintro e w3 ⟨rfl, HW3⟩))
        go_roundw
        case rel => exact ⟨i + 1, by omega, by go_num, unhide HNX _ (unhide HW3)⟩
        case measure => simp [intOf]; omega
    · have hie : i = xs.length := by omega
      subst hie
      have hlz : A.length + 1 ≤ 140737488355328 := by
        have e1 := congrArg List.length (unhide HA)
        have e3 := sep_le (xs.map f) xs.length
        simp only [List.length_append, List.length_cons, List.length_nil, listF] at e1 hl
        omega
      have hfin : ∀ w2, Wr B b A [93] wr w2 → Wr B b acc (listF f xs) w w2 := by
        intro w2 h2
        have e : listF f xs = ([91] ++ sep ((xs.map f).take xs.length)) ++ [93] := by
          rw [List.take_of_length_le (by simp)]; rfl
        rw [e]
        exact (unhide HW).trans (by rw [unhide HA]; exact h2)
      have HFI := hide hfin
      clear hfin HW HA
      go_wp2_with (go_at_call 95; refine (writeByte B b A 93 _ (unhide HIA) hlz hBr).mono ?_; rintro e w2 ⟨rfl, hw2⟩; have HW2 := hide hw2; clear hw2)
      go_end0
      exact ⟨rfl, unhide HFI _ (unhide HW2)⟩
end Go.Proofs.YtgaddifabjoliaaGreatDoor
