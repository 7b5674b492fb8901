import Derived.Test.YtgaddifabjoliaaGreatDoorItems
namespace Go.Proofs.YtgaddifabjoliaaGreatDoor
open Go.RowKit

/-- A row of members: its cells. -/
theorem row6 {α : Type} {rep : Rep α} (_h5 : Fives rep) {F : Nat → Prop} {w : World} {xs : List (Named α)} {v : Value} (h : (repMembers rep).rel F w xs v) :
    ∃ a p, v = .slice a xs.length p ∧ ((a = none ∧ xs.length = 0) ∨ ∃ g, a = some ⟨g, 0, none⟩ ∧ F g ∧ ∀ i (h : i < xs.length), ∃ k n t c l q c' l' q',
      w.cell? ⟨g, i * 6, none⟩ = some (.string ⟨xs[i].1.toArray⟩) ∧ w.cell? ⟨g, i * 6 + 1, none⟩ = some (.int .i64 k) ∧ w.cell? ⟨g, i * 6 + 2, none⟩ = some (.int .i64 n) ∧ w.cell? ⟨g, i * 6 + 3, none⟩ = some (.string t) ∧ w.cell? ⟨g, i * 6 + 4, none⟩ = some (.slice c l q) ∧ w.cell? ⟨g, i * 6 + 5, none⟩ = some (.slice c' l' q') ∧
      rep.rel F w xs[i].2 (.agg #[.int .i64 k, .int .i64 n, .string t, .slice c l q, .slice c' l' q'])) := by
  obtain ⟨hN, cs, F', hF, hE, ho, hblk⟩ := h
  have HO := ho
  obtain ⟨h1, h2, h3⟩ := elems_at hE
  rcases ho.2 with ⟨rfl, h0⟩ | ⟨g, cap, cur, rfl, hbase, hb, hn, hm, hs, ht⟩
  · exact ⟨none, 0, by rw [h0], Or.inl ⟨rfl, h0⟩⟩
  · refine ⟨_, cap, rfl, Or.inr ⟨g, rfl, (hblk g rfl).1, fun i hi => ?_⟩⟩
    have hi' : i < cs.length := by omega
    obtain ⟨k, n, t, c, l, q, c', l', q', hv, hrel⟩ := h3 i hi hi'
    have hcs : cs[i] = [.string ⟨xs[i].1.toArray⟩, .int .i64 k, .int .i64 n, .string t, .slice c l q, .slice c' l' q'] := by
      injection hv with hv
      simpa using congrArg Array.toList hv
    have hat : ∀ j, j < 6 → w.cell? ⟨g, i * 6 + j, none⟩ = (cs[i])[j]? := by
      intro j hj
      rw [HO.cellAt (i * 6 + j) (by omega), flatten_at i j h2 hi' hj]
    refine ⟨k, n, t, c, l, q, c', l', q', ?_, ?_, ?_, ?_, ?_, ?_, rep.anti hrel hF⟩
    · have := hat 0 (by omega); rw [hcs] at this; simpa using this
    · have := hat 1 (by omega); rw [hcs] at this; simpa using this
    · have := hat 2 (by omega); rw [hcs] at this; simpa using this
    · have := hat 3 (by omega); rw [hcs] at this; simpa using this
    · have := hat 4 (by omega); rw [hcs] at this; simpa using this
    · have := hat 5 (by omega); rw [hcs] at this; simpa using this

def pairF {α : Type} (f : α → Bytes) (m : Named α) : Bytes := textF m.1 ++ ([58] ++ f m.2)
def objectF {α : Type} (f : α → Bytes) (xs : List (Named α)) : Bytes := [123] ++ sep (xs.map (pairF f)) ++ [125]

theorem box6h {w1 : World} {o : Nat} {a b c d e f : Value} {T : TypeId} (h : w1.heap[o]? = some (.cells #[a, b, c, d, e, f] T (0, 0))) :
    (w1.cell? ⟨o, 0, none⟩ = some a ∧ w1.cell? ⟨o, 1, none⟩ = some b ∧ w1.cell? ⟨o, 2, none⟩ = some c ∧ w1.cell? ⟨o, 3, none⟩ = some d ∧ w1.cell? ⟨o, 4, none⟩ = some e ∧ w1.cell? ⟨o, 5, none⟩ = some f) ∧ (∀ j, w1.frozen? ⟨o, j, none⟩ = false) ∧ o < w1.heap.size :=
  ⟨⟨by simp [World.cell?, h], by simp [World.cell?, h], by simp [World.cell?, h], by simp [World.cell?, h], by simp [World.cell?, h], by simp [World.cell?, h]⟩, fun j => by simp [World.frozen?, h], (Array.getElem?_eq_some_iff.1 h).1⟩

theorem flat_ge : ∀ t : Bytes, t.length ≤ (t.flatMap byteF).length
  | [] => by simp
  | c :: t => by
    have := flat_ge t
    have h1 : 1 ≤ (byteF c).length := by
      unfold byteF
      split
      · simp
      · split <;> simp
    simp only [List.flatMap_cons, List.length_append, List.length_cons]
    omega
theorem textF_ge (t : Bytes) : t.length + 2 ≤ (textF t).length := by
  have := flat_ge t
  simp only [textF, List.length_append, List.length_cons, List.length_nil]; omega
theorem name_le {α : Type} (f : α → Bytes) (xs : List (Named α)) (m : Named α) (h : m ∈ xs) : m.1.length + 5 ≤ (objectF f xs).length := by
  obtain ⟨i, hi, rfl⟩ := List.getElem_of_mem h
  have e2 := congrArg List.length (sep_step (xs.map (pairF f)) i (by simpa using hi))
  have e3 := sep_le (xs.map (pairF f)) (i + 1)
  have e4 := textF_ge xs[i].1
  rw [List.getElem_map] at e2
  simp only [List.length_append, List.length_cons, List.length_nil, objectF, pairF] at e2 ⊢
  omega

set_option maxHeartbeats 2000000 in
theorem writeMembers_calls {α : Type} (rep : Rep α) (h5 : Fives rep) (f : α → Bytes) (hw : WriteSays rep f) (B b : Nat) (acc : Bytes) (xs : List (Named α)) (v : Value) (F : Nat → Prop) (w : World) (hI : Bld B b acc w) (hx : (repMembers rep).rel F w xs v) (hS : Safe b F w) (hl : acc.length + 8 * (objectF f xs).length ≤ 140737488355328) (hB : B ≤ w.heap.size) (hT : Tab B w) :
    Calls Tryz.prog 37 #[.pointer (some ⟨b, 0, none⟩), v] w fun e w' => e = .returned (.tuple #[]) ∧ Wr B b acc (objectF f xs) w w' := by
  have hxN : xs.length ≤ 4001 := hx.1
  obtain ⟨a, p, hv, hrow⟩ := row6 h5 hx
  subst hv
  have hl1 : acc.length + 1 ≤ 140737488355328 := by simp [objectF] at hl; omega
  have hns : ∀ m ∈ xs, m.1.length + 5 ≤ (objectF f xs).length := fun m hm => name_le f xs m hm
  have HI := hide hI
  have HROW := hide hrow
  have HS := hide hS
  have HT := hide hT
  have HWS := hide hw
  have HNS := hide hns
  clear hI hrow hS hT hw hx h5 hns
  go_enter Tryz.func37, Tryz.ntmps37
  go_wp2_with (go_at_call 95; refine (writeByte B b acc 123 _ (unhide HI) hl1 hB).mono ?_; rintro e w1 ⟨rfl, hw1⟩; have HW1 := hide hw1; clear hw1)
  go_loopw [10] (fun idx wr => ∃ i : Nat, i ≤ xs.length ∧ idx = .int .i64 i ∧ Hid (Wr B b acc ([123] ++ sep ((xs.map (pairF f)).take i)) w wr)) (fun idx _ => xs.length - (intOf idx).toNat)
  case atStart => exact ⟨0, by omega, rfl, unhide HW1⟩
  case round =>
    obtain ⟨i, hi, rfl, HW⟩ := hrel
    have hBr := (unhide HW).lt hB
    obtain ⟨A, hA⟩ : ∃ A, acc ++ ([123] ++ sep ((xs.map (pairF f)).take i)) = A := ⟨_, rfl⟩
    have hIA := (unhide HW).1
    rw [hA] at hIA
    have HIA := hide hIA
    have HA := hide hA
    clear hIA hA
    by_cases hlt : i < xs.length
    · have hlti : (i : Int) < (xs.length : Int) := by omega
      rcases unhide HROW with ⟨_, h0⟩ | ⟨g, rfl, hFg, hrow⟩
      · omega
      obtain ⟨k, n, t, c, l, q, c', l', q', h0, h1, h2, h3, h4, h5, hr⟩ := hrow i hlt
      have hab := (unhide HS).above (unhide HW).2.2 (unhide HW).2.1.size
      have hgl : g < w.heap.size := World.block_lt_of_cell? w _ h0
      have hcell : ∀ o, wr.cell? ⟨g, o, none⟩ = w.cell? ⟨g, o, none⟩ := fun o => by simp only [World.cell?, hab.2 g hFg hgl]
      have h0' := (hcell _).trans h0
      have h1' := (hcell _).trans h1
      have h2' := (hcell _).trans h2
      have h3' := (hcell _).trans h3
      have h4' := (hcell _).trans h4
      have h5' := (hcell _).trans h5
      have HREL := hide (rep.stays hr hab)
      have HSF := hide ((unhide HS).later (unhide HW).2.2)
      have HTB := hide ((unhide HT).on (unhide HW).2.1)
      have hstep := sep_step (xs.map (pairF f)) i (by simpa using hlt)
      rw [List.getElem_map] at hstep
      have hnext : ∀ w2, Wr B b A ((if i = 0 then [] else [44]) ++ pairF f xs[i]) wr w2 → Wr B b acc ([123] ++ sep ((xs.map (pairF f)).take (i + 1))) w w2 := by
        intro w2 h2
        rw [hstep, ← List.append_assoc]
        exact (unhide HW).trans (by rw [unhide HA]; exact h2)
      have HNX := hide hnext
      have hn6 := unhide HNS xs[i] (List.getElem_mem hlt)
      have hAo : A.length + ((if i = 0 then [] else [44]) ++ pairF f xs[i]).length ≤ acc.length + (objectF f xs).length := by
        have e1 := congrArg List.length (unhide HA)
        have e2 := congrArg List.length hstep
        have e3 := sep_le (xs.map (pairF f)) (i + 1)
        simp only [List.length_append, List.length_cons, List.length_nil, objectF] at e1 e2 ⊢
        omega
      have hAge : acc.length ≤ A.length := by rw [← unhide HA]; simp
      obtain ⟨nm, hnm⟩ : ∃ nm : ByteArray, nm = ⟨xs[i].1.toArray⟩ := ⟨_, rfl⟩
      have hnt : nm.data.toList = xs[i].1 := by rw [hnm]
      have hns : nm.size = xs[i].1.length := text_size hnt
      rw [← hnm] at h0'
      have hpf : pairF f xs[i] = textF nm.data.toList ++ ([58] ++ f xs[i].2) := by unfold pairF; rw [hnt]
      rw [hpf] at hAo
      simp only [List.length_append, List.length_cons, List.length_nil] at hAo
      have htl := textF_len nm.data.toList
      rw [hpf] at HNX
      have hblt := builder_lt (unhide HIA)
      rw [hnt] at htl
      clear hnext hstep HW HA h0 h1 h2 h3 h4 h5 hr hcell hrow hab hgl hpf hnm
      by_cases hz : i = 0
      · subst hz
        rw [if_pos rfl, List.nil_append] at HNX
        simp only [if_true, List.length_nil] at hAo
        have hs0 : Wr B b A [] (wr.alloc (.cells #[.string nm, .int .i64 k, .int .i64 n, .string t, .slice c l q, .slice c' l' q'] 77)) (wr.alloc (.cells #[.string nm, .int .i64 k, .int .i64 n, .string t, .slice c l q, .slice c' l' q'] 77)) := Wr.start (isBuilder_later (unhide HIA) ((Below.refl _ _).alloc (Nat.le_refl _) _))
        have HK0 := hide hs0
        have hB0 : B ≤ (wr.alloc (.cells #[.string nm, .int .i64 k, .int .i64 n, .string t, .slice c l q, .slice c' l' q'] 77)).heap.size := by simp; omega
        clear hs0
        go_wp2_with (go_at_call 35; refine (writeText_calls B b (A ++ []) nm _ (unhide HK0).1 (by simp only [List.length_append, List.length_nil]; omega) hB0).mono ?_)
        rintro e v1 ⟨rfl, hv1⟩
        have hB1 := hv1.lt hB0
        have HK1 := hide ((unhide HK0).trans hv1)
        obtain ⟨⟨q0, q1, q2, q3, q4, q5⟩, qf, ql⟩ := box6h (kept_cells (unhide HK1) hblt (by decide))
        clear hv1
        go_wp2_with (go_at_call 95; refine (writeByte B b (A ++ ([] ++ textF nm.data.toList)) 58 _ (unhide HK1).1 (by simp only [List.length_append, List.length_nil]; omega) hB1).mono ?_)
        rintro e v2 ⟨rfl, hv2⟩
        have hB2 := hv2.lt hB1
        have HK2 := hide ((unhide HK1).trans hv2)
        clear q0 q1 q2 q3 q4 q5 qf ql
        obtain ⟨⟨q0, q1, q2, q3, q4, q5⟩, qf, ql⟩ := box6h (kept_cells (unhide HK2) hblt (by decide))
        clear hv2
        have HF := hide ((unhide HK2).from ((Below.refl _ _).alloc (Nat.le_refl _) _) hBr)
        go_wp2_with (go_at_call 12; refine ((unhide HWS).after (unhide HF) (unhide HREL) (unhide HSF) (by simp only [List.length_append, List.length_cons, List.length_nil]; omega) hBr (unhide HTB)).mono ?_; rintro e v9 ⟨rfl, HV9⟩)
        go_roundw
        case rel => exact ⟨1, by omega, by go_num, unhide HNX _ (by have := unhide HV9; simpa only [List.nil_append, List.append_assoc] using this)⟩
        case measure => simp [intOf]; omega
      · have hzi : (0 : Int) < (i : Int) := by omega
        rw [if_neg hz] at hAo HNX
        simp only [List.length_cons, List.length_nil] at hAo
        have hs0 : Wr B b A [] (wr.alloc (.cells #[.string nm, .int .i64 k, .int .i64 n, .string t, .slice c l q, .slice c' l' q'] 77)) (wr.alloc (.cells #[.string nm, .int .i64 k, .int .i64 n, .string t, .slice c l q, .slice c' l' q'] 77)) := Wr.start (isBuilder_later (unhide HIA) ((Below.refl _ _).alloc (Nat.le_refl _) _))
        have HK0 := hide hs0
        have hB0 : B ≤ (wr.alloc (.cells #[.string nm, .int .i64 k, .int .i64 n, .string t, .slice c l q, .slice c' l' q'] 77)).heap.size := by simp; omega
        clear hs0
        go_wp2_with (go_at_call 95; refine (writeByte B b (A ++ []) 44 _ (unhide HK0).1 (by simp only [List.length_append, List.length_nil]; omega) hB0).mono ?_)
        rintro e v1 ⟨rfl, hv1⟩
        have hB1 := hv1.lt hB0
        have HK1 := hide ((unhide HK0).trans hv1)
        obtain ⟨⟨q0, q1, q2, q3, q4, q5⟩, qf, ql⟩ := box6h (kept_cells (unhide HK1) hblt (by decide))
        clear hv1
        go_wp2_with (go_at_call 35; refine (writeText_calls B b (A ++ ([] ++ [44])) nm _ (unhide HK1).1 (by simp only [List.length_append, List.length_cons, List.length_nil]; omega) hB1).mono ?_)
        rintro e v2 ⟨rfl, hv2⟩
        have hB2 := hv2.lt hB1
        have HK2 := hide ((unhide HK1).trans hv2)
        clear q0 q1 q2 q3 q4 q5 qf ql
        obtain ⟨⟨q0, q1, q2, q3, q4, q5⟩, qf, ql⟩ := box6h (kept_cells (unhide HK2) hblt (by decide))
        clear hv2
        go_wp2_with (go_at_call 95; refine (writeByte B b (A ++ (([] ++ [44]) ++ textF nm.data.toList)) 58 _ (unhide HK2).1 (by simp only [List.length_append, List.length_cons, List.length_nil]; omega) hB2).mono ?_)
        rintro e v3 ⟨rfl, hv3⟩
        have hB3 := hv3.lt hB2
        have HK3 := hide ((unhide HK2).trans hv3)
        clear q0 q1 q2 q3 q4 q5 qf ql
        obtain ⟨⟨q0, q1, q2, q3, q4, q5⟩, qf, ql⟩ := box6h (kept_cells (unhide HK3) hblt (by decide))
        clear hv3
        have HF := hide ((unhide HK3).from ((Below.refl _ _).alloc (Nat.le_refl _) _) hBr)
        go_wp2_with (go_at_call 12; refine ((unhide HWS).after (unhide HF) (unhide HREL) (unhide HSF) (by simp only [List.length_append, List.length_cons, List.length_nil]; omega) hBr (unhide HTB)).mono ?_; rintro e v9 ⟨rfl, HV9⟩)
        go_roundw
        case rel => exact ⟨i + 1, by omega, by go_num, unhide HNX _ (by have := unhide HV9; simpa only [List.nil_append, List.append_assoc] using this)⟩
        case measure => simp [intOf]; omega
    · have hie : i = xs.length := by omega
      subst hie
      have hlz : A.length + 1 ≤ 140737488355328 := by
        have e1 := congrArg List.length (unhide HA)
        have e3 := sep_le (xs.map (pairF f)) xs.length
        simp only [List.length_append, List.length_cons, List.length_nil, objectF] at e1 hl
        omega
      have hfin : ∀ w2, Wr B b A [125] wr w2 → Wr B b acc (objectF f xs) w w2 := by
        intro w2 h2
        have e : objectF f xs = ([123] ++ sep ((xs.map (pairF f)).take xs.length)) ++ [125] := by
          rw [List.take_of_length_le (by simp)]; rfl
        rw [e]
        exact (unhide HW).trans (by rw [unhide HA]; exact h2)
      have HFI := hide hfin
      clear hfin HW HA
      go_wp2_with (go_at_call 95; refine (writeByte B b A 125 _ (unhide HIA) hlz hBr).mono ?_; rintro e w2 ⟨rfl, hw2⟩; have HW2 := hide hw2; clear hw2)
      go_end0
      exact ⟨rfl, unhide HFI _ (unhide HW2)⟩
end Go.Proofs.YtgaddifabjoliaaGreatDoor
