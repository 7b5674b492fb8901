import Derived.Test.YtgaddifabjoliaaDoorRRoots
namespace Go.Proofs.YtgaddifabjoliaaDoor
open Go.RowKit

theorem zero_roots : (∀ w, (zeroValue 29).run Tryd.prog w = .ok (.agg #[.slice none 0 0, .slice none 0 0]) w) ∧ (Tryd.prog.info? 29).map (·.size) = some 2 := zero_of_info (by kernel_rfl)

theorem Lists.grow {w wr : World} {sv cv : Value} {ls lc : List Nat} (h : Lists w wr sv cv ls lc) (o : Obj) : Lists w (wr.alloc o) sv cv ls lc := h.all ((Below.refl _ _).alloc (Nat.le_refl _) _)

theorem Lists.twoS {w wr w1 : World} {sv cv : Value} {ls lc : List Nat} (h : Lists w wr sv cv ls lc) (hg : wr.grownBy w1 sv.ownBlock) : w1.heap[w.heap.size + 1]? = some (.cells #[sv, cv] 29) :=
  (hg.block _ (by have := h.size; omega) (fun e => by have := (h.s.far e.symm).1; omega)).trans h.two
theorem Lists.twoC {w wr w1 : World} {sv cv : Value} {ls lc : List Nat} (h : Lists w wr sv cv ls lc) (hg : wr.grownBy w1 cv.ownBlock) : w1.heap[w.heap.size + 1]? = some (.cells #[sv, cv] 29) :=
  (hg.block _ (by have := h.size; omega) (fun e => by have := (h.c.far e.symm).1; omega)).trans h.two

theorem ownN_cap {B : Nat} {w : World} {v : Value} {l : List Nat} (h : OwnN B w v l) (hl : 0 < l.length) : ∃ g cap, v = .slice (some ⟨g, 0, none⟩) l.length cap ∧ l.length ≤ cap := by
  rcases h.2 with ⟨_, h2⟩ | ⟨g, cap, cur, h1, h2, h3, h4, _⟩
  · omega
  · exact ⟨g, cap, h1, h4⟩

set_option maxRecDepth 20000 in
set_option maxHeartbeats 4000000 in
theorem rroots (w : World) :
    Calls Tryd.prog 13 #[.int .i64 80] w fun e w' => ∃ sv gc cc, e = .returned (.agg #[sv, .slice (some ⟨gc, 0, none⟩) 80 cc]) ∧ 80 ≤ cc ∧ RowN w' sv sq ∧ RowN w' (.slice (some ⟨gc, 0, none⟩) 80 cc) cu ∧ Below w.heap.size w w' := by
  have hz := zero_roots.1
  go_enter Tryd.func13, Tryd.ntmps13
  go_wp2
  clear hz
  go_loopw [4] (fun i wr => ∃ (q : Nat) (sv cv : Value), q ≤ 408 ∧ i = .int .i64 ((q : Int) + 2) ∧ Hid (Lists w wr sv cv (sqL q) (cuL q))) (fun i _ => 410 - (intOf i).toNat)
  case atStart =>
    refine ⟨0, _, _, by omega, by go_num, ?_, ?_, ?_, ?_, ownN_nil _ _, ownN_nil _ _, ?_⟩
    · exact ((Below.refl _ _).alloc (Nat.le_refl _) _).alloc (by simp) _
    · simp
    · exact (heap2 _ _ _).1
    · exact (heap2 _ _ _).2
    · intro g e; cases e
  case round =>
    obtain ⟨q, sv, cv, hq, rfl, hL⟩ := hrel
    have L := unhide hL
    obtain ⟨os, cs, rfl⟩ := L.s.form
    obtain ⟨oc, cc, rfl⟩ := L.c.form
    have c0 := cell_of_row wr (w.heap.size + 1) 0 _ _ _ L.two
    have c1 := cell_of_row wr (w.heap.size + 1) 1 _ _ _ L.two
    have hsl := sqL_le q
    by_cases hlt : q < 408
    · have hcl := cuL_few q hlt
      obtain ⟨p, hp⟩ : ∃ p, p = q + 2 := ⟨_, rfl⟩
      have ep : ((q : Int) + 2) = (p : Int) := by omega
      rw [ep]
      have hp409 : p < 410 := by omega
      have hp2 : 2 ≤ p := by omega
      have HP := hide hp
      have hsl' : (((sqL q).length : Nat) : Int) ≤ 8 := by omega
      clear L ep hp
      go_wp2_with fail
      refine (rprime p wr hp2 (by omega)).mono ?_
      rintro e w1 ⟨rfl, hww⟩
      have hww' := hww.symm
      subst hww'
      cases hpr : pr p with
      | false =>
        have hpr' : pr (q + 2) = false := by rw [← unhide HP]; exact hpr
        go_wp2
        go_roundw
        case rel =>
          refine ⟨q + 1, .slice os (sqL q).length cs, .slice oc (cuL q).length cc, by omega, ?_, ?_⟩
          · have := unhide HP
            refine congrArg (Value.int .i64) ?_
            go_light
            omega
          · show Lists _ _ _ _ _ _
            rw [sqL_no q hpr', cuL_no q hpr']
            exact unhide hL
        case measure => (have := unhide HP; go_light; simp [intOf] <;> omega)
      | true =>
        have hpr' : pr (q + 2) = true := by rw [← unhide HP]; exact hpr
        by_cases hs8 : (sqL q).length < 8
        · go_wp2_with fail
          refine (rroot2 p wr (by omega)).mono ?_
          rintro e w1 ⟨rfl, hb1⟩
          have L1 := (unhide hL).all hb1
          have d0 := cell_of_row w1 (w.heap.size + 1) 0 _ _ _ L1.two
          have HL1 := hide L1
          clear L1
          go_wp2_with (at_builtin; refine wpList_append_word (by rfl) _ _ (by rfl) (w.heap.size + 2) _ (sqL q) (by rfl) ((unhide HL1).grow _).s ⟨w1.heap.size, 0, none⟩ (rootF p 2) (by rfl) (one_word _ _ _) (by omega) (by have := (unhide HL1).size; simp; omega) ?_)
          intro v2 w2 ho2 hg2 hn2
          obtain ⟨o2, cap2, rfl⟩ : ∃ o cap, v2 = .slice o ((sqL q).length + 1) cap := by simpa using ho2.form
          have L1 := (unhide HL1).grow (.cells #[.int .u64 (rootF p 2 : Nat)] 40)
          have t2 := L1.twoS hg2
          have e0 := cell_of_row w2 (w.heap.size + 1) 0 _ _ _ t2
          have f0 := frozen_of_row t2 0
          have L2 := hide (L1.putS ho2 hg2 (by simpa using hn2))
          clear L1 t2 ho2 hg2 hn2 d0
          go_wp2_with fail
          refine (rroot3 p _ (by omega)).mono ?_
          rintro e w3 ⟨rfl, hb3⟩
          have L3 := (unhide L2).all hb3
          have d1 := cell_of_row w3 (w.heap.size + 1) 1 _ _ _ L3.two
          have HL3 := hide L3
          clear L3
          go_wp2_with (at_builtin; refine wpList_append_word (by rfl) _ _ (by rfl) (w.heap.size + 2) _ (cuL q) (by rfl) ((unhide HL3).grow _).c ⟨w3.heap.size, 0, none⟩ (rootF p 3) (by rfl) (one_word _ _ _) (by omega) (by have := (unhide HL3).size; simp; omega) ?_)
          intro v4 w4 ho4 hg4 hn4
          obtain ⟨o4, cap4, rfl⟩ : ∃ o cap, v4 = .slice o ((cuL q).length + 1) cap := by simpa using ho4.form
          have L3 := (unhide HL3).grow (.cells #[.int .u64 (rootF p 3 : Nat)] 40)
          have t4 := L3.twoC hg4
          have e1 := cell_of_row w4 (w.heap.size + 1) 1 _ _ _ t4
          have f1 := frozen_of_row t4 1
          have L4 := hide (L3.putC ho4 hg4 (by simpa using hn4))
          clear L3 t4 ho4 hg4 hn4 d1
          go_wp2
          go_roundw
          case rel =>
            refine ⟨q + 1, .slice o2 ((sqL q).length + 1) cap2, .slice o4 ((cuL q).length + 1) cap4, by omega, ?_, ?_⟩
            · have := unhide HP
              refine congrArg (Value.int .i64) ?_
              go_light
              omega
            · show Lists _ _ _ _ _ _
              rw [sqL_yes q hpr' hs8, cuL_yes q hpr', ← unhide HP]
              exact unhide L4
          case measure => (have := unhide HP; go_light; simp [intOf] <;> omega)
        · have hs8e : (sqL q).length = 8 := by omega
          have hfull := hide (sqL_full q hpr' hs8)
          clear hs8 hsl hsl'
          go_wp2_with fail
          refine (rroot3 p _ (by omega)).mono ?_
          rintro e w3 ⟨rfl, hb3⟩
          have L3 := (unhide hL).all hb3
          have d1 := cell_of_row w3 (w.heap.size + 1) 1 _ _ _ L3.two
          have HL3 := hide L3
          clear L3
          go_wp2_with (at_builtin; refine wpList_append_word (by rfl) _ _ (by rfl) (w.heap.size + 2) _ (cuL q) (by rfl) ((unhide HL3).grow _).c ⟨w3.heap.size, 0, none⟩ (rootF p 3) (by rfl) (one_word _ _ _) (by omega) (by have := (unhide HL3).size; simp; omega) ?_)
          intro v4 w4 ho4 hg4 hn4
          obtain ⟨o4, cap4, rfl⟩ : ∃ o cap, v4 = .slice o ((cuL q).length + 1) cap := by simpa using ho4.form
          have L3 := (unhide HL3).grow (.cells #[.int .u64 (rootF p 3 : Nat)] 40)
          have t4 := L3.twoC hg4
          have e1 := cell_of_row w4 (w.heap.size + 1) 1 _ _ _ t4
          have f1 := frozen_of_row t4 1
          have L4 := hide (L3.putC ho4 hg4 (by simpa using hn4))
          clear L3 t4 ho4 hg4 hn4 d1
          go_wp2
          go_roundw
          case rel =>
            refine ⟨q + 1, .slice os (sqL q).length cs, .slice o4 ((cuL q).length + 1) cap4, by omega, ?_, ?_⟩
            · have := unhide HP
              refine congrArg (Value.int .i64) ?_
              go_light
              omega
            · show Lists _ _ _ _ _ _
              rw [unhide hfull, cuL_yes q hpr', ← unhide HP]
              exact unhide L4
          case measure => (have := unhide HP; go_light; simp [intOf] <;> omega)
    · have hqe : q = 408 := by omega
      subst hqe
      have hcl := cuL_full
      obtain ⟨gc, cap, e8, hcap⟩ := ownN_cap L.c (by rw [hcl]; decide)
      cases e8
      rw [hcl] at c1 hcap
      have far0 : ∀ g, w.heap.size + 2 ≤ g → ((wr.setCell ⟨w.heap.size, 0, none⟩ (.slice os 8 cs)).setCell ⟨w.heap.size, 1, none⟩ (.slice (some ⟨gc, 0, none⟩) 80 cc)).heap[g]? = wr.heap[g]? := fun g hg => by
        rw [heap_setCell_other _ _ _ _ (by simp; omega), heap_setCell_other _ _ _ _ (by simp; omega)]
      have rs := (L.s.same (fun g e => far0 g (L.s.far e).1)).row (by rw [sqL_end]; decide)
      have rc := (L.c.same (fun g e => far0 g (L.c.far e).1)).row (by rw [cuL_end]; decide)
      rw [hcl] at rc
      rw [cuL_end] at rc
      rw [sqL_end] at rs
      have bl := L.below
      have h2 := L.two
      have ho := L.out
      rw [hcl] at h2
      clear L far0
      have hi := zero_roots.2
      have k0 := cell_of_row wr w.heap.size 0 _ _ _ ho
      have k1 := cell_of_row wr w.heap.size 1 _ _ _ ho
      have f0 := frozen_of_row ho 0
      have f1 := frozen_of_row ho 1
      have hl8 : (sqL 408).length = 8 := by rw [sqL_end]; rfl
      rw [hl8] at c0 h2
      rw [show sq.length = 8 from rfl] at rs
      have k2 : (wr.setCell ⟨w.heap.size, 0, none⟩ (.slice os 8 cs)).cell? ⟨w.heap.size, 1, none⟩ = some (.slice none 0 0) := (cell_far _ _ _ _ _ _ (Or.inr (by decide))).trans k1
      have hf : ((wr.setCell ⟨w.heap.size, 0, none⟩ (.slice os 8 cs)).setCell ⟨w.heap.size, 1, none⟩ (.slice (some ⟨gc, 0, none⟩) 80 cc)).heap[w.heap.size]? = some (.cells #[.slice os 8 cs, .slice (some ⟨gc, 0, none⟩) 80 cc] 29) :=
        (heap_setCell_same _ _ _ _ _ _ (heap_setCell_same _ _ _ _ _ _ ho)).trans rfl
      have bf : Below w.heap.size w ((wr.setCell ⟨w.heap.size, 0, none⟩ (.slice os 8 cs)).setCell ⟨w.heap.size, 1, none⟩ (.slice (some ⟨gc, 0, none⟩) 80 cc)) := (bl.setCell (Nat.le_refl _) _).setCell (Nat.le_refl _) _
      have rs' := hide rs
      have rc' := hide rc
      have sz := (unhide hL).size
      clear hsl rs rc hL
      go_wp2
      refine bodyPost_ret (v := .agg #[.slice os 8 cs, .slice (some ⟨gc, 0, none⟩) 80 cc]) (results_cell_row (p := 2) (ty := 29) (by kernel_rfl) _ _ w.heap.size 29 _ (0, 0) _ (by rfl) hf Tryd.underlying29 rfl (by rw [hi]; rfl)) rfl ⟨_, _, _, rfl, hcap, ?_, ?_, bf⟩
      · exact unhide rs'
      · exact unhide rc'
end Go.Proofs.YtgaddifabjoliaaDoor
