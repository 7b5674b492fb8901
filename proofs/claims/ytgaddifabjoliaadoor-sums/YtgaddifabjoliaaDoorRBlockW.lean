import Derived.Test.YtgaddifabjoliaaDoorRBlock
namespace Go.Proofs.YtgaddifabjoliaaDoor
open Go.RowKit

set_option maxRecDepth 20000 in
set_option maxHeartbeats 8000000 in
theorem rblock32 (s : St) (ws : List Nat) (stv wv sv cv : Value) (w : World) (hs : s.Ok 32) (hst : RowN w stv s.list) (hwv : RowN w wv ws) (hl : ws.length = 64) (hw : ∀ j, ws.getD j 0 < 4294967296) (hcv : RowN w cv (cu.take 64)) :
    Calls Tryd.prog 26 #[.agg #[.int .i64 32, .int .i64 2, .int .i64 13, .int .i64 22, .int .i64 6, .int .i64 11, .int .i64 25, .int .i64 7, .int .i64 18, .int .i64 3, .int .i64 17, .int .i64 19, .int .i64 10, .int .u64 4294967295], stv, wv, .agg #[sv, cv]] w fun e w' => ∃ v, e = .returned v ∧ OwnN (w.heap.size) w' v (mix m256 s ws).list ∧ Below w.heap.size w w' := by
  obtain ⟨gs, cs, hsv, lts, _⟩ := hst.form
  rw [show s.list.length = 8 from rfl] at hsv
  subst hsv
  obtain ⟨gw, cw, rfl, ltw, _⟩ := hwv.form
  rw [hl]
  have hwv' : RowN w (.slice (some ⟨gw, 0, none⟩) 64 cw) ws := by rw [hl] at hwv; exact hwv
  clear hwv
  obtain ⟨gc, cc, hcc, ltc, _⟩ := hcv.form
  rw [show (cu.take 64).length = 64 from rfl] at hcc
  subst hcc
  go_enter Tryd.func26, Tryd.ntmps26
  go_wp2_with (at_builtin; refine wpList_append_row (by rfl) _ _ (by rfl) (w.heap.size + 2) _ s.list (by rfl) (by rfl) ((hst.all ((Below.refl _ _).alloc (Nat.le_refl _) _)).all ((Below.refl _ _).alloc (Nat.le_refl _) _)) (show 8 < 1000 by decide) (by simp) ?_)
  intro v1 w1 ho1 hg1
  have hb1 : Below w.heap.size w w1 := (((Below.refl _ _).alloc (Nat.le_refl _) _).alloc (by simp) _).grown hg1 (by simp; omega) (fun k hk => by cases hk)
  have g0 := (hg1.block w.heap.size (by simp; omega) (by simp)).trans (heap2 w _ _).1
  have g1 := (hg1.block (w.heap.size + 1) (by simp) (by simp)).trans (heap2 w _ _).2
  have hz1 : w.heap.size + 2 ≤ w1.heap.size := Nat.le_trans (by simp) hg1.size
  clear hg1 lts ltw ltc
  go_wp2
  go_loopw [9, 10] (fun vv i wr => ∃ (t : Nat) (v : St), t ≤ 64 ∧ i = .int .i64 (t : Int) ∧ v.Ok 32 ∧ Hid (v = rounds m256 ws s t) ∧ OwnN (w.heap.size + 2) wr vv v.list ∧ Below w.heap.size w wr ∧ w.heap.size + 2 ≤ wr.heap.size ∧ wr.heap[w.heap.size]? = some (.cells #[.int .i64 32, .int .i64 2, .int .i64 13, .int .i64 22, .int .i64 6, .int .i64 11, .int .i64 25, .int .i64 7, .int .i64 18, .int .i64 3, .int .i64 17, .int .i64 19, .int .i64 10, .int .u64 4294967295] 42) ∧ wr.heap[w.heap.size + 1]? = some (.cells #[sv, .slice (some ⟨gc, 0, none⟩) 64 cc] 29)) (fun _ i _ => 64 - (intOf i).toNat)
  case atStart => exact ⟨0, s, by omega, rfl, hs, rfl, ho1, hb1, hz1, g0, g1⟩
  case round =>
    clear ho1 hb1 hz1 g0 g1
    obtain ⟨t, v, ht, rfl, hv, hvr, hown, hb, hsz, hm, hrt⟩ := hrel
    obtain ⟨g, cap, cur, hvv, hgB, hglt, hgrow, hcur, hput⟩ := hown.full (show 0 < 8 by decide)
    rw [show v.list.length = 8 from rfl] at hvv
    subst hvv
    by_cases hlt : t < 64
    · obtain ⟨_, _, e1, ltw, cellw⟩ := (hwv'.all hb).form
      rw [hl] at e1
      cases e1
      obtain ⟨_, _, e2, ltc, cellc⟩ := (hcv.all hb).form
      rw [show (cu.take 64).length = 64 from rfl] at e2
      cases e2
      have cwt := cellw t (by omega)
      have cct := cellc t (show t < 64 from hlt)
      rw [take_getD _ _ _ hlt] at cct
      have cm0 := cell_of_row wr w.heap.size 0 _ _ _ hm
      have cm1 := cell_of_row wr w.heap.size 1 _ _ _ hm
      have cm2 := cell_of_row wr w.heap.size 2 _ _ _ hm
      have cm3 := cell_of_row wr w.heap.size 3 _ _ _ hm
      have cm4 := cell_of_row wr w.heap.size 4 _ _ _ hm
      have cm5 := cell_of_row wr w.heap.size 5 _ _ _ hm
      have cm6 := cell_of_row wr w.heap.size 6 _ _ _ hm
      have cm7 := cell_of_row wr w.heap.size 7 _ _ _ hm
      have cm8 := cell_of_row wr w.heap.size 8 _ _ _ hm
      have cm9 := cell_of_row wr w.heap.size 9 _ _ _ hm
      have cm10 := cell_of_row wr w.heap.size 10 _ _ _ hm
      have cm11 := cell_of_row wr w.heap.size 11 _ _ _ hm
      have cm12 := cell_of_row wr w.heap.size 12 _ _ _ hm
      have cm13 := cell_of_row wr w.heap.size 13 _ _ _ hm
      simp only [List.getElem?_toArray, List.getElem?_cons_zero, List.getElem?_cons_succ] at cm0 cm1 cm2 cm3 cm4 cm5 cm6 cm7 cm8 cm9 cm10 cm11 cm12 cm13
      have cr1 := cell_of_row wr (w.heap.size + 1) 1 _ _ _ hrt
      simp only [List.getElem?_toArray, List.getElem?_cons_zero, List.getElem?_cons_succ] at cr1
      have hr64 := cu_lt t
      have hwt := hw t
      have hnext : Hid (v.step m256 (top 32 (cu.getD t 0)) (ws.getD t 0) = rounds m256 ws s (t + 1)) := by
        show _ = _
        rw [unhide hvr]; rfl
      generalize cu.getD t 0 = r at cct hr64 hnext
      generalize ws.getD t 0 = wt at cwt hwt hnext
      obtain ⟨va, vb, vc, vd, ve, vf, vg, vh⟩ := v
      have c0 : wr.cell? ⟨g, 0, none⟩ = some (.int .u64 (va : Nat)) := (cell_of_row wr g 0 _ _ _ hgrow).trans (hcur 0 (show 0 < 8 by decide))
      have c1 : wr.cell? ⟨g, 1, none⟩ = some (.int .u64 (vb : Nat)) := (cell_of_row wr g 1 _ _ _ hgrow).trans (hcur 1 (show 1 < 8 by decide))
      have c2 : wr.cell? ⟨g, 2, none⟩ = some (.int .u64 (vc : Nat)) := (cell_of_row wr g 2 _ _ _ hgrow).trans (hcur 2 (show 2 < 8 by decide))
      have c3 : wr.cell? ⟨g, 3, none⟩ = some (.int .u64 (vd : Nat)) := (cell_of_row wr g 3 _ _ _ hgrow).trans (hcur 3 (show 3 < 8 by decide))
      have c4 : wr.cell? ⟨g, 4, none⟩ = some (.int .u64 (ve : Nat)) := (cell_of_row wr g 4 _ _ _ hgrow).trans (hcur 4 (show 4 < 8 by decide))
      have c5 : wr.cell? ⟨g, 5, none⟩ = some (.int .u64 (vf : Nat)) := (cell_of_row wr g 5 _ _ _ hgrow).trans (hcur 5 (show 5 < 8 by decide))
      have c6 : wr.cell? ⟨g, 6, none⟩ = some (.int .u64 (vg : Nat)) := (cell_of_row wr g 6 _ _ _ hgrow).trans (hcur 6 (show 6 < 8 by decide))
      have c7 : wr.cell? ⟨g, 7, none⟩ = some (.int .u64 (vh : Nat)) := (cell_of_row wr g 7 _ _ _ hgrow).trans (hcur 7 (show 7 < 8 by decide))
      obtain ⟨ha, hb', hc, hd, he, hf, hg, hh⟩ := hv
      dsimp only at ha hb' hc hd he hf hg hh
      clear hown hgrow hcur hput cellw cellc
      have it : (t : Int) < 64 := by omega
      obtain ⟨X, hX⟩ : ∃ X : Nat, X = (vh + big 32 (6, 11, 25) ve + ch 32 ve vf vg + top 32 r + wt) % 18446744073709551616 := ⟨_, rfl⟩
      have HX := hide hX
      have hX64 : X < 18446744073709551616 := by rw [hX]; exact Nat.mod_lt _ (by decide)
      clear hX
      go_upto_region 6 with fail
      go_cut [11] (fun x wx => x = .int .u64 (X : Nat) ∧ Below wr.heap.size wr wx)
      case first =>
        have hwz : IntKind.i64.wrap 32 = 32 := by rw [IntKind.wrap_i64]; decide
        have ve64 : ve < 18446744073709551616 := Nat.lt_of_lt_of_le he (by decide)
        have vf64 : vf < 18446744073709551616 := Nat.lt_of_lt_of_le hf (by decide)
        have vg64 : vg < 18446744073709551616 := Nat.lt_of_lt_of_le hg (by decide)
        have ef := (bits_u64 _ _ ve64 vf64).2.1
        have ng := rnot_32 ve he
        have n2 : 2 ^ 32 - 1 - ve < 18446744073709551616 := by omega
        have ng2 := (bits_u64 _ _ n2 vg64).2.1
        have ch1 : bits .xor .u64 ((ve &&& vf : Nat) : Int) (((2 ^ 32 - 1 - ve) &&& vg : Nat) : Int) = ((ch 32 ve vf vg : Nat) : Int) := (bits_u64 _ _ (Nat.and_lt_two_pow (n := 64) _ vf64) (Nat.and_lt_two_pow (n := 64) _ vg64)).2.2
        generalize 2 ^ 32 - 1 - ve = en at ng ng2 ch1
        have R0 : ∀ w', Below wr.heap.size wr w' → w'.cell? ⟨w.heap.size, 0, none⟩ = some (.int .i64 32) := fun w' q => (q.cell (by show w.heap.size < wr.heap.size; omega)).trans cm0
        have R1 : ∀ w', Below wr.heap.size wr w' → w'.cell? ⟨w.heap.size, 1, none⟩ = some (.int .i64 2) := fun w' q => (q.cell (by show w.heap.size < wr.heap.size; omega)).trans cm1
        have R2 : ∀ w', Below wr.heap.size wr w' → w'.cell? ⟨w.heap.size, 2, none⟩ = some (.int .i64 13) := fun w' q => (q.cell (by show w.heap.size < wr.heap.size; omega)).trans cm2
        have R3 : ∀ w', Below wr.heap.size wr w' → w'.cell? ⟨w.heap.size, 3, none⟩ = some (.int .i64 22) := fun w' q => (q.cell (by show w.heap.size < wr.heap.size; omega)).trans cm3
        have R4 : ∀ w', Below wr.heap.size wr w' → w'.cell? ⟨w.heap.size, 4, none⟩ = some (.int .i64 6) := fun w' q => (q.cell (by show w.heap.size < wr.heap.size; omega)).trans cm4
        have R5 : ∀ w', Below wr.heap.size wr w' → w'.cell? ⟨w.heap.size, 5, none⟩ = some (.int .i64 11) := fun w' q => (q.cell (by show w.heap.size < wr.heap.size; omega)).trans cm5
        have R6 : ∀ w', Below wr.heap.size wr w' → w'.cell? ⟨w.heap.size, 6, none⟩ = some (.int .i64 25) := fun w' q => (q.cell (by show w.heap.size < wr.heap.size; omega)).trans cm6
        have R7 : ∀ w', Below wr.heap.size wr w' → w'.cell? ⟨w.heap.size, 7, none⟩ = some (.int .i64 7) := fun w' q => (q.cell (by show w.heap.size < wr.heap.size; omega)).trans cm7
        have R8 : ∀ w', Below wr.heap.size wr w' → w'.cell? ⟨w.heap.size, 8, none⟩ = some (.int .i64 18) := fun w' q => (q.cell (by show w.heap.size < wr.heap.size; omega)).trans cm8
        have R9 : ∀ w', Below wr.heap.size wr w' → w'.cell? ⟨w.heap.size, 9, none⟩ = some (.int .i64 3) := fun w' q => (q.cell (by show w.heap.size < wr.heap.size; omega)).trans cm9
        have R10 : ∀ w', Below wr.heap.size wr w' → w'.cell? ⟨w.heap.size, 10, none⟩ = some (.int .i64 17) := fun w' q => (q.cell (by show w.heap.size < wr.heap.size; omega)).trans cm10
        have R11 : ∀ w', Below wr.heap.size wr w' → w'.cell? ⟨w.heap.size, 11, none⟩ = some (.int .i64 19) := fun w' q => (q.cell (by show w.heap.size < wr.heap.size; omega)).trans cm11
        have R12 : ∀ w', Below wr.heap.size wr w' → w'.cell? ⟨w.heap.size, 12, none⟩ = some (.int .i64 10) := fun w' q => (q.cell (by show w.heap.size < wr.heap.size; omega)).trans cm12
        have R13 : ∀ w', Below wr.heap.size wr w' → w'.cell? ⟨w.heap.size, 13, none⟩ = some (.int .u64 4294967295) := fun w' q => (q.cell (by show w.heap.size < wr.heap.size; omega)).trans cm13
        have Rr : ∀ w', Below wr.heap.size wr w' → w'.cell? ⟨w.heap.size + 1, 1, none⟩ = some (.slice (some ⟨gc, 0, none⟩) 64 cc) := fun w' q => (q.cell (by show w.heap.size + 1 < wr.heap.size; omega)).trans cr1
        have Rc : ∀ w', Below wr.heap.size wr w' → w'.cell? ⟨gc, t, none⟩ = some (.int .u64 (r : Nat)) := fun w' q => (q.cell (by show gc < wr.heap.size; omega)).trans cct
        have Rw : ∀ w', Below wr.heap.size wr w' → w'.cell? ⟨gw, t, none⟩ = some (.int .u64 (wt : Nat)) := fun w' q => (q.cell (by show gw < wr.heap.size; omega)).trans cwt
        have R24 : ∀ w', Below wr.heap.size wr w' → w'.cell? ⟨g, 4, none⟩ = some (.int .u64 (ve : Nat)) := fun w' q => (q.cell (by show g < wr.heap.size; omega)).trans c4
        have R25 : ∀ w', Below wr.heap.size wr w' → w'.cell? ⟨g, 5, none⟩ = some (.int .u64 (vf : Nat)) := fun w' q => (q.cell (by show g < wr.heap.size; omega)).trans c5
        have R26 : ∀ w', Below wr.heap.size wr w' → w'.cell? ⟨g, 6, none⟩ = some (.int .u64 (vg : Nat)) := fun w' q => (q.cell (by show g < wr.heap.size; omega)).trans c6
        have R27 : ∀ w', Below wr.heap.size wr w' → w'.cell? ⟨g, 7, none⟩ = some (.int .u64 (vh : Nat)) := fun w' q => (q.cell (by show g < wr.heap.size; omega)).trans c7
        clear cm0 cm1 cm2 cm3 cm4 cm5 cm6 cm7 cm8 cm9 cm10 cm11 cm12 cm13 cr1 cct cwt c0 c1 c2 c3 c4 c5 c6 c7
        go_region_held3 (fun w' => Below wr.heap.size wr w')
          (first | exact hwr | exact (Below.refl _ wr).drew)
          ((go_at_call 25; refine (rmix32_1 ve _ he).mono ?_; rintro e1 w1 ⟨rfl, hb1⟩; first | (have hwr : Below wr.heap.size wr w1 := (Below.refl _ wr).drew.trans hb1) | (have hwr : Below wr.heap.size wr w1 := hwr.trans (hb1.mono hwr.size))))
        all_goals
          go_wp2_with fail
          go_meet
          case rel =>
            refine ⟨?_, hwr⟩
            refine congrArg (Value.int .u64) ?_
            rw [unhide HX]
            go_light
            have et : ((r : Int) / (2 ^ (64 - 32) : Nat)) = ((top 32 r : Nat) : Int) := by simp [top]
            simp only [wraps_64, top] at et ⊢
            omega
      case rest =>
        obtain ⟨rfl, hbc⟩ := hcut
        have hzc := hbc.size
        have Q0 : ∀ w', Below wc.heap.size wc w' → w'.cell? ⟨w.heap.size, 0, none⟩ = some (.int .i64 32) := fun w' q => (q.cell (by show w.heap.size < wc.heap.size; omega)).trans ((hbc.cell (by show w.heap.size < wr.heap.size; omega)).trans cm0)
        have Q1 : ∀ w', Below wc.heap.size wc w' → w'.cell? ⟨w.heap.size, 1, none⟩ = some (.int .i64 2) := fun w' q => (q.cell (by show w.heap.size < wc.heap.size; omega)).trans ((hbc.cell (by show w.heap.size < wr.heap.size; omega)).trans cm1)
        have Q2 : ∀ w', Below wc.heap.size wc w' → w'.cell? ⟨w.heap.size, 2, none⟩ = some (.int .i64 13) := fun w' q => (q.cell (by show w.heap.size < wc.heap.size; omega)).trans ((hbc.cell (by show w.heap.size < wr.heap.size; omega)).trans cm2)
        have Q3 : ∀ w', Below wc.heap.size wc w' → w'.cell? ⟨w.heap.size, 3, none⟩ = some (.int .i64 22) := fun w' q => (q.cell (by show w.heap.size < wc.heap.size; omega)).trans ((hbc.cell (by show w.heap.size < wr.heap.size; omega)).trans cm3)
        have Q4 : ∀ w', Below wc.heap.size wc w' → w'.cell? ⟨w.heap.size, 4, none⟩ = some (.int .i64 6) := fun w' q => (q.cell (by show w.heap.size < wc.heap.size; omega)).trans ((hbc.cell (by show w.heap.size < wr.heap.size; omega)).trans cm4)
        have Q5 : ∀ w', Below wc.heap.size wc w' → w'.cell? ⟨w.heap.size, 5, none⟩ = some (.int .i64 11) := fun w' q => (q.cell (by show w.heap.size < wc.heap.size; omega)).trans ((hbc.cell (by show w.heap.size < wr.heap.size; omega)).trans cm5)
        have Q6 : ∀ w', Below wc.heap.size wc w' → w'.cell? ⟨w.heap.size, 6, none⟩ = some (.int .i64 25) := fun w' q => (q.cell (by show w.heap.size < wc.heap.size; omega)).trans ((hbc.cell (by show w.heap.size < wr.heap.size; omega)).trans cm6)
        have Q7 : ∀ w', Below wc.heap.size wc w' → w'.cell? ⟨w.heap.size, 7, none⟩ = some (.int .i64 7) := fun w' q => (q.cell (by show w.heap.size < wc.heap.size; omega)).trans ((hbc.cell (by show w.heap.size < wr.heap.size; omega)).trans cm7)
        have Q8 : ∀ w', Below wc.heap.size wc w' → w'.cell? ⟨w.heap.size, 8, none⟩ = some (.int .i64 18) := fun w' q => (q.cell (by show w.heap.size < wc.heap.size; omega)).trans ((hbc.cell (by show w.heap.size < wr.heap.size; omega)).trans cm8)
        have Q9 : ∀ w', Below wc.heap.size wc w' → w'.cell? ⟨w.heap.size, 9, none⟩ = some (.int .i64 3) := fun w' q => (q.cell (by show w.heap.size < wc.heap.size; omega)).trans ((hbc.cell (by show w.heap.size < wr.heap.size; omega)).trans cm9)
        have Q10 : ∀ w', Below wc.heap.size wc w' → w'.cell? ⟨w.heap.size, 10, none⟩ = some (.int .i64 17) := fun w' q => (q.cell (by show w.heap.size < wc.heap.size; omega)).trans ((hbc.cell (by show w.heap.size < wr.heap.size; omega)).trans cm10)
        have Q11 : ∀ w', Below wc.heap.size wc w' → w'.cell? ⟨w.heap.size, 11, none⟩ = some (.int .i64 19) := fun w' q => (q.cell (by show w.heap.size < wc.heap.size; omega)).trans ((hbc.cell (by show w.heap.size < wr.heap.size; omega)).trans cm11)
        have Q12 : ∀ w', Below wc.heap.size wc w' → w'.cell? ⟨w.heap.size, 12, none⟩ = some (.int .i64 10) := fun w' q => (q.cell (by show w.heap.size < wc.heap.size; omega)).trans ((hbc.cell (by show w.heap.size < wr.heap.size; omega)).trans cm12)
        have Q13 : ∀ w', Below wc.heap.size wc w' → w'.cell? ⟨w.heap.size, 13, none⟩ = some (.int .u64 4294967295) := fun w' q => (q.cell (by show w.heap.size < wc.heap.size; omega)).trans ((hbc.cell (by show w.heap.size < wr.heap.size; omega)).trans cm13)
        have P0 : ∀ w', Below wc.heap.size wc w' → w'.cell? ⟨g, 0, none⟩ = some (.int .u64 (va : Nat)) := fun w' q => (q.cell (by show g < wc.heap.size; omega)).trans ((hbc.cell (by show g < wr.heap.size; omega)).trans c0)
        have P1 : ∀ w', Below wc.heap.size wc w' → w'.cell? ⟨g, 1, none⟩ = some (.int .u64 (vb : Nat)) := fun w' q => (q.cell (by show g < wc.heap.size; omega)).trans ((hbc.cell (by show g < wr.heap.size; omega)).trans c1)
        have P2 : ∀ w', Below wc.heap.size wc w' → w'.cell? ⟨g, 2, none⟩ = some (.int .u64 (vc : Nat)) := fun w' q => (q.cell (by show g < wc.heap.size; omega)).trans ((hbc.cell (by show g < wr.heap.size; omega)).trans c2)
        have k3 := (hbc.cell (show g < wr.heap.size by omega)).trans c3
        have k4 := (hbc.cell (show g < wr.heap.size by omega)).trans c4
        have k5 := (hbc.cell (show g < wr.heap.size by omega)).trans c5
        have k6 := (hbc.cell (show g < wr.heap.size by omega)).trans c6
        have k13 := (hbc.cell (show w.heap.size < wr.heap.size by omega)).trans cm13
        have k0 := (hbc.cell (show g < wr.heap.size by omega)).trans c0
        have k1 := (hbc.cell (show g < wr.heap.size by omega)).trans c1
        have k2 := (hbc.cell (show g < wr.heap.size by omega)).trans c2
        clear cm0 cm1 cm2 cm3 cm4 cm5 cm6 cm7 cm8 cm9 cm10 cm11 cm12 cm13 cr1 cct cwt c0 c1 c2 c3 c4 c5 c6 c7
        obtain ⟨Y, hY⟩ : ∃ Y : Nat, Y = (big 32 (2, 13, 22) va + maj va vb vc) % 18446744073709551616 := ⟨_, rfl⟩
        have HY := hide hY
        have hY64 : Y < 18446744073709551616 := by rw [hY]; exact Nat.mod_lt _ (by decide)
        clear hY
        have HK := hide (And.intro k0 (And.intro k1 (And.intro k2 (And.intro k3 (And.intro k4 (And.intro k5 (And.intro k6 k13)))))))
        clear k0 k1 k2 k3 k4 k5 k6 k13
        go_upto_region 7 with fail
        go_cut [12] (fun x wx => x = .int .u64 (Y : Nat) ∧ Below wc.heap.size wc wx)
        case first =>
          have va64 : va < 18446744073709551616 := Nat.lt_of_lt_of_le ha (by decide)
          have vb64 : vb < 18446744073709551616 := Nat.lt_of_lt_of_le hb' (by decide)
          have vc64 : vc < 18446744073709551616 := Nat.lt_of_lt_of_le hc (by decide)
          have ab := (bits_u64 _ _ va64 vb64).2.1
          have ac := (bits_u64 _ _ va64 vc64).2.1
          have bc := (bits_u64 _ _ vb64 vc64).2.1
          have mj1 := (bits_u64 _ _ (Nat.and_lt_two_pow (n := 64) va vb64) (Nat.and_lt_two_pow (n := 64) va vc64)).2.2
          have mj2 : bits .xor .u64 (((va &&& vb) ^^^ (va &&& vc) : Nat) : Int) ((vb &&& vc : Nat) : Int) = ((maj va vb vc : Nat) : Int) := (bits_u64 _ _ (Nat.xor_lt_two_pow (n := 64) (Nat.and_lt_two_pow va vb64) (Nat.and_lt_two_pow va vc64)) (Nat.and_lt_two_pow (n := 64) vb vc64)).2.2
          go_region_held3 (fun w' => Below wc.heap.size wc w')
            (first | exact hwr | exact (Below.refl _ wc).drew)
            ((go_at_call 25; refine (rmix32_0 va _ ha).mono ?_; rintro e1 w1 ⟨rfl, hb1⟩; first | (have hwr : Below wc.heap.size wc w1 := (Below.refl _ wc).drew.trans hb1) | (have hwr : Below wc.heap.size wc w1 := hwr.trans (hb1.mono hwr.size))))
          all_goals
            go_wp2_with fail
            go_meet
            case rel =>
              refine ⟨?_, hwr⟩
              refine congrArg (Value.int .u64) ?_
              rw [unhide HY]
              go_light
              simp only [wraps_64]
              omega
        case rest =>
          clear Q0 Q1 Q2 Q3 Q4 Q5 Q6 Q7 Q8 Q9 Q10 Q11 Q12 Q13 P0 P1 P2
          obtain ⟨rfl, hbd⟩ := hcut
          obtain ⟨k0, k1, k2, k3, k4, k5, k6, k13⟩ := unhide HK
          have hzd := hbd.size
          have T0 : ∀ w', Below wc.heap.size wc w' → w'.cell? ⟨g, 0, none⟩ = some (.int .u64 (va : Nat)) := fun w' q => (q.cell (by show g < wc.heap.size; omega)).trans ((hbd.cell (show g < _ by omega)).trans k0)
          have T1 : ∀ w', Below wc.heap.size wc w' → w'.cell? ⟨g, 1, none⟩ = some (.int .u64 (vb : Nat)) := fun w' q => (q.cell (by show g < wc.heap.size; omega)).trans ((hbd.cell (show g < _ by omega)).trans k1)
          have T2 : ∀ w', Below wc.heap.size wc w' → w'.cell? ⟨g, 2, none⟩ = some (.int .u64 (vc : Nat)) := fun w' q => (q.cell (by show g < wc.heap.size; omega)).trans ((hbd.cell (show g < _ by omega)).trans k2)
          have T3 : ∀ w', Below wc.heap.size wc w' → w'.cell? ⟨g, 3, none⟩ = some (.int .u64 (vd : Nat)) := fun w' q => (q.cell (by show g < wc.heap.size; omega)).trans ((hbd.cell (show g < _ by omega)).trans k3)
          have T4 : ∀ w', Below wc.heap.size wc w' → w'.cell? ⟨g, 4, none⟩ = some (.int .u64 (ve : Nat)) := fun w' q => (q.cell (by show g < wc.heap.size; omega)).trans ((hbd.cell (show g < _ by omega)).trans k4)
          have T5 : ∀ w', Below wc.heap.size wc w' → w'.cell? ⟨g, 5, none⟩ = some (.int .u64 (vf : Nat)) := fun w' q => (q.cell (by show g < wc.heap.size; omega)).trans ((hbd.cell (show g < _ by omega)).trans k5)
          have T6 : ∀ w', Below wc.heap.size wc w' → w'.cell? ⟨g, 6, none⟩ = some (.int .u64 (vg : Nat)) := fun w' q => (q.cell (by show g < wc.heap.size; omega)).trans ((hbd.cell (show g < _ by omega)).trans k6)
          have T13 : ∀ w', Below wc.heap.size wc w' → w'.cell? ⟨w.heap.size, 13, none⟩ = some (.int .u64 4294967295) := fun w' q => (q.cell (by show w.heap.size < wc.heap.size; omega)).trans ((hbd.cell (show w.heap.size < _ by omega)).trans k13)
          clear k0 k1 k2 k3 k4 k5 k6 k13 HK
          have hbe : Below w.heap.size w wc := hb.trans ((hbc.trans (hbd.mono hbc.size)).mono (by omega))
          have hm' := (hbd.block w.heap.size (by omega)).trans ((hbc.block w.heap.size (by omega)).trans hm)
          have hrt' := (hbd.block (w.heap.size + 1) (by omega)).trans ((hbc.block (w.heap.size + 1) (by omega)).trans hrt)
          have hze : w.heap.size + 2 ≤ wc.heap.size := by omega
          have hok : St.Ok 32 ((⟨va, vb, vc, vd, ve, vf, vg, vh⟩ : St).step m256 (top 32 r) wt) := St.Ok.step (M := m256) ⟨ha, hb', hc, hd, he, hf, hg, hh⟩ _ _
          have hk1 : bits .and .u64 (IntKind.u64.wrap ((X : Int) + (Y : Int))) 4294967295 = ((((⟨va, vb, vc, vd, ve, vf, vg, vh⟩ : St).step m256 (top 32 r) wt).a : Nat) : Int) := by
            have e1 : IntKind.u64.wrap ((X : Int) + (Y : Int)) = (((X + Y) % 18446744073709551616 : Nat) : Int) := by rw [wrap_u64]; omega
            rw [e1, keep_32 _ (Nat.mod_lt _ (by decide))]
            have hX := unhide HX
            have hY := unhide HY
            show _ = ((((vh + big 32 (6, 11, 25) ve + ch 32 ve vf vg + top 32 r + wt) % 4294967296 + (big 32 (2, 13, 22) va + maj va vb vc) % 4294967296) % 4294967296 : Nat) : Int)
            omega
          have hk2 : bits .and .u64 (IntKind.u64.wrap ((vd : Int) + (X : Int))) 4294967295 = ((((⟨va, vb, vc, vd, ve, vf, vg, vh⟩ : St).step m256 (top 32 r) wt).e : Nat) : Int) := by
            have e1 : IntKind.u64.wrap ((vd : Int) + (X : Int)) = (((vd + X) % 18446744073709551616 : Nat) : Int) := by rw [wrap_u64]; omega
            rw [e1, keep_32 _ (Nat.mod_lt _ (by decide))]
            have hX := unhide HX
            show _ = (((vd + (vh + big 32 (6, 11, 25) ve + ch 32 ve vf vg + top 32 r + wt) % 4294967296) % 4294967296 : Nat) : Int)
            omega
          have hl8 : Hid (((⟨va, vb, vc, vd, ve, vf, vg, vh⟩ : St).step m256 (top 32 r) wt).list = [((⟨va, vb, vc, vd, ve, vf, vg, vh⟩ : St).step m256 (top 32 r) wt).a, va, vb, vc, ((⟨va, vb, vc, vd, ve, vf, vg, vh⟩ : St).step m256 (top 32 r) wt).e, ve, vf, vg]) := rfl
          have HOK := hide hok
          clear hok
          generalize (⟨va, vb, vc, vd, ve, vf, vg, vh⟩ : St).step m256 (top 32 r) wt = nx at hk1 hk2 hl8 HOK hnext
          go_upto_region 8 with fail
          go_region_held3 (fun w' => Below wc.heap.size wc w')
            (first | exact hwr | exact (Below.refl _ wc).drew | exact ((Below.refl _ wc).drew).alloc (by simp) _ | exact hwr.alloc hwr.size _)
            (fail)
          go_wp2
          go_roundw
          case rel =>
            refine ⟨t + 1, nx, by omega, by go_num, unhide HOK, hnext, ?_, ?_, ?_, ?_, ?_⟩
            · have := ownN_built (w.heap.size + 2) wc [nx.a, va, vb, vc, nx.e, ve, vf, vg] (show 8 < 1000 by decide) hze
              rw [unhide hl8]
              exact this
            · exact (hbe.alloc (by omega) _).drew
            · simp; omega
            · exact (heap_alloc_old _ _ (by omega)).trans hm'
            · exact (heap_alloc_old _ _ (by omega)).trans hrt'
          case measure => (go_light; simp [intOf] <;> omega)
    · have hte : t = 64 := by omega
      subst hte
      clear hgrow hcur hput cur
      go_wp2
      go_loopw [13] (fun i wr => ∃ k : Nat, k ≤ 8 ∧ i = .int .i64 (k : Int) ∧ OwnN (w.heap.size + 2) wr (.slice (some ⟨g, 0, none⟩) 8 cap) (addN 32 v.list s.list k) ∧ Below w.heap.size w wr ∧ w.heap.size + 2 ≤ wr.heap.size ∧ wr.heap[w.heap.size]? = some (.cells #[.int .i64 32, .int .i64 2, .int .i64 13, .int .i64 22, .int .i64 6, .int .i64 11, .int .i64 25, .int .i64 7, .int .i64 18, .int .i64 3, .int .i64 17, .int .i64 19, .int .i64 10, .int .u64 4294967295] 42)) (fun i _ => 8 - (intOf i).toNat)
      case atStart => exact ⟨0, by omega, rfl, hown, hb, hsz, hm⟩
      case round =>
        clear hown hb hsz hm hrt hglt
        obtain ⟨k, hk, rfl, hown, hb, hsz, hm⟩ := hrel
        have hal := addN_length 32 v.list s.list k
        rw [show v.list.length = 8 from rfl] at hal
        by_cases hlt8 : k < 8
        · obtain ⟨g2, cap2, cur, hvv, hgB2, hglt, hgrow, hcur, hput⟩ := hown.full (by omega)
          rw [hal] at hvv
          cases hvv
          obtain ⟨_, _, e1, lts, cells⟩ := (hst.all hb).form
          rw [show s.list.length = 8 from rfl] at e1
          cases e1
          have ck := (cell_of_row wr g k _ _ _ hgrow).trans (hcur k (by omega))
          have sk := cells k (show k < 8 from hlt8)
          have km := cell_of_row wr w.heap.size 13 _ _ _ hm
          simp only [List.getElem?_toArray, List.getElem?_cons_zero, List.getElem?_cons_succ] at km
          have fz := frozen_of_row hgrow k
          have hat : (addN 32 v.list s.list k).getD k 0 = v.list.getD k 0 := addN_at _ _ _ _ _ (Nat.le_refl k)
          rw [hat] at ck
          have hvk := ok_lt hv k
          have hsk := ok_lt hs k
          have hnew : Hid (addN 32 v.list s.list (k + 1) = (addN 32 v.list s.list k).set k ((v.list.getD k 0 + s.list.getD k 0) % 4294967296)) := by
            show _ = _
            rw [addN, addN_at _ _ _ _ _ (Nat.le_refl k)]
          have hpk := hput k ((v.list.getD k 0 + s.list.getD k 0) % 4294967296)
          have HP := hide hpk
          generalize v.list.getD k 0 = xv at ck hvk hnew HP
          generalize s.list.getD k 0 = xs at sk hsk hnew HP
          have hkk : bits .and .u64 (IntKind.u64.wrap ((xv : Int) + (xs : Int))) 4294967295 = (((xv + xs) % 4294967296 : Nat) : Int) := by
            have e1 : IntKind.u64.wrap ((xv : Int) + (xs : Int)) = (((xv + xs) % 18446744073709551616 : Nat) : Int) := by rw [wrap_u64]; omega
            rw [e1, keep_32 _ (Nat.mod_lt _ (by decide))]
            omega
          have hkk2 : bits .and .u64 ((xv : Int) + (xs : Int)) 4294967295 = IntKind.u64.wrap (bits .and .u64 ((xv : Int) + (xs : Int)) 4294967295) ∨ True := Or.inr trivial
          clear hkk2 hpk hput hcur hgrow hat cells hown
          have ik : (k : Int) < 8 := by omega
          go_wp2
          go_region
          go_wp2
          go_roundw
          case rel =>
            refine ⟨k + 1, by omega, by go_num, ?_, ?_, ?_, ?_⟩
            · have ev : ∀ z : Int, z = (((xv + xs) % 4294967296 : Nat) : Int) → OwnN (w.heap.size + 2) (wr.setCell ⟨g, k, none⟩ (.int .u64 z)).drew (.slice (some ⟨g, 0, none⟩) 8 cap) (addN 32 v.list s.list (k + 1)) := fun z hz => by
                rw [unhide hnew, hz]
                exact unhide HP
              refine ev _ ?_
              first
                | exact hkk
                | (have e : IntKind.u64.wrap ((xv : Int) + (xs : Int)) = (xv : Int) + (xs : Int) := by rw [wrap_u64]; omega
                   rw [e] at hkk
                   exact hkk)
                | omega
            · exact (hb.setCell (by simp; omega) _).drew
            · simpa using hsz
            · exact (heap_setCell_other _ _ _ _ (by simp; omega)).trans hm
          case measure => (go_light; simp [intOf] <;> omega)
        · have hk8 : k = 8 := by omega
          subst hk8
          have HO := hide hown
          clear hown
          go_wp2
          go_ret
          refine ⟨_, rfl, ?_, hb⟩
          have := (unhide HO).weaken (show w.heap.size ≤ w.heap.size + 2 by omega)
          rw [addN_eight, add_comm', unhide hvr] at this
          exact this
end Go.Proofs.YtgaddifabjoliaaDoor
