import Derived.Test.YtgaddifabjoliaaDoorRRootW
namespace Go.Proofs.YtgaddifabjoliaaDoor
open Go.RowKit

set_option maxRecDepth 20000 in
set_option maxHeartbeats 4000000 in
theorem rroot3 (n : Nat) (w : World) (hn : n < 1000) :
    Calls Tryd.prog 19 #[.int .i64 n, .int .i64 3] w fun e w' => e = .returned (.int .u64 (rootF n 3 : Nat)) ∧ Below w.heap.size w w' := by
  have hmk5 := make_digits 5 5 (by omega) (by omega)
  have hmk := make_digits 13 13 (by omega) (by omega)
  have hz : (cellsN .u64 (List.replicate 13 0))[12]? = some (.int .u64 0) := by
    rw [cellsN_at _ _ _ (by simp), zero_getD]; rfl
  go_enter Tryd.func19, Tryd.ntmps19
  go_wp2
  clear hmk5 hmk hz
  go_loopw [7] (fun i wr => ∃ (k : Nat) (l : List Nat), k ≤ 80 ∧ i = .int .i64 (79 - (k : Int)) ∧ Below w.heap.size w wr ∧ w.heap.size + 2 ≤ wr.heap.size ∧ wr.heap[w.heap.size]? = some (.cells (cellsN .u64 l) 40) ∧ wr.heap[w.heap.size + 1]? = some (.cells (cellsN .u64 (wantL n 3)) 40) ∧ Hid (Got n 3 k l)) (fun i _ => (intOf i + 1).toNat)
  case atStart =>
    refine ⟨0, List.replicate 5 0, by omega, by go_num, ?_, ?_, ?_, ?_, got_start n 3⟩
    · exact ((Below.refl _ _).alloc (Nat.le_refl _) _).alloc (by simp) _
    · simp
    · exact (heap2 _ _ _).1
    · refine (heap2 _ _ _).2.trans ?_
      rw [cellsN_set]
      rfl
  case round =>
    obtain ⟨k, l, hk, rfl, hb, hsz, hg, hw, hgot⟩ := hrel
    by_cases hlt : k < 80
    · obtain ⟨b, hkb⟩ : ∃ b, k + b = 79 := ⟨79 - k, by omega⟩
      have eb : (79 - (k : Int)) = (b : Int) := by omega
      rw [eb]
      have hl := (unhide hgot).1
      have hroom := got_room (unhide hgot) b hkb
      have c1 := cell_of_row wr w.heap.size (b / 16) _ _ _ hg
      rw [cellsN_at _ _ _ (by omega)] at c1
      have fz := frozen_of_row hg (b / 16)
      have hst : Hid (stepG l b = l.set (b / 16) (l.getD (b / 16) 0 + 2 ^ (b % 16))) := rfl
      have hbk := hide (stepG_back l b (by omega))
      have h2 := two_lt (b % 16) (by omega)
      have hsh : IntKind.u64.wrap (2 ^ (b % 16)) = ((2 ^ (b % 16) : Nat) : Int) := by
        have e : (2 : Int) ^ (b % 16) = ((2 ^ (b % 16) : Nat) : Int) := by simp
        rw [wrap_u64, e]
        generalize (2 : Nat) ^ (b % 16) = P at h2
        omega
      generalize l.getD (b / 16) 0 = d at c1 hroom hst hbk
      generalize (2 : Nat) ^ (b % 16) = P at hsh hroom hst h2
      have hrowN : ∀ (wz : World), wz.heap[w.heap.size]? = some (.cells (cellsN .u64 (stepG l b)) 40) → RowN wz (.slice (some ⟨w.heap.size, 0, none⟩) 5 5) (stepG l b) := fun wz h => by
        have h' := rowN_cells (cap := 5) h
        rw [stepG_len, hl] at h'
        exact h'
      have hset : ∀ x : Int, x = ((d + P : Nat) : Int) → (wr.setCell ⟨w.heap.size, b / 16, none⟩ (.int .u64 x)).drew.heap[w.heap.size]? = some (.cells (cellsN .u64 (stepG l b)) 40) := fun x hx => by
        refine (heap_setCell_same _ _ _ _ _ _ hg).trans ?_
        rw [hx, cellsN_set, unhide hst]
      have hdig := got_dig (unhide hgot) b hkb
      have hsl : (stepG l b).length = 5 := by rw [stepG_len, hl]
      have HROW := hide hrowN
      have HDIG := hide hdig
      clear hrowN hdig
      go_wp2
      go_region
      generalize hW : (wr.setCell ⟨w.heap.size, b / 16, none⟩ (.int .u64 ((d : Int) + (P : Int)))).drew = w0
      have g0 : w0.heap[w.heap.size]? = some (.cells (cellsN .u64 (stepG l b)) 40) := by rw [← hW]; exact hset _ (by omega)
      have g1 : w0.heap[w.heap.size + 1]? = some (.cells (cellsN .u64 (wantL n 3)) 40) := by rw [← hW]; exact (heap_setCell_other _ _ _ _ (by simp)).trans hw
      have hb0 : Below w.heap.size w w0 := by rw [← hW]; exact (hb.setCell (Nat.le_refl _) _).drew
      have hs0 : w.heap.size + 2 ≤ w0.heap.size := by rw [← hW]; simpa using hsz
      clear hW hset c1 fz hg hw hb hsz
      clear wr
      have r0 := unhide HROW w0 g0
      have hwl : (wantL n 3).length = 13 := wantL_len n 3
      have hwr : ∀ wz : World, wz.heap[w.heap.size + 1]? = some (.cells (cellsN .u64 (wantL n 3)) 40) → RowN wz (.slice (some ⟨w.heap.size + 1, 0, none⟩) 13 13) (wantL n 3) := fun wz h => by
        have h' := rowN_cells (cap := 13) h
        rw [hwl] at h'
        exact h'
      have HWR := hide hwr
      have hpa := hide (pow_abv n 3 (by omega) (by omega) (stepG l b) (unhide HDIG))
      clear hwr
      go_wp2_with fail
      refine (rtimes _ _ (stepG l b) (stepG l b) w0 r0 r0 (unhide HDIG) (unhide HDIG) (by omega) (by omega)).mono ?_
      rintro e w1 ⟨v1, rfl, hr1, hb1⟩
      have l1 : (timesF (stepG l b) (stepG l b)).length = 10 := by rw [times_len, hsl]
      have r01 := unhide HROW w1 ((hb1.block _ (by omega)).trans g0)
      go_wp2_with fail
      refine (rtimes v1 _ (timesF (stepG l b) (stepG l b)) (stepG l b) w1 hr1 r01 (times_dig (unhide HDIG) (unhide HDIG)) (unhide HDIG) (by omega) (by omega)).mono ?_
      rintro e w2 ⟨v2, rfl, hr2, hb2⟩
      have hb12 : Below w0.heap.size w0 w2 := hb1.trans (hb2.mono hb1.size)
      have r1 := unhide HWR w2 ((hb12.block _ (by omega)).trans g1)
      have l2 : (timesF (timesF (stepG l b) (stepG l b)) (stepG l b)).length = 15 := by rw [times_len, l1, hsl]
      clear hr1 r01
      go_wp2_with fail
      refine (rabove v2 _ (timesF (timesF (stepG l b) (stepG l b)) (stepG l b)) (wantL n 3) w2 hr2 r1 (by omega) (by omega)).mono ?_
      rintro e w2' ⟨rfl, hww⟩
      have hww' := hww.symm
      subst hww'
      clear r1 hr2
      have gg : w2.heap[w.heap.size]? = some (.cells (cellsN .u64 (stepG l b)) 40) := (hb12.block _ (by omega)).trans g0
      have gh : w2.heap[w.heap.size + 1]? = some (.cells (cellsN .u64 (wantL n 3)) 40) := (hb12.block _ (by omega)).trans g1
      have hbw : Below w.heap.size w w2 := hb0.trans (hb12.mono (by omega))
      have hsw : w.heap.size + 2 ≤ w2.heap.size := Nat.le_trans hs0 hb12.size
      have hT : abv (timesF (timesF (stepG l b) (stepG l b)) (stepG l b)) (wantL n 3) ((timesF (timesF (stepG l b) (stepG l b)) (stepG l b)).length + (wantL n 3).length) = decide (n * 2 ^ (64 * 3) < vn (stepG l b) 5 ^ 3) := by
        have := unhide hpa
        rw [hsl] at this
        exact this
      generalize abv (timesF (timesF (stepG l b) (stepG l b)) (stepG l b)) (wantL n 3) ((timesF (timesF (stepG l b) (stepG l b)) (stepG l b)).length + (wantL n 3).length) = T at hT
      have c2 := cell_of_row w2 w.heap.size (b / 16) _ _ _ gg
      rw [cellsN_at _ _ _ (by omega)] at c2
      have f2 := frozen_of_row gg (b / 16)
      have hat : (stepG l b).getD (b / 16) 0 = d + P := by rw [unhide hst, getD_set, if_pos ⟨rfl, by omega⟩]
      rw [hat] at c2
      have G := unhide hgot
      have HGG := hide gg
      clear gg g0 g1 r0 hpa hwl hat
      by_cases hab : n * 2 ^ (64 * 3) < vn (stepG l b) 5 ^ 3
      · have hTt : T = true := by rw [hT]; exact decide_eq_true hab
        subst hTt
        have hup := hide (got_down G b hkb hab)
        clear hT hab G hgot
        go_wp2
        go_region
        go_wp2
        go_roundw
        case rel =>
          refine ⟨k + 1, l, by omega, by go_num, ?_, ?_, ?_, ?_, hup⟩
          · exact (hbw.setCell (Nat.le_refl _) _).drew
          · simpa using hsw
          · refine (heap_setCell_same _ _ _ _ _ _ (unhide HGG)).trans ?_
            rw [cellsN_set, unhide hbk]
          · exact (heap_setCell_other _ _ _ _ (by simp)).trans gh
        case measure => (go_light; simp [intOf] <;> omega)
      · have hTt : T = false := by rw [hT]; exact decide_eq_false hab
        subst hTt
        have hup := hide (got_up G b hkb hab)
        clear hT hab G hgot
        go_wp2
        go_roundw
        case rel => exact ⟨k + 1, stepG l b, by omega, by go_num, hbw, hsw, unhide HGG, gh, hup⟩
        case measure => (go_light; simp [intOf] <;> omega)
    · have hke : k = 80 := by omega
      subst hke
      have hl := (unhide hgot).1
      have c0 := cell_of_row wr w.heap.size 0 _ _ _ hg
      have c1 := cell_of_row wr w.heap.size 1 _ _ _ hg
      have c2 := cell_of_row wr w.heap.size 2 _ _ _ hg
      have c3 := cell_of_row wr w.heap.size 3 _ _ _ hg
      rw [cellsN_at _ _ _ (by omega)] at c0 c1 c2 c3
      have d0 := (unhide hgot).2.1 0
      have d1 := (unhide hgot).2.1 1
      have d2 := (unhide hgot).2.1 2
      have d3 := (unhide hgot).2.1 3
      have hend := hide (got_end (unhide hgot))
      have HG := hide hg
      clear hg hgot
      generalize l.getD 0 0 = x0 at c0 d0 hend
      generalize l.getD 1 0 = x1 at c1 d1 hend
      generalize l.getD 2 0 = x2 at c2 d2 hend
      generalize l.getD 3 0 = x3 at c3 d3 hend
      go_wp2
      go_region
      go_wp2
      go_ret
      refine ⟨ret_int ?_, hb.drew⟩
      rw [← unhide hend]
      omega
end Go.Proofs.YtgaddifabjoliaaDoor
