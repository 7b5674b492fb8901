import Derived.Test.YtgaddifabjoliaaDoorSum
namespace Go.Proofs.YtgaddifabjoliaaDoor
open Go.RowKit

theorem ending_len_64 (r : List UInt8) (len : Nat) (hr : r.length < 128) : (⟨(ending m512 r len).toArray⟩ : ByteArray).size = (ending m512 r len).length / 128 * 128 ∧ (⟨(ending m512 r len).toArray⟩ : ByteArray).size < 2 ^ 62 := by
  have h1 : (ending m512 r len).length = r.length + 1 + (128 - (r.length + 1 + 16) % 128) % 128 + 16 := by
    simp [ending, zeros, m512, be_length]
    try omega
  have h2 : (⟨(ending m512 r len).toArray⟩ : ByteArray).size = (ending m512 r len).length := by show (ending m512 r len).toArray.size = _; simp
  rw [h2, h1]
  omega

set_option maxRecDepth 20000 in
set_option maxHeartbeats 4000000 in
theorem sum64 (s : ByteArray) (w : World) (hL : Laid w) (hs : s.size < 2 ^ 60) :
    Calls Tryd.prog 16 #[.string s, .agg #[.int .i64 64, .int .i64 80, .int .i64 28, .int .i64 34, .int .i64 39, .int .i64 14, .int .i64 18, .int .i64 41, .int .i64 1, .int .i64 8, .int .i64 7, .int .i64 19, .int .i64 61, .int .i64 6]] w fun e w' => e = .returned (.string ⟨(sumF m512 s.data.toList).toArray⟩) ∧ Below w.heap.size w w' := by
  have hz := zero8_64.1
  have b0 : w.heap.size < w.heap.size + 2 := by omega
  have b1 : w.heap.size + 1 < w.heap.size + 2 := by omega
  go_enter Tryd.func16, Tryd.ntmps16
  go_wp2
  go_loopw [11] (fun i wr => ∃ k : Nat, k ≤ 8 ∧ i = .int .i64 (k : Int) ∧ Below w.heap.size w wr ∧ w.heap.size + 2 ≤ wr.heap.size ∧ wr.heap[w.heap.size]? = some (.cells #[.int .i64 64, .int .i64 80, .int .i64 28, .int .i64 34, .int .i64 39, .int .i64 14, .int .i64 18, .int .i64 41, .int .i64 1, .int .i64 8, .int .i64 7, .int .i64 19, .int .i64 61, .int .i64 6] 38) ∧ wr.heap[w.heap.size + 1]? = some (.cells (cellsN .u64 (initN 64 k)) 50)) (fun i _ => 8 - (intOf i).toNat)
  case atStart =>
    refine ⟨0, by omega, rfl, ((Below.refl _ _).alloc (Nat.le_refl _) _).alloc (by simp) _, by simp, heap_alloc2_old _ _ _, heap_alloc2_new _ _ _⟩
  case round =>
    obtain ⟨k, hk, rfl, hb, hsz, hm, hst⟩ := hrel
    by_cases hlt : k < 8
    · have cg := (hL.of hb).2.1 k hlt
      have hr64 := sq_lt k
      have hnew : Hid (initN 64 (k + 1) = (initN 64 k).set k (top 64 (sq.getD k 0))) := rfl
      generalize sq.getD k 0 = r at cg hr64 hnew
      have ik : (k : Int) < 8 := by omega
      have ik0 : (0 : Int) ≤ (k : Int) := by omega
      go_upto_region 5 with fail
      refine wp_region_noPanic ?_
      refine wp_region_back (S := fun w' => Below (w.heap.size + 2) wr w') rfl (by simp only [List.pop_toArray, List.dropLast_cons_cons, List.dropLast_singleton]; rfl) (by kernel_rfl) (by kernel_rfl) (Below.refl _ wr).drew (fun hHeld => ?_)
      refine wpAnyH_take (i := 0) rfl (by kernel_rfl) (by kernel_rfl) (by kernel_rfl) (fun _ _ _ h => h) (Or.inl ⟨by rfl, fun _ _ => rfl⟩) hHeld ?_
      (try simp only [Act.put, List.setIfInBounds_toArray])
      refine wpAnyH_take (i := 1) rfl (by kernel_rfl) (by kernel_rfl) (by kernel_rfl) (fun _ _ _ h => h) (Or.inl ⟨by rfl, fun _ _ => rfl⟩) hHeld ?_
      (try simp only [Act.put])
      refine wpAnyH_take (i := 2) rfl (by kernel_rfl) (by kernel_rfl) (by kernel_rfl) (fun _ _ _ h => h) (Or.inl ⟨by rfl, fun w' _ => by go_simp; first | done | rfl⟩) hHeld ?_
      (try simp only [Act.put])
      refine wpAnyH_take (i := 3) rfl (by kernel_rfl) (by kernel_rfl) (by kernel_rfl) (fun _ _ _ h => h) (Or.inl ⟨by rfl, fun w' q => by have cq := (q.cell (p := ⟨0, k, none⟩) (by show 0 < w.heap.size + 2; omega)).trans cg; go_simp; first | done | rfl⟩) hHeld ?_
      (try simp only [Act.put])
      refine wpAnyH_take (i := 4) rfl (by kernel_rfl) (by kernel_rfl) (by kernel_rfl) (fun _ _ _ h => h) (yields_row rfl _ _ rfl w.heap.size (by rfl) 38 #[.int .i64 64, .int .i64 80, .int .i64 28, .int .i64 34, .int .i64 39, .int .i64 14, .int .i64 18, .int .i64 41, .int .i64 1, .int .i64 8, .int .i64 7, .int .i64 19, .int .i64 61, .int .i64 6] _ Tryd.underlying38 rfl info_measure (fun w' q => (q.block _ b0).trans hm)) hHeld ?_
      (try simp only [Act.put])
      refine wpAnyH_ready (rs := [5]) (by kernel_rfl) (by simp) ?_
      refine AllReadyH.cons rfl (fun K hK => ?_) AllReadyH.nil
      go_simp
      go_at_call 27
      refine (top64 r _ hr64).mono ?_
      rintro e1 w1 ⟨rfl, hb1⟩
      have hwr : Below (w.heap.size + 2) wr w1 := (Below.refl _ wr).drew.trans (hb1.mono hsz)
      refine hK.out _ _ hwr (fun hHeld => ?_)
      clear hK K
      (try simp only [Act.put, List.setIfInBounds_toArray, List.set_cons_zero, List.set_cons_succ])
      refine wpAnyH_take (i := 6) rfl (by kernel_rfl) (by kernel_rfl) (by kernel_rfl) (fun _ _ _ h => h) (Or.inl ⟨by rfl, fun w' _ => by go_simp; first | done | rfl⟩) hHeld ?_
      (try simp only [Act.put, List.setIfInBounds_toArray])
      refine wpAnyH_done (by kernel_rfl) ?_ _
      refine behind_of (by simp only [List.size_toArray, List.length_cons, List.length_nil, Nat.reduceAdd, List.getElem?_toArray, List.getElem?_cons_succ, List.getElem?_cons_zero]; rfl) ?hgd ?_
      case hgd => rfl
      have hst1 : w1.heap[w.heap.size + 1]? = some (.cells (cellsN .u64 (initN 64 k)) 50) := (hwr.block _ (by omega)).trans hst
      have cc := cell_of_row w1 (w.heap.size + 1) k _ _ _ hst1
      rw [cellsN_at _ _ _ (by rw [initN_length]; exact hlt)] at cc
      have fz := frozen_of_row hst1 k
      go_simp
      refine NoPanic.normal ?_
      (try simp only [Act.put, List.setIfInBounds_toArray, List.set_cons_zero, List.set_cons_succ])
      go_wp2
      go_roundw
      case rel =>
        refine ⟨k + 1, by omega, by go_num, (hb.trans (hwr.mono (by omega))).setCell (by simp) _, by have := hwr.size; simp; omega, (heap_setCell_other _ _ _ _ (by simp)).trans ((hwr.block _ (by omega)).trans hm), ?_⟩
        refine (heap_setCell_same _ _ _ _ _ _ hst1).trans ?_
        rw [unhide hnew, ← cellsN_set]
      case measure => (go_light; simp [intOf] <;> omega)
    · have hk8 : k = 8 := by omega
      subst hk8
      rw [initN_64] at hst
      have y0 := cell_of_row wr w.heap.size 0 _ _ _ hm
      have y1 := cell_of_row wr w.heap.size 1 _ _ _ hm
      have y2 := cell_of_row wr w.heap.size 2 _ _ _ hm
      have y3 := cell_of_row wr w.heap.size 3 _ _ _ hm
      have y4 := cell_of_row wr w.heap.size 4 _ _ _ hm
      have y5 := cell_of_row wr w.heap.size 5 _ _ _ hm
      have y6 := cell_of_row wr w.heap.size 6 _ _ _ hm
      have y7 := cell_of_row wr w.heap.size 7 _ _ _ hm
      have y8 := cell_of_row wr w.heap.size 8 _ _ _ hm
      have y9 := cell_of_row wr w.heap.size 9 _ _ _ hm
      have y10 := cell_of_row wr w.heap.size 10 _ _ _ hm
      have y11 := cell_of_row wr w.heap.size 11 _ _ _ hm
      have y12 := cell_of_row wr w.heap.size 12 _ _ _ hm
      have y13 := cell_of_row wr w.heap.size 13 _ _ _ hm
      simp only [List.getElem?_toArray, List.getElem?_cons_zero, List.getElem?_cons_succ] at y0 y1 y2 y3 y4 y5 y6 y7 y8 y9 y10 y11 y12 y13
      obtain ⟨n, hn⟩ : ∃ n, n = s.size / 128 := ⟨_, rfl⟩
      obtain ⟨q, hq⟩ : ∃ q, q = n * 128 := ⟨_, rfl⟩
      have hqs : q ≤ s.size := by rw [hq, hn]; exact Nat.div_mul_le_self _ _
      have hqr : s.size - q < 128 := by omega
      have hqi : (s.size : Int) - (s.size : Int) % 128 = (q : Int) := by omega
      have hqi2 : (q : Int) ≤ (s.size : Int) := by omega
      have HN := hide hn
      have HQ := hide hq
      clear hn hq
      go_upto_region 8 with (go_at_call 21; refine (block64 _).mono ?_; rintro e0 w0 ⟨rfl, hb0⟩)
      have hbb0 : Below w.heap.size w w0 := hb.trans (hb0.mono hb.size)
      have hsz0 := hb0.size
      have hm0 := (hb0.block w.heap.size (by omega)).trans hm
      have hst0 := (hb0.block (w.heap.size + 1) (by omega)).trans hst
      have hL0 := hL.of hbb0
      clear y0 y1 y2 y3 y4 y5 y6 y7 y8 y9 y10 y11 y12 y13
      go_cut [] (fun wx => ∃ u : St, u.Ok 64 ∧ Hid (u = blk m512 (s.extract 0 q).data.toList (start m512) n) ∧ Below w.heap.size w wx ∧ w.heap.size + 2 ≤ wx.heap.size ∧ wx.heap[w.heap.size]? = some (.cells #[.int .i64 64, .int .i64 80, .int .i64 28, .int .i64 34, .int .i64 39, .int .i64 14, .int .i64 18, .int .i64 41, .int .i64 1, .int .i64 8, .int .i64 7, .int .i64 19, .int .i64 61, .int .i64 6] 38) ∧ wx.heap[w.heap.size + 1]? = some (.cells (cellsN .u64 u.list) 50))
      case first =>
        refine wp_region_noPanic ?_
        refine wp_region_back (S := fun w' => Below (w.heap.size + 2) w0 w') rfl (by simp only [List.pop_toArray, List.dropLast_cons_cons, List.dropLast_singleton]; rfl) (by kernel_rfl) (by kernel_rfl) (Below.refl _ w0).drew (fun hHeld => ?_)
        refine wpAnyH_take (i := 0) rfl (by kernel_rfl) (by kernel_rfl) (by kernel_rfl) (fun _ _ _ h => h) (yields_row rfl _ _ rfl (w.heap.size + 1) (by rfl) _ _ _ Tryd.underlying50 rfl (by rw [zero8_64.2, cellsN_size]; rfl) (fun w' q => (q.block _ b1).trans hst0)) hHeld ?_
        (try simp only [Act.put, List.setIfInBounds_toArray])
        refine wpAnyH_take (i := 1) rfl (by kernel_rfl) (by kernel_rfl) (by kernel_rfl) (fun _ _ _ h => h) (Or.inl ⟨by rfl, fun _ _ => rfl⟩) hHeld ?_
        (try simp only [Act.put])
        refine wpAnyH_take (i := 2) rfl (by kernel_rfl) (by kernel_rfl) (by kernel_rfl) (fun _ _ _ h => h) (Or.inl ⟨by rfl, fun _ _ => rfl⟩) hHeld ?_
        (try simp only [Act.put])
        refine wpAnyH_take (i := 3) (v := .string (s.extract 0 q)) rfl (by kernel_rfl) (by kernel_rfl) (by kernel_rfl) (fun _ _ _ h => h) (Or.inl ⟨by rfl, fun w' _ => by go_simp; first | done | rfl⟩) hHeld ?_
        (try simp only [Act.put])
        refine wpAnyH_take (i := 4) rfl (by kernel_rfl) (by kernel_rfl) (by kernel_rfl) (fun _ _ _ h => h) (yields_row rfl _ _ rfl w.heap.size (by rfl) 38 #[.int .i64 64, .int .i64 80, .int .i64 28, .int .i64 34, .int .i64 39, .int .i64 14, .int .i64 18, .int .i64 41, .int .i64 1, .int .i64 8, .int .i64 7, .int .i64 19, .int .i64 61, .int .i64 6] _ Tryd.underlying38 rfl info_measure (fun w' q => (q.block _ b0).trans hm0)) hHeld ?_
        (try simp only [Act.put])
        refine wpAnyH_ready (rs := [5]) (by kernel_rfl) (by simp) ?_
        refine AllReadyH.cons rfl (fun K hK => ?_) AllReadyH.nil
        go_simp
        go_at_call 28
        refine (blocks64 (start m512) (s.extract 0 q) n w0.drew (show Laid w0.drew from hL0) start_ok_64 (by rw [ByteArray.size_extract, ← unhide HQ]; omega) (by rw [ByteArray.size_extract]; omega)).mono ?_
        rintro e1 w1 ⟨rfl, hb1⟩
        have hwr1 : Below (w.heap.size + 2) w0 w1 := (Below.refl _ w0).drew.trans (hb1.mono (by show _ ≤ w0.heap.size; omega))
        refine hK.out _ _ hwr1 (fun hHeld => ?_)
        clear hK K
        (try simp only [Act.put, List.setIfInBounds_toArray, List.set_cons_zero, List.set_cons_succ])
        refine wpAnyH_done (by kernel_rfl) ?_ _
        refine behind_of (by simp only [List.size_toArray, List.length_cons, List.length_nil, Nat.reduceAdd, List.getElem?_toArray, List.getElem?_cons_succ, List.getElem?_cons_zero]; rfl) ?hgd ?_
        case hgd => rfl
        refine wp_store_row _ _ _ rfl (w.heap.size + 1) _ (by rfl) (by rfl) 50 _ ((hwr1.block _ (by omega)).trans hst0) (by rw [zero8_64.2, cellsN_size]; rfl) (by rw [cellsN_size, cellsN_size]; rfl) (cellsN_one _ _) ?_
        refine NoPanic.normal ?_
        (try simp only [Act.put])
        go_wp2_with fail
        go_meet
        case rel =>
          obtain ⟨u, hu⟩ : ∃ u, u = blk m512 (s.extract 0 q).data.toList (start m512) n := ⟨_, rfl⟩
          have huo : u.Ok 64 := by rw [hu]; exact blk_ok (M := m512) start_ok_64 _ _
          have hba : Below w.heap.size w (w1.setRow (w.heap.size + 1) (cellsN .u64 u.list)) := below_setRow (hbb0.trans (hwr1.mono (by omega))) (by omega) _
          have hsza : w.heap.size + 2 ≤ (w1.setRow (w.heap.size + 1) (cellsN .u64 u.list)).heap.size := by rw [size_setRow]; have := hwr1.size; omega
          have hma : (w1.setRow (w.heap.size + 1) (cellsN .u64 u.list)).heap[w.heap.size]? = some (.cells #[.int .i64 64, .int .i64 80, .int .i64 28, .int .i64 34, .int .i64 39, .int .i64 14, .int .i64 18, .int .i64 41, .int .i64 1, .int .i64 8, .int .i64 7, .int .i64 19, .int .i64 61, .int .i64 6] 38) := (setRow_other _ _ _ _ (by omega)).trans ((hwr1.block _ (by omega)).trans hm0)
          have hsta : (w1.setRow (w.heap.size + 1) (cellsN .u64 u.list)).heap[w.heap.size + 1]? = some (.cells (cellsN .u64 u.list) 50) := heap_setRow_same ((hwr1.block _ (by omega)).trans hst0)
          subst hu
          exact ⟨_, huo, rfl, hba, hsza, hma, hsta⟩
      case rest =>
        obtain ⟨u, huo, HU, hba, hsza, hma, hsta⟩ := hcut
        clear hb hm hst hb0 hbb0 hm0 hst0 hL0 hsz hsz0
        generalize wc = wa at hba hsza hma hsta ⊢
        go_upto_region 9 with fail
        go_cut [] (fun wx => ∃ v : St, v.Ok 64 ∧ Hid (v = blk m512 (ending m512 (s.extract q s.size).data.toList s.size) u ((ending m512 (s.extract q s.size).data.toList s.size).length / 128)) ∧ Below w.heap.size w wx ∧ w.heap.size + 2 ≤ wx.heap.size ∧ wx.heap[w.heap.size]? = some (.cells #[.int .i64 64, .int .i64 80, .int .i64 28, .int .i64 34, .int .i64 39, .int .i64 14, .int .i64 18, .int .i64 41, .int .i64 1, .int .i64 8, .int .i64 7, .int .i64 19, .int .i64 61, .int .i64 6] 38) ∧ wx.heap[w.heap.size + 1]? = some (.cells (cellsN .u64 v.list) 50))
        case first =>
          have hLa := hL.of hba
          have hrs : (s.extract q s.size).size = s.size - q := by rw [ByteArray.size_extract]; omega
          have hel := ending_len_64 (s.extract q s.size).data.toList s.size (by rw [← Array.size_eq_length_toList]; show (s.extract q s.size).size < _; omega)
          have HEL := hide hel
          clear hel
          have hrb : (s.extract q s.size).size < 128 := by rw [hrs]; exact hqr
          have hs60 : s.size < 2 ^ 60 := hs
          have hz2 : w.heap.size + 2 ≤ wa.drew.heap.size := hsza
          refine wp_region_noPanic ?_
          refine wp_region_back (S := fun w' => Below (w.heap.size + 2) wa w') rfl (by simp only [List.pop_toArray, List.dropLast_cons_cons, List.dropLast_singleton]; rfl) (by kernel_rfl) (by kernel_rfl) (Below.refl _ wa).drew (fun hHeld => ?_)
          refine wpAnyH_take (i := 0) rfl (by kernel_rfl) (by kernel_rfl) (by kernel_rfl) (fun _ _ _ h => h) (yields_row rfl _ _ rfl (w.heap.size + 1) (by rfl) _ _ _ Tryd.underlying50 rfl (by rw [zero8_64.2, cellsN_size]; rfl) (fun w' q => (q.block _ b1).trans hsta)) hHeld ?_
          (try simp only [Act.put, List.setIfInBounds_toArray])
          refine wpAnyH_take (i := 1) rfl (by kernel_rfl) (by kernel_rfl) (by kernel_rfl) (fun _ _ _ h => h) (Or.inl ⟨by rfl, fun _ _ => rfl⟩) hHeld ?_
          (try simp only [Act.put])
          refine wpAnyH_take (i := 2) rfl (by kernel_rfl) (by kernel_rfl) (by kernel_rfl) (fun _ _ _ h => h) (Or.inl ⟨by rfl, fun _ _ => rfl⟩) hHeld ?_
          (try simp only [Act.put])
          refine wpAnyH_take (i := 3) (v := .string (s.extract q s.size)) rfl (by kernel_rfl) (by kernel_rfl) (by kernel_rfl) (fun _ _ _ h => h) (Or.inl ⟨by rfl, fun w' _ => by go_simp; first | done | rfl⟩) hHeld ?_
          (try simp only [Act.put])
          refine wpAnyH_take (i := 4) rfl (by kernel_rfl) (by kernel_rfl) (by kernel_rfl) (fun _ _ _ h => h) (Or.inl ⟨by rfl, fun _ _ => rfl⟩) hHeld ?_
          (try simp only [Act.put])
          refine wpAnyH_take (i := 5) rfl (by kernel_rfl) (by kernel_rfl) (by kernel_rfl) (fun _ _ _ h => h) (Or.inl ⟨by rfl, fun w' _ => by go_simp; first | done | rfl⟩) hHeld ?_
          (try simp only [Act.put])
          refine wpAnyH_take (i := 6) rfl (by kernel_rfl) (by kernel_rfl) (by kernel_rfl) (fun _ _ _ h => h) (yields_row rfl _ _ rfl w.heap.size (by rfl) 38 #[.int .i64 64, .int .i64 80, .int .i64 28, .int .i64 34, .int .i64 39, .int .i64 14, .int .i64 18, .int .i64 41, .int .i64 1, .int .i64 8, .int .i64 7, .int .i64 19, .int .i64 61, .int .i64 6] _ Tryd.underlying38 rfl info_measure (fun w' q => (q.block _ b0).trans hma)) hHeld ?_
          (try simp only [Act.put])
          refine wpAnyH_take (i := 8) rfl (by kernel_rfl) (by kernel_rfl) (by kernel_rfl) (fun _ _ _ h => h) (yields_row rfl _ _ rfl w.heap.size (by rfl) 38 #[.int .i64 64, .int .i64 80, .int .i64 28, .int .i64 34, .int .i64 39, .int .i64 14, .int .i64 18, .int .i64 41, .int .i64 1, .int .i64 8, .int .i64 7, .int .i64 19, .int .i64 61, .int .i64 6] _ Tryd.underlying38 rfl info_measure (fun w' q => (q.block _ b0).trans hma)) hHeld ?_
          (try simp only [Act.put])
          refine wpAnyH_ready (rs := [7]) (by kernel_rfl) (by simp) ?_
          refine AllReadyH.cons rfl (fun K hK => ?_) AllReadyH.nil
          go_simp
          go_at_call 23
          refine (ending64 (s.extract q s.size) s.size wa.drew hrb hs60).mono ?_
          rintro e1 w2 ⟨rfl, hb2⟩
          have hwr2 : Below (w.heap.size + 2) wa w2 := (Below.refl _ wa).drew.trans (hb2.mono hz2)
          refine hK.out _ _ hwr2 (fun hHeld => ?_)
          clear hK K
          (try simp only [Act.put, List.setIfInBounds_toArray, List.set_cons_zero, List.set_cons_succ])
          obtain ⟨E, hE⟩ : ∃ E, E = ending m512 (s.extract q s.size).data.toList s.size := ⟨_, rfl⟩
          have hel := unhide HEL
          rw [← hE] at hel ⊢
          have hel1 := hel.1
          have hel2 := hel.2
          have HE := hide hE
          have hz3 : w.heap.size + 2 ≤ w2.heap.size := Nat.le_trans hsza hwr2.size
          have h22 : 2 ≤ w.heap.size + 2 := by omega
          clear hel HEL hE
          refine wpAnyH_ready (rs := [9]) (by kernel_rfl) (by simp) ?_
          refine AllReadyH.cons rfl (fun K hK => ?_) AllReadyH.nil
          go_simp
          go_at_call 28
          refine (blocks64 u ⟨E.toArray⟩ (E.length / 128) w2 (hLa.at hwr2 h22) huo hel1 hel2).mono ?_
          rintro e1 w3 ⟨rfl, hb3⟩
          have hwr3 : Below (w.heap.size + 2) wa w3 := hwr2.trans (hb3.mono hz3)
          refine hK.out _ _ hwr3 (fun hHeld => ?_)
          clear hK K
          skip
          refine wpAnyH_done (by kernel_rfl) ?_ _
          refine behind_of (by simp only [List.size_toArray, List.length_cons, List.length_nil, Nat.reduceAdd, List.getElem?_toArray, List.getElem?_cons_succ, List.getElem?_cons_zero]; rfl) ?hgd ?_
          case hgd => rfl
          refine wp_store_row _ _ _ rfl (w.heap.size + 1) _ (by rfl) (by rfl) 50 _ ((hwr3.block _ b1).trans hsta) (by rw [zero8_64.2, cellsN_size]; rfl) (by rw [cellsN_size, cellsN_size]; rfl) (cellsN_one _ _) ?_
          refine NoPanic.normal ?_
          (try simp only [Act.put])
          go_wp2_with fail
          go_meet
          case rel =>
            refine ⟨blk m512 E u (E.length / 128), blk_ok (M := m512) huo _ _, ?_, below_setRow (hba.trans (hwr3.mono (by omega))) (by omega) _, ?_, (setRow_other _ _ _ _ (by omega)).trans ((hwr3.block _ b0).trans hma), heap_setRow_same ((hwr3.block _ b1).trans hsta)⟩
            · show _ = _
              rw [unhide HE]
            · rw [size_setRow]; exact Nat.le_trans hsza hwr3.size
        case rest =>
          obtain ⟨v, hvo, HV, hbv, hszv, hmv, hstv⟩ := hcut
          clear hba hsza hma hsta
          obtain ⟨j0, hj, hy0, hy1, hy2⟩ := info_parts info_u8
          have HST := hide hstv
          have y0 := cell_of_row wc w.heap.size 0 _ _ _ hmv
          simp only [List.getElem?_toArray, List.getElem?_cons_zero] at y0
          clear hstv
          go_wp2_with (at_make; refine wpList_make_own _ (by rfl) _ _ 45 (by rfl) (w.heap.size + 2) 5 j0 (.int .u8 0) 1 Tryd.underlying45 hj hy0 hy1 .i64 .i64 64 64 (by rfl) (by rfl) (by rfl) ?m1 ?m2 ?m3 ?_)
          case m1 => rw [hy2]; decide
          case m2 => unfold maxLen; decide
          case m3 => exact hszv
          intro wm hom hgm
          have hob := ownB_of (acc := []) hom
          have hbm : Below (w.heap.size + 2) wc wm := (Below.refl _ _).grown hgm hszv (fun k hk => by cases hk)
          have hbw : Below w.heap.size w wm := hbv.trans (hbm.mono (by omega))
          have hzm := hbm.size
          have hmm := (hbm.block _ b0).trans hmv
          have HSM := hide ((hbm.block _ b1).trans (unhide HST))
          have HOB := hide hob
          clear hom hgm hob y0 HST
          go_wp2_with (refine wpList_load_row (by rfl) 50 _ (by rfl) (w.heap.size + 1) (by rfl) _ _ (0, 0) _ (unhide HSM) Tryd.underlying50 rfl ?l2 ?_)
          case l2 => rw [zero8_64.2, cellsN_size]; rfl
          go_wp2
          go_loopw [8, 52] (fun out i wr => ∃ (k : Nat) (got : List UInt8), k ≤ 8 ∧ i = .int .i64 (k : Int) ∧ got.length = 8 * k ∧ OwnB (w.heap.size + 2) wr out got ∧ Below w.heap.size w wr ∧ w.heap.size + 2 ≤ wr.heap.size ∧ wr.heap[w.heap.size]? = some (.cells #[.int .i64 64, .int .i64 80, .int .i64 28, .int .i64 34, .int .i64 39, .int .i64 14, .int .i64 18, .int .i64 41, .int .i64 1, .int .i64 8, .int .i64 7, .int .i64 19, .int .i64 61, .int .i64 6] 38) ∧ Hid (got = outN 8 v.list k)) (fun _ i _ => 8 - (intOf i).toNat)
          case atStart => exact ⟨0, [], by omega, rfl, rfl, unhide HOB, hbw, by omega, hmm, rfl⟩
          case round =>
            obtain ⟨k, got, hk, rfl, hgl, hob, hb, hsz, hm, hgot⟩ := hrel
            by_cases hlt : k < 8
            · have y0 := cell_of_row wr w.heap.size 0 _ _ _ hm
              simp only [List.getElem?_toArray, List.getElem?_cons_zero] at y0
              have hix := cellsN_at .u64 v.list k hlt
              have hxb := list_ok hvo k
              have hnew : Hid (outN 8 v.list (k + 1) = outN 8 v.list k ++ be (v.list.getD k 0) 8) := rfl
              generalize v.list.getD k 0 = x at hix hxb hnew
              have HIX := hide hix
              have HO := hide hob
              have HGL := hide hgl
              have hx64 : x < 18446744073709551616 := by omega
              clear hix hob hgl
              have ik : (k : Int) < 8 := by omega
              go_wp2_with (first
                | (refine wpList_index_row (by rfl) _ _ _ (by rfl) _ (by rfl) k (by rfl) _ _ Tryd.underlying50 hlt Tryd.sizeOf40 Tryd.isAgg40 _ (unhide HIX) ?_)
                | (go_at_call 24; refine (append_wordw_64 (w.heap.size + 2) _ got x _ ?h1 hx64 ?h2 ?h3).mono ?_))
              case h1 => exact hsz
              case h2 => (have := unhide HGL; omega)
              case h3 => exact unhide HO
              rintro e3 w3 ⟨v3, rfl, hob3, hbw3⟩
              have hz3 := hbw3.size
              go_wp2
              go_roundw
              case rel =>
                refine ⟨k + 1, _, by omega, by go_num, ?_, hob3, hb.trans (hbw3.mono (by omega)), by omega, (hbw3.block _ b0).trans hm, ?_⟩
                · have := unhide HGL
                  rw [List.length_append, be_length]; omega
                · show _ = _
                  rw [unhide hnew, unhide hgot]
              case measure => (go_light; simp [intOf] <;> omega)
            · have hk8 : k = 8 := by omega
              have hgf : got = sumF m512 s.data.toList := by
                rw [unhide hgot, hk8, outN_eight, unhide HV, unhide HU, unhide HQ, unhide HN]
                have hl : s.data.toList.length = s.size := by simp
                have e1 : (s.extract 0 (s.size / 128 * 128)).data.toList = s.data.toList.take (s.size / 128 * 128) := by rw [extract_list]; rfl
                have e2 : (s.extract (s.size / 128 * 128) s.size).data.toList = s.data.toList.drop (s.size / 128 * 128) := by rw [extract_list, List.take_of_length_le (by omega)]
                rw [e1, e2]
                unfold sumF
                rw [hl]
                rfl
              have hcv := hob.text
              rw [hgf] at hcv
              clear hgf hgot hgl
              go_wp2
              go_ret
              exact ⟨rfl, hb⟩
end Go.Proofs.YtgaddifabjoliaaDoor
