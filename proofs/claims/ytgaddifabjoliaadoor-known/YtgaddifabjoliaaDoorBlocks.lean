import Derived.Test.YtgaddifabjoliaaDoorMixed
import Derived.Test.YtgaddifabjoliaaDoorLast
namespace Go.Proofs.YtgaddifabjoliaaDoor
open Go.RowKit

theorem add_ok {W : Nat} (s v : St) : (s.add W v).Ok W :=
  ⟨Nat.mod_lt _ (Nat.two_pow_pos _), Nat.mod_lt _ (Nat.two_pow_pos _), Nat.mod_lt _ (Nat.two_pow_pos _), Nat.mod_lt _ (Nat.two_pow_pos _), Nat.mod_lt _ (Nat.two_pow_pos _), Nat.mod_lt _ (Nat.two_pow_pos _), Nat.mod_lt _ (Nat.two_pow_pos _), Nat.mod_lt _ (Nat.two_pow_pos _)⟩
theorem blk_ok {M : Meas} {s : St} (h : s.Ok M.W) (l : List UInt8) : ∀ n, (blk M l s n).Ok M.W
  | 0 => h
  | _ + 1 => add_ok _ _

def strLen : Value → Nat
  | .string s => s.size
  | _ => 0
theorem Laid.at {B : Nat} {w w' : World} (h : Laid w) (hb : Below B w w') (hB : 2 ≤ B) : Laid w' := by
  obtain ⟨h1, h2, h3⟩ := h
  refine ⟨Nat.le_trans h1 hb.size, fun j hj => ?_, fun j hj => ?_⟩
  · rw [hb.cell (by show 0 < _; omega)]; exact h2 j hj
  · rw [hb.cell (by show 1 < _; omega)]; exact h3 j hj
theorem sched_length (M : Meas) (l : List UInt8) : (sched M l).length = 80 := ext_length M _ (fill_length _ _ _ _) _
theorem sched_small_32 (l : List UInt8) : Small 32 (sched m256 l) := ext_small m256 _ (fill_small _ _ (by decide) _ _) _
theorem sched_small_64 (l : List UInt8) : Small 64 (sched m512 l) := ext_small m512 _ (fill_small _ _ (by decide) _ _) _

theorem info_measure : (Tryd.prog.info? 38).map (·.size) = some 14 := by kernel_rfl

theorem extract_list (t : ByteArray) (a b : Nat) : (t.extract a b).data.toList = (t.data.toList.take b).drop a := by
  rw [ByteArray.data_extract, Array.toList_extract, List.extract_eq_take_drop, List.drop_take]

/-- The words behind a block, as a walk takes them. -/
theorem mixed_at_32 (s : St) (ws : List Nat) (w : World) (hL : Laid w) (hs : s.Ok 32) (hl : ws.length = 80) (hw : Small 32 ws) :
    Calls Tryd.prog 31 #[.agg #[.int .u32 s.a, .int .u32 s.b, .int .u32 s.c, .int .u32 s.d, .int .u32 s.e, .int .u32 s.f, .int .u32 s.g, .int .u32 s.h], .agg (cellsN .u32 ws), .agg #[.int .i64 32, .int .i64 64, .int .i64 2, .int .i64 13, .int .i64 22, .int .i64 6, .int .i64 11, .int .i64 25, .int .i64 7, .int .i64 18, .int .i64 3, .int .i64 17, .int .i64 19, .int .i64 10]] w fun e w' => ∃ m : St, Hid (m = mix m256 s ws) ∧ m.Ok 32 ∧ e = .returned (.agg #[.int .u32 m.a, .int .u32 m.b, .int .u32 m.c, .int .u32 m.d, .int .u32 m.e, .int .u32 m.f, .int .u32 m.g, .int .u32 m.h]) ∧ Below w.heap.size w w' :=
  (mixed32 s ws w hL hs hl hw).mono fun _e _w' h => ⟨mix m256 s ws, rfl, add_ok _ _, h.1, h.2⟩

set_option maxRecDepth 20000 in
set_option maxHeartbeats 4000000 in
theorem blocks32 (s : St) (l : ByteArray) (n : Nat) (w : World) (hL : Laid w) (hs : s.Ok 32) (hl : l.size = n * 64) (hbig : l.size < 2 ^ 62) :
    Calls Tryd.prog 22 #[.agg #[.int .u32 s.a, .int .u32 s.b, .int .u32 s.c, .int .u32 s.d, .int .u32 s.e, .int .u32 s.f, .int .u32 s.g, .int .u32 s.h], .string l, .agg #[.int .i64 32, .int .i64 64, .int .i64 2, .int .i64 13, .int .i64 22, .int .i64 6, .int .i64 11, .int .i64 25, .int .i64 7, .int .i64 18, .int .i64 3, .int .i64 17, .int .i64 19, .int .i64 10]] w fun e w' => e = .returned (.agg (cellsN .u32 (blk m256 l.data.toList s n).list)) ∧ Below w.heap.size w w' := by
  have hz := zero8_32.1
  go_enter Tryd.func22, Tryd.ntmps22
  go_wp2
  go_loopw [1] (fun x wr => ∃ (k : Nat) (v : St) (t : ByteArray), k ≤ n ∧ x = .string t ∧ t.size = (n - k) * 64 ∧ Hid (t.data.toList = l.data.toList.drop (k * 64)) ∧ v.Ok 32 ∧ Hid (v = blk m256 l.data.toList s k) ∧
      Below w.heap.size w wr ∧ w.heap.size + 3 ≤ wr.heap.size ∧ wr.heap[w.heap.size]? = some (.cells (cellsN .u32 v.list) 48) ∧ wr.heap[w.heap.size + 1]? = some (.cells #[.int .i64 32, .int .i64 64, .int .i64 2, .int .i64 13, .int .i64 22, .int .i64 6, .int .i64 11, .int .i64 25, .int .i64 7, .int .i64 18, .int .i64 3, .int .i64 17, .int .i64 19, .int .i64 10] 38) ∧ wr.heap[w.heap.size + 1 + 1]? = some (.cells (cellsN .u32 (List.replicate 8 0)) 48)) (fun x _ => strLen x)
  case atStart =>
    refine ⟨0, s, l, by omega, rfl, by omega, by show _ = _; simp, hs, rfl, ?_, ?_, ?_, ?_, ?_⟩
    · exact (((Below.refl _ _).alloc (Nat.le_refl _) _).alloc (by simp) _).alloc (by simp; omega) _
    · simp
    · exact (heap3 _ _ _ _).1
    · exact (heap3 _ _ _ _).2.1
    · exact (heap3 _ _ _ _).2.2
  case round =>
    obtain ⟨k, v, t, hk, rfl, hts, htl, hv, hvr, hb, hsz, hst, hm, hres⟩ := hrel
    by_cases hlt : k < n
    · have hge : 64 ≤ t.size := by
        have : 1 * 64 ≤ (n - k) * 64 := Nat.mul_le_mul_right _ (by omega)
        omega
      have htb : t.size < 2 ^ 62 := by
        have : (n - k) * 64 ≤ n * 64 := Nat.mul_le_mul_right _ (by omega)
        omega
      have HTS := hide hts
      clear hts
      go_upto_region 2 with fail
      go_cut [] (fun wx => ∃ m : St, Hid (m = blk m256 l.data.toList s (k + 1)) ∧ m.Ok 32 ∧ Below w.heap.size w wx ∧ w.heap.size + 3 ≤ wx.heap.size ∧ wx.heap[w.heap.size]? = some (.cells (cellsN .u32 m.list) 48) ∧ wx.heap[w.heap.size + 1]? = some (.cells #[.int .i64 32, .int .i64 64, .int .i64 2, .int .i64 13, .int .i64 22, .int .i64 6, .int .i64 11, .int .i64 25, .int .i64 7, .int .i64 18, .int .i64 3, .int .i64 17, .int .i64 19, .int .i64 10] 38) ∧ wx.heap[w.heap.size + 1 + 1]? = some (.cells (cellsN .u32 (List.replicate 8 0)) 48))
      case first =>
        have hLw := hL.of hb
        refine wp_region_noPanic ?_
        refine wp_region_back (S := fun w' => Below (w.heap.size + 3) wr w') rfl (by simp only [List.pop_toArray, List.dropLast_cons_cons, List.dropLast_singleton]; rfl) (by kernel_rfl) (by kernel_rfl) (Below.refl _ wr).drew (fun hHeld => ?_)
        refine wpAnyH_take (i := 0) rfl (by kernel_rfl) (by kernel_rfl) (by kernel_rfl) (fun _ _ _ h => h) (yields_row rfl _ _ rfl w.heap.size (by rfl) _ _ _ Tryd.underlying48 rfl (by rw [zero8_32.2, cellsN_size]; rfl) (fun w' q => (q.block _ (by omega)).trans hst)) hHeld ?_
        (try simp only [Act.put, List.setIfInBounds_toArray])
        refine wpAnyH_take (i := 1) rfl (by kernel_rfl) (by kernel_rfl) (by kernel_rfl) (fun _ _ _ h => h) (Or.inl ⟨by rfl, fun _ _ => rfl⟩) hHeld ?_
        (try simp only [Act.put])
        refine wpAnyH_take (i := 2) rfl (by kernel_rfl) (by kernel_rfl) (by kernel_rfl) (fun _ _ _ h => h) (yields_row rfl _ _ rfl (w.heap.size + 1) (by rfl) 38 #[.int .i64 32, .int .i64 64, .int .i64 2, .int .i64 13, .int .i64 22, .int .i64 6, .int .i64 11, .int .i64 25, .int .i64 7, .int .i64 18, .int .i64 3, .int .i64 17, .int .i64 19, .int .i64 10] _ Tryd.underlying38 rfl info_measure (fun w' q => (q.block _ (by omega)).trans hm)) hHeld ?_
        (try simp only [Act.put])
        refine wpAnyH_take (i := 5) rfl (by kernel_rfl) (by kernel_rfl) (by kernel_rfl) (fun _ _ _ h => h) (yields_row rfl _ _ rfl (w.heap.size + 1) (by rfl) 38 #[.int .i64 32, .int .i64 64, .int .i64 2, .int .i64 13, .int .i64 22, .int .i64 6, .int .i64 11, .int .i64 25, .int .i64 7, .int .i64 18, .int .i64 3, .int .i64 17, .int .i64 19, .int .i64 10] _ Tryd.underlying38 rfl info_measure (fun w' q => (q.block _ (by omega)).trans hm)) hHeld ?_
        (try simp only [Act.put])
        refine wpAnyH_take (i := 7) rfl (by kernel_rfl) (by kernel_rfl) (by kernel_rfl) (fun _ _ _ h => h) (yields_row rfl _ _ rfl (w.heap.size + 1) (by rfl) 38 #[.int .i64 32, .int .i64 64, .int .i64 2, .int .i64 13, .int .i64 22, .int .i64 6, .int .i64 11, .int .i64 25, .int .i64 7, .int .i64 18, .int .i64 3, .int .i64 17, .int .i64 19, .int .i64 10] _ Tryd.underlying38 rfl info_measure (fun w' q => (q.block _ (by omega)).trans hm)) hHeld ?_
        (try simp only [Act.put])
        refine wpAnyH_ready (rs := [3]) (by kernel_rfl) (by simp) ?_
        refine AllReadyH.cons rfl (fun K hK => ?_) AllReadyH.nil
        go_simp
        go_at_call 21
        refine (block32 _).mono ?_
        rintro e1 w1 ⟨rfl, hb1⟩
        have hwr1 : Below (w.heap.size + 3) wr w1 := (Below.refl _ wr).drew.trans (hb1.mono hsz)
        refine hK.out _ _ hwr1 (fun hHeld => ?_)
        clear hK K
        (try simp only [Act.put, List.setIfInBounds_toArray, List.set_cons_zero, List.set_cons_succ])
        have hgei : (64 : Int) ≤ (t.size : Int) := by omega
        refine wpAnyH_take (i := 4) (v := .string (t.extract 0 64)) rfl (by kernel_rfl) (by kernel_rfl) (by kernel_rfl) (fun _ _ _ h => h) (Or.inl ⟨by rfl, fun w' _ => by go_simp⟩) hHeld ?_
        (try simp only [Act.put, List.setIfInBounds_toArray])
        refine wpAnyH_ready (rs := [6]) (by kernel_rfl) (by simp) ?_
        refine AllReadyH.cons rfl (fun K hK => ?_) AllReadyH.nil
        go_simp
        go_at_call 32
        refine (sched32 (t.extract 0 64) _ (by rw [ByteArray.size_extract]; omega)).mono ?_
        rintro e1 w2 ⟨rfl, hb2⟩
        have hwr2 : Below (w.heap.size + 3) wr w2 := hwr1.trans (hb2.mono (Nat.le_trans hsz hwr1.size))
        refine hK.out _ _ hwr2 (fun hHeld => ?_)
        clear hK K
        (try simp only [Act.put, List.setIfInBounds_toArray, List.set_cons_zero, List.set_cons_succ])
        refine wpAnyH_ready (rs := [8]) (by kernel_rfl) (by simp) ?_
        refine AllReadyH.cons rfl (fun K hK => ?_) AllReadyH.nil
        go_simp
        go_at_call 31
        refine (mixed_at_32 v _ _ (hLw.at hwr2 (by have := hL.1; omega)) hv (sched_length _ _) (sched_small_32 _)).mono ?_
        rintro e1 w3 ⟨m, hmm, hmo, rfl, hb3⟩
        have hwr3 : Below (w.heap.size + 3) wr w3 := hwr2.trans (hb3.mono (Nat.le_trans hsz hwr2.size))
        refine hK.out _ _ hwr3 (fun hHeld => ?_)
        clear hK K
        (try simp only [Act.put, List.setIfInBounds_toArray, List.set_cons_zero, List.set_cons_succ])
        refine wpAnyH_done (by kernel_rfl) ?_ _
        refine behind_of (by simp only [List.size_toArray, List.length_cons, List.length_nil, Nat.reduceAdd, List.getElem?_toArray, List.getElem?_cons_succ, List.getElem?_cons_zero]; rfl) ?hgd ?_
        case hgd => rfl
        refine wp_store_row _ _ _ rfl w.heap.size _ (by rfl) (by rfl) 48 _ ((hwr3.block _ (by omega)).trans hst) (by rw [zero8_32.2]; rfl) (by rw [cellsN_size]; rfl) (cellsN_one .u32 m.list) ?_
        refine NoPanic.normal ?_
        (try simp only [Act.put])
        go_wp2_with fail
        go_meet
        case rel =>
          refine ⟨m, ?_, hmo, below_setRow (hb.trans (hwr3.mono (by omega))) (Nat.le_refl _) _, ?_, heap_setRow_same ((hwr3.block _ (by omega)).trans hst), ?_, ?_⟩
          · show _ = _
            rw [unhide hmm, unhide htl, unhide hvr]
            rfl
          · rw [size_setRow]; exact Nat.le_trans hsz hwr3.size
          · rw [setRow_other _ _ _ _ (by omega)]; exact (hwr3.block _ (by omega)).trans hm
          · rw [setRow_other _ _ _ _ (by omega)]; exact (hwr3.block _ (by omega)).trans hres
      case rest =>
        obtain ⟨m, hmr, hmo, hbc, hzc, hst2, hm2, hres2⟩ := hcut
        have y0 := cell_of_row wc (w.heap.size + 1) 0 _ _ _ hm2
        have y1 := cell_of_row wc (w.heap.size + 1) 1 _ _ _ hm2
        have y2 := cell_of_row wc (w.heap.size + 1) 2 _ _ _ hm2
        have y3 := cell_of_row wc (w.heap.size + 1) 3 _ _ _ hm2
        have y4 := cell_of_row wc (w.heap.size + 1) 4 _ _ _ hm2
        have y5 := cell_of_row wc (w.heap.size + 1) 5 _ _ _ hm2
        have y6 := cell_of_row wc (w.heap.size + 1) 6 _ _ _ hm2
        have y7 := cell_of_row wc (w.heap.size + 1) 7 _ _ _ hm2
        have y8 := cell_of_row wc (w.heap.size + 1) 8 _ _ _ hm2
        have y9 := cell_of_row wc (w.heap.size + 1) 9 _ _ _ hm2
        have y10 := cell_of_row wc (w.heap.size + 1) 10 _ _ _ hm2
        have y11 := cell_of_row wc (w.heap.size + 1) 11 _ _ _ hm2
        have y12 := cell_of_row wc (w.heap.size + 1) 12 _ _ _ hm2
        have y13 := cell_of_row wc (w.heap.size + 1) 13 _ _ _ hm2
        simp only [List.getElem?_toArray, List.getElem?_cons_zero, List.getElem?_cons_succ] at y0 y1 y2 y3 y4 y5 y6 y7 y8 y9 y10 y11 y12 y13
        have hgei : (64 : Int) ≤ (t.size : Int) := by omega
        clear hst hm hres hv hvr
        go_wp2_with (go_at_call 21; refine (block32 _).mono ?_)
        rintro e2 w2 ⟨rfl, hb2⟩
        go_wp2
        go_roundw
        case rel =>
          have hz2 := hb2.size
          refine ⟨k + 1, m, _, by omega, rfl, ?_, ?_, hmo, hmr, hbc.trans (hb2.mono hbc.size), Nat.le_trans hzc hb2.size, (hb2.block _ (by omega)).trans hst2, (hb2.block _ (by omega)).trans hm2, (hb2.block _ (by omega)).trans hres2⟩
          · rw [ByteArray.size_extract, unhide HTS]
            have : (n - k) * 64 = (n - (k + 1)) * 64 + 64 := by
              have e : n - k = (n - (k + 1)) + 1 := by omega
              rw [e, Nat.add_mul] <;> omega
            omega
          · show _ = _
            rw [extract_list, List.take_of_length_le (by simp), unhide htl, List.drop_drop]
            congr 1
            omega
        case measure =>
          go_light
          simp [strLen]
          omega
    · have hke : k = n := by omega
      subst hke
      have ht0 : t.size = 0 := by rw [hts]; simp
      go_upto_region 4 with fail
      refine wp_region_lit ?_
      refine wpList_load_row rfl _ _ rfl w.heap.size (by rfl) _ _ (0, 0) _ hst Tryd.underlying48 rfl (by rw [zero8_32.2, cellsN_size]; rfl) ?_
      refine wpList_store_row rfl _ _ _ rfl (w.heap.size + 1 + 1) _ (by rfl) (by rfl) _ _ hres (by rw [zero8_32.2, cellsN_size]; rfl) (by rw [cellsN_size, cellsN_size]; rfl) (cellsN_one _ _) ?_
      refine wpList_nil ?_
      go_wp2
      refine bodyPost_ret (v := .agg (cellsN .u32 v.list)) (results_cell_row (p := 6) (ty := 48) (by kernel_rfl) _ _ (w.heap.size + 1 + 1) 48 _ (0, 0) _ (by rfl) (heap_setRow_same hres) Tryd.underlying48 rfl (by rw [zero8_32.2, cellsN_size]; rfl)) rfl ⟨?_, below_setRow hb (by omega) _⟩
      rw [unhide hvr]
/-- The words behind a block, as a walk takes them. -/
theorem mixed_at_64 (s : St) (ws : List Nat) (w : World) (hL : Laid w) (hs : s.Ok 64) (hl : ws.length = 80) (hw : Small 64 ws) :
    Calls Tryd.prog 34 #[.agg #[.int .u64 s.a, .int .u64 s.b, .int .u64 s.c, .int .u64 s.d, .int .u64 s.e, .int .u64 s.f, .int .u64 s.g, .int .u64 s.h], .agg (cellsN .u64 ws), .agg #[.int .i64 64, .int .i64 80, .int .i64 28, .int .i64 34, .int .i64 39, .int .i64 14, .int .i64 18, .int .i64 41, .int .i64 1, .int .i64 8, .int .i64 7, .int .i64 19, .int .i64 61, .int .i64 6]] w fun e w' => ∃ m : St, Hid (m = mix m512 s ws) ∧ m.Ok 64 ∧ e = .returned (.agg #[.int .u64 m.a, .int .u64 m.b, .int .u64 m.c, .int .u64 m.d, .int .u64 m.e, .int .u64 m.f, .int .u64 m.g, .int .u64 m.h]) ∧ Below w.heap.size w w' :=
  (mixed64 s ws w hL hs hl hw).mono fun _e _w' h => ⟨mix m512 s ws, rfl, add_ok _ _, h.1, h.2⟩

set_option maxRecDepth 20000 in
set_option maxHeartbeats 4000000 in
theorem blocks64 (s : St) (l : ByteArray) (n : Nat) (w : World) (hL : Laid w) (hs : s.Ok 64) (hl : l.size = n * 128) (hbig : l.size < 2 ^ 62) :
    Calls Tryd.prog 28 #[.agg #[.int .u64 s.a, .int .u64 s.b, .int .u64 s.c, .int .u64 s.d, .int .u64 s.e, .int .u64 s.f, .int .u64 s.g, .int .u64 s.h], .string l, .agg #[.int .i64 64, .int .i64 80, .int .i64 28, .int .i64 34, .int .i64 39, .int .i64 14, .int .i64 18, .int .i64 41, .int .i64 1, .int .i64 8, .int .i64 7, .int .i64 19, .int .i64 61, .int .i64 6]] w fun e w' => e = .returned (.agg (cellsN .u64 (blk m512 l.data.toList s n).list)) ∧ Below w.heap.size w w' := by
  have hz := zero8_64.1
  go_enter Tryd.func28, Tryd.ntmps28
  go_wp2
  go_loopw [1] (fun x wr => ∃ (k : Nat) (v : St) (t : ByteArray), k ≤ n ∧ x = .string t ∧ t.size = (n - k) * 128 ∧ Hid (t.data.toList = l.data.toList.drop (k * 128)) ∧ v.Ok 64 ∧ Hid (v = blk m512 l.data.toList s k) ∧
      Below w.heap.size w wr ∧ w.heap.size + 3 ≤ wr.heap.size ∧ wr.heap[w.heap.size]? = some (.cells (cellsN .u64 v.list) 50) ∧ wr.heap[w.heap.size + 1]? = some (.cells #[.int .i64 64, .int .i64 80, .int .i64 28, .int .i64 34, .int .i64 39, .int .i64 14, .int .i64 18, .int .i64 41, .int .i64 1, .int .i64 8, .int .i64 7, .int .i64 19, .int .i64 61, .int .i64 6] 38) ∧ wr.heap[w.heap.size + 1 + 1]? = some (.cells (cellsN .u64 (List.replicate 8 0)) 50)) (fun x _ => strLen x)
  case atStart =>
    refine ⟨0, s, l, by omega, rfl, by omega, by show _ = _; simp, hs, rfl, ?_, ?_, ?_, ?_, ?_⟩
    · exact (((Below.refl _ _).alloc (Nat.le_refl _) _).alloc (by simp) _).alloc (by simp; omega) _
    · simp
    · exact (heap3 _ _ _ _).1
    · exact (heap3 _ _ _ _).2.1
    · exact (heap3 _ _ _ _).2.2
  case round =>
    obtain ⟨k, v, t, hk, rfl, hts, htl, hv, hvr, hb, hsz, hst, hm, hres⟩ := hrel
    by_cases hlt : k < n
    · have hge : 128 ≤ t.size := by
        have : 1 * 128 ≤ (n - k) * 128 := Nat.mul_le_mul_right _ (by omega)
        omega
      have htb : t.size < 2 ^ 62 := by
        have : (n - k) * 128 ≤ n * 128 := Nat.mul_le_mul_right _ (by omega)
        omega
      have HTS := hide hts
      clear hts
      go_upto_region 2 with fail
      go_cut [] (fun wx => ∃ m : St, Hid (m = blk m512 l.data.toList s (k + 1)) ∧ m.Ok 64 ∧ Below w.heap.size w wx ∧ w.heap.size + 3 ≤ wx.heap.size ∧ wx.heap[w.heap.size]? = some (.cells (cellsN .u64 m.list) 50) ∧ wx.heap[w.heap.size + 1]? = some (.cells #[.int .i64 64, .int .i64 80, .int .i64 28, .int .i64 34, .int .i64 39, .int .i64 14, .int .i64 18, .int .i64 41, .int .i64 1, .int .i64 8, .int .i64 7, .int .i64 19, .int .i64 61, .int .i64 6] 38) ∧ wx.heap[w.heap.size + 1 + 1]? = some (.cells (cellsN .u64 (List.replicate 8 0)) 50))
      case first =>
        have hLw := hL.of hb
        refine wp_region_noPanic ?_
        refine wp_region_back (S := fun w' => Below (w.heap.size + 3) wr w') rfl (by simp only [List.pop_toArray, List.dropLast_cons_cons, List.dropLast_singleton]; rfl) (by kernel_rfl) (by kernel_rfl) (Below.refl _ wr).drew (fun hHeld => ?_)
        refine wpAnyH_take (i := 0) rfl (by kernel_rfl) (by kernel_rfl) (by kernel_rfl) (fun _ _ _ h => h) (yields_row rfl _ _ rfl w.heap.size (by rfl) _ _ _ Tryd.underlying50 rfl (by rw [zero8_64.2, cellsN_size]; rfl) (fun w' q => (q.block _ (by omega)).trans hst)) hHeld ?_
        (try simp only [Act.put, List.setIfInBounds_toArray])
        refine wpAnyH_take (i := 1) rfl (by kernel_rfl) (by kernel_rfl) (by kernel_rfl) (fun _ _ _ h => h) (Or.inl ⟨by rfl, fun _ _ => rfl⟩) hHeld ?_
        (try simp only [Act.put])
        refine wpAnyH_take (i := 2) rfl (by kernel_rfl) (by kernel_rfl) (by kernel_rfl) (fun _ _ _ h => h) (yields_row rfl _ _ rfl (w.heap.size + 1) (by rfl) 38 #[.int .i64 64, .int .i64 80, .int .i64 28, .int .i64 34, .int .i64 39, .int .i64 14, .int .i64 18, .int .i64 41, .int .i64 1, .int .i64 8, .int .i64 7, .int .i64 19, .int .i64 61, .int .i64 6] _ Tryd.underlying38 rfl info_measure (fun w' q => (q.block _ (by omega)).trans hm)) hHeld ?_
        (try simp only [Act.put])
        refine wpAnyH_take (i := 5) rfl (by kernel_rfl) (by kernel_rfl) (by kernel_rfl) (fun _ _ _ h => h) (yields_row rfl _ _ rfl (w.heap.size + 1) (by rfl) 38 #[.int .i64 64, .int .i64 80, .int .i64 28, .int .i64 34, .int .i64 39, .int .i64 14, .int .i64 18, .int .i64 41, .int .i64 1, .int .i64 8, .int .i64 7, .int .i64 19, .int .i64 61, .int .i64 6] _ Tryd.underlying38 rfl info_measure (fun w' q => (q.block _ (by omega)).trans hm)) hHeld ?_
        (try simp only [Act.put])
        refine wpAnyH_take (i := 7) rfl (by kernel_rfl) (by kernel_rfl) (by kernel_rfl) (fun _ _ _ h => h) (yields_row rfl _ _ rfl (w.heap.size + 1) (by rfl) 38 #[.int .i64 64, .int .i64 80, .int .i64 28, .int .i64 34, .int .i64 39, .int .i64 14, .int .i64 18, .int .i64 41, .int .i64 1, .int .i64 8, .int .i64 7, .int .i64 19, .int .i64 61, .int .i64 6] _ Tryd.underlying38 rfl info_measure (fun w' q => (q.block _ (by omega)).trans hm)) hHeld ?_
        (try simp only [Act.put])
        refine wpAnyH_ready (rs := [3]) (by kernel_rfl) (by simp) ?_
        refine AllReadyH.cons rfl (fun K hK => ?_) AllReadyH.nil
        go_simp
        go_at_call 21
        refine (block64 _).mono ?_
        rintro e1 w1 ⟨rfl, hb1⟩
        have hwr1 : Below (w.heap.size + 3) wr w1 := (Below.refl _ wr).drew.trans (hb1.mono hsz)
        refine hK.out _ _ hwr1 (fun hHeld => ?_)
        clear hK K
        (try simp only [Act.put, List.setIfInBounds_toArray, List.set_cons_zero, List.set_cons_succ])
        have hgei : (128 : Int) ≤ (t.size : Int) := by omega
        refine wpAnyH_take (i := 4) (v := .string (t.extract 0 128)) rfl (by kernel_rfl) (by kernel_rfl) (by kernel_rfl) (fun _ _ _ h => h) (Or.inl ⟨by rfl, fun w' _ => by go_simp⟩) hHeld ?_
        (try simp only [Act.put, List.setIfInBounds_toArray])
        refine wpAnyH_ready (rs := [6]) (by kernel_rfl) (by simp) ?_
        refine AllReadyH.cons rfl (fun K hK => ?_) AllReadyH.nil
        go_simp
        go_at_call 35
        refine (sched64 (t.extract 0 128) _ (by rw [ByteArray.size_extract]; omega)).mono ?_
        rintro e1 w2 ⟨rfl, hb2⟩
        have hwr2 : Below (w.heap.size + 3) wr w2 := hwr1.trans (hb2.mono (Nat.le_trans hsz hwr1.size))
        refine hK.out _ _ hwr2 (fun hHeld => ?_)
        clear hK K
        (try simp only [Act.put, List.setIfInBounds_toArray, List.set_cons_zero, List.set_cons_succ])
        refine wpAnyH_ready (rs := [8]) (by kernel_rfl) (by simp) ?_
        refine AllReadyH.cons rfl (fun K hK => ?_) AllReadyH.nil
        go_simp
        go_at_call 34
        refine (mixed_at_64 v _ _ (hLw.at hwr2 (by have := hL.1; omega)) hv (sched_length _ _) (sched_small_64 _)).mono ?_
        rintro e1 w3 ⟨m, hmm, hmo, rfl, hb3⟩
        have hwr3 : Below (w.heap.size + 3) wr w3 := hwr2.trans (hb3.mono (Nat.le_trans hsz hwr2.size))
        refine hK.out _ _ hwr3 (fun hHeld => ?_)
        clear hK K
        (try simp only [Act.put, List.setIfInBounds_toArray, List.set_cons_zero, List.set_cons_succ])
        refine wpAnyH_done (by kernel_rfl) ?_ _
        refine behind_of (by simp only [List.size_toArray, List.length_cons, List.length_nil, Nat.reduceAdd, List.getElem?_toArray, List.getElem?_cons_succ, List.getElem?_cons_zero]; rfl) ?hgd ?_
        case hgd => rfl
        refine wp_store_row _ _ _ rfl w.heap.size _ (by rfl) (by rfl) 50 _ ((hwr3.block _ (by omega)).trans hst) (by rw [zero8_64.2]; rfl) (by rw [cellsN_size]; rfl) (cellsN_one .u64 m.list) ?_
        refine NoPanic.normal ?_
        (try simp only [Act.put])
        go_wp2_with fail
        go_meet
        case rel =>
          refine ⟨m, ?_, hmo, below_setRow (hb.trans (hwr3.mono (by omega))) (Nat.le_refl _) _, ?_, heap_setRow_same ((hwr3.block _ (by omega)).trans hst), ?_, ?_⟩
          · show _ = _
            rw [unhide hmm, unhide htl, unhide hvr]
            rfl
          · rw [size_setRow]; exact Nat.le_trans hsz hwr3.size
          · rw [setRow_other _ _ _ _ (by omega)]; exact (hwr3.block _ (by omega)).trans hm
          · rw [setRow_other _ _ _ _ (by omega)]; exact (hwr3.block _ (by omega)).trans hres
      case rest =>
        obtain ⟨m, hmr, hmo, hbc, hzc, hst2, hm2, hres2⟩ := hcut
        have y0 := cell_of_row wc (w.heap.size + 1) 0 _ _ _ hm2
        have y1 := cell_of_row wc (w.heap.size + 1) 1 _ _ _ hm2
        have y2 := cell_of_row wc (w.heap.size + 1) 2 _ _ _ hm2
        have y3 := cell_of_row wc (w.heap.size + 1) 3 _ _ _ hm2
        have y4 := cell_of_row wc (w.heap.size + 1) 4 _ _ _ hm2
        have y5 := cell_of_row wc (w.heap.size + 1) 5 _ _ _ hm2
        have y6 := cell_of_row wc (w.heap.size + 1) 6 _ _ _ hm2
        have y7 := cell_of_row wc (w.heap.size + 1) 7 _ _ _ hm2
        have y8 := cell_of_row wc (w.heap.size + 1) 8 _ _ _ hm2
        have y9 := cell_of_row wc (w.heap.size + 1) 9 _ _ _ hm2
        have y10 := cell_of_row wc (w.heap.size + 1) 10 _ _ _ hm2
        have y11 := cell_of_row wc (w.heap.size + 1) 11 _ _ _ hm2
        have y12 := cell_of_row wc (w.heap.size + 1) 12 _ _ _ hm2
        have y13 := cell_of_row wc (w.heap.size + 1) 13 _ _ _ hm2
        simp only [List.getElem?_toArray, List.getElem?_cons_zero, List.getElem?_cons_succ] at y0 y1 y2 y3 y4 y5 y6 y7 y8 y9 y10 y11 y12 y13
        have hgei : (128 : Int) ≤ (t.size : Int) := by omega
        clear hst hm hres hv hvr
        go_wp2_with (go_at_call 21; refine (block64 _).mono ?_)
        rintro e2 w2 ⟨rfl, hb2⟩
        go_wp2
        go_roundw
        case rel =>
          have hz2 := hb2.size
          refine ⟨k + 1, m, _, by omega, rfl, ?_, ?_, hmo, hmr, hbc.trans (hb2.mono hbc.size), Nat.le_trans hzc hb2.size, (hb2.block _ (by omega)).trans hst2, (hb2.block _ (by omega)).trans hm2, (hb2.block _ (by omega)).trans hres2⟩
          · rw [ByteArray.size_extract, unhide HTS]
            have : (n - k) * 128 = (n - (k + 1)) * 128 + 128 := by
              have e : n - k = (n - (k + 1)) + 1 := by omega
              rw [e, Nat.add_mul] <;> omega
            omega
          · show _ = _
            rw [extract_list, List.take_of_length_le (by simp), unhide htl, List.drop_drop]
            congr 1
            omega
        case measure =>
          go_light
          simp [strLen]
          omega
    · have hke : k = n := by omega
      subst hke
      have ht0 : t.size = 0 := by rw [hts]; simp
      go_upto_region 4 with fail
      refine wp_region_lit ?_
      refine wpList_load_row rfl _ _ rfl w.heap.size (by rfl) _ _ (0, 0) _ hst Tryd.underlying50 rfl (by rw [zero8_64.2, cellsN_size]; rfl) ?_
      refine wpList_store_row rfl _ _ _ rfl (w.heap.size + 1 + 1) _ (by rfl) (by rfl) _ _ hres (by rw [zero8_64.2, cellsN_size]; rfl) (by rw [cellsN_size, cellsN_size]; rfl) (cellsN_one _ _) ?_
      refine wpList_nil ?_
      go_wp2
      refine bodyPost_ret (v := .agg (cellsN .u64 v.list)) (results_cell_row (p := 6) (ty := 50) (by kernel_rfl) _ _ (w.heap.size + 1 + 1) 50 _ (0, 0) _ (by rfl) (heap_setRow_same hres) Tryd.underlying50 rfl (by rw [zero8_64.2, cellsN_size]; rfl)) rfl ⟨?_, below_setRow hb (by omega) _⟩
      rw [unhide hvr]
end Go.Proofs.YtgaddifabjoliaaDoor
