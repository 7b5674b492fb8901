import Derived.Test.YtgaddifabjoliaaDoorSched
import Derived.Deep.Light
namespace Go.Proofs.YtgaddifabjoliaaDoor
open Go.RowKit

/-- The two tables of roots lie where they were laid. -/
def Laid (w : World) : Prop := 2 ≤ w.heap.size ∧ (∀ j, j < 8 → w.cell? ⟨0, j, none⟩ = some (.int .u64 (sq.getD j 0 : Nat))) ∧ (∀ j, j < 80 → w.cell? ⟨1, j, none⟩ = some (.int .u64 (cu.getD j 0 : Nat)))
theorem Laid.of {w w' : World} (h : Laid w) (hb : Below w.heap.size w w') : Laid w' := by
  obtain ⟨h1, h2, h3⟩ := h
  refine ⟨Nat.le_trans h1 hb.size, fun j hj => ?_, fun j hj => ?_⟩
  · rw [hb.cell (by show 0 < _; omega)]; exact h2 j hj
  · rw [hb.cell (by show 1 < _; omega)]; exact h3 j hj
theorem cu_lt (j : Nat) : cu.getD j 0 < 18446744073709551616 := by
  have : ∀ x ∈ cu, x < 18446744073709551616 := by decide
  rw [List.getD_eq_getElem?_getD]
  cases h : cu[j]? with
  | none => simp
  | some x => exact this x (List.mem_of_getElem? h)
theorem sq_lt (j : Nat) : sq.getD j 0 < 18446744073709551616 := by
  have : ∀ x ∈ sq, x < 18446744073709551616 := by decide
  rw [List.getD_eq_getElem?_getD]
  cases h : sq[j]? with
  | none => simp
  | some x => exact this x (List.mem_of_getElem? h)

def St.list (s : St) : List Nat := [s.a, s.b, s.c, s.d, s.e, s.f, s.g, s.h]
def St.Ok (W : Nat) (s : St) : Prop := s.a < 2 ^ W ∧ s.b < 2 ^ W ∧ s.c < 2 ^ W ∧ s.d < 2 ^ W ∧ s.e < 2 ^ W ∧ s.f < 2 ^ W ∧ s.g < 2 ^ W ∧ s.h < 2 ^ W
theorem St.Ok.step {M : Meas} {s : St} (h : s.Ok M.W) (k w : Nat) : (s.step M k w).Ok M.W := by
  obtain ⟨h1, h2, h3, h4, h5, h6, h7, h8⟩ := h
  exact ⟨Nat.mod_lt _ (Nat.two_pow_pos _), h1, h2, h3, Nat.mod_lt _ (Nat.two_pow_pos _), h5, h6, h7⟩
theorem rounds_ok {M : Meas} {s : St} (h : s.Ok M.W) (w : List Nat) : ∀ t, (rounds M w s t).Ok M.W
  | 0 => h
  | t + 1 => (rounds_ok h w t).step _ _

theorem wpList_index_row {P : Program} {ops : Array Oper} {rest : List Oper} {o : Oper} {a : Act} {w : World} {Q : Exit → Act → World → Prop} (hgd : o.guard = none) (ty : TypeId) (x i : Operand) (ho : o.op = .index ty x i)
    (cs : Array Value) (hx : a.eval x = .agg cs) (k : Nat) (hi : a.eval i = .int .i64 k) (n : Nat) (e : TypeId) (hu : P.underlying ty = some (.array n e)) (hk : k < n)
    (hz : ∀ w, (sizeOf e).run P w = .ok 1 w) (hagg : ∀ w, (isAgg e).run P w = .ok false w) (v : Value) (hv : cs[k]? = some v)
    (h : wpList P ops Q rest (a.put o.dst v) w) : wpList P ops Q (o :: rest) a w := by
  refine wpList_plain hgd fun K hK => ?_
  have hk2 : (0 : Int) ≤ (k : Int) ∧ (k : Int) < (n : Int) := by omega
  unfold Oper.wp execOp
  simp only [ho, hx, hi, Instr.index, asIntOf, Sem.run_bind, Sem.run_pure, Result.andThen_ok, run_underlying hu w, if_pos hk2, hz, part, hagg, Int.toNat_natCast, Nat.mul_one, hv]
  exact hK _ _ h

def addN (W : Nat) (S V : List Nat) : Nat → List Nat
  | 0 => S
  | k + 1 => (addN W S V k).set k (((addN W S V k).getD k 0 + V.getD k 0) % 2 ^ W)
theorem addN_length (W : Nat) (S V : List Nat) : ∀ k, (addN W S V k).length = S.length
  | 0 => rfl
  | k + 1 => by simp [addN, addN_length W S V k]
theorem addN_at (W : Nat) (S V : List Nat) : ∀ k j, k ≤ j → (addN W S V k).getD j 0 = S.getD j 0
  | 0, _, _ => rfl
  | k + 1, j, h => by
    rw [addN, List.getD_eq_getElem?_getD, List.getElem?_set_ne (by omega), ← List.getD_eq_getElem?_getD]
    exact addN_at W S V k j (by omega)
theorem addN_eight (W : Nat) (s v : St) : addN W s.list v.list 8 = (s.add W v).list := by
  simp [addN, St.list, St.add]

theorem heap4 (w : World) (A B C D : Obj) : ((((w.alloc A).alloc B).alloc C).alloc D).heap[w.heap.size]? = some A ∧ ((((w.alloc A).alloc B).alloc C).alloc D).heap[w.heap.size + 1]? = some B ∧ ((((w.alloc A).alloc B).alloc C).alloc D).heap[w.heap.size + 1 + 1]? = some C ∧ ((((w.alloc A).alloc B).alloc C).alloc D).heap[w.heap.size + 1 + 1 + 1]? = some D := by
  obtain ⟨h1, h2, h3⟩ := heap3 w A B C
  have hz : (((w.alloc A).alloc B).alloc C).heap.size = w.heap.size + 1 + 1 + 1 := by simp
  refine ⟨?_, ?_, ?_, ?_⟩
  · rw [heap_alloc_old _ _ (by omega)]; exact h1
  · rw [heap_alloc_old _ _ (by omega)]; exact h2
  · rw [heap_alloc_old _ _ (by omega)]; exact h3
  · rw [← hz]; exact heap_alloc_new _ _

theorem not_32 (e : Nat) (he : e < 2 ^ 32) : bits .xor .u32 4294967295 (e : Int) = ((2 ^ 32 - 1 - e : Nat) : Int) := by
  have h1 := (bits_u32 4294967295 e (by decide) he).2.2
  have h2 : (4294967295 ^^^ e : Nat) = 2 ^ 32 - 1 - e := by
    have h3 : (BitVec.allOnes 32 ^^^ BitVec.ofNat 32 e) = ~~~ (BitVec.ofNat 32 e) := by rw [BitVec.xor_comm, BitVec.xor_allOnes]
    have h4 := congrArg BitVec.toNat h3
    rw [BitVec.toNat_xor, BitVec.toNat_allOnes, BitVec.toNat_not, BitVec.toNat_ofNat, Nat.mod_eq_of_lt he] at h4
    exact h4
  rw [← h2]; exact h1
theorem not_64 (e : Nat) (he : e < 2 ^ 64) : bits .xor .u64 18446744073709551615 (e : Int) = ((2 ^ 64 - 1 - e : Nat) : Int) := by
  have h1 := (bits_u64 18446744073709551615 e (by decide) he).2.2
  have h2 : (18446744073709551615 ^^^ e : Nat) = 2 ^ 64 - 1 - e := by
    have h3 : (BitVec.allOnes 64 ^^^ BitVec.ofNat 64 e) = ~~~ (BitVec.ofNat 64 e) := by rw [BitVec.xor_comm, BitVec.xor_allOnes]
    have h4 := congrArg BitVec.toNat h3
    rw [BitVec.toNat_xor, BitVec.toNat_allOnes, BitVec.toNat_not, BitVec.toNat_ofNat, Nat.mod_eq_of_lt he] at h4
    exact h4
  rw [← h2]; exact h1

theorem zero8_32 : (∀ w, (zeroValue 48).run Tryd.prog w = .ok (.agg (cellsN .u32 (List.replicate 8 0))) w) ∧ (Tryd.prog.info? 48).map (·.size) = some 8 := zero_of_info (by kernel_rfl)

set_option maxRecDepth 20000 in
set_option maxHeartbeats 4000000 in
theorem mixed32 (s : St) (ws : List Nat) (w : World) (hL : Laid w) (hs : s.Ok 32) (hl : ws.length = 80) (hw : Small 32 ws) :
    Calls Tryd.prog 31 #[.agg #[.int .u32 s.a, .int .u32 s.b, .int .u32 s.c, .int .u32 s.d, .int .u32 s.e, .int .u32 s.f, .int .u32 s.g, .int .u32 s.h], .agg (cellsN .u32 ws), .agg #[.int .i64 32, .int .i64 64, .int .i64 2, .int .i64 13, .int .i64 22, .int .i64 6, .int .i64 11, .int .i64 25, .int .i64 7, .int .i64 18, .int .i64 3, .int .i64 17, .int .i64 19, .int .i64 10]] w fun e w' => e = .returned (.agg (cellsN .u32 (mix m256 s ws).list)) ∧ Below w.heap.size w w' := by
  have hz := zero8_32.1
  go_enter Tryd.func31, Tryd.ntmps31
  go_wp2
  go_quiet (fail)
  go_wp2
  go_quiet (fail)
  go_wp2
  go_loopw [7, 8, 9, 10, 11, 12, 13, 14, 38] (fun a b c d e f g h i wr => ∃ (t : Nat) (v : St), t ≤ 64 ∧ i = .int .i64 (t : Int) ∧ v.Ok 32 ∧ Hid (v = rounds m256 ws s t) ∧ a = .int .u32 v.a ∧ b = .int .u32 v.b ∧ c = .int .u32 v.c ∧ d = .int .u32 v.d ∧ e = .int .u32 v.e ∧ f = .int .u32 v.f ∧ g = .int .u32 v.g ∧ h = .int .u32 v.h ∧
      Below w.heap.size w wr ∧ w.heap.size + 4 ≤ wr.heap.size ∧ wr.heap[w.heap.size]? = some (.cells (cellsN .u32 s.list) 48) ∧ wr.heap[w.heap.size + 1]? = some (.cells (cellsN .u32 ws) 65) ∧ wr.heap[w.heap.size + 1 + 1]? = some (.cells #[.int .i64 32, .int .i64 64, .int .i64 2, .int .i64 13, .int .i64 22, .int .i64 6, .int .i64 11, .int .i64 25, .int .i64 7, .int .i64 18, .int .i64 3, .int .i64 17, .int .i64 19, .int .i64 10] 38) ∧ wr.heap[w.heap.size + 1 + 1 + 1]? = some (.cells (cellsN .u32 (List.replicate 8 0)) 48)) (fun _ _ _ _ _ _ _ _ i _ => 64 - (intOf i).toNat)
  case atStart =>
    refine ⟨0, s, by omega, rfl, hs, rfl, rfl, rfl, rfl, rfl, rfl, rfl, rfl, rfl, ?_, ?_, ?_, ?_, ?_, ?_⟩
    · exact below_drewN (((((Below.refl _ _).alloc (Nat.le_refl _) _).alloc (by simp) _).alloc (by simp; omega) _).alloc (by simp; omega) _) _
    · simp
    · exact (heap4 _ _ _ _ _).1
    · exact (heap4 _ _ _ _ _).2.1
    · exact (heap4 _ _ _ _ _).2.2.1
    · exact (heap4 _ _ _ _ _).2.2.2
  case round =>
    obtain ⟨t, v, ht, rfl, hv, hvr, rfl, rfl, rfl, rfl, rfl, rfl, rfl, rfl, hb, hsz, hst, hwz, hm, hres⟩ := hrel
    by_cases hlt : t < 64
    · have ht80 : t < 80 := by omega
      have cg := (hL.of hb).2.2 t ht80
      have cw := cell_of_row wr (w.heap.size + 1) t _ _ _ hwz
      rw [cellsN_at _ _ _ (by omega)] at cw
      have cm0 := cell_of_row wr (w.heap.size + 1 + 1) 0 _ _ _ hm
      have cm1 := cell_of_row wr (w.heap.size + 1 + 1) 1 _ _ _ hm
      have cm2 := cell_of_row wr (w.heap.size + 1 + 1) 2 _ _ _ hm
      have cm3 := cell_of_row wr (w.heap.size + 1 + 1) 3 _ _ _ hm
      have cm4 := cell_of_row wr (w.heap.size + 1 + 1) 4 _ _ _ hm
      have cm5 := cell_of_row wr (w.heap.size + 1 + 1) 5 _ _ _ hm
      have cm6 := cell_of_row wr (w.heap.size + 1 + 1) 6 _ _ _ hm
      have cm7 := cell_of_row wr (w.heap.size + 1 + 1) 7 _ _ _ hm
      have cm8 := cell_of_row wr (w.heap.size + 1 + 1) 8 _ _ _ hm
      have cm9 := cell_of_row wr (w.heap.size + 1 + 1) 9 _ _ _ hm
      have cm10 := cell_of_row wr (w.heap.size + 1 + 1) 10 _ _ _ hm
      have cm11 := cell_of_row wr (w.heap.size + 1 + 1) 11 _ _ _ hm
      have cm12 := cell_of_row wr (w.heap.size + 1 + 1) 12 _ _ _ hm
      have cm13 := cell_of_row wr (w.heap.size + 1 + 1) 13 _ _ _ hm
      simp only [List.getElem?_toArray, List.getElem?_cons_zero, List.getElem?_cons_succ] at cm0 cm1 cm2 cm3 cm4 cm5 cm6 cm7 cm8 cm9 cm10 cm11 cm12 cm13
      have hr64 := cu_lt t
      have hwt := hw t
      have hnext : Hid (v.step m256 (top 32 (cu.getD t 0)) (ws.getD t 0) = rounds m256 ws s (t + 1)) := by
        show _ = _
        rw [unhide hvr]; rfl
      generalize cu.getD t 0 = r at cg hr64 hnext
      generalize ws.getD t 0 = wt at cw hwt hnext
      obtain ⟨va, vb, vc, vd, ve, vf, vg, vh⟩ := v
      obtain ⟨ha, hb', hc, hd, he, hf, hg, hh⟩ := hv
      dsimp only at ha hb' hc hd he hf hg hh
      have ef := (bits_u32 _ _ he hf).2.1
      have it : (t : Int) < 80 := by omega
      go_upto_region 6 with fail
      go_cut [16] (fun x wx => x = .int .u32 (xOf m256 (top 32 r) wt ⟨va, vb, vc, vd, ve, vf, vg, vh⟩ : Nat) ∧ Below (w.heap.size + 4) wr wx)
      case first =>
        have hsg : IntKind.u32.signed = false := rfl
        have ng : bits .xor .u32 IntKind.u32.max (ve : Int) = ((2 ^ 32 - 1 - ve : Nat) : Int) := not_32 ve he
        have n2 : 2 ^ 32 - 1 - ve < 4294967296 := by omega
        have ng2 := (bits_u32 _ _ n2 hg).2.1
        have ch1 : bits .xor .u32 ((ve &&& vf : Nat) : Int) (((2 ^ 32 - 1 - ve) &&& vg : Nat) : Int) = ((ch 32 ve vf vg : Nat) : Int) := (bits_u32 _ _ (Nat.and_lt_two_pow _ hf) (Nat.and_lt_two_pow _ hg)).2.2
        generalize 2 ^ 32 - 1 - ve = en at ng ng2 ch1
        have R0 : ∀ w', Below (w.heap.size + 4) wr w' → w'.cell? ⟨w.heap.size + 1 + 1, 0, none⟩ = some (.int .i64 32) := fun w' q => (q.cell (by show w.heap.size + 1 + 1 < w.heap.size + 4; omega)).trans cm0
        have R1 : ∀ w', Below (w.heap.size + 4) wr w' → w'.cell? ⟨w.heap.size + 1 + 1, 1, none⟩ = some (.int .i64 64) := fun w' q => (q.cell (by show w.heap.size + 1 + 1 < w.heap.size + 4; omega)).trans cm1
        have R2 : ∀ w', Below (w.heap.size + 4) wr w' → w'.cell? ⟨w.heap.size + 1 + 1, 2, none⟩ = some (.int .i64 2) := fun w' q => (q.cell (by show w.heap.size + 1 + 1 < w.heap.size + 4; omega)).trans cm2
        have R3 : ∀ w', Below (w.heap.size + 4) wr w' → w'.cell? ⟨w.heap.size + 1 + 1, 3, none⟩ = some (.int .i64 13) := fun w' q => (q.cell (by show w.heap.size + 1 + 1 < w.heap.size + 4; omega)).trans cm3
        have R4 : ∀ w', Below (w.heap.size + 4) wr w' → w'.cell? ⟨w.heap.size + 1 + 1, 4, none⟩ = some (.int .i64 22) := fun w' q => (q.cell (by show w.heap.size + 1 + 1 < w.heap.size + 4; omega)).trans cm4
        have R5 : ∀ w', Below (w.heap.size + 4) wr w' → w'.cell? ⟨w.heap.size + 1 + 1, 5, none⟩ = some (.int .i64 6) := fun w' q => (q.cell (by show w.heap.size + 1 + 1 < w.heap.size + 4; omega)).trans cm5
        have R6 : ∀ w', Below (w.heap.size + 4) wr w' → w'.cell? ⟨w.heap.size + 1 + 1, 6, none⟩ = some (.int .i64 11) := fun w' q => (q.cell (by show w.heap.size + 1 + 1 < w.heap.size + 4; omega)).trans cm6
        have R7 : ∀ w', Below (w.heap.size + 4) wr w' → w'.cell? ⟨w.heap.size + 1 + 1, 7, none⟩ = some (.int .i64 25) := fun w' q => (q.cell (by show w.heap.size + 1 + 1 < w.heap.size + 4; omega)).trans cm7
        have R8 : ∀ w', Below (w.heap.size + 4) wr w' → w'.cell? ⟨w.heap.size + 1 + 1, 8, none⟩ = some (.int .i64 7) := fun w' q => (q.cell (by show w.heap.size + 1 + 1 < w.heap.size + 4; omega)).trans cm8
        have R9 : ∀ w', Below (w.heap.size + 4) wr w' → w'.cell? ⟨w.heap.size + 1 + 1, 9, none⟩ = some (.int .i64 18) := fun w' q => (q.cell (by show w.heap.size + 1 + 1 < w.heap.size + 4; omega)).trans cm9
        have R10 : ∀ w', Below (w.heap.size + 4) wr w' → w'.cell? ⟨w.heap.size + 1 + 1, 10, none⟩ = some (.int .i64 3) := fun w' q => (q.cell (by show w.heap.size + 1 + 1 < w.heap.size + 4; omega)).trans cm10
        have R11 : ∀ w', Below (w.heap.size + 4) wr w' → w'.cell? ⟨w.heap.size + 1 + 1, 11, none⟩ = some (.int .i64 17) := fun w' q => (q.cell (by show w.heap.size + 1 + 1 < w.heap.size + 4; omega)).trans cm11
        have R12 : ∀ w', Below (w.heap.size + 4) wr w' → w'.cell? ⟨w.heap.size + 1 + 1, 12, none⟩ = some (.int .i64 19) := fun w' q => (q.cell (by show w.heap.size + 1 + 1 < w.heap.size + 4; omega)).trans cm12
        have R13 : ∀ w', Below (w.heap.size + 4) wr w' → w'.cell? ⟨w.heap.size + 1 + 1, 13, none⟩ = some (.int .i64 10) := fun w' q => (q.cell (by show w.heap.size + 1 + 1 < w.heap.size + 4; omega)).trans cm13
        have Rg : ∀ w', Below (w.heap.size + 4) wr w' → w'.cell? ⟨1, t, none⟩ = some (.int .u64 r) := fun w' q => (q.cell (by show 1 < w.heap.size + 4; omega)).trans cg
        have Rw : ∀ w', Below (w.heap.size + 4) wr w' → w'.cell? ⟨w.heap.size + 1, t, none⟩ = some (.int .u32 wt) := fun w' q => (q.cell (by show w.heap.size + 1 < w.heap.size + 4; omega)).trans cw
        clear cm0 cm1 cm2 cm3 cm4 cm5 cm6 cm7 cm8 cm9 cm10 cm11 cm12 cm13 cg cw
        go_region_held3 (fun w' => Below (w.heap.size + 4) wr w')
          (first | exact hwr | exact (Below.refl _ wr).drew)
          (first
            | (go_at_call 36; refine (big32 ve 6 11 25 _ he (by decide) (by decide) (by decide)).mono ?_; rintro e1 w1 ⟨rfl, hb1⟩; first | (have hwr : Below (w.heap.size + 4) wr w1 := (Below.refl _ wr).drew.trans (hb1.mono hsz)) | (have hwr : Below (w.heap.size + 4) wr w1 := hwr.trans (hb1.mono (Nat.le_trans hsz hwr.size))))
            | (go_at_call 20; refine (top32 r _ hr64).mono ?_; rintro e1 w1 ⟨rfl, hb1⟩; first | (have hwr : Below (w.heap.size + 4) wr w1 := (Below.refl _ wr).drew.trans (hb1.mono hsz)) | (have hwr : Below (w.heap.size + 4) wr w1 := hwr.trans (hb1.mono (Nat.le_trans hsz hwr.size)))))
        all_goals
          go_wp2_with fail
          go_meet
          case rel =>
            refine ⟨?_, hwr⟩
            refine congrArg (Value.int .u32) ?_
            go_light
            show _ = (((vh + big 32 (6, 11, 25) ve + ch 32 ve vf vg + top 32 r + wt) % 4294967296 : Nat) : Int)
            (try simp only [wraps_32])
            omega
      case rest =>
        obtain ⟨rfl, hbc⟩ := hcut
        have hzc := hbc.size
        have y0 : wc.cell? ⟨w.heap.size + 1 + 1, 0, none⟩ = some (.int .i64 32) := (hbc.cell (by show w.heap.size + 1 + 1 < w.heap.size + 4; omega)).trans cm0
        have y2 : wc.cell? ⟨w.heap.size + 1 + 1, 2, none⟩ = some (.int .i64 2) := (hbc.cell (by show w.heap.size + 1 + 1 < w.heap.size + 4; omega)).trans cm2
        have y3 : wc.cell? ⟨w.heap.size + 1 + 1, 3, none⟩ = some (.int .i64 13) := (hbc.cell (by show w.heap.size + 1 + 1 < w.heap.size + 4; omega)).trans cm3
        have y4 : wc.cell? ⟨w.heap.size + 1 + 1, 4, none⟩ = some (.int .i64 22) := (hbc.cell (by show w.heap.size + 1 + 1 < w.heap.size + 4; omega)).trans cm4
        clear cm0 cm1 cm2 cm3 cm4 cm5 cm6 cm7 cm8 cm9 cm10 cm11 cm12 cm13 cg cw ef
        have ab := (bits_u32 _ _ ha hb').2.1
        have ac := (bits_u32 _ _ ha hc).2.1
        have bc := (bits_u32 _ _ hb' hc).2.1
        have mj1 := (bits_u32 _ _ (Nat.and_lt_two_pow va hb') (Nat.and_lt_two_pow va hc)).2.2
        have mj2 : bits .xor .u32 (((va &&& vb) ^^^ (va &&& vc) : Nat) : Int) ((vb &&& vc : Nat) : Int) = ((maj va vb vc : Nat) : Int) := (bits_u32 _ _ (Nat.xor_lt_two_pow (Nat.and_lt_two_pow va hb') (Nat.and_lt_two_pow va hc)) (Nat.and_lt_two_pow vb hc)).2.2
        go_wp2_with (go_at_call 36; refine (big32 va 2 13 22 _ ha (by decide) (by decide) (by decide)).mono ?_)
        rintro e2 w2 ⟨rfl, hb2⟩
        have hbw : Below (w.heap.size + 4) wr w2 := hbc.trans (hb2.mono (Nat.le_trans hsz hzc))
        go_wp2
        go_roundw
        case rel =>
          refine ⟨t + 1, (⟨va, vb, vc, vd, ve, vf, vg, vh⟩ : St).step m256 (top 32 r) wt, by omega, by go_num, St.Ok.step (M := m256) ⟨ha, hb', hc, hd, he, hf, hg, hh⟩ _ _, hnext, ?_, rfl, rfl, rfl, ?_, rfl, rfl, rfl, hb.trans (hbw.mono (by omega)), Nat.le_trans hsz hbw.size, (hbw.block _ (by omega)).trans hst, (hbw.block _ (by omega)).trans hwz, (hbw.block _ (by omega)).trans hm, (hbw.block _ (by omega)).trans hres⟩
          · show Value.int .u32 _ = Value.int .u32 ((((xOf m256 (top 32 r) wt ⟨va, vb, vc, vd, ve, vf, vg, vh⟩ + (big 32 (2, 13, 22) va + maj va vb vc) % 4294967296) % 4294967296 : Nat)) : Int)
            refine congrArg (Value.int .u32) ?_
            go_light
            (try simp only [wraps_32])
            omega
          · show Value.int .u32 _ = Value.int .u32 ((((vd + xOf m256 (top 32 r) wt ⟨va, vb, vc, vd, ve, vf, vg, vh⟩) % 4294967296 : Nat)) : Int)
            refine congrArg (Value.int .u32) ?_
            go_light
            (try simp only [wraps_32])
            omega
        case measure => (go_light; simp [intOf] <;> omega)
    · have hte : t = 64 := by omega
      subst hte
      have hvo := hv
      go_wp2
      go_loopw [108] (fun i wr => ∃ k : Nat, k ≤ 8 ∧ i = .int .i64 (k : Int) ∧ Below w.heap.size w wr ∧ w.heap.size + 4 ≤ wr.heap.size ∧ wr.heap[w.heap.size]? = some (.cells (cellsN .u32 (addN 32 s.list v.list k)) 48) ∧ wr.heap[w.heap.size + 1 + 1 + 1]? = some (.cells (cellsN .u32 (List.replicate 8 0)) 48)) (fun i _ => 8 - (intOf i).toNat)
      case atStart => exact ⟨0, by omega, rfl, hb, hsz, hst, hres⟩
      case round =>
        clear hb hsz hst hwz hm hres
        obtain ⟨k, hk, rfl, hb, hsz, hst, hres⟩ := hrel
        by_cases hlt8 : k < 8
        · have cc := cell_of_row wr w.heap.size k _ _ _ hst
          rw [cellsN_at _ _ _ (by rw [addN_length]; exact hlt8), addN_at _ _ _ _ _ (Nat.le_refl k)] at cc
          have fz := frozen_of_row hst k
          have hix := cellsN_at .u32 v.list k hlt8
          have hnew : Hid (addN 32 s.list v.list (k + 1) = (addN 32 s.list v.list k).set k ((s.list.getD k 0 + v.list.getD k 0) % 4294967296)) := by
            show _ = _
            rw [addN, addN_at _ _ _ _ _ (Nat.le_refl k)]
          generalize s.list.getD k 0 = sk at cc hnew
          generalize v.list.getD k 0 = vk at hix hnew
          have HIX := hide hix
          clear hix
          have ik : (k : Int) < 8 := by omega
          go_wp2_with (refine wpList_index_row (by rfl) _ _ _ (by rfl) _ (by rfl) k (by rfl) _ _ Tryd.underlying48 hlt8 Tryd.sizeOf34 Tryd.isAgg34 _ (unhide HIX) ?_)
          go_roundw
          case rel =>
            refine ⟨k + 1, by omega, by go_num, hb.setCell (Nat.le_refl _) _, by simpa using hsz, ?_, (heap_setCell_other _ _ _ _ (by simp; omega)).trans hres⟩
            refine (heap_setCell_same _ _ _ _ _ _ hst).trans ?_
            have e1 : IntKind.u32.wrap ((sk : Int) + (vk : Int)) = (((sk + vk) % 4294967296 : Nat) : Int) := by
              rw [wraps_32]; omega
            rw [unhide hnew, ← cellsN_set, ← e1]
            first | done | rfl | (simp only [wraps_32]; rfl)
          case measure => (go_light; simp [intOf] <;> omega)
        · have hk8 : k = 8 := by omega
          subst hk8
          go_upto_region 16 with fail
          refine wp_region_lit ?_
          refine wpList_load_row rfl _ _ rfl w.heap.size (by rfl) _ _ (0, 0) _ hst Tryd.underlying48 rfl (by rw [zero8_32.2, cellsN_size, addN_length]; rfl) ?_
          refine wpList_store_row rfl _ _ _ rfl (w.heap.size + 1 + 1 + 1) _ (by rfl) (by rfl) _ _ hres (by rw [zero8_32.2, cellsN_size, addN_length]; rfl) (by rw [cellsN_size, cellsN_size, addN_length]; rfl) (cellsN_one _ _) ?_
          refine wpList_nil ?_
          go_wp2
          refine bodyPost_ret (v := .agg (cellsN .u32 (addN 32 s.list v.list 8))) (results_cell_row (p := 6) (ty := 48) (by kernel_rfl) _ _ (w.heap.size + 1 + 1 + 1) 48 _ (0, 0) _ (by rfl) (heap_setRow_same hres) Tryd.underlying48 rfl (by rw [zero8_32.2, cellsN_size, addN_length]; rfl)) rfl ⟨?_, below_setRow hb (by omega) _⟩
          rw [addN_eight]
          have e9 := unhide hvr
          rw [e9]
          rfl
theorem zero8_64 : (∀ w, (zeroValue 50).run Tryd.prog w = .ok (.agg (cellsN .u64 (List.replicate 8 0))) w) ∧ (Tryd.prog.info? 50).map (·.size) = some 8 := zero_of_info (by kernel_rfl)

set_option maxRecDepth 20000 in
set_option maxHeartbeats 4000000 in
theorem mixed64 (s : St) (ws : List Nat) (w : World) (hL : Laid w) (hs : s.Ok 64) (hl : ws.length = 80) (hw : Small 64 ws) :
    Calls Tryd.prog 34 #[.agg #[.int .u64 s.a, .int .u64 s.b, .int .u64 s.c, .int .u64 s.d, .int .u64 s.e, .int .u64 s.f, .int .u64 s.g, .int .u64 s.h], .agg (cellsN .u64 ws), .agg #[.int .i64 64, .int .i64 80, .int .i64 28, .int .i64 34, .int .i64 39, .int .i64 14, .int .i64 18, .int .i64 41, .int .i64 1, .int .i64 8, .int .i64 7, .int .i64 19, .int .i64 61, .int .i64 6]] w fun e w' => e = .returned (.agg (cellsN .u64 (mix m512 s ws).list)) ∧ Below w.heap.size w w' := by
  have hz := zero8_64.1
  go_enter Tryd.func34, Tryd.ntmps34
  go_wp2
  go_quiet (fail)
  go_wp2
  go_quiet (fail)
  go_wp2
  go_loopw [7, 8, 9, 10, 11, 12, 13, 14, 38] (fun a b c d e f g h i wr => ∃ (t : Nat) (v : St), t ≤ 80 ∧ i = .int .i64 (t : Int) ∧ v.Ok 64 ∧ Hid (v = rounds m512 ws s t) ∧ a = .int .u64 v.a ∧ b = .int .u64 v.b ∧ c = .int .u64 v.c ∧ d = .int .u64 v.d ∧ e = .int .u64 v.e ∧ f = .int .u64 v.f ∧ g = .int .u64 v.g ∧ h = .int .u64 v.h ∧
      Below w.heap.size w wr ∧ w.heap.size + 4 ≤ wr.heap.size ∧ wr.heap[w.heap.size]? = some (.cells (cellsN .u64 s.list) 50) ∧ wr.heap[w.heap.size + 1]? = some (.cells (cellsN .u64 ws) 69) ∧ wr.heap[w.heap.size + 1 + 1]? = some (.cells #[.int .i64 64, .int .i64 80, .int .i64 28, .int .i64 34, .int .i64 39, .int .i64 14, .int .i64 18, .int .i64 41, .int .i64 1, .int .i64 8, .int .i64 7, .int .i64 19, .int .i64 61, .int .i64 6] 38) ∧ wr.heap[w.heap.size + 1 + 1 + 1]? = some (.cells (cellsN .u64 (List.replicate 8 0)) 50)) (fun _ _ _ _ _ _ _ _ i _ => 80 - (intOf i).toNat)
  case atStart =>
    refine ⟨0, s, by omega, rfl, hs, rfl, rfl, rfl, rfl, rfl, rfl, rfl, rfl, rfl, ?_, ?_, ?_, ?_, ?_, ?_⟩
    · exact below_drewN (((((Below.refl _ _).alloc (Nat.le_refl _) _).alloc (by simp) _).alloc (by simp; omega) _).alloc (by simp; omega) _) _
    · simp
    · exact (heap4 _ _ _ _ _).1
    · exact (heap4 _ _ _ _ _).2.1
    · exact (heap4 _ _ _ _ _).2.2.1
    · exact (heap4 _ _ _ _ _).2.2.2
  case round =>
    obtain ⟨t, v, ht, rfl, hv, hvr, rfl, rfl, rfl, rfl, rfl, rfl, rfl, rfl, hb, hsz, hst, hwz, hm, hres⟩ := hrel
    by_cases hlt : t < 80
    · have ht80 : t < 80 := by omega
      have cg := (hL.of hb).2.2 t ht80
      have cw := cell_of_row wr (w.heap.size + 1) t _ _ _ hwz
      rw [cellsN_at _ _ _ (by omega)] at cw
      have cm0 := cell_of_row wr (w.heap.size + 1 + 1) 0 _ _ _ hm
      have cm1 := cell_of_row wr (w.heap.size + 1 + 1) 1 _ _ _ hm
      have cm2 := cell_of_row wr (w.heap.size + 1 + 1) 2 _ _ _ hm
      have cm3 := cell_of_row wr (w.heap.size + 1 + 1) 3 _ _ _ hm
      have cm4 := cell_of_row wr (w.heap.size + 1 + 1) 4 _ _ _ hm
      have cm5 := cell_of_row wr (w.heap.size + 1 + 1) 5 _ _ _ hm
      have cm6 := cell_of_row wr (w.heap.size + 1 + 1) 6 _ _ _ hm
      have cm7 := cell_of_row wr (w.heap.size + 1 + 1) 7 _ _ _ hm
      have cm8 := cell_of_row wr (w.heap.size + 1 + 1) 8 _ _ _ hm
      have cm9 := cell_of_row wr (w.heap.size + 1 + 1) 9 _ _ _ hm
      have cm10 := cell_of_row wr (w.heap.size + 1 + 1) 10 _ _ _ hm
      have cm11 := cell_of_row wr (w.heap.size + 1 + 1) 11 _ _ _ hm
      have cm12 := cell_of_row wr (w.heap.size + 1 + 1) 12 _ _ _ hm
      have cm13 := cell_of_row wr (w.heap.size + 1 + 1) 13 _ _ _ hm
      simp only [List.getElem?_toArray, List.getElem?_cons_zero, List.getElem?_cons_succ] at cm0 cm1 cm2 cm3 cm4 cm5 cm6 cm7 cm8 cm9 cm10 cm11 cm12 cm13
      have hr64 := cu_lt t
      have hwt := hw t
      have hnext : Hid (v.step m512 (top 64 (cu.getD t 0)) (ws.getD t 0) = rounds m512 ws s (t + 1)) := by
        show _ = _
        rw [unhide hvr]; rfl
      generalize cu.getD t 0 = r at cg hr64 hnext
      generalize ws.getD t 0 = wt at cw hwt hnext
      obtain ⟨va, vb, vc, vd, ve, vf, vg, vh⟩ := v
      obtain ⟨ha, hb', hc, hd, he, hf, hg, hh⟩ := hv
      dsimp only at ha hb' hc hd he hf hg hh
      have ef := (bits_u64 _ _ he hf).2.1
      have it : (t : Int) < 80 := by omega
      go_upto_region 6 with fail
      go_cut [16] (fun x wx => x = .int .u64 (xOf m512 (top 64 r) wt ⟨va, vb, vc, vd, ve, vf, vg, vh⟩ : Nat) ∧ Below (w.heap.size + 4) wr wx)
      case first =>
        have hsg : IntKind.u64.signed = false := rfl
        have ng : bits .xor .u64 IntKind.u64.max (ve : Int) = ((2 ^ 64 - 1 - ve : Nat) : Int) := not_64 ve he
        have n2 : 2 ^ 64 - 1 - ve < 18446744073709551616 := by omega
        have ng2 := (bits_u64 _ _ n2 hg).2.1
        have ch1 : bits .xor .u64 ((ve &&& vf : Nat) : Int) (((2 ^ 64 - 1 - ve) &&& vg : Nat) : Int) = ((ch 64 ve vf vg : Nat) : Int) := (bits_u64 _ _ (Nat.and_lt_two_pow _ hf) (Nat.and_lt_two_pow _ hg)).2.2
        generalize 2 ^ 64 - 1 - ve = en at ng ng2 ch1
        have R0 : ∀ w', Below (w.heap.size + 4) wr w' → w'.cell? ⟨w.heap.size + 1 + 1, 0, none⟩ = some (.int .i64 64) := fun w' q => (q.cell (by show w.heap.size + 1 + 1 < w.heap.size + 4; omega)).trans cm0
        have R1 : ∀ w', Below (w.heap.size + 4) wr w' → w'.cell? ⟨w.heap.size + 1 + 1, 1, none⟩ = some (.int .i64 80) := fun w' q => (q.cell (by show w.heap.size + 1 + 1 < w.heap.size + 4; omega)).trans cm1
        have R2 : ∀ w', Below (w.heap.size + 4) wr w' → w'.cell? ⟨w.heap.size + 1 + 1, 2, none⟩ = some (.int .i64 28) := fun w' q => (q.cell (by show w.heap.size + 1 + 1 < w.heap.size + 4; omega)).trans cm2
        have R3 : ∀ w', Below (w.heap.size + 4) wr w' → w'.cell? ⟨w.heap.size + 1 + 1, 3, none⟩ = some (.int .i64 34) := fun w' q => (q.cell (by show w.heap.size + 1 + 1 < w.heap.size + 4; omega)).trans cm3
        have R4 : ∀ w', Below (w.heap.size + 4) wr w' → w'.cell? ⟨w.heap.size + 1 + 1, 4, none⟩ = some (.int .i64 39) := fun w' q => (q.cell (by show w.heap.size + 1 + 1 < w.heap.size + 4; omega)).trans cm4
        have R5 : ∀ w', Below (w.heap.size + 4) wr w' → w'.cell? ⟨w.heap.size + 1 + 1, 5, none⟩ = some (.int .i64 14) := fun w' q => (q.cell (by show w.heap.size + 1 + 1 < w.heap.size + 4; omega)).trans cm5
        have R6 : ∀ w', Below (w.heap.size + 4) wr w' → w'.cell? ⟨w.heap.size + 1 + 1, 6, none⟩ = some (.int .i64 18) := fun w' q => (q.cell (by show w.heap.size + 1 + 1 < w.heap.size + 4; omega)).trans cm6
        have R7 : ∀ w', Below (w.heap.size + 4) wr w' → w'.cell? ⟨w.heap.size + 1 + 1, 7, none⟩ = some (.int .i64 41) := fun w' q => (q.cell (by show w.heap.size + 1 + 1 < w.heap.size + 4; omega)).trans cm7
        have R8 : ∀ w', Below (w.heap.size + 4) wr w' → w'.cell? ⟨w.heap.size + 1 + 1, 8, none⟩ = some (.int .i64 1) := fun w' q => (q.cell (by show w.heap.size + 1 + 1 < w.heap.size + 4; omega)).trans cm8
        have R9 : ∀ w', Below (w.heap.size + 4) wr w' → w'.cell? ⟨w.heap.size + 1 + 1, 9, none⟩ = some (.int .i64 8) := fun w' q => (q.cell (by show w.heap.size + 1 + 1 < w.heap.size + 4; omega)).trans cm9
        have R10 : ∀ w', Below (w.heap.size + 4) wr w' → w'.cell? ⟨w.heap.size + 1 + 1, 10, none⟩ = some (.int .i64 7) := fun w' q => (q.cell (by show w.heap.size + 1 + 1 < w.heap.size + 4; omega)).trans cm10
        have R11 : ∀ w', Below (w.heap.size + 4) wr w' → w'.cell? ⟨w.heap.size + 1 + 1, 11, none⟩ = some (.int .i64 19) := fun w' q => (q.cell (by show w.heap.size + 1 + 1 < w.heap.size + 4; omega)).trans cm11
        have R12 : ∀ w', Below (w.heap.size + 4) wr w' → w'.cell? ⟨w.heap.size + 1 + 1, 12, none⟩ = some (.int .i64 61) := fun w' q => (q.cell (by show w.heap.size + 1 + 1 < w.heap.size + 4; omega)).trans cm12
        have R13 : ∀ w', Below (w.heap.size + 4) wr w' → w'.cell? ⟨w.heap.size + 1 + 1, 13, none⟩ = some (.int .i64 6) := fun w' q => (q.cell (by show w.heap.size + 1 + 1 < w.heap.size + 4; omega)).trans cm13
        have Rg : ∀ w', Below (w.heap.size + 4) wr w' → w'.cell? ⟨1, t, none⟩ = some (.int .u64 r) := fun w' q => (q.cell (by show 1 < w.heap.size + 4; omega)).trans cg
        have Rw : ∀ w', Below (w.heap.size + 4) wr w' → w'.cell? ⟨w.heap.size + 1, t, none⟩ = some (.int .u64 wt) := fun w' q => (q.cell (by show w.heap.size + 1 < w.heap.size + 4; omega)).trans cw
        clear cm0 cm1 cm2 cm3 cm4 cm5 cm6 cm7 cm8 cm9 cm10 cm11 cm12 cm13 cg cw
        go_region_held3 (fun w' => Below (w.heap.size + 4) wr w')
          (first | exact hwr | exact (Below.refl _ wr).drew)
          (first
            | (go_at_call 38; refine (big64 ve 14 18 41 _ he (by decide) (by decide) (by decide)).mono ?_; rintro e1 w1 ⟨rfl, hb1⟩; first | (have hwr : Below (w.heap.size + 4) wr w1 := (Below.refl _ wr).drew.trans (hb1.mono hsz)) | (have hwr : Below (w.heap.size + 4) wr w1 := hwr.trans (hb1.mono (Nat.le_trans hsz hwr.size))))
            | (go_at_call 27; refine (top64 r _ hr64).mono ?_; rintro e1 w1 ⟨rfl, hb1⟩; first | (have hwr : Below (w.heap.size + 4) wr w1 := (Below.refl _ wr).drew.trans (hb1.mono hsz)) | (have hwr : Below (w.heap.size + 4) wr w1 := hwr.trans (hb1.mono (Nat.le_trans hsz hwr.size)))))
        all_goals
          go_wp2_with fail
          go_meet
          case rel =>
            refine ⟨?_, hwr⟩
            refine congrArg (Value.int .u64) ?_
            go_light
            show _ = (((vh + big 64 (14, 18, 41) ve + ch 64 ve vf vg + top 64 r + wt) % 18446744073709551616 : Nat) : Int)
            (try simp only [wraps_64])
            omega
      case rest =>
        obtain ⟨rfl, hbc⟩ := hcut
        have hzc := hbc.size
        have y0 : wc.cell? ⟨w.heap.size + 1 + 1, 0, none⟩ = some (.int .i64 64) := (hbc.cell (by show w.heap.size + 1 + 1 < w.heap.size + 4; omega)).trans cm0
        have y2 : wc.cell? ⟨w.heap.size + 1 + 1, 2, none⟩ = some (.int .i64 28) := (hbc.cell (by show w.heap.size + 1 + 1 < w.heap.size + 4; omega)).trans cm2
        have y3 : wc.cell? ⟨w.heap.size + 1 + 1, 3, none⟩ = some (.int .i64 34) := (hbc.cell (by show w.heap.size + 1 + 1 < w.heap.size + 4; omega)).trans cm3
        have y4 : wc.cell? ⟨w.heap.size + 1 + 1, 4, none⟩ = some (.int .i64 39) := (hbc.cell (by show w.heap.size + 1 + 1 < w.heap.size + 4; omega)).trans cm4
        clear cm0 cm1 cm2 cm3 cm4 cm5 cm6 cm7 cm8 cm9 cm10 cm11 cm12 cm13 cg cw ef
        have ab := (bits_u64 _ _ ha hb').2.1
        have ac := (bits_u64 _ _ ha hc).2.1
        have bc := (bits_u64 _ _ hb' hc).2.1
        have mj1 := (bits_u64 _ _ (Nat.and_lt_two_pow va hb') (Nat.and_lt_two_pow va hc)).2.2
        have mj2 : bits .xor .u64 (((va &&& vb) ^^^ (va &&& vc) : Nat) : Int) ((vb &&& vc : Nat) : Int) = ((maj va vb vc : Nat) : Int) := (bits_u64 _ _ (Nat.xor_lt_two_pow (Nat.and_lt_two_pow va hb') (Nat.and_lt_two_pow va hc)) (Nat.and_lt_two_pow vb hc)).2.2
        go_wp2_with (go_at_call 38; refine (big64 va 28 34 39 _ ha (by decide) (by decide) (by decide)).mono ?_)
        rintro e2 w2 ⟨rfl, hb2⟩
        have hbw : Below (w.heap.size + 4) wr w2 := hbc.trans (hb2.mono (Nat.le_trans hsz hzc))
        go_wp2
        go_roundw
        case rel =>
          refine ⟨t + 1, (⟨va, vb, vc, vd, ve, vf, vg, vh⟩ : St).step m512 (top 64 r) wt, by omega, by go_num, St.Ok.step (M := m512) ⟨ha, hb', hc, hd, he, hf, hg, hh⟩ _ _, hnext, ?_, rfl, rfl, rfl, ?_, rfl, rfl, rfl, hb.trans (hbw.mono (by omega)), Nat.le_trans hsz hbw.size, (hbw.block _ (by omega)).trans hst, (hbw.block _ (by omega)).trans hwz, (hbw.block _ (by omega)).trans hm, (hbw.block _ (by omega)).trans hres⟩
          · show Value.int .u64 _ = Value.int .u64 ((((xOf m512 (top 64 r) wt ⟨va, vb, vc, vd, ve, vf, vg, vh⟩ + (big 64 (28, 34, 39) va + maj va vb vc) % 18446744073709551616) % 18446744073709551616 : Nat)) : Int)
            refine congrArg (Value.int .u64) ?_
            go_light
            (try simp only [wraps_64])
            omega
          · show Value.int .u64 _ = Value.int .u64 ((((vd + xOf m512 (top 64 r) wt ⟨va, vb, vc, vd, ve, vf, vg, vh⟩) % 18446744073709551616 : Nat)) : Int)
            refine congrArg (Value.int .u64) ?_
            go_light
            (try simp only [wraps_64])
            omega
        case measure => (go_light; simp [intOf] <;> omega)
    · have hte : t = 80 := by omega
      subst hte
      have hvo := hv
      go_wp2
      go_loopw [108] (fun i wr => ∃ k : Nat, k ≤ 8 ∧ i = .int .i64 (k : Int) ∧ Below w.heap.size w wr ∧ w.heap.size + 4 ≤ wr.heap.size ∧ wr.heap[w.heap.size]? = some (.cells (cellsN .u64 (addN 64 s.list v.list k)) 50) ∧ wr.heap[w.heap.size + 1 + 1 + 1]? = some (.cells (cellsN .u64 (List.replicate 8 0)) 50)) (fun i _ => 8 - (intOf i).toNat)
      case atStart => exact ⟨0, by omega, rfl, hb, hsz, hst, hres⟩
      case round =>
        clear hb hsz hst hwz hm hres
        obtain ⟨k, hk, rfl, hb, hsz, hst, hres⟩ := hrel
        by_cases hlt8 : k < 8
        · have cc := cell_of_row wr w.heap.size k _ _ _ hst
          rw [cellsN_at _ _ _ (by rw [addN_length]; exact hlt8), addN_at _ _ _ _ _ (Nat.le_refl k)] at cc
          have fz := frozen_of_row hst k
          have hix := cellsN_at .u64 v.list k hlt8
          have hnew : Hid (addN 64 s.list v.list (k + 1) = (addN 64 s.list v.list k).set k ((s.list.getD k 0 + v.list.getD k 0) % 18446744073709551616)) := by
            show _ = _
            rw [addN, addN_at _ _ _ _ _ (Nat.le_refl k)]
          generalize s.list.getD k 0 = sk at cc hnew
          generalize v.list.getD k 0 = vk at hix hnew
          have HIX := hide hix
          clear hix
          have ik : (k : Int) < 8 := by omega
          go_wp2_with (refine wpList_index_row (by rfl) _ _ _ (by rfl) _ (by rfl) k (by rfl) _ _ Tryd.underlying50 hlt8 Tryd.sizeOf40 Tryd.isAgg40 _ (unhide HIX) ?_)
          go_roundw
          case rel =>
            refine ⟨k + 1, by omega, by go_num, hb.setCell (Nat.le_refl _) _, by simpa using hsz, ?_, (heap_setCell_other _ _ _ _ (by simp; omega)).trans hres⟩
            refine (heap_setCell_same _ _ _ _ _ _ hst).trans ?_
            have e1 : IntKind.u64.wrap ((sk : Int) + (vk : Int)) = (((sk + vk) % 18446744073709551616 : Nat) : Int) := by
              rw [wraps_64]; omega
            rw [unhide hnew, ← cellsN_set, ← e1]
            first | done | rfl | (simp only [wraps_64]; rfl)
          case measure => (go_light; simp [intOf] <;> omega)
        · have hk8 : k = 8 := by omega
          subst hk8
          go_upto_region 16 with fail
          refine wp_region_lit ?_
          refine wpList_load_row rfl _ _ rfl w.heap.size (by rfl) _ _ (0, 0) _ hst Tryd.underlying50 rfl (by rw [zero8_64.2, cellsN_size, addN_length]; rfl) ?_
          refine wpList_store_row rfl _ _ _ rfl (w.heap.size + 1 + 1 + 1) _ (by rfl) (by rfl) _ _ hres (by rw [zero8_64.2, cellsN_size, addN_length]; rfl) (by rw [cellsN_size, cellsN_size, addN_length]; rfl) (cellsN_one _ _) ?_
          refine wpList_nil ?_
          go_wp2
          refine bodyPost_ret (v := .agg (cellsN .u64 (addN 64 s.list v.list 8))) (results_cell_row (p := 6) (ty := 50) (by kernel_rfl) _ _ (w.heap.size + 1 + 1 + 1) 50 _ (0, 0) _ (by rfl) (heap_setRow_same hres) Tryd.underlying50 rfl (by rw [zero8_64.2, cellsN_size, addN_length]; rfl)) rfl ⟨?_, below_setRow hb (by omega) _⟩
          rw [addN_eight]
          have e9 := unhide hvr
          rw [e9]
          rfl
end Go.Proofs.YtgaddifabjoliaaDoor
