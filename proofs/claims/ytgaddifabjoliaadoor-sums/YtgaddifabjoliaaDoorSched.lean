import Derived.Test.YtgaddifabjoliaaDoorTurn
import Derived.Deep.RegionHeld3
import Derived.Deep.WholeRow
import Derived.Laws.CopyOwn
import Derived.Deep.DeepCutAuto
namespace Go.Proofs.YtgaddifabjoliaaDoor
open Go.RowKit

def cellsN (k : IntKind) (c : List Nat) : Array Value := (c.map fun x : Nat => Value.int k (x : Int)).toArray

theorem cellsN_at (k : IntKind) (c : List Nat) (j : Nat) (h : j < c.length) : (cellsN k c)[j]? = some (.int k (c.getD j 0 : Nat)) := by
  unfold cellsN
  rw [List.getElem?_toArray, List.getElem?_map, List.getElem?_eq_getElem h, List.getD_eq_getElem?_getD, List.getElem?_eq_getElem h]; rfl
theorem cellsN_set (k : IntKind) (c : List Nat) (j x : Nat) : (cellsN k c).setIfInBounds j (.int k (x : Int)) = cellsN k (c.set j x) := by
  unfold cellsN
  rw [List.setIfInBounds_toArray, List.map_set]
theorem cellsN_size (k : IntKind) (c : List Nat) : (cellsN k c).size = c.length := by simp [cellsN]

theorem cellsN_one (k : IntKind) (c : List Nat) : (cellsN k c).all (·.oneCell') = true := by
  unfold cellsN
  simp []
  intro a _; rfl

theorem fill_length (W size : Nat) (l : List UInt8) : ∀ i, (fill W size l i).length = 80
  | 0 => by simp [fill]
  | i + 1 => by simp [fill, fillStep, fill_length W size l i]
theorem ext_length (M : Meas) (c : List Nat) (h : c.length = 80) : ∀ n, (ext M c n).length = 80
  | 0 => h
  | n + 1 => by simp [ext, ext_length M c h n]

def Small (W : Nat) (c : List Nat) : Prop := ∀ j, c.getD j 0 < 2 ^ W
theorem Small.set {W : Nat} {c : List Nat} (h : Small W c) (i x : Nat) (hx : x < 2 ^ W) : Small W (c.set i x) := by
  intro j
  rw [List.getD_eq_getElem?_getD, List.getElem?_set]
  split
  · split
    · exact hx
    · exact Nat.two_pow_pos W
  · have := h j; rwa [List.getD_eq_getElem?_getD] at this
theorem small_replicate (W n : Nat) : Small W (List.replicate n 0) := by
  intro j
  rw [List.getD_eq_getElem?_getD, List.getElem?_replicate]
  split <;> exact Nat.two_pow_pos W
theorem fill_small (W size : Nat) (hW : 8 ≤ W) (l : List UInt8) : ∀ i, Small W (fill W size l i)
  | 0 => small_replicate W 80
  | i + 1 => by
    refine (fill_small W size hW l i).set _ _ ?_
    have h1 : (l.getD i 0).toNat < 2 ^ W := Nat.lt_of_lt_of_le (UInt8.toNat_lt _) (Nat.pow_le_pow_right (by decide) hW)
    exact Nat.or_lt_two_pow (Nat.mod_lt _ (Nat.two_pow_pos W)) h1
theorem ext_small (M : Meas) (c : List Nat) (h : Small M.W c) : ∀ n, Small M.W (ext M c n)
  | 0 => h
  | n + 1 => (ext_small M c h n).set _ _ (Nat.mod_lt _ (Nat.two_pow_pos _))

theorem getD_byte (s : ByteArray) (k : Nat) (h : k < s.size) : s.data.toList.getD k 0 = s[k] := by
  rw [List.getD_eq_getElem?_getD, List.getElem?_eq_getElem (by simpa using h)]; rfl

theorem wraps_32 (n : Int) : IntKind.u32.wrap n = n % 4294967296 := IntKind.wrap_u32 n
theorem wraps_64 (n : Int) : IntKind.u64.wrap n = n % 18446744073709551616 := wrap_u64 n

theorem heap_setRow_same {w : World} {g : Nat} {cs cs' : Array Value} {t : TypeId} {fr : Nat × Nat} (h : w.heap[g]? = some (.cells cs t fr)) : (w.setRow g cs').heap[g]? = some (.cells cs' t fr) := by
  simp only [World.setRow]
  rw [Array.getElem?_modify, if_pos rfl, h]
  rfl

theorem heap3 (w : World) (A B C : Obj) : (((w.alloc A).alloc B).alloc C).heap[w.heap.size]? = some A ∧ (((w.alloc A).alloc B).alloc C).heap[w.heap.size + 1]? = some B ∧ (((w.alloc A).alloc B).alloc C).heap[w.heap.size + 1 + 1]? = some C := by
  refine ⟨?_, ?_, ?_⟩
  · show (((w.heap.push A).push B).push C)[w.heap.size]? = some A
    simp [Array.getElem?_push]; omega
  · show (((w.heap.push A).push B).push C)[w.heap.size + 1]? = some B
    rw [Array.getElem?_push, if_neg (by simp), Array.getElem?_push, if_pos (by simp)]
  · show (((w.heap.push A).push B).push C)[w.heap.size + 1 + 1]? = some C
    rw [Array.getElem?_push, if_pos (by simp)]

theorem frozen_of_row {w : World} {g : Nat} {cs : Array Value} {t : TypeId} (hg : w.heap[g]? = some (.cells cs t (0, 0))) (j : Nat) : w.frozen? ⟨g, j, none⟩ = false := by
  simp [World.frozen?, hg]

theorem or_byte_32 (v : Nat) (b : UInt8) : bits .or .u32 ((v : Int) * 256 % 4294967296) ((b.toNat : Int) % 4294967296) = ((v * 256 % 2 ^ 32 ||| b.toNat : Nat) : Int) := by
  have hb := UInt8.toNat_lt b
  have h1 : ((v : Int) * 256 % 4294967296) = ((v * 256 % 4294967296 : Nat) : Int) := by simp
  have h2 : ((b.toNat : Int) % 4294967296) = (b.toNat : Int) := by omega
  rw [h1, h2, (bits_u32 _ _ (Nat.mod_lt _ (by decide)) (by omega)).1]
theorem or_byte_64 (v : Nat) (b : UInt8) : bits .or .u64 (IntKind.u64.wrap ((v : Int) * 256)) (IntKind.u64.wrap (b.toNat : Int)) = ((v * 256 % 2 ^ 64 ||| b.toNat : Nat) : Int) := by
  have hb := UInt8.toNat_lt b
  have h1 : IntKind.u64.wrap ((v : Int) * 256) = ((v * 256 % 18446744073709551616 : Nat) : Int) := by rw [wrap_u64]; simp
  have h2 : IntKind.u64.wrap (b.toNat : Int) = (b.toNat : Int) := by rw [wrap_u64]; omega
  rw [h1, h2, (bits_u64 _ _ (Nat.mod_lt _ (by decide)) (by omega)).1]

/-- What a cell holds, whatever it is. -/
def inCell (a : Addr) (w : World) : Value := (w.cell? a).getD undef
theorem inCell_of {w : World} {a : Addr} {v : Value} (h : w.cell? a = some v) : w.cell? a = some (inCell a w) := by
  unfold inCell; rw [h]; rfl
theorem le_below {n B : Nat} {w w' : World} (h : Below B w w') (hn : n ≤ w.heap.size) : n ≤ w'.heap.size := Nat.le_trans hn h.size
theorem cell_far (w : World) (g o g' o' : Nat) (v : Value) (h : g ≠ g' ∨ o ≠ o') : (w.setCell ⟨g, o, none⟩ v).cell? ⟨g', o', none⟩ = w.cell? ⟨g', o', none⟩ :=
  World.cell?_setCell_other (w := w) (a := ⟨g, o, none⟩) (b := ⟨g', o', none⟩) (v := v) (fun e => by injection e with e1 e2; rcases h with h | h <;> contradiction)
theorem cell_near (w : World) (a : Addr) (v u : Value) (h : w.cell? a = some u) : (w.setCell a v).cell? a = some v := World.cell?_setCell_same (w := w) (a := a) (v := v) h
theorem frozen_set (w : World) (a b : Addr) (v : Value) : (w.setCell a v).frozen? b = w.frozen? b := by simp
theorem hide {p : Prop} (h : p) : Hid p := h
theorem unhide {p : Prop} (h : Hid p) : p := h

theorem zeroa_32 : (∀ w, (zeroValue 65).run Tryd.prog w = .ok (.agg (cellsN .u32 (List.replicate 80 0))) w) ∧ (Tryd.prog.info? 65).map (·.size) = some 80 := zero_of_info (by kernel_rfl)

set_option maxRecDepth 20000 in
set_option maxHeartbeats 1600000 in
theorem sched32 (s : ByteArray) (w : World) (hs : s.size = 64) :
    Calls Tryd.prog 32 #[.string s, .agg #[.int .i64 32, .int .i64 64, .int .i64 2, .int .i64 13, .int .i64 22, .int .i64 6, .int .i64 11, .int .i64 25, .int .i64 7, .int .i64 18, .int .i64 3, .int .i64 17, .int .i64 19, .int .i64 10]] w fun e w' => e = .returned (.agg (cellsN .u32 (sched m256 s.data.toList))) ∧ Below w.heap.size w w' := by
  have hz := zeroa_32.1
  go_enter Tryd.func32, Tryd.ntmps32
  go_wp2
  go_loopw [14] (fun i wr => ∃ k : Nat, k ≤ 64 ∧ i = .int .i64 k ∧ Below w.heap.size w wr ∧ w.heap.size + 3 ≤ wr.heap.size ∧ wr.heap[w.heap.size]? = some (.cells #[.int .i64 32, .int .i64 64, .int .i64 2, .int .i64 13, .int .i64 22, .int .i64 6, .int .i64 11, .int .i64 25, .int .i64 7, .int .i64 18, .int .i64 3, .int .i64 17, .int .i64 19, .int .i64 10] 38) ∧
     wr.heap[w.heap.size + 1]? = some (.cells (cellsN .u32 (List.replicate 80 0)) 65) ∧ wr.heap[w.heap.size + 1 + 1]? = some (.cells (cellsN .u32 (fill 32 4 s.data.toList k)) 65)) (fun i _ => 64 - (intOf i).toNat)
  case atStart =>
    refine ⟨0, by omega, rfl, ?_, ?_, ?_, ?_, ?_⟩
    · exact (((Below.refl _ _).alloc (Nat.le_refl _) _).alloc (by simp) _).alloc (by simp; omega) _
    · simp
    · exact (heap3 _ _ _ _).1
    · exact (heap3 _ _ _ _).2.1
    · exact (heap3 _ _ _ _).2.2
  case round =>
    obtain ⟨k, hk, rfl, hb, hsz, hm, hr, hc⟩ := hrel
    have cm0 := cell_of_row wr w.heap.size 0 _ _ _ hm
    by_cases hlt : k < 64
    · have hkz : k / 4 < 80 := by omega
      have hl := fill_length 32 4 s.data.toList k
      have hsm := fill_small 32 4 (by decide) s.data.toList k (k / 4)
      have cc := cell_of_row wr (w.heap.size + 1 + 1) (k / 4) _ _ _ hc
      rw [cellsN_at _ _ _ (by omega)] at cc
      generalize hv : (fill 32 4 s.data.toList k).getD (k / 4) 0 = v at cc hsm
      have fz := frozen_of_row hc (k / 4)
      have hor := hide (or_byte_32 v s[k])
      clear hsm
      go_wp2
      replace hor := unhide hor
      go_region
      go_wp2
      go_roundw
      case rel =>
        refine ⟨k + 1, by omega, by go_num, ?_, ?_, ?_, ?_, ?_⟩
        · exact (hb.setCell (by simp; omega) _).drew
        · simpa using hsz
        · exact (heap_setCell_other _ _ _ _ (by simp; omega)).trans hm
        · exact (heap_setCell_other _ _ _ _ (by simp)).trans hr
        · refine (heap_setCell_same _ _ _ _ _ _ hc).trans ?_
          rw [cellsN_set]
          simp only [fill, fillStep, getD_byte s k (by omega), hv]
      case measure => simp [intOf]; omega
    · have hke : k = 64 := by omega
      subst hke
      go_wp2
      go_loopw [8] (fun i wr => ∃ k : Nat, 16 ≤ k ∧ k ≤ 64 ∧ i = .int .i64 (k : Int) ∧ Below w.heap.size w wr ∧ w.heap.size + 3 ≤ wr.heap.size ∧ wr.heap[w.heap.size]? = some (.cells #[.int .i64 32, .int .i64 64, .int .i64 2, .int .i64 13, .int .i64 22, .int .i64 6, .int .i64 11, .int .i64 25, .int .i64 7, .int .i64 18, .int .i64 3, .int .i64 17, .int .i64 19, .int .i64 10] 38) ∧
         wr.heap[w.heap.size + 1]? = some (.cells (cellsN .u32 (List.replicate 80 0)) 65) ∧ wr.heap[w.heap.size + 1 + 1]? = some (.cells (cellsN .u32 (ext m256 (fill 32 4 s.data.toList 64) (k - 16))) 65)) (fun i _ => 64 - (intOf i).toNat)
      case atStart => exact ⟨16, by omega, by omega, by go_num, hb, hsz, hm, hr, hc⟩
      case round =>
        clear hb hsz hm hr hc cm0
        obtain ⟨k, hk16, hk, rfl, hb, hsz, hm, hr, hc⟩ := hrel
        have cm0 := cell_of_row wr w.heap.size 0 _ _ _ hm
        have cm1 := cell_of_row wr w.heap.size 1 _ _ _ hm
        have hl := ext_length m256 _ (fill_length 32 4 s.data.toList 64) (k - 16)
        have hsm := ext_small m256 _ (fill_small 32 4 (by decide) s.data.toList 64) (k - 16)
        by_cases hlt : k < 64
        · have hnew : Hid (ext m256 (fill 32 4 s.data.toList 64) (k + 1 - 16) = (ext m256 (fill 32 4 s.data.toList 64) (k - 16)).set k (ext1 m256 (ext m256 (fill 32 4 s.data.toList 64) (k - 16)) k)) := by
            have e1 : k + 1 - 16 = (k - 16) + 1 := by omega
            have e2 : 16 + (k - 16) = k := by omega
            show _ = _
            rw [e1]; simp only [ext, e2]
          generalize hgc : ext m256 (fill 32 4 s.data.toList 64) (k - 16) = c at hl hsm hnew hc
          have HC := hide hgc
          clear hgc
          obtain ⟨k2, hk2⟩ : ∃ k2, k2 = k - 2 := ⟨_, rfl⟩
          obtain ⟨k7, hk7⟩ : ∃ k7, k7 = k - 7 := ⟨_, rfl⟩
          obtain ⟨k15, hk15⟩ : ∃ k15, k15 = k - 15 := ⟨_, rfl⟩
          obtain ⟨k16, hk16e⟩ : ∃ k16, k16 = k - 16 := ⟨_, rfl⟩
          have cc2 := cell_of_row wr (w.heap.size + 1 + 1) k2 _ _ _ hc
          have cc7 := cell_of_row wr (w.heap.size + 1 + 1) k7 _ _ _ hc
          have cc15 := cell_of_row wr (w.heap.size + 1 + 1) k15 _ _ _ hc
          have cc16 := cell_of_row wr (w.heap.size + 1 + 1) k16 _ _ _ hc
          have cck := cell_of_row wr (w.heap.size + 1 + 1) k _ _ _ hc
          rw [cellsN_at _ _ _ (by omega)] at cc2 cc7 cc15 cc16 cck
          have s2 := hsm k2
          have s7 := hsm k7
          have s15 := hsm k15
          have s16 := hsm k16
          have fz := frozen_of_row hc k
          have hx : Hid (ext1 m256 c k = (low 32 (17, 19, 10) (c.getD k2 0) + c.getD k7 0 + low 32 (7, 18, 3) (c.getD k15 0) + c.getD k16 0) % 4294967296) := by rw [hk2, hk7, hk15, hk16e]; exact rfl
          have l1 := low_lt 32 (c.getD k2 0) (17, 19, 10) s2
          have l0 := low_lt 32 (c.getD k15 0) (7, 18, 3) s15
          generalize c.getD k2 0 = v2 at cc2 s2 hx l1
          generalize c.getD k7 0 = v7 at cc7 s7 hx
          generalize c.getD k15 0 = v15 at cc15 s15 hx l0
          generalize c.getD k16 0 = v16 at cc16 s16 hx
          generalize c.getD k 0 = vk at cck
          have HK2 := hide hk2
          have HK7 := hide hk7
          have HK15 := hide hk15
          have HK16 := hide hk16e
          have cl8 := cell_of_row wr w.heap.size 8 _ _ _ hm
          have cl9 := cell_of_row wr w.heap.size 9 _ _ _ hm
          have cl10 := cell_of_row wr w.heap.size 10 _ _ _ hm
          have cl11 := cell_of_row wr w.heap.size 11 _ _ _ hm
          have cl12 := cell_of_row wr w.heap.size 12 _ _ _ hm
          have cl13 := cell_of_row wr w.heap.size 13 _ _ _ hm
          simp only [List.getElem?_toArray, List.getElem?_cons_zero, List.getElem?_cons_succ] at cm0 cm1 cl8 cl9 cl10 cl11 cl12 cl13
          have m2 : k2 < 80 := by omega
          have j2 : (k2 : Int) < 80 := by omega
          have n2 : (k : Int) - 2 = (k2 : Int) := by omega
          have m7 : k7 < 80 := by omega
          have j7 : (k7 : Int) < 80 := by omega
          have n7 : (k : Int) - 7 = (k7 : Int) := by omega
          have m15 : k15 < 80 := by omega
          have j15 : (k15 : Int) < 80 := by omega
          have n15 : (k : Int) - 15 = (k15 : Int) := by omega
          have m16 : k16 < 80 := by omega
          have j16 : (k16 : Int) < 80 := by omega
          have n16 : (k : Int) - 16 = (k16 : Int) := by omega
          have w2 : IntKind.i64.wrap (k2 : Int) = (k2 : Int) := by rw [IntKind.wrap_i64]; omega
          have w7 : IntKind.i64.wrap (k7 : Int) = (k7 : Int) := by rw [IntKind.wrap_i64]; omega
          have w15 : IntKind.i64.wrap (k15 : Int) = (k15 : Int) := by rw [IntKind.wrap_i64]; omega
          have w16 : IntKind.i64.wrap (k16 : Int) = (k16 : Int) := by rw [IntKind.wrap_i64]; omega
          have ik : (0 : Int) ≤ (k : Int) := by omega
          have jk : (k : Int) < 80 := by omega
          clear hk2 hk7 hk15 hk16e
          go_wp2
          go_region_held3 (fun w' => w.heap.size + 3 ≤ w'.heap.size ∧ w'.cell? ⟨w.heap.size, 0, none⟩ = some (.int .i64 32) ∧ w'.cell? ⟨w.heap.size, 8, none⟩ = some (.int .i64 7) ∧ w'.cell? ⟨w.heap.size, 9, none⟩ = some (.int .i64 18) ∧ w'.cell? ⟨w.heap.size, 10, none⟩ = some (.int .i64 3) ∧ w'.cell? ⟨w.heap.size, 11, none⟩ = some (.int .i64 17) ∧ w'.cell? ⟨w.heap.size, 12, none⟩ = some (.int .i64 19) ∧ w'.cell? ⟨w.heap.size, 13, none⟩ = some (.int .i64 10) ∧ w'.cell? ⟨w.heap.size + 1 + 1, k2, none⟩ = some (.int .u32 v2) ∧ w'.cell? ⟨w.heap.size + 1 + 1, k7, none⟩ = some (.int .u32 v7) ∧ w'.cell? ⟨w.heap.size + 1 + 1, k15, none⟩ = some (.int .u32 v15) ∧ w'.cell? ⟨w.heap.size + 1 + 1, k16, none⟩ = some (.int .u32 v16) ∧ w'.cell? ⟨w.heap.size + 1 + 1, k, none⟩ = some (inCell ⟨w.heap.size + 1 + 1, k, none⟩ w') ∧ w'.frozen? ⟨w.heap.size + 1 + 1, k, none⟩ = false)
            ((go_split_ands; (repeat' constructor) <;> first
              | assumption
              | exact inCell_of cck
              | exact le_below hb1 (by assumption)
              | exact (hb1.cell (by simp; omega)).trans (by assumption)
              | exact inCell_of ((hb1.cell (by simp; omega)).trans (by assumption))
              | exact (hb1.frozen (by simp; omega)).trans (by assumption)
              | (simpa using ‹_›)
              | exact (cell_far _ _ _ _ _ _ (by have := unhide HK2; have := unhide HK7; have := unhide HK15; have := unhide HK16; omega)).trans (by assumption)
              | exact inCell_of (cell_near _ _ _ _ (by assumption))
              | (rw [frozen_set]; assumption)))
            (first | (go_at_call 37; refine (low32 _ _ _ _ _ (by assumption) (by decide) (by decide) (by decide)).mono ?_; rintro e w1 ⟨rfl, hb1⟩; first | (have hwr : Below (w.heap.size + 3) wr w1 := (Below.refl _ wr).drew.trans (hb1.mono hsz)) | (have hwr : Below (w.heap.size + 3) wr w1 := hwr.trans (hb1.mono (Nat.le_trans hsz hwr.size)))))
          go_wp2
          refine ⟨⟨_, _, _, _, _, _, _, _, _, _, _, _, _, _, _, _, _, _, _, _, _, _, _, _, _, _, _, _, _, _, _, _, _, _, _, _, _, _, ?rel, rfl⟩, ?measure⟩
          case rel =>
            refine ⟨k + 1, by omega, by omega, by go_num, ?_, ?_, ?_, ?_, ?_⟩
            · exact (hb.trans (hwr.mono (by omega))).setCell (by simp; omega) _
            · have := hwr.size
              simp; omega
            · exact (heap_setCell_other _ _ _ _ (by simp; omega)).trans ((hwr.block _ (by omega)).trans hm)
            · exact (heap_setCell_other _ _ _ _ (by simp)).trans ((hwr.block _ (by omega)).trans hr)
            · refine (heap_setCell_same _ _ _ _ _ _ ((hwr.block _ (by omega)).trans hc)).trans ?_
              have e1 : IntKind.u32.wrap (IntKind.u32.wrap (IntKind.u32.wrap ((low 32 (17, 19, 10) v2 : Int) + v7) + (low 32 (7, 18, 3) v15 : Int)) + v16) = ((ext1 m256 c k : Nat) : Int) := by
                rw [unhide hx]; simp only [wraps_32]; omega
              rw [unhide hnew, ← cellsN_set, ← e1]
              first | done | rfl | (simp only [wraps_32]; first | rfl | (congr 5; omega) | (congr 4; omega))
          case measure => simp [intOf]; omega
        · have hke : k = 64 := by omega
          subst hke
          go_upto_region 12 with fail
          refine wp_region_lit ?_
          refine wpList_load_row rfl _ _ rfl (w.heap.size + 1 + 1) (by rfl) _ _ (0, 0) _ hc Tryd.underlying65 rfl (by rw [zeroa_32.2, cellsN_size, hl]) ?_
          refine wpList_store_row rfl _ _ _ rfl (w.heap.size + 1) _ (by rfl) (by rfl) _ _ hr (by rw [zeroa_32.2, cellsN_size, hl]) (by rw [cellsN_size, cellsN_size, hl]; rfl) (cellsN_one _ _) ?_
          refine wpList_nil ?_
          go_wp2
          refine bodyPost_ret (v := .agg (cellsN .u32 (ext m256 (fill 32 4 s.data.toList 64) (64 - 16)))) (results_cell_row (p := 4) (ty := 65) (by kernel_rfl) _ _ (w.heap.size + 1) 65 _ (0, 0) _ (by rfl) (heap_setRow_same hr) Tryd.underlying65 rfl (by rw [zeroa_32.2, cellsN_size, hl])) rfl ⟨?_, below_setRow hb (by omega) _⟩
          have hlen : s.data.toList.length = 64 := by simpa using hs
          unfold sched
          rw [hlen]
          rfl
theorem zeroa_64 : (∀ w, (zeroValue 69).run Tryd.prog w = .ok (.agg (cellsN .u64 (List.replicate 80 0))) w) ∧ (Tryd.prog.info? 69).map (·.size) = some 80 := zero_of_info (by kernel_rfl)

set_option maxRecDepth 20000 in
set_option maxHeartbeats 1600000 in
theorem sched64 (s : ByteArray) (w : World) (hs : s.size = 128) :
    Calls Tryd.prog 35 #[.string s, .agg #[.int .i64 64, .int .i64 80, .int .i64 28, .int .i64 34, .int .i64 39, .int .i64 14, .int .i64 18, .int .i64 41, .int .i64 1, .int .i64 8, .int .i64 7, .int .i64 19, .int .i64 61, .int .i64 6]] w fun e w' => e = .returned (.agg (cellsN .u64 (sched m512 s.data.toList))) ∧ Below w.heap.size w w' := by
  have hz := zeroa_64.1
  go_enter Tryd.func35, Tryd.ntmps35
  go_wp2
  go_loopw [14] (fun i wr => ∃ k : Nat, k ≤ 128 ∧ i = .int .i64 k ∧ Below w.heap.size w wr ∧ w.heap.size + 3 ≤ wr.heap.size ∧ wr.heap[w.heap.size]? = some (.cells #[.int .i64 64, .int .i64 80, .int .i64 28, .int .i64 34, .int .i64 39, .int .i64 14, .int .i64 18, .int .i64 41, .int .i64 1, .int .i64 8, .int .i64 7, .int .i64 19, .int .i64 61, .int .i64 6] 38) ∧
     wr.heap[w.heap.size + 1]? = some (.cells (cellsN .u64 (List.replicate 80 0)) 69) ∧ wr.heap[w.heap.size + 1 + 1]? = some (.cells (cellsN .u64 (fill 64 8 s.data.toList k)) 69)) (fun i _ => 128 - (intOf i).toNat)
  case atStart =>
    refine ⟨0, by omega, rfl, ?_, ?_, ?_, ?_, ?_⟩
    · exact (((Below.refl _ _).alloc (Nat.le_refl _) _).alloc (by simp) _).alloc (by simp; omega) _
    · simp
    · exact (heap3 _ _ _ _).1
    · exact (heap3 _ _ _ _).2.1
    · exact (heap3 _ _ _ _).2.2
  case round =>
    obtain ⟨k, hk, rfl, hb, hsz, hm, hr, hc⟩ := hrel
    have cm0 := cell_of_row wr w.heap.size 0 _ _ _ hm
    by_cases hlt : k < 128
    · have hkz : k / 8 < 80 := by omega
      have hl := fill_length 64 8 s.data.toList k
      have hsm := fill_small 64 8 (by decide) s.data.toList k (k / 8)
      have cc := cell_of_row wr (w.heap.size + 1 + 1) (k / 8) _ _ _ hc
      rw [cellsN_at _ _ _ (by omega)] at cc
      generalize hv : (fill 64 8 s.data.toList k).getD (k / 8) 0 = v at cc hsm
      have fz := frozen_of_row hc (k / 8)
      have hor := hide (or_byte_64 v s[k])
      clear hsm
      go_wp2
      replace hor := unhide hor
      go_region
      go_wp2
      go_roundw
      case rel =>
        refine ⟨k + 1, by omega, by go_num, ?_, ?_, ?_, ?_, ?_⟩
        · exact (hb.setCell (by simp; omega) _).drew
        · simpa using hsz
        · exact (heap_setCell_other _ _ _ _ (by simp; omega)).trans hm
        · exact (heap_setCell_other _ _ _ _ (by simp)).trans hr
        · refine (heap_setCell_same _ _ _ _ _ _ hc).trans ?_
          rw [cellsN_set]
          simp only [fill, fillStep, getD_byte s k (by omega), hv]
      case measure => simp [intOf]; omega
    · have hke : k = 128 := by omega
      subst hke
      go_wp2
      go_loopw [8] (fun i wr => ∃ k : Nat, 16 ≤ k ∧ k ≤ 80 ∧ i = .int .i64 (k : Int) ∧ Below w.heap.size w wr ∧ w.heap.size + 3 ≤ wr.heap.size ∧ wr.heap[w.heap.size]? = some (.cells #[.int .i64 64, .int .i64 80, .int .i64 28, .int .i64 34, .int .i64 39, .int .i64 14, .int .i64 18, .int .i64 41, .int .i64 1, .int .i64 8, .int .i64 7, .int .i64 19, .int .i64 61, .int .i64 6] 38) ∧
         wr.heap[w.heap.size + 1]? = some (.cells (cellsN .u64 (List.replicate 80 0)) 69) ∧ wr.heap[w.heap.size + 1 + 1]? = some (.cells (cellsN .u64 (ext m512 (fill 64 8 s.data.toList 128) (k - 16))) 69)) (fun i _ => 80 - (intOf i).toNat)
      case atStart => exact ⟨16, by omega, by omega, by go_num, hb, hsz, hm, hr, hc⟩
      case round =>
        clear hb hsz hm hr hc cm0
        obtain ⟨k, hk16, hk, rfl, hb, hsz, hm, hr, hc⟩ := hrel
        have cm0 := cell_of_row wr w.heap.size 0 _ _ _ hm
        have cm1 := cell_of_row wr w.heap.size 1 _ _ _ hm
        have hl := ext_length m512 _ (fill_length 64 8 s.data.toList 128) (k - 16)
        have hsm := ext_small m512 _ (fill_small 64 8 (by decide) s.data.toList 128) (k - 16)
        by_cases hlt : k < 80
        · have hnew : Hid (ext m512 (fill 64 8 s.data.toList 128) (k + 1 - 16) = (ext m512 (fill 64 8 s.data.toList 128) (k - 16)).set k (ext1 m512 (ext m512 (fill 64 8 s.data.toList 128) (k - 16)) k)) := by
            have e1 : k + 1 - 16 = (k - 16) + 1 := by omega
            have e2 : 16 + (k - 16) = k := by omega
            show _ = _
            rw [e1]; simp only [ext, e2]
          generalize hgc : ext m512 (fill 64 8 s.data.toList 128) (k - 16) = c at hl hsm hnew hc
          have HC := hide hgc
          clear hgc
          obtain ⟨k2, hk2⟩ : ∃ k2, k2 = k - 2 := ⟨_, rfl⟩
          obtain ⟨k7, hk7⟩ : ∃ k7, k7 = k - 7 := ⟨_, rfl⟩
          obtain ⟨k15, hk15⟩ : ∃ k15, k15 = k - 15 := ⟨_, rfl⟩
          obtain ⟨k16, hk16e⟩ : ∃ k16, k16 = k - 16 := ⟨_, rfl⟩
          have cc2 := cell_of_row wr (w.heap.size + 1 + 1) k2 _ _ _ hc
          have cc7 := cell_of_row wr (w.heap.size + 1 + 1) k7 _ _ _ hc
          have cc15 := cell_of_row wr (w.heap.size + 1 + 1) k15 _ _ _ hc
          have cc16 := cell_of_row wr (w.heap.size + 1 + 1) k16 _ _ _ hc
          have cck := cell_of_row wr (w.heap.size + 1 + 1) k _ _ _ hc
          rw [cellsN_at _ _ _ (by omega)] at cc2 cc7 cc15 cc16 cck
          have s2 := hsm k2
          have s7 := hsm k7
          have s15 := hsm k15
          have s16 := hsm k16
          have fz := frozen_of_row hc k
          have hx : Hid (ext1 m512 c k = (low 64 (19, 61, 6) (c.getD k2 0) + c.getD k7 0 + low 64 (1, 8, 7) (c.getD k15 0) + c.getD k16 0) % 18446744073709551616) := by rw [hk2, hk7, hk15, hk16e]; exact rfl
          have l1 := low_lt 64 (c.getD k2 0) (19, 61, 6) s2
          have l0 := low_lt 64 (c.getD k15 0) (1, 8, 7) s15
          generalize c.getD k2 0 = v2 at cc2 s2 hx l1
          generalize c.getD k7 0 = v7 at cc7 s7 hx
          generalize c.getD k15 0 = v15 at cc15 s15 hx l0
          generalize c.getD k16 0 = v16 at cc16 s16 hx
          generalize c.getD k 0 = vk at cck
          have HK2 := hide hk2
          have HK7 := hide hk7
          have HK15 := hide hk15
          have HK16 := hide hk16e
          have cl8 := cell_of_row wr w.heap.size 8 _ _ _ hm
          have cl9 := cell_of_row wr w.heap.size 9 _ _ _ hm
          have cl10 := cell_of_row wr w.heap.size 10 _ _ _ hm
          have cl11 := cell_of_row wr w.heap.size 11 _ _ _ hm
          have cl12 := cell_of_row wr w.heap.size 12 _ _ _ hm
          have cl13 := cell_of_row wr w.heap.size 13 _ _ _ hm
          simp only [List.getElem?_toArray, List.getElem?_cons_zero, List.getElem?_cons_succ] at cm0 cm1 cl8 cl9 cl10 cl11 cl12 cl13
          have m2 : k2 < 80 := by omega
          have j2 : (k2 : Int) < 80 := by omega
          have n2 : (k : Int) - 2 = (k2 : Int) := by omega
          have m7 : k7 < 80 := by omega
          have j7 : (k7 : Int) < 80 := by omega
          have n7 : (k : Int) - 7 = (k7 : Int) := by omega
          have m15 : k15 < 80 := by omega
          have j15 : (k15 : Int) < 80 := by omega
          have n15 : (k : Int) - 15 = (k15 : Int) := by omega
          have m16 : k16 < 80 := by omega
          have j16 : (k16 : Int) < 80 := by omega
          have n16 : (k : Int) - 16 = (k16 : Int) := by omega
          have w2 : IntKind.i64.wrap (k2 : Int) = (k2 : Int) := by rw [IntKind.wrap_i64]; omega
          have w7 : IntKind.i64.wrap (k7 : Int) = (k7 : Int) := by rw [IntKind.wrap_i64]; omega
          have w15 : IntKind.i64.wrap (k15 : Int) = (k15 : Int) := by rw [IntKind.wrap_i64]; omega
          have w16 : IntKind.i64.wrap (k16 : Int) = (k16 : Int) := by rw [IntKind.wrap_i64]; omega
          have ik : (0 : Int) ≤ (k : Int) := by omega
          have jk : (k : Int) < 80 := by omega
          clear hk2 hk7 hk15 hk16e
          go_wp2
          go_region_held3 (fun w' => w.heap.size + 3 ≤ w'.heap.size ∧ w'.cell? ⟨w.heap.size, 0, none⟩ = some (.int .i64 64) ∧ w'.cell? ⟨w.heap.size, 8, none⟩ = some (.int .i64 1) ∧ w'.cell? ⟨w.heap.size, 9, none⟩ = some (.int .i64 8) ∧ w'.cell? ⟨w.heap.size, 10, none⟩ = some (.int .i64 7) ∧ w'.cell? ⟨w.heap.size, 11, none⟩ = some (.int .i64 19) ∧ w'.cell? ⟨w.heap.size, 12, none⟩ = some (.int .i64 61) ∧ w'.cell? ⟨w.heap.size, 13, none⟩ = some (.int .i64 6) ∧ w'.cell? ⟨w.heap.size + 1 + 1, k2, none⟩ = some (.int .u64 v2) ∧ w'.cell? ⟨w.heap.size + 1 + 1, k7, none⟩ = some (.int .u64 v7) ∧ w'.cell? ⟨w.heap.size + 1 + 1, k15, none⟩ = some (.int .u64 v15) ∧ w'.cell? ⟨w.heap.size + 1 + 1, k16, none⟩ = some (.int .u64 v16) ∧ w'.cell? ⟨w.heap.size + 1 + 1, k, none⟩ = some (inCell ⟨w.heap.size + 1 + 1, k, none⟩ w') ∧ w'.frozen? ⟨w.heap.size + 1 + 1, k, none⟩ = false)
            ((go_split_ands; (repeat' constructor) <;> first
              | assumption
              | exact inCell_of cck
              | exact le_below hb1 (by assumption)
              | exact (hb1.cell (by simp; omega)).trans (by assumption)
              | exact inCell_of ((hb1.cell (by simp; omega)).trans (by assumption))
              | exact (hb1.frozen (by simp; omega)).trans (by assumption)
              | (simpa using ‹_›)
              | exact (cell_far _ _ _ _ _ _ (by have := unhide HK2; have := unhide HK7; have := unhide HK15; have := unhide HK16; omega)).trans (by assumption)
              | exact inCell_of (cell_near _ _ _ _ (by assumption))
              | (rw [frozen_set]; assumption)))
            (first | (go_at_call 39; refine (low64 _ _ _ _ _ (by assumption) (by decide) (by decide) (by decide)).mono ?_; rintro e w1 ⟨rfl, hb1⟩; first | (have hwr : Below (w.heap.size + 3) wr w1 := (Below.refl _ wr).drew.trans (hb1.mono hsz)) | (have hwr : Below (w.heap.size + 3) wr w1 := hwr.trans (hb1.mono (Nat.le_trans hsz hwr.size)))))
          go_wp2
          refine ⟨⟨_, _, _, _, _, _, _, _, _, _, _, _, _, _, _, _, _, _, _, _, _, _, _, _, _, _, _, _, _, _, _, _, _, _, _, _, _, _, ?rel, rfl⟩, ?measure⟩
          case rel =>
            refine ⟨k + 1, by omega, by omega, by go_num, ?_, ?_, ?_, ?_, ?_⟩
            · exact (hb.trans (hwr.mono (by omega))).setCell (by simp; omega) _
            · have := hwr.size
              simp; omega
            · exact (heap_setCell_other _ _ _ _ (by simp; omega)).trans ((hwr.block _ (by omega)).trans hm)
            · exact (heap_setCell_other _ _ _ _ (by simp)).trans ((hwr.block _ (by omega)).trans hr)
            · refine (heap_setCell_same _ _ _ _ _ _ ((hwr.block _ (by omega)).trans hc)).trans ?_
              have e1 : IntKind.u64.wrap (IntKind.u64.wrap (IntKind.u64.wrap ((low 64 (19, 61, 6) v2 : Int) + v7) + (low 64 (1, 8, 7) v15 : Int)) + v16) = ((ext1 m512 c k : Nat) : Int) := by
                rw [unhide hx]; simp only [wraps_64]; omega
              rw [unhide hnew, ← cellsN_set, ← e1]
              first | done | rfl | (simp only [wraps_64]; first | rfl | (congr 5; omega) | (congr 4; omega))
          case measure => simp [intOf]; omega
        · have hke : k = 80 := by omega
          subst hke
          go_upto_region 12 with fail
          refine wp_region_lit ?_
          refine wpList_load_row rfl _ _ rfl (w.heap.size + 1 + 1) (by rfl) _ _ (0, 0) _ hc Tryd.underlying69 rfl (by rw [zeroa_64.2, cellsN_size, hl]) ?_
          refine wpList_store_row rfl _ _ _ rfl (w.heap.size + 1) _ (by rfl) (by rfl) _ _ hr (by rw [zeroa_64.2, cellsN_size, hl]) (by rw [cellsN_size, cellsN_size, hl]; rfl) (cellsN_one _ _) ?_
          refine wpList_nil ?_
          go_wp2
          refine bodyPost_ret (v := .agg (cellsN .u64 (ext m512 (fill 64 8 s.data.toList 128) (80 - 16)))) (results_cell_row (p := 4) (ty := 69) (by kernel_rfl) _ _ (w.heap.size + 1) 69 _ (0, 0) _ (by rfl) (heap_setRow_same hr) Tryd.underlying69 rfl (by rw [zeroa_64.2, cellsN_size, hl])) rfl ⟨?_, below_setRow hb (by omega) _⟩
          have hlen : s.data.toList.length = 128 := by simpa using hs
          unfold sched
          rw [hlen]
          rfl
end Go.Proofs.YtgaddifabjoliaaDoor
