import Derived.Test.YtgaddifabjoliaaDoorRDig
namespace Go.Proofs.YtgaddifabjoliaaDoor
open Go.RowKit

theorem info_u64 : (Tryd.prog.info? 40).map (fun i => (i.zero, i.size, i.bytes)) = some (some (.int .u64 0), 1, 8) := by kernel_rfl

theorem made_u64 (n : Nat) : madeCells (Value.int .u64 0).cells n = cellsN .u64 (List.replicate n 0) := by
  apply Array.ext
  · rw [size_madeCells, cellsN_size, List.length_replicate]
  · intro i h1 h2
    simp [madeCells, cellsN, Value.cells, Nat.mod_one]

theorem make_digits (L : Int) (n : Nat) (hn : n < 1000) (hL : L = (n : Int)) (w : World) : (Instr.makeSlice 60 (.int .i64 L) (.int .i64 L)).run Tryd.prog w = .ok (.slice (some ⟨w.heap.size, 0, none⟩) n n) (w.alloc (.cells (cellsN .u64 (List.replicate n 0)) 40)) := by
  obtain ⟨j0, hj, hy0, hy1, hy2⟩ := info_parts info_u64
  have h := run_make (P := Tryd.prog) w 60 40 j0 (.int .u64 0) Tryd.underlying60 hj hy0 .i64 .i64 L L (by omega) (by omega) (by rw [hy2]; omega) (by omega)
  rw [hy1, made_u64, hL] at h
  rw [hL]
  simpa using h

theorem mul_wrap (x y : Nat) (hx : x < 65536) (hy : y < 65536) : IntKind.u64.wrap ((x : Int) * (y : Int)) = ((x * y : Nat) : Int) := by
  have := mul_16 x y hx hy
  rw [wrap_u64, ← Int.natCast_mul]
  omega

set_option maxHeartbeats 1000000 in
theorem rtimes (va vb : Value) (a b : List Nat) (w : World) (ha : RowN w va a) (hb : RowN w vb b) (da : Dig a) (db : Dig b) (hla : a.length < 100) (hlb : b.length < 100) :
    Calls Tryd.prog 29 #[va, vb] w fun e w' => ∃ v, e = .returned v ∧ RowN w' v (timesF a b) ∧ Below w.heap.size w w' := by
  obtain ⟨ga, ca, rfl, gla, _⟩ := ha.form
  obtain ⟨gb, cb, rfl, glb, _⟩ := hb.form
  have hmk := make_digits ((a.length : Int) + (b.length : Int)) (a.length + b.length) (by omega) (by omega)
  go_enter Tryd.func29, Tryd.ntmps29
  go_wp2
  clear hmk
  go_loopw [6] (fun i wr => ∃ k : Nat, k ≤ a.length ∧ i = .int .i64 (k : Int) ∧ Below w.heap.size w wr ∧ wr.heap[w.heap.size]? = some (.cells (cellsN .u64 (outr a b k)) 40)) (fun i _ => a.length - (intOf i).toNat)
  case atStart =>
    refine ⟨0, by omega, by go_num, ?_, ?_⟩
    · exact (Below.refl _ _).alloc (Nat.le_refl _) _
    · exact heap_alloc_new _ _
  case round =>
    obtain ⟨k, hk, rfl, hbw, hrow⟩ := hrel
    by_cases hlt : k < a.length
    · go_wp2
      go_loopw [7, 8] (fun c i wr => ∃ m : Nat, m ≤ b.length ∧ i = .int .i64 (m : Int) ∧ c = .int .u64 ((inn (a.getD k 0) b k (outr a b k) m).2 : Nat) ∧ Below w.heap.size w wr ∧ wr.heap[w.heap.size]? = some (.cells (cellsN .u64 (inn (a.getD k 0) b k (outr a b k) m).1) 40)) (fun _ i _ => b.length - (intOf i).toNat)
      case atStart => exact ⟨0, by omega, by go_num, by go_num, hbw, hrow⟩
      case round =>
        clear hbw hrow
        obtain ⟨m, hm, rfl, rfl, hbw, hrow⟩ := hrel
        have hlen := inn_len (a.getD k 0) b k (outr a b k) m
        rw [outr_len] at hlen
        by_cases hmt : m < b.length
        · obtain ⟨_, _, e1, _, cella⟩ := (ha.all hbw).form
          obtain ⟨_, _, e2, _, cellb⟩ := (hb.all hbw).form
          cases e1
          cases e2
          have c1 := cella k hlt
          have c2 := cellb m hmt
          have c3 := cell_of_row wr w.heap.size (k + m) _ _ _ hrow
          rw [cellsN_at _ _ _ (by omega)] at c3
          have hd := inn_dig (a.getD k 0) b k (outr a b k) (da k) db (outr_dig a b da db k) m
          have d1 := da k
          have d2 := db m
          have d3 := hd.1 (k + m)
          have d4 := hd.2
          have fz := frozen_of_row hrow (k + m)
          have hnew : Hid (inn (a.getD k 0) b k (outr a b k) (m + 1) = ((inn (a.getD k 0) b k (outr a b k) m).1.set (k + m) (((inn (a.getD k 0) b k (outr a b k) m).1.getD (k + m) 0 + a.getD k 0 * b.getD m 0 + (inn (a.getD k 0) b k (outr a b k) m).2) % 65536), ((inn (a.getD k 0) b k (outr a b k) m).1.getD (k + m) 0 + a.getD k 0 * b.getD m 0 + (inn (a.getD k 0) b k (outr a b k) m).2) / 65536)) := rfl
          have hmw := mul_wrap _ _ d1 d2
          have hml := mul_16 _ _ d1 d2
          have HR := hide hrow
          clear hrow hd cella cellb ha hb da db
          generalize hp' : inn (a.getD k 0) b k (outr a b k) (m + 1) = p' at hnew
          have HP := hide hp'
          clear hp'
          generalize inn (a.getD k 0) b k (outr a b k) m = p at c3 d3 d4 hnew hlen HR ⊢
          generalize p.1.getD (k + m) 0 = o at c3 d3 hnew
          generalize a.getD k 0 = x at c1 d1 hnew hmw hml HP
          generalize b.getD m 0 = y at c2 d2 hnew hmw hml
          generalize hxy : x * y = xy at hnew hmw hml
          clear hxy
          obtain ⟨q, c⟩ := p
          simp only at d4 hnew HR hlen
          go_wp2
          go_region
          go_wp2
          go_roundw
          case rel =>
            have e1 := (unhide HP).trans (unhide hnew)
            refine ⟨m + 1, by omega, by go_num, ?_, ?_, ?_⟩
            · rw [e1]
              refine congrArg (Value.int .u64) ?_
              go_light
              omega
            · exact (hbw.setCell (Nat.le_refl _) _).drew
            · rw [e1]
              refine (heap_setCell_same _ _ _ _ _ _ (unhide HR)).trans ?_
              rw [← cellsN_set]
              congr 3
          case measure => (go_light; simp [intOf] <;> omega)
        · have hme : m = b.length := by omega
          subst hme
          have c3 := cell_of_row wr w.heap.size (k + b.length) _ _ _ hrow
          rw [cellsN_at _ _ _ (by omega)] at c3
          have fz := frozen_of_row hrow (k + b.length)
          have hnew : Hid (outr a b (k + 1) = (inn (a.getD k 0) b k (outr a b k) b.length).1.set (k + b.length) (inn (a.getD k 0) b k (outr a b k) b.length).2) := rfl
          have HR := hide hrow
          clear hrow
          generalize inn (a.getD k 0) b k (outr a b k) b.length = p at hlen c3 hnew HR ⊢
          go_wp2
          go_roundw
          case rel =>
            refine ⟨k + 1, by omega, by go_num, hbw.setCell (Nat.le_refl _) _, ?_⟩
            refine (heap_setCell_same _ _ _ _ _ _ (unhide HR)).trans ?_
            rw [unhide hnew, ← cellsN_set]
          case measure => (go_light; simp [intOf] <;> omega)
    · have hke : k = a.length := by omega
      subst hke
      have HR := hide hrow
      clear hrow
      go_wp2
      go_ret
      refine ⟨_, rfl, ?_, hbw⟩
      have h := rowN_cells (cap := a.length + b.length) (unhide HR)
      rw [outr_len] at h
      exact h
end Go.Proofs.YtgaddifabjoliaaDoor
