import Derived.Test.YtgaddifabjoliaaDoorRTurn
namespace Go.Proofs.YtgaddifabjoliaaDoor
open Go.RowKit

/-- v is a slice of words, l, in world w. -/
def RowN (w : World) (v : Value) (l : List Nat) : Prop :=
  ∃ g cap cur t fz, v = .slice (some ⟨g, 0, none⟩) l.length cap ∧ w.heap[g]? = some (.cells cur t fz) ∧ ∀ j, j < l.length → cur[j]? = some (.int .u64 (l.getD j 0 : Nat))

theorem RowN.below {B : Nat} {w w' : World} {v : Value} {l : List Nat} (h : RowN w v l) (hb : Below B w w') (hB : ∀ g, v.ownBlock = some g → g < B) : RowN w' v l := by
  obtain ⟨g, cap, cur, t, fz, rfl, h2, h3⟩ := h
  exact ⟨g, cap, cur, t, fz, rfl, (hb.block g (hB g rfl)).trans h2, h3⟩
theorem RowN.all {w w' : World} {v : Value} {l : List Nat} (h : RowN w v l) (hb : Below w.heap.size w w') : RowN w' v l := by
  obtain ⟨g, cap, cur, t, fz, rfl, h2, h3⟩ := h
  exact ⟨g, cap, cur, t, fz, rfl, (hb.block g (Array.getElem?_eq_some_iff.1 h2).1).trans h2, h3⟩
theorem RowN.form {w : World} {v : Value} {l : List Nat} (h : RowN w v l) : ∃ g cap, v = .slice (some ⟨g, 0, none⟩) l.length cap ∧ g < w.heap.size ∧ ∀ j, j < l.length → w.cell? ⟨g, j, none⟩ = some (.int .u64 (l.getD j 0 : Nat)) := by
  obtain ⟨g, cap, cur, t, fz, rfl, h2, h3⟩ := h
  refine ⟨g, cap, rfl, (Array.getElem?_eq_some_iff.1 h2).1, fun j hj => ?_⟩
  rw [cell_of_row w g j cur t fz h2]
  exact h3 j hj
theorem rowN_cells {w : World} {g cap : Nat} {l : List Nat} {t : TypeId} {fz : Nat × Nat} (h : w.heap[g]? = some (.cells (cellsN .u64 l) t fz)) : RowN w (.slice (some ⟨g, 0, none⟩) l.length cap) l :=
  ⟨g, cap, _, t, fz, rfl, h, fun _ hj => cellsN_at _ _ _ hj⟩

theorem getD_past (l : List Nat) (j : Nat) (h : ¬ j < l.length) : l.getD j 0 = 0 := by
  rw [List.getD_eq_getElem?_getD, List.getElem?_eq_none (by omega)]; rfl

set_option maxHeartbeats 1000000 in
theorem rabove (va vb : Value) (a b : List Nat) (w : World) (ha : RowN w va a) (hb : RowN w vb b) (hla : a.length < 100) (hlb : b.length < 100) :
    Calls Tryd.prog 30 #[va, vb] w fun e w' => e = .returned (.bool (abv a b (a.length + b.length))) ∧ w' = w := by
  obtain ⟨ga, ca, rfl, _, cella⟩ := ha.form
  obtain ⟨gb, cb, rfl, _, cellb⟩ := hb.form
  clear ha hb
  go_enter Tryd.func30, Tryd.ntmps30
  go_wp2
  go_loopw [5] (fun i wr => ∃ k : Nat, k ≤ a.length + b.length ∧ i = .int .i64 ((k : Int) - 1) ∧ wr = w ∧ Hid (abv a b (a.length + b.length) = abv a b k)) (fun i _ => (intOf i + 1).toNat)
  case atStart => exact ⟨a.length + b.length, by omega, by go_num, rfl, rfl⟩
  case round =>
    obtain ⟨k, hk, rfl, rfl, hab⟩ := hrel
    cases k with
    | zero =>
      have hp : abv a b (a.length + b.length) = false := unhide hab
      go_wp2
      go_ret
      exact ⟨by rw [hp]; rfl, rfl⟩
    | succ i =>
      have ei : (((i + 1 : Nat) : Int) - 1) = (i : Int) := by omega
      rw [ei]
      have hxa := cella i
      have hxb := cellb i
      have hna := getD_past a i
      have hnb := getD_past b i
      have hst : Hid (abv a b (i + 1) = if a.getD i 0 = b.getD i 0 then abv a b i else decide (b.getD i 0 < a.getD i 0)) := rfl
      clear cella cellb
      generalize a.getD i 0 = x at hxa hna hst
      generalize b.getD i 0 = y at hxb hnb hst
      by_cases h1 : i < a.length <;> by_cases h2 : i < b.length <;> by_cases he : x = y
      all_goals simp only [h1, h2, not_true_eq_false, not_false_eq_true, forall_const, false_implies] at hxa hxb hna hnb
      all_goals first | subst hna | skip
      all_goals first | subst hnb | skip
      all_goals first | exact absurd rfl he | skip
      all_goals first
        | (first | subst he | (have h00 : (0 : Nat) = 0 := he; clear h00 he)
           go_wp2
           go_roundw
           case rel =>
             refine ⟨i, by omega, by go_num, trivial, ?_⟩
             show _ = _
             rw [unhide hab, unhide hst, if_pos rfl]
           case measure => (go_light; simp [intOf] <;> omega))
        | skip
      all_goals
        have hp := (unhide hab).trans ((unhide hst).trans (if_neg he))
        clear hab hst
        first | have hi : ¬ ((x : Int) = (y : Int)) := by omega
              | have hi : ¬ ((x : Int) = 0) := by omega
              | have hi : ¬ ((0 : Int) = (y : Int)) := by omega
        go_wp2
        go_ret
        refine ⟨?_, rfl⟩
        rw [hp]
        first | rfl | (simp; done) | skip
end Go.Proofs.YtgaddifabjoliaaDoor
