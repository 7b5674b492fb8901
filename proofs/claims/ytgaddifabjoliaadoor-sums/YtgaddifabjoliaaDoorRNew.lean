import Derived.Test.YtgaddifabjoliaaDoorRRootsW
import Derived.Test.YtgaddifabjoliaaDoorRBlock
namespace Go.Proofs.YtgaddifabjoliaaDoor
open Go.RowKit

/-- The tables that the document's sums are made by. -/
def Tab (w : World) (g : Nat) : Prop := ∃ sv cf cv, w.heap[g]? = some (.cells #[sv, cf, sv, cv] 32) ∧ RowN w sv sq ∧ RowN w cf (cu.take 64) ∧ RowN w cv cu

theorem Tab.all {w w' : World} {g : Nat} (h : Tab w g) (hb : Below w.heap.size w w') : Tab w' g := by
  obtain ⟨sv, cf, cv, h1, h2, h3, h4⟩ := h
  exact ⟨sv, cf, cv, (hb.block g (Array.getElem?_eq_some_iff.1 h1).1).trans h1, h2.all hb, h3.all hb, h4.all hb⟩

theorem RowN.cut {w : World} {g cap : Nat} {l : List Nat} (h : RowN w (.slice (some ⟨g, 0, none⟩) l.length cap) l) (n : Nat) (hn : n ≤ l.length) : RowN w (.slice (some ⟨g, 0, none⟩) n cap) (l.take n) := by
  obtain ⟨g', cap', cur, t, fz, e, h2, h3⟩ := h
  cases e
  have hl : (l.take n).length = n := by rw [List.length_take]; omega
  refine ⟨g, cap, cur, t, fz, by rw [hl], h2, fun j hj => ?_⟩
  rw [take_getD _ _ _ (by omega)]
  exact h3 j (by omega)

theorem zero_sums : (∀ w, (zeroValue 32).run Tryd.prog w = .ok (.agg #[.slice none 0 0, .slice none 0 0, .slice none 0 0, .slice none 0 0]) w) ∧ (Tryd.prog.info? 32).map (·.size) = some 4 := zero_of_info (by kernel_rfl)

set_option maxRecDepth 20000 in
set_option maxHeartbeats 1000000 in
theorem rnew (w : World) :
    Calls Tryd.prog 5 #[] w fun e w' => ∃ g, e = .returned (.pointer (some ⟨g, 0, none⟩)) ∧ Tab w' g ∧ Below w.heap.size w w' := by
  have hz := zero_roots.1
  go_enter Tryd.func5, Tryd.ntmps5
  go_wp2_with fail
  refine (rroots w).mono ?_
  rintro e w1 ⟨sv, gc, cc, rfl, hcc, hsv, hcv, hb1⟩
  have ic : (64 : Int) ≤ (cc : Int) := by omega
  obtain ⟨gq, cq, hq, _, _⟩ := hsv.form
  rw [show sq.length = 8 from rfl] at hq
  subst hq
  have HS := hide hsv
  have HC := hide hcv
  clear hsv hcv
  go_wp2
  go_ret
  have b3 := (((Below.refl w1.heap.size w1).alloc (Nat.le_refl _) (.cells #[.slice (some ⟨gq, 0, none⟩) 8 cq, .slice (some ⟨gc, 0, none⟩) 80 cc] 29)).alloc (by simp) (.cells #[.slice (some ⟨gq, 0, none⟩) 8 cq, .slice (some ⟨gc, 0, none⟩) 64 cc] 29)).alloc (by simp; omega) (.cells #[.slice (some ⟨gq, 0, none⟩) 8 cq, .slice (some ⟨gc, 0, none⟩) 64 cc, .slice (some ⟨gq, 0, none⟩) 8 cq, .slice (some ⟨gc, 0, none⟩) 80 cc] 32)
  have hcut := RowN.cut (show RowN w1 (.slice (some ⟨gc, 0, none⟩) cu.length cc) cu from unhide HC) 64 (by decide)
  exact ⟨_, rfl, ⟨_, _, _, (heap3 _ _ _ _).2.2, (unhide HS).all b3, hcut.all b3, (unhide HC).all b3⟩, hb1.trans (b3.mono hb1.size)⟩
end Go.Proofs.YtgaddifabjoliaaDoor
