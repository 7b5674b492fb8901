import Derived.Test.YtgaddifabjoliaaDoorROwn
namespace Go.Proofs.YtgaddifabjoliaaDoor
open Go.RowKit

def sqL (q : Nat) : List Nat := ((primes q).take 8).map (rootF · 2)
def cuL (q : Nat) : List Nat := (primes q).map (rootF · 3)
theorem cuL_len (q : Nat) : (cuL q).length = (primes q).length := by simp [cuL]
theorem sqL_len (q : Nat) : (sqL q).length = min 8 (primes q).length := by simp [sqL]
theorem primes_no (q : Nat) (h : pr (q + 2) = false) : primes (q + 1) = primes q := by rw [primes_succ, h]; simp
theorem primes_yes (q : Nat) (h : pr (q + 2) = true) : primes (q + 1) = primes q ++ [q + 2] := by rw [primes_succ, h]; simp
theorem cuL_yes (q : Nat) (h : pr (q + 2) = true) : cuL (q + 1) = cuL q ++ [rootF (q + 2) 3] := by simp [cuL, primes_yes q h]
theorem sqL_yes (q : Nat) (h : pr (q + 2) = true) (hl : (sqL q).length < 8) : sqL (q + 1) = sqL q ++ [rootF (q + 2) 2] := by
  have hp : (primes q).length < 8 := by rw [sqL_len] at hl; omega
  simp only [sqL, primes_yes q h]
  rw [List.take_of_length_le (by simp; omega), List.take_of_length_le (by omega)]
  simp
theorem sqL_full (q : Nat) (h : pr (q + 2) = true) (hl : ¬ (sqL q).length < 8) : sqL (q + 1) = sqL q := by
  have hp : 8 ≤ (primes q).length := by rw [sqL_len] at hl; omega
  simp only [sqL, primes_yes q h]
  rw [List.take_append_of_le_length hp]
theorem sqL_no (q : Nat) (h : pr (q + 2) = false) : sqL (q + 1) = sqL q := by simp only [sqL, primes_no q h]
theorem cuL_no (q : Nat) (h : pr (q + 2) = false) : cuL (q + 1) = cuL q := by simp only [cuL, primes_no q h]
theorem sqL_end : sqL 408 = sq := by rw [sqL, primes_408]; exact squares_P80
theorem cuL_end : cuL 408 = cu := by rw [cuL, primes_408]; exact cubes_P80
theorem cuL_few (q : Nat) (h : q < 408) : (cuL q).length < 80 := by rw [cuL_len]; exact primes_few q h
theorem cuL_full : (cuL 408).length = 80 := by rw [cuL_end]; rfl
theorem sqL_le (q : Nat) : (sqL q).length ≤ 8 := by rw [sqL_len]; omega

def Apart (u v : Value) : Prop := ∀ g, u.ownBlock = some g → v.ownBlock ≠ some g

theorem one_word (w : World) (v : Value) (t : TypeId) : ∀ (j : Nat) (u : Value), [v][j]? = some u → (w.alloc (.cells #[v] t)).cell? ((⟨w.heap.size, 0, none⟩ : Addr).add j) = some u := by
  intro j u h
  cases j with
  | zero =>
    simp only [List.getElem?_cons_zero, Option.some.injEq] at h
    subst h
    exact (cell_of_row _ _ 0 _ _ _ (heap_alloc_new w _)).trans rfl
  | succ j => simp at h

/-- How things stand in the loop: the two lists, in the block R. -/
structure Lists (w wr : World) (sv cv : Value) (ls lc : List Nat) : Prop where
  below : Below w.heap.size w wr
  size : w.heap.size + 2 ≤ wr.heap.size
  out : wr.heap[w.heap.size]? = some (.cells #[.slice none 0 0, .slice none 0 0] 29)
  two : wr.heap[w.heap.size + 1]? = some (.cells #[sv, cv] 29)
  s : OwnN (w.heap.size + 2) wr sv ls
  c : OwnN (w.heap.size + 2) wr cv lc
  apart : Apart sv cv

theorem Lists.all {w wr w1 : World} {sv cv : Value} {ls lc : List Nat} (h : Lists w wr sv cv ls lc) (hb : Below wr.heap.size wr w1) : Lists w w1 sv cv ls lc :=
  ⟨h.below.trans (hb.mono h.below.size), Nat.le_trans h.size hb.size, (hb.block _ (by have := h.size; omega)).trans h.out, (hb.block _ (by have := h.size; omega)).trans h.two, h.s.all hb, h.c.all hb, h.apart⟩

/-- The first list was appended to and laid back. -/
theorem Lists.putS {w wr w1 : World} {sv cv sv' : Value} {ls lc ls' : List Nat} (h : Lists w wr sv cv ls lc) (h1 : OwnN (w.heap.size + 2) w1 sv' ls') (hg : wr.grownBy w1 sv.ownBlock) (hn : sv'.ownBlock = sv.ownBlock ∨ sv'.ownBlock = some wr.heap.size) :
    Lists w (w1.setCell ⟨w.heap.size + 1, 0, none⟩ sv') sv' cv ls' lc := by
  have hsz := h.size
  have far : ∀ k, k < w.heap.size + 2 → some k ≠ sv.ownBlock := fun k hk e => by have := (h.s.far e.symm).1; omega
  have b1 : Below w.heap.size w w1 := h.below.grown hg (by omega) (fun k hk => by have := (h.s.far hk).1; omega)
  have t1 : w1.heap[w.heap.size + 1]? = some (.cells #[sv, cv] 29) := (hg.block _ (by omega) (far _ (by omega))).trans h.two
  refine ⟨b1.setCell (by simp) _, by simp; exact Nat.le_trans hsz hg.size, ?_, ?_, ?_, ?_, ?_⟩
  · exact (heap_setCell_other _ _ _ _ (by simp)).trans ((hg.block _ (by omega) (far _ (by omega))).trans h.out)
  · exact (heap_setCell_same _ _ _ _ _ _ t1).trans rfl
  · exact h1.same fun g hg' => heap_setCell_other _ _ _ _ (by have := (h1.far hg').1; simp; omega)
  · refine h.c.same fun g hg' => ?_
    have f := h.c.far hg'
    rw [heap_setCell_other _ _ _ _ (by simp; omega)]
    exact hg.block g f.2 (fun e => h.apart g e.symm hg')
  · intro g e1 e2
    rcases hn with hn | hn
    · exact h.apart g (hn.symm.trans e1) e2
    · rw [hn] at e1
      cases e1
      have := (h.c.far e2).2
      omega
theorem Lists.putC {w wr w1 : World} {sv cv cv' : Value} {ls lc lc' : List Nat} (h : Lists w wr sv cv ls lc) (h1 : OwnN (w.heap.size + 2) w1 cv' lc') (hg : wr.grownBy w1 cv.ownBlock) (hn : cv'.ownBlock = cv.ownBlock ∨ cv'.ownBlock = some wr.heap.size) :
    Lists w (w1.setCell ⟨w.heap.size + 1, 1, none⟩ cv') sv cv' ls lc' := by
  have hsz := h.size
  have far : ∀ k, k < w.heap.size + 2 → some k ≠ cv.ownBlock := fun k hk e => by have := (h.c.far e.symm).1; omega
  have b1 : Below w.heap.size w w1 := h.below.grown hg (by omega) (fun k hk => by have := (h.c.far hk).1; omega)
  have t1 : w1.heap[w.heap.size + 1]? = some (.cells #[sv, cv] 29) := (hg.block _ (by omega) (far _ (by omega))).trans h.two
  refine ⟨b1.setCell (by simp) _, by simp; exact Nat.le_trans hsz hg.size, ?_, ?_, ?_, ?_, ?_⟩
  · exact (heap_setCell_other _ _ _ _ (by simp)).trans ((hg.block _ (by omega) (far _ (by omega))).trans h.out)
  · exact (heap_setCell_same _ _ _ _ _ _ t1).trans rfl
  · refine h.s.same fun g hg' => ?_
    have f := h.s.far hg'
    rw [heap_setCell_other _ _ _ _ (by simp; omega)]
    exact hg.block g f.2 (fun e => h.apart g hg' e.symm)
  · exact h1.same fun g hg' => heap_setCell_other _ _ _ _ (by have := (h1.far hg').1; simp; omega)
  · intro g e1 e2
    rcases hn with hn | hn
    · exact h.apart g e1 (hn.symm.trans e2)
    · rw [hn] at e2
      cases e2
      have := (h.s.far e1).2
      omega
end Go.Proofs.YtgaddifabjoliaaDoor
