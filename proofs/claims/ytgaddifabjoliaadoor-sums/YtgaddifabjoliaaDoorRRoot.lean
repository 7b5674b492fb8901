import Derived.Test.YtgaddifabjoliaaDoorRTimes
namespace Go.Proofs.YtgaddifabjoliaaDoor
open Go.RowKit

def stepG (l : List Nat) (b : Nat) : List Nat := l.set (b / 16) (l.getD (b / 16) 0 + 2 ^ (b % 16))
theorem stepG_len (l : List Nat) (b : Nat) : (stepG l b).length = l.length := by simp [stepG]
theorem stepG_at (l : List Nat) (b : Nat) (h : b / 16 < l.length) : (stepG l b).getD (b / 16) 0 = l.getD (b / 16) 0 + 2 ^ (b % 16) := by
  rw [stepG, getD_set, if_pos ⟨rfl, h⟩]
theorem stepG_back (l : List Nat) (b : Nat) (h : b / 16 < l.length) : (stepG l b).set (b / 16) (l.getD (b / 16) 0) = l := by
  rw [stepG, List.set_set]
  apply List.ext_getElem?
  intro j
  rw [List.getElem?_set]
  split
  · rename_i e
    subst e
    rw [List.getElem?_eq_getElem h, List.getD_eq_getElem?_getD, List.getElem?_eq_getElem h]
    rfl
  · rfl

def powL (K : Nat) (l : List Nat) : List Nat := if K = 3 then timesF (timesF l l) l else timesF l l
def wantL (n K : Nat) : List Nat := (List.replicate (4 * K + 1) 0).set (4 * K) n
theorem wantL_len (n K : Nat) : (wantL n K).length = 4 * K + 1 := by simp [wantL]
theorem wantL_dig (n K : Nat) (hn : n < 65536) : Dig (wantL n K) := (dig_zero _).set _ _ hn
theorem wantL_val (n K : Nat) : vn (wantL n K) (4 * K + 1) = n * 2 ^ (64 * K) := by
  have h := vn_set (List.replicate (4 * K + 1) 0) (4 * K) n (by simp) (4 * K + 1) (by omega)
  rw [zero_getD, vn_zero, Nat.zero_mul, Nat.add_zero, Nat.zero_add] at h
  rw [wantL, h, show (65536 : Nat) = 2 ^ 16 by decide, ← Nat.pow_mul]
  congr 2
  omega
theorem powL_dig (K : Nat) (l : List Nat) (h : Dig l) : Dig (powL K l) := by
  unfold powL
  split
  · exact times_dig (times_dig h h) h
  · exact times_dig h h
theorem powL_val (K : Nat) (hK : K = 2 ∨ K = 3) (l : List Nat) : vn (powL K l) (powL K l).length = vn l l.length ^ K := by
  rcases hK with rfl | rfl
  · rw [powL, if_neg (by decide), times_len, times_val, Nat.pow_two]
  · rw [powL, if_pos rfl, times_len, times_val, times_len, times_val, Nat.pow_succ, Nat.pow_two]

theorem pow_abv (n K : Nat) (hn : n < 65536) (hK : K = 2 ∨ K = 3) (l : List Nat) (h : Dig l) : abv (powL K l) (wantL n K) ((powL K l).length + (wantL n K).length) = decide (n * 2 ^ (64 * K) < vn l l.length ^ K) := by
  rw [abv_val (powL_dig K l h) (wantL_dig n K hn), vn_past (powL K l) _ (Nat.le_refl _), powL_val K hK, Nat.add_comm, vn_past (wantL n K) _ (Nat.le_refl _), wantL_len, wantL_val]

/-- Behind i bits. -/
def Got (n K i : Nat) (l : List Nat) : Prop := l.length = 5 ∧ Dig l ∧ Clear l (80 - i) ∧ vn l 5 = gF (n * 2 ^ (64 * K)) K i

theorem got_start (n K : Nat) : Got n K 0 (List.replicate 5 0) := by
  refine ⟨by simp, dig_zero _, fun j => ?_, ?_⟩
  · rw [zero_getD]; simp
  · rw [vn_zero]; rfl

theorem got_room {n K i : Nat} {l : List Nat} (h : Got n K i l) (b : Nat) (hb : i + b = 79) : l.getD (b / 16) 0 + 2 ^ (b % 16) < 65536 :=
  (clear_room h.2.1 (by have := h.2.2.1; rw [show 80 - i = b + 1 by omega] at this; exact this)).1
theorem got_dig {n K i : Nat} {l : List Nat} (h : Got n K i l) (b : Nat) (hb : i + b = 79) : Dig (stepG l b) := h.2.1.set _ _ (got_room h b hb)
theorem got_val {n K i : Nat} {l : List Nat} (h : Got n K i l) (b : Nat) (hb : i + b = 79) : vn (stepG l b) 5 = gF (n * 2 ^ (64 * K)) K i + 2 ^ b := by
  have h1 := vn_set l (b / 16) (l.getD (b / 16) 0 + 2 ^ (b % 16)) (by rw [h.1]; omega) 5 (by omega)
  rw [Nat.add_mul, bit_place, h.2.2.2] at h1
  rw [stepG]
  omega
theorem got_up {n K i : Nat} {l : List Nat} (h : Got n K i l) (b : Nat) (hb : i + b = 79) (hno : ¬ n * 2 ^ (64 * K) < vn (stepG l b) 5 ^ K) : Got n K (i + 1) (stepG l b) := by
  refine ⟨by rw [stepG_len]; exact h.1, got_dig h b hb, ?_, ?_⟩
  · have := h.2.2.1
    rw [show 80 - i = b + 1 by omega] at this
    have h2 := clear_set h.2.1 this
    rw [show 80 - (i + 1) = b by omega]
    exact h2
  · rw [got_val h b hb] at hno ⊢
    rw [gF, show 79 - i = b by omega, if_neg hno]
theorem got_down {n K i : Nat} {l : List Nat} (h : Got n K i l) (b : Nat) (hb : i + b = 79) (hyes : n * 2 ^ (64 * K) < vn (stepG l b) 5 ^ K) : Got n K (i + 1) l := by
  refine ⟨h.1, h.2.1, ?_, ?_⟩
  · have := h.2.2.1
    rw [show 80 - i = b + 1 by omega] at this
    rw [show 80 - (i + 1) = b by omega]
    exact clear_down this
  · rw [got_val h b hb] at hyes
    rw [gF, show 79 - i = b by omega, if_pos hyes]
    exact h.2.2.2
theorem got_end {n K : Nat} {l : List Nat} (h : Got n K 80 l) : l.getD 0 0 + l.getD 1 0 * 65536 + l.getD 2 0 * 4294967296 + l.getD 3 0 * 281474976710656 = rootF n K := by
  have hv := h.2.2.2
  have h4 := vn_lt h.2.1 4
  simp only [vn] at hv h4
  unfold rootF
  rw [← hv]
  simp at h4 ⊢
  omega
end Go.Proofs.YtgaddifabjoliaaDoor
