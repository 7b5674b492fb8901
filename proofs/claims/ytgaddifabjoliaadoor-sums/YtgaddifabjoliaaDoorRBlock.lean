import Derived.Test.YtgaddifabjoliaaDoorRMix
import Derived.Test.YtgaddifabjoliaaDoorROwn
import Derived.Test.YtgaddifabjoliaaDoorMixed
namespace Go.Proofs.YtgaddifabjoliaaDoor
open Go.RowKit

theorem xor_keep (W e : Nat) (he : e < 2 ^ W) : (e ^^^ (2 ^ W - 1) : Nat) = 2 ^ W - 1 - e := by
  have h3 : (BitVec.ofNat W e ^^^ BitVec.allOnes W) = ~~~ (BitVec.ofNat W e) := BitVec.xor_allOnes
  have h4 := congrArg BitVec.toNat h3
  rw [BitVec.toNat_xor, BitVec.toNat_allOnes, BitVec.toNat_not, BitVec.toNat_ofNat, Nat.mod_eq_of_lt he] at h4
  exact h4
theorem rnot_32 (e : Nat) (he : e < 4294967296) : bits .xor .u64 (e : Int) 4294967295 = ((2 ^ 32 - 1 - e : Nat) : Int) := by
  have h1 := (bits_u64 e 4294967295 (by omega) (by decide)).2.2
  rw [← xor_keep 32 e he]; exact h1
theorem rnot_64 (e : Nat) (he : e < 18446744073709551616) : bits .xor .u64 (e : Int) 18446744073709551615 = ((2 ^ 64 - 1 - e : Nat) : Int) := by
  have h1 := (bits_u64 e 18446744073709551615 he (by decide)).2.2
  rw [← xor_keep 64 e he]; exact h1
theorem keep_32 (x : Nat) (hx : x < 18446744073709551616) : bits .and .u64 (x : Int) 4294967295 = ((x % 4294967296 : Nat) : Int) := by
  have h1 := (bits_u64 x 4294967295 hx (by decide)).2.1
  have h2 := Nat.and_two_pow_sub_one_eq_mod x 32
  rw [show (x % 4294967296) = x &&& 4294967295 from h2.symm]; exact h1
theorem keep_64 (x : Nat) (hx : x < 18446744073709551616) : bits .and .u64 (x : Int) 18446744073709551615 = ((x % 18446744073709551616 : Nat) : Int) := by
  have h1 := (bits_u64 x 18446744073709551615 hx (by decide)).2.1
  have h2 := Nat.and_two_pow_sub_one_eq_mod x 64
  rw [show (x % 18446744073709551616) = x &&& 18446744073709551615 from h2.symm]; exact h1

theorem RowN.words {w : World} {v : Value} {l : List Nat} (h : RowN w v l) : ∃ g cap, v = .slice (some ⟨g, 0, none⟩) l.length cap ∧ ∀ (j : Nat) (u : Value), (wordCells l)[j]? = some u → w.cell? ((⟨g, 0, none⟩ : Addr).add j) = some u := by
  obtain ⟨g, cap, rfl, _, hc⟩ := h.form
  refine ⟨g, cap, rfl, fun j u hu => ?_⟩
  have hj : j < l.length := by
    have := (List.getElem?_eq_some_iff.1 hu).1
    simpa [wordCells] using this
  have e : (wordCells l)[j]? = some (.int .u64 (l.getD j 0 : Nat)) := by
    rw [wordCells, List.getElem?_map, List.getElem?_eq_getElem hj, List.getD_eq_getElem?_getD, List.getElem?_eq_getElem hj]; rfl
  rw [e] at hu
  cases hu
  have e2 : (⟨g, 0, none⟩ : Addr).add j = ⟨g, j, none⟩ := by
    unfold Addr.add
    by_cases h0 : j = 0
    · simp [h0]
    · simp [h0]
  rw [e2]
  exact hc j hj

theorem wpList_append_row {ops : Array Oper} {rest : List Oper} {o : Oper} {a : Act} {w : World} {Q : Exit → Act → World → Prop} (hgd : o.guard = none) (s x : Operand)
    (hop : o.op = Op.call { callee := Callee.builtin Builtin.append, args := #[s, x], argTypes := #[27, 27] })
    (B : Nat) (v : Value) (l : List Nat) (hs : a.eval s = .slice none 0 0) (hx : a.eval x = v) (hrow : RowN w v l) (hl : l.length < 1000) (hB : B ≤ w.heap.size)
    (h : ∀ v' w', OwnN B w' v' l → w.grownBy w' none → wpList Tryd.prog ops Q rest (a.put o.dst v') w') : wpList Tryd.prog ops Q (o :: rest) a w := by
  obtain ⟨j0, hj, hy0, hy1, hy2⟩ := info_parts info_u64
  obtain ⟨g, cap, rfl, hc⟩ := hrow.words
  refine wpList_append_own_at w hgd s x 27 hop B 40 j0 (.int .u64 0) 1 8 Tryd.underlying27 hj hy0 hy1 hy2 rfl (by decide) (.slice none 0 0) 0 [] hs ⟨rfl, Or.inl ⟨rfl, rfl⟩⟩ ⟨g, 0, none⟩ l.length cap (wordCells l) hx (by simp [wordCells]) hc ?_ (by unfold maxLen; omega) (by omega) hB ?_
  · intro u hu
    simp only [wordCells, List.mem_map] at hu
    obtain ⟨x, _, rfl⟩ := hu
    rfl
  · intro v' w' h1 h2 _ _
    refine h v' w' ?_ h2
    unfold OwnN
    rw [Nat.zero_add, List.nil_append] at h1
    exact h1

theorem ownN_built (B : Nat) (w : World) (l : List Nat) (hl : l.length < 1000) (hB : B ≤ w.heap.size) : OwnN B (w.alloc (.cells (cellsN .u64 l) 40)) (.slice (some ⟨w.heap.size, 0, none⟩) l.length l.length) l := by
  refine ⟨by simp [wordCells], Or.inr ⟨w.heap.size, l.length, _, rfl, hB, heap_alloc_new w _, Nat.le_refl _, by unfold maxLen; omega, by simp [cellsN_size], ?_⟩⟩
  rw [Nat.mul_one]
  exact List.take_of_length_le (by simp [cellsN])

theorem OwnN.full {B : Nat} {w : World} {v : Value} {l : List Nat} (h : OwnN B w v l) (hl : 0 < l.length) : ∃ g cap cur, v = .slice (some ⟨g, 0, none⟩) l.length cap ∧ B ≤ g ∧ g < w.heap.size ∧ w.heap[g]? = some (.cells cur 40) ∧ (∀ j, j < l.length → cur[j]? = some (.int .u64 (l.getD j 0 : Nat))) ∧ (∀ i x, OwnN B (w.setCell ⟨g, i, none⟩ (.int .u64 ((x : Nat) : Int))) v (l.set i x)) := by
  have hr := h
  rcases h.2 with ⟨_, h2⟩ | ⟨g, cap, cur, h1, h2, h3, h4, h5, h6, h7⟩
  · omega
  · refine ⟨g, cap, cur, h1, h2, (Array.getElem?_eq_some_iff.1 h3).1, h3, fun j hj => ?_, fun i x => ?_⟩
    · have e : (cur.toList.take (l.length * 1))[j]? = (wordCells l)[j]? := by rw [h7]
      rw [Nat.mul_one, List.getElem?_take_of_lt hj, Array.getElem?_toList] at e
      rw [e, wordCells, List.getElem?_map, List.getElem?_eq_getElem hj, List.getD_eq_getElem?_getD, List.getElem?_eq_getElem hj]
      rfl
    · refine ⟨by simp [wordCells], Or.inr ⟨g, cap, cur.setIfInBounds i (.int .u64 (x : Int)), by rw [h1]; simp, h2, (heap_setCell_same _ _ _ _ _ _ h3).trans rfl, by simpa using h4, h5, by simpa using h6, ?_⟩⟩
      rw [Array.toList_setIfInBounds, List.take_set]
      have e2 : (l.set i x).length = l.length := by simp
      rw [e2, h7]
      simp [wordCells, List.map_set]
theorem ok_lt {W : Nat} {v : St} (h : v.Ok W) (k : Nat) : v.list.getD k 0 < 2 ^ W := by
  obtain ⟨h0, h1, h2, h3, h4, h5, h6, h7⟩ := h
  rcases k with _ | _ | _ | _ | _ | _ | _ | _ | k
  · exact h0
  · exact h1
  · exact h2
  · exact h3
  · exact h4
  · exact h5
  · exact h6
  · exact h7
  · exact Nat.two_pow_pos _
theorem addN_far (W : Nat) (S V : List Nat) : ∀ k j, k ≤ j → (addN W S V k).getD j 0 = S.getD j 0 := addN_at W S V

theorem OwnN.weaken {B C : Nat} {w : World} {v : Value} {l : List Nat} (h : OwnN B w v l) (hC : C ≤ B) : OwnN C w v l := by
  refine ⟨h.1, ?_⟩
  rcases h.2 with h1 | ⟨g, cap, cur, h1, h2, h3⟩
  · exact Or.inl h1
  · exact Or.inr ⟨g, cap, cur, h1, Nat.le_trans hC h2, h3⟩
theorem add_comm' (W : Nat) (s v : St) : s.add W v = v.add W s := by simp only [St.add, Nat.add_comm]
theorem take_getD (l : List Nat) (n t : Nat) (h : t < n) : (l.take n).getD t 0 = l.getD t 0 := by
  rw [List.getD_eq_getElem?_getD, List.getElem?_take_of_lt h, List.getD_eq_getElem?_getD]

end Go.Proofs.YtgaddifabjoliaaDoor
