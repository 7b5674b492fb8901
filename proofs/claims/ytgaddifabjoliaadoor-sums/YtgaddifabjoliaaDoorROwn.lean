import Derived.Test.YtgaddifabjoliaaDoorRRootV
import Derived.Maps.AppendAt
namespace Go.Proofs.YtgaddifabjoliaaDoor
open Go.RowKit

def wordCells (l : List Nat) : List Value := l.map fun x : Nat => Value.int .u64 (x : Int)

/-- v is a slice of words, l, that owns its row: it was made by append alone. -/
def OwnN (B : Nat) (w : World) (v : Value) (l : List Nat) : Prop := w.ownsRow B 40 1 v l.length (wordCells l)

theorem ownN_nil (B : Nat) (w : World) : OwnN B w (.slice none 0 0) [] := ⟨rfl, Or.inl ⟨rfl, rfl⟩⟩
theorem OwnN.form {B : Nat} {w : World} {v : Value} {l : List Nat} (h : OwnN B w v l) : ∃ o cap, v = .slice o l.length cap := by
  rcases h.2 with ⟨h1, h2⟩ | ⟨g, cap, cur, h1, _⟩
  · exact ⟨none, 0, by rw [h1, h2]⟩
  · exact ⟨_, cap, h1⟩
theorem OwnN.far {B : Nat} {w : World} {v : Value} {l : List Nat} (h : OwnN B w v l) {g : Nat} (hg : v.ownBlock = some g) : B ≤ g ∧ g < w.heap.size := by
  rcases h.2 with ⟨h1, h2⟩ | ⟨g', cap, cur, h1, h2, h3, _⟩
  · subst h1; cases hg
  · subst h1
    cases hg
    exact ⟨h2, (Array.getElem?_eq_some_iff.1 h3).1⟩
theorem OwnN.all {B : Nat} {w w' : World} {v : Value} {l : List Nat} (h : OwnN B w v l) (hb : Below w.heap.size w w') : OwnN B w' v l := by
  refine ⟨h.1, ?_⟩
  rcases h.2 with h1 | ⟨g, cap, cur, h1, h2, h3, h4⟩
  · exact Or.inl h1
  · exact Or.inr ⟨g, cap, cur, h1, h2, (hb.block g (Array.getElem?_eq_some_iff.1 h3).1).trans h3, h4⟩
theorem OwnN.same {B : Nat} {w w' : World} {v : Value} {l : List Nat} (h : OwnN B w v l) (hb : ∀ g, v.ownBlock = some g → w'.heap[g]? = w.heap[g]?) : OwnN B w' v l := by
  refine ⟨h.1, ?_⟩
  rcases h.2 with h1 | ⟨g, cap, cur, h1, h2, h3, h4⟩
  · exact Or.inl h1
  · exact Or.inr ⟨g, cap, cur, h1, h2, (hb g (by rw [h1]; rfl)).trans h3, h4⟩
theorem OwnN.row {B : Nat} {w : World} {v : Value} {l : List Nat} (h : OwnN B w v l) (hl : 0 < l.length) : RowN w v l := by
  rcases h.2 with ⟨_, h2⟩ | ⟨g, cap, cur, h1, h2, h3, h4, h5, h6, h7⟩
  · omega
  · refine ⟨g, cap, cur, _, _, h1, h3, fun j hj => ?_⟩
    have e : (cur.toList.take (l.length * 1))[j]? = (wordCells l)[j]? := by rw [h7]
    rw [Nat.mul_one, List.getElem?_take_of_lt hj, Array.getElem?_toList] at e
    rw [e, wordCells, List.getElem?_map, List.getElem?_eq_getElem hj, List.getD_eq_getElem?_getD, List.getElem?_eq_getElem hj]
    rfl

theorem wpList_append_word {ops : Array Oper} {rest : List Oper} {o : Oper} {a : Act} {w : World} {Q : Exit → Act → World → Prop} (hgd : o.guard = none) (s x : Operand)
    (hop : o.op = Op.call { callee := Callee.builtin Builtin.append, args := #[s, x], argTypes := #[27, 27] })
    (B : Nat) (v : Value) (l : List Nat) (hs : a.eval s = v) (hown : OwnN B w v l) (ad : Addr) (b : Nat) (hx : a.eval x = .slice (some ad) 1 1) (hc : ∀ (j : Nat) (u : Value), [Value.int .u64 (b : Int)][j]? = some u → w.cell? (ad.add j) = some u)
    (hlen : l.length < 2 ^ 40) (hB : B ≤ w.heap.size)
    (h : ∀ v' w', OwnN B w' v' (l ++ [b]) → w.grownBy w' v.ownBlock → (v'.ownBlock = v.ownBlock ∨ v'.ownBlock = some w.heap.size) → wpList Tryd.prog ops Q rest (a.put o.dst v') w') : wpList Tryd.prog ops Q (o :: rest) a w := by
  obtain ⟨j0, hj, hy0, hy1, hy2⟩ := info_parts info_u64
  refine wpList_append_own_at w hgd s x 27 hop B 40 j0 (.int .u64 0) 1 8 Tryd.underlying27 hj hy0 hy1 hy2 rfl (by decide) v l.length (wordCells l) hs hown ad 1 1 [.int .u64 (b : Int)] hx rfl hc ?_ (by unfold maxLen; omega) (by omega) hB ?_
  · intro u hu; simp only [List.mem_singleton] at hu; subst hu; rfl
  · intro v' w' h1 h2 _ h4
    refine h v' w' ?_ h2 h4
    unfold OwnN
    rw [List.length_append]
    have e : wordCells (l ++ [b]) = wordCells l ++ [.int .u64 (b : Int)] := by simp [wordCells]
    rw [e]
    exact h1
end Go.Proofs.YtgaddifabjoliaaDoor
