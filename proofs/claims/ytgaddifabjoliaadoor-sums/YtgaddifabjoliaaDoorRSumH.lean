import Derived.Test.YtgaddifabjoliaaDoorRSumM
import Derived.Deep.AppendLies
namespace Go.Proofs.YtgaddifabjoliaaDoor
open Go.RowKit

/-- The two boxes at the head of the frame: the shape and the roots. -/
structure SBase (sh rt : Array Value) (w wr : World) : Prop where
  below : Below w.heap.size w wr
  size : w.heap.size + 2 ≤ wr.heap.size
  m : wr.heap[w.heap.size]? = some (.cells sh 42)
  r : wr.heap[w.heap.size + 1]? = some (.cells rt 29)

theorem SBase.go {sh rt : Array Value} {w wr w1 : World} (h : SBase sh rt w wr) (hb : Below (w.heap.size + 2) wr w1) : SBase sh rt w w1 :=
  ⟨h.below.trans (hb.mono (by omega)), Nat.le_trans h.size hb.size, (hb.block _ (by omega)).trans h.m, (hb.block _ (by omega)).trans h.r⟩
theorem SBase.all {sh rt : Array Value} {w wr w1 : World} (h : SBase sh rt w wr) (hb : Below wr.heap.size wr w1) : SBase sh rt w w1 := h.go (hb.mono h.size)
theorem SBase.alloc {sh rt : Array Value} {w wr : World} (h : SBase sh rt w wr) (o : Obj) : SBase sh rt w (wr.alloc o) := h.all ((Below.refl _ _).alloc (Nat.le_refl _) _)
theorem sbase_start (sh rt : Array Value) (w : World) : SBase sh rt w ((w.alloc (.cells sh 42)).alloc (.cells rt 29)) :=
  ⟨((Below.refl _ _).alloc (Nat.le_refl _) _).alloc (by simp) _, by simp, (heap2 _ _ _).1, (heap2 _ _ _).2⟩

theorem OwnB.cells {B : Nat} {w : World} {v : Value} {acc : List UInt8} (h : OwnB B w v acc) : ∃ g cap, v = .slice (some ⟨g, 0, none⟩) acc.length cap ∧ B ≤ g ∧ g < w.heap.size ∧ ∀ j, j < acc.length → w.cell? ⟨g, j, none⟩ = some (.int .u8 ((acc.getD j 0).toNat : Nat)) := by
  obtain ⟨g, cap, cur, fz, rfl, h2, h3, h4, h5, h6, h7⟩ := h
  refine ⟨g, cap, rfl, h2, (Array.getElem?_eq_some_iff.1 h3).1, fun j hj => ?_⟩
  rw [cell_of_row w g j cur _ fz h3]
  have e : (cur.toList.take acc.length)[j]? = (Lib.byteCells acc)[j]? := by rw [h7]
  rw [List.getElem?_take_of_lt hj, Array.getElem?_toList] at e
  rw [e, Lib.byteCells, List.getElem?_map, List.getElem?_eq_getElem hj, List.getD_eq_getElem?_getD, List.getElem?_eq_getElem hj]
  rfl

/-- Bytes that were made by append alone. -/
def OwnY (B : Nat) (w : World) (v : Value) (acc : List UInt8) : Prop := w.ownsRow B 5 1 v acc.length (Lib.byteCells acc)
theorem ownY_nil (B : Nat) (w : World) : OwnY B w (.slice none 0 0) [] := ⟨rfl, Or.inl ⟨rfl, rfl⟩⟩
theorem OwnY.form {B : Nat} {w : World} {v : Value} {l : List UInt8} (h : OwnY B w v l) : ∃ o cap, v = .slice o l.length cap := by
  rcases h.2 with ⟨h1, h2⟩ | ⟨g, cap, cur, h1, _⟩
  · exact ⟨none, 0, by rw [h1, h2]⟩
  · exact ⟨_, cap, h1⟩
theorem OwnY.far {B : Nat} {w : World} {v : Value} {l : List UInt8} (h : OwnY B w v l) {g : Nat} (hg : v.ownBlock = some g) : B ≤ g ∧ g < w.heap.size := by
  rcases h.2 with ⟨h1, h2⟩ | ⟨g', cap, cur, h1, h2, h3, _⟩
  · subst h1; cases hg
  · subst h1
    cases hg
    exact ⟨h2, (Array.getElem?_eq_some_iff.1 h3).1⟩
theorem OwnY.all {B : Nat} {w w' : World} {v : Value} {l : List UInt8} (h : OwnY B w v l) (hb : Below w.heap.size w w') : OwnY B w' v l := by
  refine ⟨h.1, ?_⟩
  rcases h.2 with h1 | ⟨g, cap, cur, h1, h2, h3, h4⟩
  · exact Or.inl h1
  · exact Or.inr ⟨g, cap, cur, h1, h2, (hb.block g (Array.getElem?_eq_some_iff.1 h3).1).trans h3, h4⟩
theorem OwnY.ownB {B : Nat} {w : World} {v : Value} {l : List UInt8} (h : OwnY B w v l) (hl : 0 < l.length) : OwnB B w v l := by
  rcases h.2 with ⟨_, h2⟩ | ⟨g, cap, cur, h1, h2, h3, h4⟩
  · omega
  · subst h1
    exact ownB_of h
theorem wpList_append_y {ops : Array Oper} {rest : List Oper} {o : Oper} {a : Act} {w : World} {Q : Exit → Act → World → Prop} (hgd : o.guard = none) (s x : Operand)
    (hop : o.op = Op.call { callee := Callee.builtin Builtin.append, args := #[s, x], argTypes := #[45, 45] })
    (B : Nat) (v : Value) (l : List UInt8) (hs : a.eval s = v) (hown : OwnY B w v l) (ad : Addr) (b : Nat) (hb : b < 256) (hx : a.eval x = .slice (some ad) 1 1) (hc : ∀ (j : Nat) (u : Value), [Value.int .u8 (b : Int)][j]? = some u → w.cell? (ad.add j) = some u)
    (hlen : l.length < 2 ^ 40) (hB : B ≤ w.heap.size)
    (h : ∀ v' w', OwnY B w' v' (l ++ [UInt8.ofNat b]) → Below B w w' → wpList Tryd.prog ops Q rest (a.put o.dst v') w') : wpList Tryd.prog ops Q (o :: rest) a w := by
  obtain ⟨j0, hj, hy0, hy1, hy2⟩ := info_parts info_u8
  refine wpList_append_own_at w hgd s x 45 hop B 5 j0 (.int .u8 0) 1 1 Tryd.underlying45 hj hy0 hy1 hy2 rfl (by decide) v l.length (Lib.byteCells l) hs hown ad 1 1 [.int .u8 (b : Int)] hx rfl hc ?_ (by unfold maxLen; omega) (by omega) hB ?_
  · intro u hu; simp only [List.mem_singleton] at hu; subst hu; rfl
  · intro v' w' h1 h2 _ h4
    refine h v' w' ?_ ((Below.refl _ _).grown h2 hB (fun k hk => (hown.far hk).1))
    have e1 : ((UInt8.ofNat b).toNat : Nat) = b := by rw [UInt8.toNat_ofNat']; exact Nat.mod_eq_of_lt hb
    have e : Lib.byteCells (l ++ [UInt8.ofNat b]) = Lib.byteCells l ++ [.int .u8 (b : Int)] := by
      rw [Lib.byteCells_append]
      have : Lib.byteCells [UInt8.ofNat b] = [.int .u8 (b : Int)] := by simp only [Lib.byteCells, List.map_cons, List.map_nil, e1]
      rw [this]
    unfold OwnY
    rw [List.length_append, e]
    exact h1
theorem OwnN.grow {B C : Nat} {w w' : World} {v : Value} {l : List Nat} (h : OwnN B w v l) (hg : w.grownBy w' v.ownBlock) (hC : C ≤ B) (hCw : C ≤ w.heap.size) : Below C w w' :=
  (Below.refl _ _).grown hg hCw (fun _ hk => Nat.le_trans hC (h.far hk).1)
theorem OwnN.alloc {B : Nat} {w : World} {v : Value} {l : List Nat} (h : OwnN B w v l) (o : Obj) : OwnN B (w.alloc o) v l := h.all ((Below.refl _ _).alloc (Nat.le_refl _) _)
theorem OwnN.drew {B : Nat} {w : World} {v : Value} {l : List Nat} (h : OwnN B w v l) : OwnN B w.drew v l := h

theorem rounds_congr (M : Meas) (u v : List Nat) (s : St) : ∀ n, (∀ t, t < n → u.getD t 0 = v.getD t 0) → rounds M u s n = rounds M v s n
  | 0, _ => rfl
  | n + 1, h => by rw [rounds, rounds, rounds_congr M u v s n (fun t ht => h t (by omega)), h n (by omega)]
theorem mix_take (M : Meas) (s : St) (u : List Nat) : mix M s (u.take M.rounds) = mix M s u := by
  unfold mix
  rw [rounds_congr M _ u s M.rounds (fun t ht => take_getD u _ _ ht)]

def tLow32 (k : Int) : Nat × Nat × Nat := if k = 3 then (17, 19, 10) else (7, 18, 3)
theorem rmixlow32 (k : Int) (x : Nat) (w : World) (hk : k = 2 ∨ k = 3) (hx : x < 4294967296) :
    Calls Tryd.prog 25 #[.agg #[.int .i64 32, .int .i64 2, .int .i64 13, .int .i64 22, .int .i64 6, .int .i64 11, .int .i64 25, .int .i64 7, .int .i64 18, .int .i64 3, .int .i64 17, .int .i64 19, .int .i64 10, .int .u64 4294967295], .int .i64 k, .int .u64 x] w fun e w' => e = .returned (.int .u64 (low 32 (tLow32 k) x : Nat)) ∧ Below w.heap.size w w' := by
  rcases hk with rfl | rfl
  · exact rmix32_2 x w hx
  · exact rmix32_3 x w hx
def tLow64 (k : Int) : Nat × Nat × Nat := if k = 3 then (19, 61, 6) else (1, 8, 7)
theorem rmixlow64 (k : Int) (x : Nat) (w : World) (hk : k = 2 ∨ k = 3) (hx : x < 18446744073709551616) :
    Calls Tryd.prog 25 #[.agg #[.int .i64 64, .int .i64 28, .int .i64 34, .int .i64 39, .int .i64 14, .int .i64 18, .int .i64 41, .int .i64 1, .int .i64 8, .int .i64 7, .int .i64 19, .int .i64 61, .int .i64 6, .int .u64 18446744073709551615], .int .i64 k, .int .u64 x] w fun e w' => e = .returned (.int .u64 (low 64 (tLow64 k) x : Nat)) ∧ Below w.heap.size w w' := by
  rcases hk with rfl | rfl
  · exact rmix64_2 x w hx
  · exact rmix64_3 x w hx

theorem step_append_word {ops : Array Oper} {o : Oper} {a : Act} {w : World} {K : Act → World → Prop} {Q : Exit → Act → World → Prop} {E : Prop} (hgd : o.guard = none) (s x : Operand)
    (hop : o.op = Op.call { callee := Callee.builtin Builtin.append, args := #[s, x], argTypes := #[27, 27] })
    (B : Nat) (v : Value) (l : List Nat) (hs : a.eval s = v) (hown : OwnN B w v l) (ad : Addr) (b : Nat) (hx : a.eval x = .slice (some ad) 1 1) (hc : ∀ (j : Nat) (u : Value), [Value.int .u64 (b : Int)][j]? = some u → w.cell? (ad.add j) = some u)
    (hlen : l.length < 2 ^ 40) (hB : B ≤ w.heap.size)
    (h : ∀ g cap w', OwnN B w' (.slice (some ⟨g, 0, none⟩) (l.length + 1) cap) (l ++ [b]) → Below B w w' → K (a.put o.dst (.slice (some ⟨g, 0, none⟩) (l.length + 1) cap)) w') :
    if Region.wanted o (yielded ops a.tmps) = true then Oper.wp Tryd.prog o a w K Q else E := by
  obtain ⟨j0, hj, hy0, hy1, hy2⟩ := info_parts info_u64
  refine step_append_lies w hgd s x 27 hop B 40 j0 (.int .u64 0) 1 8 Tryd.underlying27 hj hy0 hy1 hy2 rfl (by decide) v l.length (wordCells l) hs hown ad 1 1 [.int .u64 (b : Int)] hx rfl hc ?_ (by decide) (by unfold maxLen; omega) (by omega) hB w.heap.size rfl ?_
  · intro u hu; simp only [List.mem_singleton] at hu; subst hu; rfl
  · intro g cap w' h1 h2 _ _
    refine h g cap w' ?_ (hown.grow h2 (Nat.le_refl _) hB)
    have e : wordCells (l ++ [b]) = wordCells l ++ [.int .u64 (b : Int)] := by simp [wordCells]
    unfold OwnN
    rw [List.length_append, e]
    exact h1
theorem one_word_drew (w : World) (v : Value) (t : TypeId) (n : Nat) (hn : w.heap.size = n) : ∀ (j : Nat) (u : Value), [v][j]? = some u → (w.alloc (.cells #[v] t)).drew.cell? ((⟨n, 0, none⟩ : Addr).add j) = some u := by
  subst hn; exact one_cell w v t
end Go.Proofs.YtgaddifabjoliaaDoor
