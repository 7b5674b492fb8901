import Derived.Test.YtgaddifabjoliaaGreatDoorSAfters
import Derived.Test.YtgaddifabjoliaaGreatDoorUntil
import Derived.Maps.AppendAt
import Derived.Laws.AppendOwnNone
namespace Go.Proofs.YtgaddifabjoliaaGreatDoor
open Go.RowKit

/-- Structs of k cells, one behind the other. -/
def Elems {α : Type} (k : Nat) (rep : Rep α) (F : Nat → Prop) (w : World) : List α → List (List Value) → Prop
  | [], [] => True
  | x :: xs, c :: cs => rep.rel F w x (.agg c.toArray) ∧ c.length = k ∧ Elems k rep F w xs cs
  | _, _ => False

theorem elems_anti {α : Type} {k : Nat} {rep : Rep α} {F F' : Nat → Prop} {w : World} (hF : ∀ i, F i → F' i) : ∀ {xs : List α} {cs : List (List Value)}, Elems k rep F w xs cs → Elems k rep F' w xs cs
  | [], [], _ => trivial
  | _x :: _xs, _c :: _cs, h => ⟨rep.anti h.1 hF, h.2.1, elems_anti hF h.2.2⟩
  | [], _ :: _, h => h.elim
  | _ :: _, [], h => h.elim
theorem elems_stays {α : Type} {k : Nat} {rep : Rep α} {F : Nat → Prop} {w w' : World} (ha : AboveF F w w') : ∀ {xs : List α} {cs : List (List Value)}, Elems k rep F w xs cs → Elems k rep F w' xs cs
  | [], [], _ => trivial
  | _x :: _xs, _c :: _cs, h => ⟨rep.stays h.1 ha, h.2.1, elems_stays ha h.2.2⟩
  | [], _ :: _, h => h.elim
  | _ :: _, [], h => h.elim
theorem elems_inside {α : Type} {k : Nat} {rep : Rep α} {F : Nat → Prop} {w : World} : ∀ {xs : List α} {cs : List (List Value)}, Elems k rep F w xs cs → Elems k rep (fun i => F i ∧ i < w.heap.size) w xs cs
  | [], [], _ => trivial
  | _x :: _xs, _c :: _cs, h => ⟨rep.inside h.1, h.2.1, elems_inside h.2.2⟩
  | [], _ :: _, h => h.elim
  | _ :: _, [], h => h.elim
theorem elems_append {α : Type} {k : Nat} {rep : Rep α} {F : Nat → Prop} {w : World} : ∀ {xs ys : List α} {cs ds : List (List Value)}, Elems k rep F w xs cs → Elems k rep F w ys ds → Elems k rep F w (xs ++ ys) (cs ++ ds)
  | [], _, [], _, _, h => h
  | _x :: _xs, _ys, _c :: _cs, _ds, h, h' => ⟨h.1, h.2.1, elems_append h.2.2 h'⟩
  | [], _, _ :: _, _, h, _ => h.elim
  | _ :: _, _, [], _, h, _ => h.elim
theorem elems_length {α : Type} {k : Nat} {rep : Rep α} {F : Nat → Prop} {w : World} : ∀ {xs : List α} {cs : List (List Value)}, Elems k rep F w xs cs → cs.length = xs.length ∧ cs.flatten.length = xs.length * k
  | [], [], _ => by simp
  | x :: xs, c :: cs, h => by
    have ih := elems_length h.2.2
    have h1 := h.2.1
    refine ⟨by simp [ih.1], ?_⟩
    rw [List.flatten_cons, List.length_append, h1, ih.2, List.length_cons, Nat.add_mul, Nat.one_mul, Nat.add_comm]
  | [], _ :: _, h => h.elim
  | _ :: _, [], h => h.elim

/-- A list of structs, in a row of its own; what the structs lead to lies elsewhere. -/
def repList {α : Type} (k : Nat) (T : TypeId) (N : Nat) (rep : Rep α) : Rep (List α) :=
  { rel := fun F w xs v => xs.length ≤ N ∧ ∃ cs F', (∀ i, F' i → F i) ∧ Elems k rep F' w xs cs ∧ w.ownsRow 0 T k v xs.length cs.flatten ∧ ∀ g, v.ownBlock = some g → F g ∧ ¬ F' g
    shape := fun _ => True
    anti := fun h hF => by
      obtain ⟨hN, cs, F', h1, h2, h3, h4⟩ := h
      exact ⟨hN, cs, F', fun i hi => hF i (h1 i hi), h2, h3, fun g hg => ⟨hF g (h4 g hg).1, (h4 g hg).2⟩⟩
    stays := fun h ha => by
      obtain ⟨hN, cs, F', h1, h2, h3, h4⟩ := h
      exact ⟨hN, cs, F', h1, elems_stays (ha.less h1) h2, owns_stays h3 (fun g hg hlt => ha.2 g (h4 g hg).1 hlt), h4⟩
    inside := fun h => by
      obtain ⟨hN, cs, F', h1, h2, h3, h4⟩ := h
      exact ⟨hN, cs, _, fun i hi => ⟨h1 i hi.1, hi.2⟩, elems_inside h2, h3, fun g hg => ⟨⟨(h4 g hg).1, (h3.lt g hg).2⟩, fun hx => (h4 g hg).2 hx.1⟩⟩ }

theorem until_list {α : Type} {k : Nat} {T : TypeId} {rep : Rep α} {W wr : World} {acc : List α} {cs : List (List Value)} {v : Value} (h : ∃ F, (∀ i, F i → W.heap.size ≤ i ∧ i < wr.heap.size) ∧ Elems k rep F wr acc cs ∧ ∀ g, v.ownBlock = some g → ¬ F g) (ho : wr.ownsRow W.heap.size T k v acc.length cs.flatten) {N : Nat} (hN : acc.length ≤ N) :
    (repList k T N rep).rel (From W.heap.size) wr acc v := by
  obtain ⟨F, h1, h2, h3⟩ := h
  exact ⟨hN, cs, F, fun i hi => (h1 i hi).1, h2, owns_anti ho (fun _ _ => Nat.zero_le _), fun g hg => ⟨(ho.lt g hg).1, h3 g hg⟩⟩

/-- What an append of one struct leaves of the others, and of itself. -/
theorem until_step {α : Type} {n : Nat} {T : TypeId} {rep : Rep α} {W wr w1 w2 : World} {acc : List α} {x : α} {cs : List (List Value)} {c : List Value} {v v' : Value} {o o' : Obj} {m : Nat} {zs : List Value}
    (h : ∃ F, (∀ i, F i → W.heap.size ≤ i ∧ i < wr.heap.size) ∧ Elems n rep F wr acc cs ∧ ∀ g, v.ownBlock = some g → ¬ F g) (hx : rep.rel (From wr.heap.size) w1 x (.agg c.toArray)) (hc : c.length = n)
    (b1 : Below wr.heap.size wr w1) (hW : W.heap.size ≤ wr.heap.size) (ho : wr.ownsRow W.heap.size T n v acc.length cs.flatten) (hg : ((w1.alloc o).alloc o').grownBy w2 v.ownBlock) (_ho' : w2.ownsRow W.heap.size T n v' m zs) (hv' : ∀ g, v'.ownBlock = some g → v.ownBlock = some g ∨ w1.heap.size ≤ g) :
    ∃ F, (∀ i, F i → W.heap.size ≤ i ∧ i < w2.heap.size) ∧ Elems n rep F w2 (acc ++ [x]) (cs ++ [c]) ∧ ∀ g, v'.ownBlock = some g → ¬ F g := by
  obtain ⟨F, h1, h2, h3⟩ := h
  have hs1 := b1.size
  have hs2 := hg.size
  simp at hs2
  have ab : ∀ G : Nat → Prop, (∀ i, G i → i < w1.heap.size ∧ v.ownBlock ≠ some i) → AboveF G w1 w2 := by
    intro G hG
    refine ⟨by omega, fun i hi hlt => ?_⟩
    rw [hg.block i (by simp; omega) (fun e => (hG i hi).2 e.symm), Below.heap_alloc _ _ _ (by simp; omega), Below.heap_alloc _ _ _ hlt]
  refine ⟨fun i => F i ∨ (wr.heap.size ≤ i ∧ i < w1.heap.size), ?_, ?_, ?_⟩
  · intro i hi
    rcases hi with hi | hi
    · have := h1 i hi; omega
    · omega
  · refine elems_append (elems_anti (fun i hi => Or.inl hi) ?_) ⟨?_, hc, trivial⟩
    · exact elems_stays (ab F (fun i hi => ⟨by have := h1 i hi; omega, fun e => h3 i e hi⟩)) (elems_stays (above_of_below b1) h2)
    · refine rep.anti (F := fun i => From wr.heap.size i ∧ i < w1.heap.size) (rep.stays (rep.inside hx) ?_) (fun i hi => Or.inr hi)
      refine ab _ (fun i hi => ⟨hi.2, fun e => ?_⟩)
      have h5 := (ho.lt i e).2
      have h6 : wr.heap.size ≤ i := hi.1
      omega
  · intro g hgv hF
    rcases hv' g hgv with e | e
    · rcases hF with hF | hF
      · exact h3 g e hF
      · have := (ho.lt g e).2; omega
    · rcases hF with hF | hF
      · have := h1 g hF; omega
      · omega

theorem cells_add (w : World) (l : List Value) (T : TypeId) : ∀ j u, l[j]? = some u → (w.alloc (.cells l.toArray T)).cell? ((⟨w.heap.size, 0, none⟩ : Addr).add j) = some u := by
  intro j u hj
  have e : (⟨w.heap.size, 0, none⟩ : Addr).add j = ⟨w.heap.size, j, none⟩ := by cases j <;> simp [Addr.add]
  rw [e, World.cell?_alloc_at _ _ _ _ rfl]
  simpa using hj

end Go.Proofs.YtgaddifabjoliaaGreatDoor
