import Derived.Test.YtgaddifabjoliaaGreatDoorShelf
import Derived.WalkKit
import Derived.WalkSpells
import Derived.WalkLawsBesides
namespace Go.Proofs.YtgaddifabjoliaaGreatDoor
open Go.RowKit

theorem hide {p : Prop} (h : p) : Hid p := h
theorem unhide {p : Prop} (h : Hid p) : p := h

theorem drewB {w : World} : Below w.heap.size w w.drew := (Below.refl _ _).drew
theorem up {w a b : World} (h : Below w.heap.size w a) (k : Below a.heap.size a b) : Below w.heap.size w b := h.trans (k.mono h.size)

abbrev Bytes := List UInt8

/-- The blocks of F that lay are not turned. -/
def AboveF (F : Nat → Prop) (w w' : World) : Prop := w.heap.size ≤ w'.heap.size ∧ ∀ k, F k → k < w.heap.size → w'.heap[k]? = w.heap[k]?
/-- The blocks from B on. -/
def From (B : Nat) : Nat → Prop := fun k => B ≤ k
/-- From block B on nothing that lay is turned. -/
abbrev Above (B : Nat) (w w' : World) : Prop := AboveF (From B) w w'

theorem above_of_below {F : Nat → Prop} {w w' : World} (h : Below w.heap.size w w') : AboveF F w w' := ⟨h.size, fun k _ hk => h.block k hk⟩
theorem AboveF.refl (F : Nat → Prop) (w : World) : AboveF F w w := ⟨Nat.le_refl _, fun _ _ _ => rfl⟩
theorem AboveF.trans {F : Nat → Prop} {a b c : World} (h : AboveF F a b) (k : AboveF F b c) : AboveF F a c :=
  ⟨Nat.le_trans h.1 k.1, fun i h1 h2 => (k.2 i h1 (Nat.lt_of_lt_of_le h2 h.1)).trans (h.2 i h1 h2)⟩
theorem AboveF.less {F F' : Nat → Prop} {w w' : World} (h : AboveF F w w') (hF : ∀ k, F' k → F k) : AboveF F' w w' := ⟨h.1, fun k h1 h2 => h.2 k (hF k h1) h2⟩
theorem AboveF.setCell {F : Nat → Prop} {a w : World} (h : AboveF F a w) {p : Addr} (hp : ¬ F p.block) (u : Value) : AboveF F a (w.setCell p u) := by
  refine h.trans ⟨by simp, fun k h1 _ => ?_⟩
  exact Below.heap_setCell w p u k (fun e => hp (e ▸ h1))
theorem AboveF.alloc {F : Nat → Prop} {a w : World} (h : AboveF F a w) (o : Obj) : AboveF F a (w.alloc o) :=
  h.trans (above_of_below ((Below.refl _ w).alloc (Nat.le_refl _) o))
theorem Above.refl (B : Nat) (w : World) : Above B w w := AboveF.refl _ w
theorem grow {W w : World} (h : Below W.heap.size W w) (o : Obj) : Below W.heap.size W (w.alloc o) := h.alloc h.size o

/-- How something stands as a value in a world: its rows lie in blocks of F. -/
structure Rep (α : Type) where
  rel : (Nat → Prop) → World → α → Value → Prop
  shape : Value → Prop
  anti : ∀ {F F' : Nat → Prop} {w : World} {x : α} {v : Value}, rel F w x v → (∀ k, F k → F' k) → rel F' w x v
  stays : ∀ {F : Nat → Prop} {w w' : World} {x : α} {v : Value}, rel F w x v → AboveF F w w' → rel F w' x v
  inside : ∀ {F : Nat → Prop} {w : World} {x : α} {v : Value}, rel F w x v → rel (fun k => F k ∧ k < w.heap.size) w x v

theorem Rep.antiB {α : Type} (rep : Rep α) {B B' : Nat} {w : World} {x : α} {v : Value} (h : rep.rel (From B) w x v) (hB : B' ≤ B) : rep.rel (From B') w x v :=
  rep.anti h fun _ hk => Nat.le_trans hB hk

/-! ### What readers mean -/
def wordR {α : Type} (text : Bytes) (x : α) (s : Bytes) : Option (α × Bytes) := if text.isPrefixOf s then some (x, s.drop text.length) else none

def oneOfR {α : Type} : List (Bytes → Option (α × Bytes)) → Bytes → Option (α × Bytes)
  | [], _ => none
  | R :: l, s => match R s with
    | some y => some y
    | none => oneOfR l s

def changedR {α β : Type} (R : Bytes → Option (α × Bytes)) (f : α → Option β) (s : Bytes) : Option (β × Bytes) :=
  match R s with
  | none => none
  | some (x, r) => match f x with
    | none => none
    | some y => some (y, r)

def bothR {α β γ : Type} (R : Bytes → Option (α × Bytes)) (S : Bytes → Option (β × Bytes)) (f : α → β → Option γ) (s : Bytes) : Option (γ × Bytes) :=
  match R s with
  | none => none
  | some (x, r) => match S r with
    | none => none
    | some (y, q) => match f x y with
      | none => none
      | some z => some (z, q)

def afterR {α : Type} (text : Bytes) (R : Bytes → Option (α × Bytes)) (s : Bytes) : Option (α × Bytes) := if text.isPrefixOf s then R (s.drop text.length) else none

def isBlank (c : UInt8) : Bool := c == 32 || c == 9 || c == 10 || c == 13
def skipB (s : Bytes) : Bytes := s.dropWhile isBlank

def paddedR {α : Type} (R : Bytes → Option (α × Bytes)) (s : Bytes) : Option (α × Bytes) :=
  match R (skipB s) with
  | none => none
  | some (x, r) => some (x, skipB r)

def untilR {α : Type} (shut : Bytes) (R : Bytes → Option (α × Bytes)) : Nat → Bytes → Option (List α × Bytes)
  | 0, _ => none
  | n + 1, s => if shut.isPrefixOf s then some ([], s.drop shut.length) else
    match R s with
    | none => none
    | some (x, r) => match untilR shut R n r with
      | none => none
      | some (l, q) => some (x :: l, q)

/-- A reader never lengthens a text; a strict one shortens it. -/
def Shrinks {α : Type} (R : Bytes → Option (α × Bytes)) : Prop := ∀ s x r, R s = some (x, r) → r.length ≤ s.length
def Strict {α : Type} (R : Bytes → Option (α × Bytes)) : Prop := ∀ s x r, R s = some (x, r) → r.length < s.length

/-! ### A function value of the program that reads so -/
def Enters (g : Nat) : Prop := ∀ args w, (callFunc g args).run Tryz.prog w = .ok (.enter g args) w

/-- How a reader answers. -/
def Got {α : Type} (rep : Rep α) (z : Value) (y : Option (α × Bytes)) (W : World) (e : Ending) (w' : World) : Prop :=
  Below W.heap.size W w' ∧
    ((y = none ∧ e = .returned (.tuple #[z, .string ⟨#[]⟩, .bool false])) ∨
     ∃ x r v, y = some (x, r) ∧ rep.rel (From W.heap.size) w' x v ∧ e = .returned (.tuple #[v, .string ⟨r.toArray⟩, .bool true]))

/-- The same, as one tuple. -/
def WasGot {α : Type} (rep : Rep α) (z : Value) (y : Option (α × Bytes)) (B : Nat) (w' : World) (v : Value) (r : ByteArray) (ok : Bool) : Prop :=
  (y = none ∧ v = z ∧ r = ⟨#[]⟩ ∧ ok = false) ∨ ∃ x q, y = some (x, q) ∧ rep.rel (From B) w' x v ∧ r = ⟨q.toArray⟩ ∧ ok = true

theorem Got.one {α : Type} {rep : Rep α} {z : Value} {y : Option (α × Bytes)} {W : World} {e : Ending} {w' : World} (h : Got rep z y W e w') :
    ∃ v r ok, e = .returned (.tuple #[v, .string r, .bool ok]) ∧ Below W.heap.size W w' ∧ WasGot rep z y W.heap.size w' v r ok := by
  obtain ⟨hb, ⟨hy, rfl⟩ | ⟨x, r, v, hy, hr, rfl⟩⟩ := h
  · exact ⟨_, _, _, rfl, hb, Or.inl ⟨hy, rfl, rfl, rfl⟩⟩
  · exact ⟨_, _, _, rfl, hb, Or.inr ⟨x, r, hy, hr, rfl, rfl⟩⟩

/-- How one answers that makes something else of it. -/
def Made {β : Type} (rep : Rep β) (y : Option β) (B : Nat) (W : World) (e : Ending) (w' : World) : Prop :=
  Below B W w' ∧
    ((y = none ∧ ∃ u, rep.shape u ∧ e = .returned (.tuple #[u, .bool false])) ∨
     ∃ x u, y = some x ∧ rep.rel (From B) w' x u ∧ e = .returned (.tuple #[u, .bool true]))

/-- Called at a text of at most 4000 bytes in whatever later world: what R says; nothing that lay is turned. -/
def Reads {α : Type} (g : Nat) (lb : Array Value) (rep : Rep α) (z : Value) (R : Bytes → Option (α × Bytes)) (w : World) : Prop :=
  Enters g ∧ Shrinks R ∧ ∀ (W : World) (s : ByteArray), Below w.heap.size w W → s.size ≤ 4000 →
    Calls Tryz.prog g (#[.string s] ++ lb) W fun e w' => Got rep z (R s.data.toList) W e w'

theorem Reads.later {α : Type} {g : Nat} {lb : Array Value} {rep : Rep α} {z : Value} {R : Bytes → Option (α × Bytes)} {w w' : World} (h : Reads g lb rep z R w) (hb : Below w.heap.size w w') : Reads g lb rep z R w' :=
  ⟨h.1, h.2.1, fun W s hW hs => h.2.2 W s (up hb hW) hs⟩

/-- A function value that makes something else of what was read, or refuses it. -/
def Makes {α β : Type} (g : Nat) (lb : Array Value) (repA : Rep α) (repB : Rep β) (f : α → Option β) (w : World) : Prop :=
  Enters g ∧ ∀ (W : World) (B : Nat) (x : α) (v : Value), Below w.heap.size w W → B ≤ W.heap.size → repA.rel (From B) W x v →
    Calls Tryz.prog g (#[v] ++ lb) W fun e w' => Made repB (f x) B W e w'

theorem Makes.later {α β : Type} {g : Nat} {lb : Array Value} {repA : Rep α} {repB : Rep β} {f : α → Option β} {w w' : World} (h : Makes g lb repA repB f w) (hb : Below w.heap.size w w') : Makes g lb repA repB f w' :=
  ⟨h.1, fun W B x v hW hB hx => h.2 W B x v (up hb hW) hB hx⟩

def Joins {α β γ : Type} (g : Nat) (lb : Array Value) (repA : Rep α) (repB : Rep β) (repC : Rep γ) (f : α → β → Option γ) (w : World) : Prop :=
  Enters g ∧ ∀ (W : World) (B : Nat) (x : α) (v : Value) (y : β) (u : Value), Below w.heap.size w W → B ≤ W.heap.size → repA.rel (From B) W x v → repB.rel (From B) W y u →
    Calls Tryz.prog g (#[v, u] ++ lb) W fun e w' => Made repC (f x y) B W e w'

theorem Joins.later {α β γ : Type} {g : Nat} {lb : Array Value} {repA : Rep α} {repB : Rep β} {repC : Rep γ} {f : α → β → Option γ} {w w' : World} (h : Joins g lb repA repB repC f w) (hb : Below w.heap.size w w') : Joins g lb repA repB repC f w' :=
  ⟨h.1, fun W B x v y u hW hB hx hy => h.2 W B x v y u (up hb hW) hB hx hy⟩

def repI32 : Rep Int := { rel := fun _ _ x v => v = .int .i32 x, shape := fun _ => True, anti := fun h _ => h, stays := fun h _ => h, inside := fun h => h }
def repI64 : Rep Int := { rel := fun _ _ x v => v = .int .i64 x, shape := fun _ => True, anti := fun h _ => h, stays := fun h _ => h, inside := fun h => h }
def repText : Rep Bytes := { rel := fun _ _ x v => v = .string ⟨x.toArray⟩, shape := fun _ => True, anti := fun h _ => h, stays := fun h _ => h, inside := fun h => h }

/-! ### Small facts -/
theorem cut_hit (s p : Bytes) (h : p.isPrefixOf s = true) : Lib.trimPrefix s p = s.drop p.length ∧ Lib.hasPrefix s p = true := by
  refine ⟨?_, h⟩
  unfold Lib.trimPrefix Lib.hasPrefix
  rw [if_pos h]
theorem cut_miss (s p : Bytes) (h : p.isPrefixOf s = false) : Lib.trimPrefix s p = s ∧ Lib.hasPrefix s p = false := by
  refine ⟨?_, h⟩
  unfold Lib.trimPrefix Lib.hasPrefix
  rw [if_neg (by simp [h])]

theorem text_eq {x : ByteArray} {l : Bytes} (h : x.data.toList = l) : (⟨l.toArray⟩ : ByteArray) = x := by
  subst h; rfl
theorem text_size {x : ByteArray} {l : Bytes} (h : x.data.toList = l) : x.size = l.length := by
  subst h; rw [Array.length_toList]; rfl

/-- strings.CutPrefix, where the text begins so, and where it doesn't. -/
theorem cutPrefix_hit (s p r : ByteArray) (w : World) (h : p.data.toList.isPrefixOf s.data.toList = true) (hr : r.data.toList = s.data.toList.drop p.data.toList.length) :
    Calls Tryz.prog 59 #[.string s, .string p] w fun e w' => e = .returned (.tuple #[.string r, .bool true]) ∧ w' = w := by
  have h1 := Tryz.strings_CutPrefix s p w
  rw [(cut_hit _ _ h).1, (cut_hit _ _ h).2, text_eq hr] at h1
  exact h1
theorem cutPrefix_miss (s p : ByteArray) (w : World) (h : p.data.toList.isPrefixOf s.data.toList = false) :
    Calls Tryz.prog 59 #[.string s, .string p] w fun e w' => e = .returned (.tuple #[.string s, .bool false]) ∧ w' = w := by
  have h1 := Tryz.strings_CutPrefix s p w
  rw [(cut_miss _ _ h).1, (cut_miss _ _ h).2] at h1
  exact h1

theorem shrinks_word {α : Type} (text : Bytes) (x : α) : Shrinks (wordR text x) := by
  intro s y r h
  unfold wordR at h
  split at h
  · simp at h; obtain ⟨_, rfl⟩ := h; simp
  · simp at h
theorem shrinks_after {α : Type} (text : Bytes) {R : Bytes → Option (α × Bytes)} (hR : Shrinks R) : Shrinks (afterR text R) := by
  intro s y r h
  unfold afterR at h
  split at h
  · have := hR _ _ _ h; simp at this; omega
  · simp at h
theorem shrinks_oneOf {α : Type} : ∀ (l : List (Bytes → Option (α × Bytes))), (∀ R ∈ l, Shrinks R) → Shrinks (oneOfR l)
  | [], _ => by intro s y r h; simp [oneOfR] at h
  | R :: l, hl => by
    intro s y r h
    unfold oneOfR at h
    cases hR : R s with
    | none => rw [hR] at h; exact shrinks_oneOf l (fun S hS => hl S (by simp [hS])) s y r h
    | some z => rw [hR] at h; simp at h; subst h; exact hl R (by simp) s _ _ hR
theorem shrinks_changed {α β : Type} {R : Bytes → Option (α × Bytes)} (f : α → Option β) (hR : Shrinks R) : Shrinks (changedR R f) := by
  intro s y r h
  unfold changedR at h
  cases h1 : R s with
  | none => rw [h1] at h; simp at h
  | some z =>
    obtain ⟨x, q⟩ := z
    rw [h1] at h
    cases h2 : f x with
    | none => simp [h2] at h
    | some u => simp [h2] at h; obtain ⟨_, rfl⟩ := h; exact hR _ _ _ h1
theorem shrinks_both {α β γ : Type} {R : Bytes → Option (α × Bytes)} {S : Bytes → Option (β × Bytes)} (f : α → β → Option γ) (hR : Shrinks R) (hS : Shrinks S) : Shrinks (bothR R S f) := by
  intro s y r h
  unfold bothR at h
  cases h1 : R s with
  | none => rw [h1] at h; simp at h
  | some z =>
    obtain ⟨x, q⟩ := z
    rw [h1] at h
    simp only at h
    cases h2 : S q with
    | none => simp [h2] at h
    | some t =>
      obtain ⟨u, q2⟩ := t
      rw [h2] at h
      simp only at h
      cases h3 : f x u with
      | none => simp [h3] at h
      | some v => simp [h3] at h; obtain ⟨_, rfl⟩ := h; have := hR _ _ _ h1; have := hS _ _ _ h2; omega
theorem skipB_length (s : Bytes) : (skipB s).length ≤ s.length := by
  unfold skipB
  exact (List.dropWhile_sublist _).length_le
theorem shrinks_padded {α : Type} {R : Bytes → Option (α × Bytes)} (hR : Shrinks R) : Shrinks (paddedR R) := by
  intro s y r h
  unfold paddedR at h
  cases h1 : R (skipB s) with
  | none => rw [h1] at h; simp at h
  | some z =>
    obtain ⟨x, q⟩ := z
    rw [h1] at h
    simp at h
    obtain ⟨_, rfl⟩ := h
    have a := hR _ _ _ h1
    have b := skipB_length s
    have c := skipB_length q
    omega
theorem shrinks_until {α : Type} (shut : Bytes) {R : Bytes → Option (α × Bytes)} (hR : Shrinks R) : ∀ n, Shrinks (untilR shut R n)
  | 0 => by intro s y r h; simp [untilR] at h
  | n + 1 => by
    intro s y r h
    unfold untilR at h
    split at h
    · simp at h; obtain ⟨_, rfl⟩ := h; simp
    · cases h1 : R s with
      | none => rw [h1] at h; simp at h
      | some z =>
        obtain ⟨x, q⟩ := z
        rw [h1] at h
        simp only at h
        cases h2 : untilR shut R n q with
        | none => simp [h2] at h
        | some t =>
          obtain ⟨l, q2⟩ := t
          simp [h2] at h
          obtain ⟨_, rfl⟩ := h
          have a := hR _ _ _ h1
          have b := shrinks_until shut hR n _ _ _ h2
          omega
end Go.Proofs.YtgaddifabjoliaaGreatDoor
