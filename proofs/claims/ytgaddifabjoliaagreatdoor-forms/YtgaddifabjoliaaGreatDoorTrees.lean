import Derived.Test.YtgaddifabjoliaaGreatDoorSList
namespace Go.Proofs.YtgaddifabjoliaaGreatDoor
open Go.RowKit

/-! ### What JSON means: a leaf, or a list of trees, or of named trees -/
abbrev Leaf := Sum (Option Bool) (Sum Int Bytes)
abbrev Node (α : Type) := Sum Leaf (Sum (List α) (List (Bytes × α)))
def JT : Nat → Type
  | 0 => Leaf
  | d + 1 => Node (JT d)

/-- A leaf's struct. -/
def leafV : Leaf → Value
  | .inl none => .agg #[.int .i64 0, .int .i64 0, .string ⟨#[]⟩, .slice none 0 0, .slice none 0 0]
  | .inl (some false) => .agg #[.int .i64 1, .int .i64 0, .string ⟨#[]⟩, .slice none 0 0, .slice none 0 0]
  | .inl (some true) => .agg #[.int .i64 2, .int .i64 0, .string ⟨#[]⟩, .slice none 0 0, .slice none 0 0]
  | .inr (.inl n) => .agg #[.int .i64 3, .int .i64 n, .string ⟨#[]⟩, .slice none 0 0, .slice none 0 0]
  | .inr (.inr t) => .agg #[.int .i64 4, .int .i64 0, .string ⟨t.toArray⟩, .slice none 0 0, .slice none 0 0]

/-- Numbers are below 2^53 without their sign. -/
def okLeaf : Leaf → Prop
  | .inr (.inl n) => -9007199254740992 < n ∧ n < 9007199254740992
  | _ => True

def repNum : Rep Int := { rel := fun _ _ x v => v = .int .i64 x ∧ -9007199254740992 < x ∧ x < 9007199254740992, shape := fun _ => True, anti := fun h _ => h, stays := fun h _ => h, inside := fun h => h }
def repDig : Rep Int := { rel := fun _ _ x v => v = .int .i64 x ∧ 0 ≤ x ∧ x < 9007199254740992, shape := fun _ => True, anti := fun h _ => h, stays := fun h _ => h, inside := fun h => h }

def shape5 (v : Value) : Prop := ∃ k n t a l p a' l' p', v = .agg #[.int .i64 k, .int .i64 n, .string t, .slice a l p, .slice a' l' p']
def shape6 (v : Value) : Prop := ∃ s k n t a l p a' l' p', v = .agg #[.string s, .int .i64 k, .int .i64 n, .string t, .slice a l p, .slice a' l' p']

theorem leaf_shape (x : Leaf) : shape5 (leafV x) := by
  rcases x with (_ | (_ | _)) | _ | _ <;> exact ⟨_, _, _, _, _, _, _, _, _, rfl⟩

def repLeaf : Rep Leaf := { rel := fun _ _ x v => v = leafV x ∧ okLeaf x, shape := shape5, anti := fun h _ => h, stays := fun h _ => h, inside := fun h => h }

/-- A member: its name and its value. -/
def repM {α : Type} (rep : Rep α) : Rep (Bytes × α) :=
  { rel := fun F w x v => ∃ k n t a l p a' l' p', v = .agg #[.string ⟨x.1.toArray⟩, .int .i64 k, .int .i64 n, .string t, .slice a l p, .slice a' l' p'] ∧ rep.rel F w x.2 (.agg #[.int .i64 k, .int .i64 n, .string t, .slice a l p, .slice a' l' p'])
    shape := shape6
    anti := fun h hF => by
      obtain ⟨k, n, t, a, l, p, a', l', p', h1, h2⟩ := h
      exact ⟨k, n, t, a, l, p, a', l', p', h1, rep.anti h2 hF⟩
    stays := fun h ha => by
      obtain ⟨k, n, t, a, l, p, a', l', p', h1, h2⟩ := h
      exact ⟨k, n, t, a, l, p, a', l', p', h1, rep.stays h2 ha⟩
    inside := fun h => by
      obtain ⟨k, n, t, a, l, p, a', l', p', h1, h2⟩ := h
      exact ⟨k, n, t, a, l, p, a', l', p', h1, rep.inside h2⟩ }

abbrev repItems {α : Type} (rep : Rep α) : Rep (List α) := repList 5 30 4001 rep
abbrev repMembers {α : Type} (rep : Rep α) : Rep (List (Bytes × α)) := repList 6 77 4001 (repM rep)

/-- A value: a leaf, or a list, or an object. -/
def relNode {α : Type} (rep : Rep α) (F : Nat → Prop) (w : World) : Node α → Value → Prop
  | .inl x, v => v = leafV x ∧ okLeaf x
  | .inr (.inl xs), v => ∃ a l p, v = .agg #[.int .i64 5, .int .i64 0, .string ⟨#[]⟩, .slice a l p, .slice none 0 0] ∧ (repItems rep).rel F w xs (.slice a l p)
  | .inr (.inr ms), v => ∃ a l p, v = .agg #[.int .i64 6, .int .i64 0, .string ⟨#[]⟩, .slice none 0 0, .slice a l p] ∧ (repMembers rep).rel F w ms (.slice a l p)

def repNode {α : Type} (rep : Rep α) : Rep (Node α) :=
  { rel := relNode rep
    shape := shape5
    anti := fun {F F' w x v} h hF => by
      rcases x with x | xs | ms
      · exact h
      · obtain ⟨a, l, p, h1, h2⟩ := h
        exact ⟨a, l, p, h1, (repItems rep).anti h2 hF⟩
      · obtain ⟨a, l, p, h1, h2⟩ := h
        exact ⟨a, l, p, h1, (repMembers rep).anti h2 hF⟩
    stays := fun {F w w' x v} h ha => by
      rcases x with x | xs | ms
      · exact h
      · obtain ⟨a, l, p, h1, h2⟩ := h
        exact ⟨a, l, p, h1, (repItems rep).stays h2 ha⟩
      · obtain ⟨a, l, p, h1, h2⟩ := h
        exact ⟨a, l, p, h1, (repMembers rep).stays h2 ha⟩
    inside := fun {F w x v} h => by
      rcases x with x | xs | ms
      · exact h
      · obtain ⟨a, l, p, h1, h2⟩ := h
        exact ⟨a, l, p, h1, (repItems rep).inside h2⟩
      · obtain ⟨a, l, p, h1, h2⟩ := h
        exact ⟨a, l, p, h1, (repMembers rep).inside h2⟩ }

def repV : (d : Nat) → Rep (JT d)
  | 0 => repLeaf
  | d + 1 => repNode (repV d)

theorem fives_leaf : Fives repLeaf := fun _ _ x _ h => by
  have h' : _ = leafV x := h.1
  rw [h']
  exact leaf_shape x
theorem fives_node {α : Type} (rep : Rep α) : Fives (repNode rep) := by
  intro F w x v h
  rcases x with x | xs | ms
  · have h' : v = leafV x := h.1
    rw [h']
    exact leaf_shape x
  · obtain ⟨a, l, p, h1, _⟩ := h
    exact ⟨_, _, _, _, _, _, _, _, _, h1⟩
  · obtain ⟨a, l, p, h1, _⟩ := h
    exact ⟨_, _, _, _, _, _, _, _, _, h1⟩
theorem fives_v : ∀ d, Fives (repV d)
  | 0 => fives_leaf
  | _ + 1 => fives_node _
theorem fivesU_node {α : Type} (rep : Rep α) : FivesU (repNode rep) := fun _ h => h
theorem fivesU_leaf : FivesU repLeaf := fun _ h => h
theorem sixes_m {α : Type} (rep : Rep α) : Sixes (repM rep) := by
  intro F w x v h
  obtain ⟨k, n, t, a, l, p, a', l', p', h1, _⟩ := h
  exact ⟨_, k, n, t, a, l, p, a', l', p', h1⟩
theorem sixesU_m {α : Type} (rep : Rep α) : SixesU (repM rep) := fun _ h => h

/-! ### Small functions of the grammar -/
set_option maxHeartbeats 400000 in
theorem numberValue_makes (w : World) : Makes 22 #[] repNum repLeaf (fun n => some (.inr (.inl n))) w := by
  refine ⟨enters_of Tryz.func22 (by kernel_rfl) rfl, ?_⟩
  intro W B x v hW hB hx
  obtain ⟨rfl, hlo, hhi⟩ : v = .int .i64 x ∧ -9007199254740992 < x ∧ x < 9007199254740992 := hx
  have HB : Hid (-9007199254740992 < x ∧ x < 9007199254740992) := ⟨hlo, hhi⟩
  clear hlo hhi
  go_enter Tryz.func22, Tryz.ntmps22
  go_wp2
  refine bodyPost_ret (v := .tuple #[.agg #[.int .i64 3, .int .i64 x, .string ⟨#[]⟩, .slice none 0 0, .slice none 0 0], .bool true]) (by simp [results, Tryz.results22, go_sem]) rfl ?_
  exact ⟨((Below.refl _ _).alloc (Nat.le_refl _) _).mono hB, Or.inr ⟨_, _, rfl, ⟨rfl, unhide HB⟩, rfl⟩⟩

set_option maxHeartbeats 400000 in
theorem textValue_makes (w : World) : Makes 24 #[] repText repLeaf (fun t => some (.inr (.inr t))) w := by
  refine ⟨enters_of Tryz.func24 (by kernel_rfl) rfl, ?_⟩
  intro W B x v hW hB hx
  have hv : v = .string ⟨x.toArray⟩ := hx
  subst hv
  go_enter Tryz.func24, Tryz.ntmps24
  go_wp2
  refine bodyPost_ret (v := .tuple #[.agg #[.int .i64 4, .int .i64 0, .string ⟨x.toArray⟩, .slice none 0 0, .slice none 0 0], .bool true]) (by simp [results, Tryz.results24, go_sem]) rfl ?_
  exact ⟨((Below.refl _ _).alloc (Nat.le_refl _) _).mono hB, Or.inr ⟨_, _, rfl, ⟨rfl, trivial⟩, rfl⟩⟩

theorem slice_of {w : World} {B : Nat} {e : TypeId} {k n : Nat} {v : Value} {xs : List Value} (h : w.ownsRow B e k v n xs) : ∃ a l p, v = .slice a l p := by
  rcases h.2 with ⟨h1, _⟩ | ⟨g, cap, cur, h1, _⟩
  · exact ⟨_, _, _, h1⟩
  · exact ⟨_, _, _, h1⟩

set_option maxHeartbeats 400000 in
theorem arrayValue_makes {α : Type} (rep : Rep α) (w : World) : Makes 28 #[] (repItems rep) (repNode rep) (fun xs => some (.inr (.inl xs))) w := by
  refine ⟨enters_of Tryz.func28 (by kernel_rfl) rfl, ?_⟩
  intro W B x v hW hB hx
  obtain ⟨a, l, p, hv⟩ : ∃ a l p, v = .slice a l p := by
    obtain ⟨_, cs, F', _, _, h3, _⟩ := hx
    exact slice_of h3
  subst hv
  have HX := hide hx
  clear hx
  go_enter Tryz.func28, Tryz.ntmps28
  go_wp2
  refine bodyPost_ret (v := .tuple #[.agg #[.int .i64 5, .int .i64 0, .string ⟨#[]⟩, .slice a l p, .slice none 0 0], .bool true]) (by simp [results, Tryz.results28, go_sem]) rfl ?_
  refine ⟨((Below.refl _ _).alloc (Nat.le_refl _) _).mono hB, Or.inr ⟨_, _, rfl, ⟨a, l, p, rfl, ?_⟩, rfl⟩⟩
  exact (repItems rep).stays (unhide HX) (above_of_below ((Below.refl _ _).alloc (Nat.le_refl _) _))

set_option maxHeartbeats 400000 in
theorem member_joins {α : Type} (rep : Rep α) (h5 : Fives rep) (w : World) : Joins 89 #[] repText rep (repM rep) (fun name x => some (name, x)) w := by
  refine ⟨enters_of Tryz.func89 (by kernel_rfl) rfl, ?_⟩
  intro W B x v y u hW hB hx hy
  have hv : v = .string ⟨x.toArray⟩ := hx
  subst hv
  obtain ⟨k1, k2, k3, k4, k5, k6, k7, k8, k9, hu⟩ := h5 _ _ _ _ hy
  subst hu
  have HY := hide hy
  clear hx hy h5
  go_enter Tryz.func89, Tryz.ntmps89
  go_wp2
  refine bodyPost_ret (v := .tuple #[.agg #[.string ⟨x.toArray⟩, .int .i64 k1, .int .i64 k2, .string k3, .slice k4 k5 k6, .slice k7 k8 k9], .bool true]) (by simp [results, Tryz.results89, go_sem]) rfl ?_
  have bb := ((Below.refl _ W).alloc (Nat.le_refl _) (.cells #[.int .i64 k1, .int .i64 k2, .string k3, .slice k4 k5 k6, .slice k7 k8 k9] 30)).alloc (by simp) (.cells #[.string ⟨x.toArray⟩, .int .i64 k1, .int .i64 k2, .string k3, .slice k4 k5 k6, .slice k7 k8 k9] 77)
  refine ⟨bb.mono hB, Or.inr ⟨(x, y), _, rfl, ⟨k1, k2, k3, k4, k5, k6, k7, k8, k9, rfl, ?_⟩, rfl⟩⟩
  exact rep.stays (unhide HY) (above_of_below bb)

set_option maxHeartbeats 400000 in
theorem negative_makes (w : World) : Makes 65 #[] repDig repNum (fun n => if n = 0 then none else some (-n)) w := by
  refine ⟨enters_of Tryz.func65 (by kernel_rfl) rfl, ?_⟩
  intro W B x v hW hB hx
  obtain ⟨rfl, h0, h1⟩ : v = .int .i64 x ∧ 0 ≤ x ∧ x < 9007199254740992 := hx
  by_cases hz : x = 0
  · subst hz
    go_enter Tryz.func65, Tryz.ntmps65
    go_wp2
    go_ret2
    exact ⟨Below.refl _ _, Or.inl ⟨rfl, _, trivial, rfl⟩⟩
  · have hne : (x != 0) = true := by rw [bne_iff_ne]; exact hz
    have HZ := hide hz
    clear hz
    go_enter Tryz.func65, Tryz.ntmps65
    go_wp2
    go_ret2
    exact ⟨Below.refl _ _, Or.inr ⟨-x, _, by simp [], ⟨rfl, by omega, by omega⟩, rfl⟩⟩
end Go.Proofs.YtgaddifabjoliaaGreatDoor
