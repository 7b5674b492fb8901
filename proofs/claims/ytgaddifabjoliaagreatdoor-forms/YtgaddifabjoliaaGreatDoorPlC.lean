import Derived.Test.YtgaddifabjoliaaGreatDoorPlB
namespace Go.Proofs.YtgaddifabjoliaaGreatDoor

/-! ### One bracket more -/
def upN' {α β : Type} (u : α → β) : Node α → Node β
  | .inl x => .inl x
  | .inr (.inl xs) => .inr (.inl (xs.map u))
  | .inr (.inr ms) => .inr (.inr (ms.map fun m => (m.1, u m.2)))
def upJ : (d : Nat) → JT d → JT (d + 1)
  | 0 => fun x => (Sum.inl x : Node Leaf)
  | d + 1 => upN' (upJ d)

def Lifts {α β : Type} (u : α → β) (R : Bytes → Option (α × Bytes)) (S : Bytes → Option (β × Bytes)) : Prop := ∀ s y r, R s = some (y, r) → S s = some (u y, r)

theorem lifts_padded {α β : Type} {u : α → β} {R : Bytes → Option (α × Bytes)} {S : Bytes → Option (β × Bytes)} (h : Lifts u R S) : Lifts u (paddedR R) (paddedR S) := by
  intro s y r hs
  unfold paddedR at hs ⊢
  cases hR : R (skipB s) with
  | none => rw [hR] at hs; cases hs
  | some p =>
    obtain ⟨x, r0⟩ := p
    rw [hR] at hs
    simp only [Option.some.injEq, Prod.mk.injEq] at hs
    rw [h _ _ _ hR]
    simp only [hs.1, hs.2]
theorem lifts_after {α β : Type} {u : α → β} {t : Bytes} {R : Bytes → Option (α × Bytes)} {S : Bytes → Option (β × Bytes)} (h : Lifts u R S) : Lifts u (afterR t R) (afterR t S) := by
  intro s y r hs
  unfold afterR at hs ⊢
  split at hs
  · rename_i hp
    rw [if_pos hp]
    exact h _ _ _ hs
  · cases hs
theorem lifts_until {α β : Type} {u : α → β} {t : Bytes} {R : Bytes → Option (α × Bytes)} {S : Bytes → Option (β × Bytes)} (h : Lifts u R S) : ∀ n, Lifts (List.map u) (untilR t R n) (untilR t S n)
  | 0 => fun _ _ _ hs => by cases hs
  | n + 1 => by
    intro s l r hs
    rw [untilR] at hs ⊢
    split at hs
    · rename_i hp
      simp only [Option.some.injEq, Prod.mk.injEq] at hs
      rw [if_pos hp, ← hs.1, ← hs.2]
      rfl
    · rename_i hp
      rw [if_neg hp]
      cases hR : R s with
      | none => rw [hR] at hs; cases hs
      | some p =>
        obtain ⟨x, r1⟩ := p
        rw [hR] at hs
        simp only at hs
        cases hu : untilR t R n r1 with
        | none => rw [hu] at hs; cases hs
        | some p2 =>
          obtain ⟨l2, r2⟩ := p2
          rw [hu] at hs
          simp only [Option.some.injEq, Prod.mk.injEq] at hs
          rw [h _ _ _ hR]
          simp only [lifts_until h n _ _ _ hu]
          rw [← hs.1, ← hs.2]
          rfl
theorem lifts_list {α β : Type} {u : α → β} {o c : Bytes} {R : Bytes → Option (α × Bytes)} {S : Bytes → Option (β × Bytes)} (h : Lifts u R S) : Lifts (List.map u) (listR o c R) (listR o c S) := by
  refine lifts_after ?_
  intro s l r hs
  rw [oneOfR] at hs ⊢
  have same : ∀ y, paddedR (wordR c ([] : List α)) s = some y → y.1 = [] ∧ paddedR (wordR c ([] : List β)) s = some ([], y.2) := fun y hy => by
    unfold paddedR wordR at hy ⊢
    split at hy
    · cases hy
    · rename_i p r0 hw
      split at hw
      · rename_i hp
        rw [if_pos hp]
        simp only [Option.some.injEq, Prod.mk.injEq] at hw hy
        subst hy
        simp only [← hw.1, hw.2, and_self]
      · cases hw
  have none' : paddedR (wordR c ([] : List α)) s = none → paddedR (wordR c ([] : List β)) s = none := fun hy => by
    unfold paddedR wordR at hy ⊢
    by_cases hp : c.isPrefixOf (skipB s) = true
    · rw [if_pos hp] at hy; cases hy
    · rw [if_neg hp]
  cases h1 : paddedR (wordR c ([] : List α)) s with
  | some y =>
    rw [h1] at hs
    simp only [Option.some.injEq] at hs
    obtain ⟨e1, e2⟩ := same y h1
    rw [e2]
    subst hs
    simp only at e1
    rw [e1]
    rfl
  | none =>
    rw [h1] at hs
    rw [none' h1]
    simp only [oneOfR] at hs ⊢
    unfold bothR at hs ⊢
    cases hR : R s with
    | none => rw [hR] at hs; cases hs
    | some p =>
      obtain ⟨x, r1⟩ := p
      rw [hR] at hs
      simp only at hs
      cases hu : untilF c (afterR [44] R) r1 with
      | none => rw [hu] at hs; cases hs
      | some p2 =>
        obtain ⟨l2, r2⟩ := p2
        rw [hu] at hs
        simp only [Option.some.injEq, Prod.mk.injEq] at hs
        have hu2 : untilF c (afterR [44] S) r1 = some (l2.map u, r2) := lifts_until (lifts_after h) _ _ _ _ hu
        rw [h _ _ _ hR]
        simp only [hu2]
        rw [← hs.1, ← hs.2]
        rfl
theorem lifts_member {α β : Type} {u : α → β} {N : Bytes → Option (Bytes × Bytes)} {R : Bytes → Option (α × Bytes)} {S : Bytes → Option (β × Bytes)} (h : Lifts u R S) : Lifts (fun m : Named α => ((m.1, u m.2) : Named β)) (memberR N R) (memberR N S) := by
  intro s m r hs
  unfold memberR bothR at hs ⊢
  cases hN : paddedR N s with
  | none => rw [hN] at hs; cases hs
  | some p =>
    obtain ⟨n, r1⟩ := p
    rw [hN] at hs
    simp only at hs ⊢
    cases hR : afterR [58] R r1 with
    | none => rw [hR] at hs; cases hs
    | some p2 =>
      obtain ⟨x, r2⟩ := p2
      rw [hR] at hs
      simp only [Option.some.injEq, Prod.mk.injEq] at hs
      rw [lifts_after h _ _ _ hR]
      simp only [← hs.1, ← hs.2]

theorem once_map {α β : Type} (u : α → β) (ms : List (Named α)) : Once (ms.map fun m => ((m.1, u m.2) : Named β)) ↔ Once ms := by
  unfold Once
  rw [List.map_map]
  rfl
theorem byName_map {α β : Type} (u : α → β) (ms : List (Named α)) : byName (ms.map fun m => ((m.1, u m.2) : Named β)) = (byName ms).map fun m => (m.1, u m.2) := by
  unfold byName
  rw [List.map_mergeSort]
  intro a _ b _
  rfl
theorem objF_map {α β : Type} (u : α → β) (ms : List (Named α)) (x : Node α) (h : objF ms = some x) : objF (ms.map fun m => ((m.1, u m.2) : Named β)) = some (upN' u x) := by
  unfold objF at h ⊢
  split at h
  · rename_i ho
    rw [if_pos ((once_map u ms).2 ho), byName_map]
    simp only [Option.some.injEq] at h
    rw [← h]
    rfl
  · cases h

theorem lifts_node {α β : Type} {u : α → β} {R : Bytes → Option (α × Bytes)} {S : Bytes → Option (β × Bytes)} (h : Lifts u R S) : Lifts (upN' u) (nodeR R) (nodeR S) := by
  intro s x r hs
  unfold nodeR at hs ⊢
  rw [oneOfR] at hs ⊢
  cases h1 : simpleR s with
  | some y =>
    have e1 : mapR (Sum.inl : Leaf → Node α) simpleR s = some (Sum.inl y.1, y.2) := by unfold mapR; rw [h1]; rfl
    have e2 : mapR (Sum.inl : Leaf → Node β) simpleR s = some (Sum.inl y.1, y.2) := by unfold mapR; rw [h1]; rfl
    rw [e1] at hs
    rw [e2]
    simp only [Option.some.injEq, Prod.mk.injEq] at hs ⊢
    rw [← hs.1, ← hs.2]
    exact ⟨rfl, rfl⟩
  | none =>
    have e1 : mapR (Sum.inl : Leaf → Node α) simpleR s = none := by unfold mapR; rw [h1]; rfl
    have e2 : mapR (Sum.inl : Leaf → Node β) simpleR s = none := by unfold mapR; rw [h1]; rfl
    rw [e1] at hs
    rw [e2]
    simp only at hs ⊢
    rw [oneOfR] at hs ⊢
    cases h2 : arrayR R s with
    | some y =>
      rw [h2] at hs
      simp only [Option.some.injEq] at hs
      subst hs
      have e3 : arrayR S s = some (upN' u x, r) := by
        unfold arrayR changedR at h2 ⊢
        cases hl : listR [91] [93] R s with
        | none => rw [hl] at h2; cases h2
        | some p =>
          obtain ⟨xs, r0⟩ := p
          rw [hl] at h2
          simp only [Option.some.injEq, Prod.mk.injEq] at h2
          rw [lifts_list h _ _ _ hl]
          simp only [← h2.1, ← h2.2]
          rfl
      rw [e3]
    | none =>
      rw [h2] at hs
      simp only at hs
      rw [oneOfR] at hs
      cases h3 : objectR R s with
      | none => rw [h3] at hs; cases hs
      | some y =>
        rw [h3] at hs
        simp only [Option.some.injEq] at hs
        subst hs
        have hb : ∃ t, s = 123 :: t := by
          obtain ⟨p, hp⟩ := changed_some h3
          exact after_some hp
        obtain ⟨t, rfl⟩ := hb
        have e3 : arrayR S (123 :: t) = none := by
          unfold arrayR changedR listR
          rw [after_none 91 _ 123 _ (by decide)]
        have e4 : objectR S (123 :: t) = some (upN' u x, r) := by
          unfold objectR changedR at h3 ⊢
          cases hl : listR [123] [125] (memberR quotedR R) (123 :: t) with
          | none => rw [hl] at h3; cases h3
          | some p =>
            obtain ⟨ms, r0⟩ := p
            rw [hl] at h3
            simp only at h3
            cases ho : objF ms with
            | none => rw [ho] at h3; cases h3
            | some z =>
              rw [ho] at h3
              simp only [Option.some.injEq, Prod.mk.injEq] at h3
              rw [lifts_list (lifts_member h) _ _ _ hl]
              simp only [objF_map u ms z ho, ← h3.1, ← h3.2]
        rw [e3]
        simp only [oneOfR, e4]

theorem lifts_val : ∀ d, Lifts (upJ d) (valR d) (valR (d + 1))
  | 0 => by
    refine lifts_padded ?_
    intro s y r hs
    show nodeR (valR 0) s = some (Sum.inl y, r)
    unfold nodeR mapR
    rw [oneOfR, hs]
    rfl
  | d + 1 => lifts_padded (lifts_node (lifts_val d))

theorem up_form : ∀ (d : Nat) (x : JT d), formF (d + 1) (upJ d x) = formF d x
  | 0, _ => rfl
  | d + 1, x => by
    match x with
    | .inl y => rfl
    | .inr (.inl xs) =>
      show listF (formF (d + 1)) (xs.map (upJ d)) = listF (formF d) xs
      unfold listF
      rw [List.map_map]
      congr 4
      funext y
      exact up_form d y
    | .inr (.inr ms) =>
      show objectF (formF (d + 1)) (ms.map fun m => (m.1, upJ d m.2)) = objectF (formF d) ms
      unfold objectF
      rw [List.map_map]
      congr 4
      funext m
      show pairF (formF (d + 1)) (m.1, upJ d m.2) = pairF (formF d) m
      unfold pairF
      rw [up_form d m.2]
end Go.Proofs.YtgaddifabjoliaaGreatDoor

namespace Go.Proofs.YtgaddifabjoliaaGreatDoor

/-- How many brackets a text has. -/
def brk (b : Bytes) : Nat := b.countP fun c => c == 91 || c == 123
theorem brk_append (a b : Bytes) : brk (a ++ b) = brk a + brk b := List.countP_append ..

theorem until_fail {α β : Type} {u : α → β} {t : Bytes} {R : Bytes → Option (α × Bytes)} {S : Bytes → Option (β × Bytes)} (h : Lifts u R S) : ∀ (n : Nat) (s : Bytes) (l : List β) (r : Bytes), untilR t S n s = some (l, r) → untilR t R n s = none → ∃ x ∈ l, ∃ s' r', S s' = some (x, r') ∧ R s' = none
  | 0, _, _, _, hs, _ => by cases hs
  | n + 1, s, l, r, hs, hn => by
    rw [untilR] at hs hn
    split at hs
    · rename_i hp
      rw [if_pos hp] at hn
      cases hn
    · rename_i hp
      rw [if_neg hp] at hn
      cases hS : S s with
      | none => rw [hS] at hs; cases hs
      | some p =>
        obtain ⟨x, r1⟩ := p
        rw [hS] at hs
        simp only at hs
        cases hu : untilR t S n r1 with
        | none => rw [hu] at hs; cases hs
        | some p2 =>
          obtain ⟨l2, r2⟩ := p2
          rw [hu] at hs
          simp only [Option.some.injEq, Prod.mk.injEq] at hs
          cases hR : R s with
          | none => exact ⟨x, by rw [← hs.1]; simp, s, r1, hS, hR⟩
          | some p3 =>
            obtain ⟨y, r3⟩ := p3
            rw [hR] at hn
            simp only at hn
            have e := h _ _ _ hR
            rw [hS] at e
            simp only [Option.some.injEq, Prod.mk.injEq] at e
            rw [← e.2] at hn
            cases hv : untilR t R n r1 with
            | some p4 => rw [hv] at hn; cases hn
            | none =>
              obtain ⟨z, hz, w⟩ := until_fail h n r1 l2 r2 hu hv
              exact ⟨z, by rw [← hs.1]; simp [hz], w⟩
theorem after_fail {α β : Type} {t s : Bytes} {R : Bytes → Option (α × Bytes)} {S : Bytes → Option (β × Bytes)} {y : β × Bytes} (hs : afterR t S s = some y) (hn : afterR t R s = none) : S (s.drop t.length) = some y ∧ R (s.drop t.length) = none := by
  unfold afterR at hs hn
  split at hs
  · rename_i hp
    rw [if_pos hp] at hn
    exact ⟨hs, hn⟩
  · cases hs
theorem list_fail {α β : Type} {u : α → β} {o c : Bytes} {R : Bytes → Option (α × Bytes)} {S : Bytes → Option (β × Bytes)} (h : Lifts u R S) {s : Bytes} {xs : List β} {r : Bytes} (hs : listR o c S s = some (xs, r)) (hn : listR o c R s = none) : ∃ x ∈ xs, ∃ s' r', S s' = some (x, r') ∧ R s' = none := by
  obtain ⟨hs, hn⟩ := after_fail hs hn
  generalize s.drop o.length = t at hs hn
  rw [oneOfR] at hs hn
  cases h1 : paddedR (wordR c ([] : List α)) t with
  | some y => rw [h1] at hn; cases hn
  | none =>
    have h2 : paddedR (wordR c ([] : List β)) t = none := by
      unfold paddedR wordR at h1 ⊢
      by_cases hp : c.isPrefixOf (skipB t) = true
      · rw [if_pos hp] at h1; cases h1
      · rw [if_neg hp]
    rw [h1] at hn
    rw [h2] at hs
    simp only [oneOfR] at hs hn
    unfold bothR at hs hn
    cases hS : S t with
    | none => rw [hS] at hs; cases hs
    | some p =>
      obtain ⟨x, r1⟩ := p
      rw [hS] at hs
      simp only at hs
      cases hu : untilF c (afterR [44] S) r1 with
      | none => rw [hu] at hs; cases hs
      | some p2 =>
        obtain ⟨l2, r2⟩ := p2
        rw [hu] at hs
        simp only [Option.some.injEq, Prod.mk.injEq] at hs
        cases hR : R t with
        | none => exact ⟨x, by rw [← hs.1]; simp, t, r1, hS, hR⟩
        | some p3 =>
          obtain ⟨y, r3⟩ := p3
          rw [hR] at hn
          simp only at hn
          have e := h _ _ _ hR
          rw [hS] at e
          simp only [Option.some.injEq, Prod.mk.injEq] at e
          rw [← e.2] at hn
          cases hv : untilF c (afterR [44] R) r1 with
          | some p4 => rw [hv] at hn; cases hn
          | none =>
            obtain ⟨z, hz, s', r', h3, h4⟩ := until_fail (lifts_after h) _ r1 l2 r2 hu hv
            obtain ⟨h5, h6⟩ := after_fail h3 h4
            exact ⟨z, by rw [← hs.1]; simp [hz], _, _, h5, h6⟩
theorem member_fail {α β : Type} {N : Bytes → Option (Bytes × Bytes)} {R : Bytes → Option (α × Bytes)} {S : Bytes → Option (β × Bytes)} {s : Bytes} {m : Named β} {r : Bytes} (hs : memberR N S s = some (m, r)) (hn : memberR N R s = none) : ∃ s' r', S s' = some (m.2, r') ∧ R s' = none := by
  unfold memberR bothR at hs hn
  cases hN : paddedR N s with
  | none => rw [hN] at hs; cases hs
  | some p =>
    obtain ⟨n, r1⟩ := p
    rw [hN] at hs hn
    simp only at hs hn
    cases hS : afterR [58] S r1 with
    | none => rw [hS] at hs; cases hs
    | some p2 =>
      obtain ⟨x, r2⟩ := p2
      rw [hS] at hs
      simp only [Option.some.injEq, Prod.mk.injEq] at hs
      cases hR : afterR [58] R r1 with
      | some p3 => rw [hR] at hn; cases hn
      | none =>
        obtain ⟨h5, h6⟩ := after_fail hS hR
        exact ⟨_, _, by rw [← hs.1]; exact h5, h6⟩

theorem brk_flat (l : List Bytes) (b : Bytes) (h : b ∈ l) : brk b ≤ brk (l.flatMap fun y => [44] ++ y) := by
  induction l with
  | nil => cases h
  | cons c l ih =>
    rw [List.flatMap_cons, brk_append, brk_append]
    rcases List.mem_cons.1 h with rfl | h
    · omega
    · have := ih h
      omega
theorem brk_sep (l : List Bytes) (b : Bytes) (h : b ∈ l) : brk b ≤ brk (sep l) := by
  cases l with
  | nil => cases h
  | cons c l =>
    rw [sep, brk_append]
    rcases List.mem_cons.1 h with rfl | h
    · omega
    · have := brk_flat l b h
      omega
theorem brk_bracket {α : Type} (a b : UInt8) (ha : a = 91 ∨ a = 123) (f : α → Bytes) (xs : List α) (x : α) (hx : x ∈ xs) : brk (f x) + 1 ≤ brk (bracketF a b f xs) := by
  unfold bracketF
  rw [brk_append, brk_append]
  have h1 := brk_sep (xs.map f) (f x) (List.mem_map.2 ⟨x, hx, rfl⟩)
  have h2 : brk [a] = 1 := by rcases ha with rfl | rfl <;> rfl
  omega
theorem brk_one {α : Type} (a b : UInt8) (ha : a = 91 ∨ a = 123) (f : α → Bytes) (xs : List α) : 1 ≤ brk (bracketF a b f xs) := by
  unfold bracketF
  rw [brk_append, brk_append]
  have h2 : brk [a] = 1 := by rcases ha with rfl | rfl <;> rfl
  omega

/-- What a node is that is no leaf. -/
theorem node_some {β : Type} {S : Bytes → Option (β × Bytes)} {s : Bytes} {x : Node β} {r : Bytes} (hs : nodeR S s = some (x, r)) (h0 : simpleR s = none) : (∃ xs, x = .inr (.inl xs) ∧ listR [91] [93] S s = some (xs, r)) ∨ ∃ ms, objF ms = some x ∧ listR [123] [125] (memberR quotedR S) s = some (ms, r) := by
  obtain ⟨R, hR, hy⟩ := one_some hs
  simp only [List.mem_cons, List.not_mem_nil, or_false] at hR
  rcases hR with rfl | rfl | rfl
  · unfold mapR at hy
    rw [h0] at hy
    cases hy
  · left
    unfold arrayR changedR at hy
    cases hl : listR [91] [93] S s with
    | none => rw [hl] at hy; cases hy
    | some p =>
      obtain ⟨xs, r0⟩ := p
      rw [hl] at hy
      simp only [Option.some.injEq, Prod.mk.injEq] at hy
      exact ⟨xs, hy.1.symm, by rw [hy.2]⟩
  · right
    unfold objectR changedR at hy
    cases hl : listR [123] [125] (memberR quotedR S) s with
    | none => rw [hl] at hy; cases hy
    | some p =>
      obtain ⟨ms, r0⟩ := p
      rw [hl] at hy
      simp only at hy
      cases ho : objF ms with
      | none => rw [ho] at hy; cases hy
      | some z =>
        rw [ho] at hy
        simp only [Option.some.injEq, Prod.mk.injEq] at hy
        exact ⟨ms, by rw [ho, hy.1], by rw [hy.2]⟩
theorem node_none {α : Type} {R : Bytes → Option (α × Bytes)} {s : Bytes} (hn : nodeR R s = none) : simpleR s = none ∧ listR [91] [93] R s = none ∧ objectR R s = none := by
  unfold nodeR at hn
  rw [oneOfR] at hn
  cases h1 : simpleR s with
  | some y =>
    have e1 : mapR (Sum.inl : Leaf → Node α) simpleR s = some (Sum.inl y.1, y.2) := by unfold mapR; rw [h1]; rfl
    rw [e1] at hn
    cases hn
  | none =>
    have e1 : mapR (Sum.inl : Leaf → Node α) simpleR s = none := by unfold mapR; rw [h1]; rfl
    rw [e1] at hn
    simp only at hn
    rw [oneOfR] at hn
    cases h2 : listR [91] [93] R s with
    | some p =>
      have e2 : arrayR R s = some (.inr (.inl p.1), p.2) := by unfold arrayR changedR; rw [h2]
      rw [e2] at hn
      cases hn
    | none =>
      have e2 : arrayR R s = none := by unfold arrayR changedR; rw [h2]
      rw [e2] at hn
      simp only [oneOfR] at hn
      refine ⟨rfl, rfl, ?_⟩
      cases h3 : objectR R s with
      | none => rfl
      | some y => rw [h3] at hn; cases hn

theorem padded_some {α : Type} {R : Bytes → Option (α × Bytes)} {s : Bytes} {x : α} {r : Bytes} (h : paddedR R s = some (x, r)) : ∃ r0, R (skipB s) = some (x, r0) := by
  unfold paddedR at h
  cases hs : R (skipB s) with
  | none => rw [hs] at h; cases h
  | some p =>
    rw [hs] at h
    simp only [Option.some.injEq, Prod.mk.injEq] at h
    exact ⟨p.2, by rw [← h.1]⟩
theorem padded_none {α : Type} {R : Bytes → Option (α × Bytes)} {s : Bytes} (h : paddedR R s = none) : R (skipB s) = none := by
  unfold paddedR at h
  cases hs : R (skipB s) with
  | none => rfl
  | some p => rw [hs] at h; cases h

theorem val_deep : ∀ (d : Nat) (s : Bytes) (x : JT (d + 1)) (r : Bytes), valR (d + 1) s = some (x, r) → valR d s = none → d + 1 ≤ brk (formF (d + 1) x)
  | 0, s, x, r, hs, hn => by
    obtain ⟨r0, h1⟩ := padded_some (R := nodeR (valR 0)) hs
    rcases node_some h1 (padded_none (R := simpleR) hn) with ⟨xs, rfl, _⟩ | ⟨ms, ho, _⟩
    · exact brk_one 91 93 (Or.inl rfl) (formF 0) xs
    · unfold objF at ho
      split at ho
      · have hx2 := Option.some.inj ho
        subst hx2
        exact brk_one 123 125 (Or.inr rfl) (pairF (formF 0)) (byName ms)
      · cases ho
  | d + 1, s, x, r, hs, hn => by
    obtain ⟨r0, h1⟩ := padded_some (R := nodeR (valR (d + 1))) hs
    obtain ⟨h0, hl, ho⟩ := node_none (padded_none (R := nodeR (valR d)) hn)
    rcases node_some h1 h0 with ⟨xs, rfl, h2⟩ | ⟨ms, h3, h2⟩
    · obtain ⟨y, hy, s', r', h4, h5⟩ := list_fail (lifts_val d) h2 hl
      have ih := val_deep d s' y r' h4 h5
      have := brk_bracket 91 93 (Or.inl rfl) (formF (d + 1)) xs y hy
      show d + 1 + 1 ≤ brk (bracketF 91 93 (formF (d + 1)) xs)
      omega
    · have hl2 : listR [123] [125] (memberR quotedR (valR d)) (skipB s) = none := by
        cases hc : listR [123] [125] (memberR quotedR (valR d)) (skipB s) with
        | none => rfl
        | some p =>
          obtain ⟨ms', r1⟩ := p
          have e := lifts_list (lifts_member (lifts_val d)) _ _ _ hc
          rw [h2] at e
          simp only [Option.some.injEq, Prod.mk.injEq] at e
          have hon : Once ms' := by
            unfold objF at h3
            split at h3
            · rename_i hon
              rw [e.1] at hon
              exact (once_map (upJ d) ms').1 hon
            · cases h3
          unfold objectR changedR at ho
          rw [hc] at ho
          simp only [objF, if_pos hon] at ho
          cases ho
      obtain ⟨m, hm, s', r', h4, h5⟩ := list_fail (lifts_member (lifts_val d)) h2 hl2
      obtain ⟨s2, r2, h6, h7⟩ := member_fail h4 h5
      have ih := val_deep d s2 m.2 r2 h6 h7
      unfold objF at h3
      split at h3
      · have hx2 := Option.some.inj h3
        subst hx2
        have h8 := brk_bracket 123 125 (Or.inr rfl) (pairF (formF (d + 1))) (byName ms) m ((byName_perm ms).mem_iff.2 hm)
        have h9 : brk (formF (d + 1) m.2) ≤ brk (pairF (formF (d + 1)) m) := by
          unfold pairF
          rw [brk_append, brk_append]
          omega
        show d + 1 + 1 ≤ brk (bracketF 123 125 (pairF (formF (d + 1))) (byName ms))
        omega
      · cases h3
end Go.Proofs.YtgaddifabjoliaaGreatDoor

namespace Go.Proofs.YtgaddifabjoliaaGreatDoor

theorem node_93 {β : Type} (S : Bytes → Option (β × Bytes)) (u : Bytes) : nodeR S (93 :: u) = none := by
  cases hn : nodeR S (93 :: u) with
  | none => rfl
  | some y =>
    exfalso
    obtain ⟨R, hR, hy⟩ := one_some hn
    simp only [List.mem_cons, List.not_mem_nil, or_false] at hR
    rcases hR with rfl | rfl | rfl
    · unfold mapR at hy
      cases hs : simpleR (93 :: u) with
      | none => rw [hs] at hy; cases hy
      | some z =>
        rw [simple_other 93 u (by decide)] at hs
        obtain ⟨T, hT, hz⟩ := one_some hs
        simp only [List.mem_cons, List.not_mem_nil, or_false] at hT
        rcases hT with rfl | rfl
        · obtain ⟨c, t, e, hc⟩ := numL_first hz
          simp only [List.cons.injEq] at e
          rw [← e.1] at hc
          rcases hc with hc | hc
          · cases hc
          · exact absurd hc (by decide)
        · obtain ⟨t, e⟩ := txtL_first hz
          simp only [List.cons.injEq] at e
          exact absurd e.1 (by decide)
    · obtain ⟨p, hp⟩ := changed_some hy
      obtain ⟨t, e⟩ := after_some hp
      simp only [List.cons.injEq] at e
      exact absurd e.1 (by decide)
    · obtain ⟨p, hp⟩ := changed_some hy
      obtain ⟨t, e⟩ := after_some hp
      simp only [List.cons.injEq] at e
      exact absurd e.1 (by decide)

def seven : JT 7 := (Sum.inl (Sum.inr (Sum.inl 7)) : Node (JT 6))
theorem seven_form : formF 7 seven = [55] := by
  show Lib.itoa 7 = [55]
  rw [show (7 : Int) = ((7 : Nat) : Int) from rfl, Lib.itoa_nonneg, Lib.decDigits_one (by decide)]
  rfl
theorem seven_good : goodV PL GoodText 7 seven := ⟨by decide, by decide⟩

theorem read_is {s : Bytes} {x : JT 8} (h : readF s = some x) : valR 8 s = some (x, []) := by
  unfold readF at h
  split at h
  · rename_i y hy
    simp only [Option.some.injEq] at h
    rw [hy, h]
  · cases h

/-- In a list it stands as it is, unless too many brackets stand in one another. -/
theorem read_list (s : Bytes) (x : JT 8) (h : readF s = some x) : (readF (91 :: (s ++ [44, 55, 93])) = none ∧ 8 ≤ brk (formF 8 x)) ∨ ∃ y, readF (91 :: (s ++ [44, 55, 93])) = some y ∧ formF 8 y = [91] ++ formF 8 x ++ [44, 55, 93] := by
  have hv := read_is h
  have hq : Ends [44, 55, 93] := ⟨44, [55, 93], rfl, Or.inr rfl⟩
  obtain ⟨r', h1, h2⟩ := (ext_val [44, 55, 93] hq 8).1 s x [] hv
  have hr : r' = [44, 55, 93] := by
    rcases h2 with rfl | ⟨_, rfl⟩
    · rfl
    · rfl
  subst hr
  have hw := (ext_val [44, 55, 93] hq 8).2 s _ hv
  have hword : paddedR (wordR [93] ([] : List (JT 7))) (s ++ [44, 55, 93]) = none := by
    unfold paddedR
    rw [skip_append, if_neg hw]
    obtain ⟨r0, hn⟩ := padded_some (R := nodeR (valR 7)) hv
    cases hs : skipB s with
    | nil => exact absurd hs hw
    | cons c u =>
      rw [hs] at hn
      have hc : (93 : UInt8) ≠ c := by
        rintro rfl
        rw [node_93] at hn
        cases hn
      rw [List.cons_append, word_none 93 [] _ c _ hc]
  have hsk : skipB (91 :: (s ++ [44, 55, 93])) = 91 :: (s ++ [44, 55, 93]) := skip_cons rfl
  have hsi : simpleR (91 :: (s ++ [44, 55, 93])) = none := simple_none 91 _ (Or.inl rfl)
  have hma : mapR (Sum.inl : Leaf → Node (JT 7)) simpleR (91 :: (s ++ [44, 55, 93])) = none := by unfold mapR; rw [hsi]; rfl
  have hob : objectR (valR 7) (91 :: (s ++ [44, 55, 93])) = none := by
    unfold objectR changedR listR
    rw [after_none 123 _ 91 _ (by decide)]
  cases h7 : valR 7 (s ++ [44, 55, 93]) with
  | none =>
    left
    refine ⟨?_, val_deep 7 _ x _ h1 h7⟩
    have hl : listR [91] [93] (valR 7) (91 :: (s ++ [44, 55, 93])) = none := by
      unfold listR
      rw [after_one, oneOfR, hword]
      simp only [oneOfR]
      unfold bothR
      rw [h7]
    have har : arrayR (valR 7) (91 :: (s ++ [44, 55, 93])) = none := by unfold arrayR changedR; rw [hl]
    have hno : nodeR (valR 7) (91 :: (s ++ [44, 55, 93])) = none := by
      unfold nodeR
      rw [oneOfR, hma]
      simp only
      rw [oneOfR, har]
      simp only
      rw [oneOfR, hob]
      rfl
    have hva : valR 8 (91 :: (s ++ [44, 55, 93])) = none := by
      show paddedR (nodeR (valR 7)) _ = none
      unfold paddedR
      rw [hsk, hno]
    unfold readF
    rw [hva]
  | some p =>
    right
    obtain ⟨y, r⟩ := p
    have e := lifts_val 7 _ _ _ h7
    rw [h1] at e
    have e1 : x = upJ 7 y := congrArg Prod.fst (Option.some.inj e)
    have e2 : [44, 55, 93] = r := congrArg Prod.snd (Option.some.inj e)
    subst e2
    have hb := (val_back leaf_back leaf_begins text_back 7).1
    have hu : untilF [93] (afterR [44] (valR 7)) [44, 55, 93] = some ([seven], []) := by
      have := until_back hb 93 (Or.inl rfl) [seven] 4 [] (fun z hz => by
        simp only [List.mem_singleton] at hz
        rw [hz]
        exact seven_good) (by decide)
      simp only [List.flatMap_cons, List.flatMap_nil, seven_form] at this
      exact this
    have hl : listR [91] [93] (valR 7) (91 :: (s ++ [44, 55, 93])) = some ([y, seven], []) := by
      unfold listR
      rw [after_one, oneOfR, hword]
      simp only [oneOfR]
      unfold bothR
      rw [h7]
      simp only [hu]
    have har : arrayR (valR 7) (91 :: (s ++ [44, 55, 93])) = some (.inr (.inl [y, seven]), []) := by unfold arrayR changedR; rw [hl]
    have hno : nodeR (valR 7) (91 :: (s ++ [44, 55, 93])) = some (.inr (.inl [y, seven]), []) := by
      unfold nodeR
      rw [oneOfR, hma]
      simp only
      rw [oneOfR, har]
    have hva : valR 8 (91 :: (s ++ [44, 55, 93])) = some ((Sum.inr (Sum.inl [y, seven]) : Node (JT 7)), []) := by
      show paddedR (nodeR (valR 7)) _ = _
      unfold paddedR
      rw [hsk, hno]
      rfl
    refine ⟨(Sum.inr (Sum.inl [y, seven]) : Node (JT 7)), ?_, ?_⟩
    · unfold readF
      rw [hva]
    · show listF (formF 7) [y, seven] = _
      rw [e1, up_form]
      simp [listF, sep, seven_form]

/-- The texts that the statement knows. -/
def knownX : JT 8 := (Sum.inr (Sum.inl [(Sum.inl (Sum.inr (Sum.inl 1)) : Node (JT 6)), (Sum.inl (Sum.inl none) : Node (JT 6))]) : Node (JT 7))
theorem known_form : formF 8 knownX = [91, 49, 44, 110, 117, 108, 108, 93] := by
  have h1 : Lib.itoa 1 = [49] := by
    rw [show (1 : Int) = ((1 : Nat) : Int) from rfl, Lib.itoa_nonneg, Lib.decDigits_one (by decide)]
    rfl
  show [91] ++ sep [Lib.itoa 1, [110, 117, 108, 108]] ++ [93] = _
  rw [h1]
  rfl
set_option maxRecDepth 100000 in
theorem known_read : readF [32, 91, 49, 32, 44, 32, 110, 117, 108, 108, 32, 93, 32] = some knownX := by rfl
set_option maxRecDepth 100000 in
theorem twice_read : (readF [123, 34, 97, 34, 58, 49, 44, 34, 97, 34, 58, 50, 125]).isNone = true := by decide +kernel
end Go.Proofs.YtgaddifabjoliaaGreatDoor
