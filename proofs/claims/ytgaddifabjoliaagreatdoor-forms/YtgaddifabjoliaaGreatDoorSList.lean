import Derived.Test.YtgaddifabjoliaaGreatDoorSAfters
import Derived.Test.YtgaddifabjoliaaGreatDoorSUntil
import Derived.Maps.AppendAt
import Derived.Laws.AppendOwnNone
namespace Go.Proofs.YtgaddifabjoliaaGreatDoor
open Go.RowKit

theorem size_alloc1 (w : World) (o : Obj) : (w.alloc o).heap.size = w.heap.size + 1 := by simp

theorem list_step {α : Type} {n N : Nat} {T : TypeId} {rep : Rep α} {W w2 : World} {B : Nat} {x : α} {xs : List α} {c : List Value} {cs : List (List Value)} {F' : Nat → Prop} {v' : Value}
    (hx : rep.rel (From B) W x (.agg c.toArray)) (hc : c.length = n) (h1 : ∀ i, F' i → From B i) (h2 : Elems n rep F' W xs cs) (hB : B ≤ W.heap.size) (b2 : Below W.heap.size W w2) (hN : xs.length + 1 ≤ N)
    (ho : w2.ownsRow W.heap.size T n v' (xs.length + 1) (c ++ cs.flatten)) : (repList n T N rep).rel (From B) w2 (x :: xs) v' := by
  refine ⟨hN, c :: cs, fun i => From B i ∧ i < W.heap.size, fun i hi => hi.1, ⟨?_, hc, ?_⟩, ?_, ?_⟩
  · exact rep.stays (rep.inside hx) (above_of_below b2)
  · exact elems_stays (above_of_below b2) (elems_anti (fun i hi => ⟨h1 i hi.1, hi.2⟩) (elems_inside h2))
  · exact owns_anti ho (fun _ _ => Nat.zero_le _)
  · intro g hg
    have := (ho.lt g hg).1
    exact ⟨Nat.le_trans hB this, fun hF => Nat.lt_irrefl _ (Nat.lt_of_lt_of_le hF.2 this)⟩

theorem owns_two {w : World} {l : List Value} {T : TypeId} {n : Nat} (hl : l.length = 1 * n) (o : Obj) : ((w.alloc o).alloc (.cells l.toArray T)).ownsRow w.heap.size T n (.slice (some ⟨w.heap.size + 1, 0, none⟩) 1 1) 1 l := by
  refine ⟨hl, Or.inr ⟨w.heap.size + 1, 1, l.toArray, rfl, by omega, ?_, Nat.le_refl _, by unfold maxLen; omega, by simpa using hl, ?_⟩⟩
  · have := heap_alloc_new (w.alloc o) (.cells l.toArray T)
    rw [size_alloc1] at this
    exact this
  · rw [← hl]; simp

theorem cells_old2 {w : World} {B : Nat} {e : TypeId} {k n cap g : Nat} {xs : List Value} (h : w.ownsRow B e k (.slice (some ⟨g, 0, none⟩) n cap) n xs) (o o' : Obj) : ∀ j u, xs[j]? = some u → ((w.alloc o).alloc o').cell? ((⟨g, 0, none⟩ : Addr).add j) = some u := by
  intro j u hj
  have h1 := h.cells (g := g) rfl j u hj
  have hlt := (h.lt g rfl).2
  have e1 : (⟨g, 0, none⟩ : Addr).add j = ⟨g, j, none⟩ := by cases j <;> simp [Addr.add]
  rw [e1] at h1 ⊢
  rw [World.cell?_alloc_past _ _ _ (by simp; omega), World.cell?_alloc_past _ _ _ hlt]
  exact h1

theorem ones5 {α : Type} {rep : Rep α} (h5 : Fives rep) {F : Nat → Prop} {w : World} : ∀ {xs : List α} {cs : List (List Value)}, Elems 5 rep F w xs cs → ∀ u ∈ cs.flatten, u.oneCell' = true
  | [], [], _ => by simp
  | x :: xs, c :: cs, h => by
    intro u hu
    simp only [List.flatten_cons, List.mem_append] at hu
    rcases hu with hu | hu
    · obtain ⟨k1, k2, k3, k4, k5, k6, k7, k8, k9, hv⟩ := h5 _ _ _ _ h.1
      have hc : c = [.int .i64 k1, .int .i64 k2, .string k3, .slice k4 k5 k6, .slice k7 k8 k9] := by
        have := Value.agg.inj hv
        have h2 := congrArg Array.toList this
        simpa using h2
      rw [hc] at hu
      simp at hu
      rcases hu with rfl | rfl | rfl | rfl | rfl <;> rfl
    · exact ones5 h5 h.2.2 u hu
  | [], _ :: _, h => h.elim
  | _ :: _, [], h => h.elim
theorem ones6 {α : Type} {rep : Rep α} (h5 : Sixes rep) {F : Nat → Prop} {w : World} : ∀ {xs : List α} {cs : List (List Value)}, Elems 6 rep F w xs cs → ∀ u ∈ cs.flatten, u.oneCell' = true
  | [], [], _ => by simp
  | x :: xs, c :: cs, h => by
    intro u hu
    simp only [List.flatten_cons, List.mem_append] at hu
    rcases hu with hu | hu
    · obtain ⟨k0, k1, k2, k3, k4, k5, k6, k7, k8, k9, hv⟩ := h5 _ _ _ _ h.1
      have hc : c = [.string k0, .int .i64 k1, .int .i64 k2, .string k3, .slice k4 k5 k6, .slice k7 k8 k9] := by
        have := Value.agg.inj hv
        have h2 := congrArg Array.toList this
        simpa using h2
      rw [hc] at hu
      simp at hu
      rcases hu with rfl | rfl | rfl | rfl | rfl | rfl <;> rfl
    · exact ones6 h5 h.2.2 u hu
  | [], _ :: _, h => h.elim
  | _ :: _, [], h => h.elim

set_option maxHeartbeats 1000000 in
theorem list_value_joins {α : Type} (rep : Rep α) (h5 : Fives rep) (w : World) : Joins 75 #[] rep (repList 5 30 4000 rep) (repList 5 30 4001 rep) (fun x xs => some (x :: xs)) w := by
  refine ⟨enters_of Tryz.func75 (by kernel_rfl) rfl, ?_⟩
  intro W B x v xs u hW hB hx hu
  obtain ⟨i0, hi, hz0, hz1, hz2⟩ := info_parts Tryz.info_value
  obtain ⟨k1, k2, k3, k4, k5, k6, k7, k8, k9, hv⟩ := h5 _ _ _ _ hx
  subst hv
  obtain ⟨hN, cs, F', h1, h2, h3, h4⟩ := hu
  have hbuilt := owns_two (w := W) (l := [.int .i64 k1, .int .i64 k2, .string k3, .slice k4 k5 k6, .slice k7 k8 k9]) (T := 30) (n := 5) rfl (.cells [.int .i64 k1, .int .i64 k2, .string k3, .slice k4 k5 k6, .slice k7 k8 k9].toArray 30)
  have HX := hide hx
  have H1 := hide h1
  have H2 := hide h2
  have H3 := hide h3
  have hones := ones5 h5 h2
  have HO := hide hones
  have bA := ((Below.refl _ W).alloc (Nat.le_refl _) (.cells [.int .i64 k1, .int .i64 k2, .string k3, .slice k4 k5 k6, .slice k7 k8 k9].toArray 30)).alloc (by simp) (.cells [.int .i64 k1, .int .i64 k2, .string k3, .slice k4 k5 k6, .slice k7 k8 k9].toArray 30)
  have hel := elems_length h2
  rcases h3.2 with ⟨hu0, hl0⟩ | ⟨g, cap, cur, hu1, _⟩
  · subst hu0
    have hxs : xs = [] := List.length_eq_zero_iff.1 hl0
    have hcs0 : cs = [] := List.length_eq_zero_iff.1 (by rw [hel.1]; exact hl0)
    have HB := hide hbuilt
    subst hxs
    subst hcs0
    clear hx h1 h2 h3 h4 hones hbuilt hel hl0 h5
    go_enter Tryz.func75, Tryz.ntmps75
    go_wp2_with (at_builtin; refine wpList_append_own_none rfl _ _ 27 rfl W.heap.size 30 i0 5 Tryz.underlying27 hi _ _ _ rfl (unhide HB) rfl ?_)
    go_wp2
    go_ret2
    refine ⟨bA.mono hB, Or.inr ⟨[x], _, rfl, ?_, rfl⟩⟩
    exact list_step (unhide HX) rfl (unhide H1) (unhide H2) hB bA (by simp) (by simpa using unhide HB)
  · subst hu1
    have hold := cells_old2 h3 (.cells [.int .i64 k1, .int .i64 k2, .string k3, .slice k4 k5 k6, .slice k7 k8 k9].toArray 30) (.cells [.int .i64 k1, .int .i64 k2, .string k3, .slice k4 k5 k6, .slice k7 k8 k9].toArray 30)
    have HOLD := hide hold
    have HB := hide hbuilt
    have HL := hide hel.2
    clear hx h1 h2 h3 h4 hones hbuilt hel hold h5
    go_enter Tryz.func75, Tryz.ntmps75
    go_wp2_with (at_builtin; refine wpList_append_own_at _ rfl _ _ 27 rfl W.heap.size 30 i0 (.agg #[.int .i64 0, .int .i64 0, .string ⟨#[]⟩, .slice none 0 0, .slice none 0 0]) 5 80 Tryz.underlying27 hi hz0 hz1 hz2 rfl (by decide) _ _ _ rfl (unhide HB) ⟨g, 0, none⟩ xs.length cap cs.flatten rfl (unhide HL) (unhide HOLD) (unhide HO) ?c3 ?c4 ?c5 ?_)
    case c3 => unfold maxLen; omega
    case c4 => omega
    case c5 => simp; omega
    intro v' w2 hown' hgrow hnn hat
    have R2 : Below W.heap.size W w2 := bA.grown hgrow (by simp; omega) (fun k hk => ((unhide HB).lt k hk).1)
    have HOWN := hide hown'
    clear hown' hgrow hnn hat
    go_wp2
    go_ret2
    refine ⟨R2.mono hB, Or.inr ⟨x :: xs, v', rfl, ?_, rfl⟩⟩
    have ho := unhide HOWN
    rw [Nat.add_comm] at ho
    exact list_step (unhide HX) rfl (unhide H1) (unhide H2) hB R2 (by omega) ho

set_option maxHeartbeats 1000000 in
theorem list_member_joins {α : Type} (rep : Rep α) (h5 : Sixes rep) (w : World) : Joins 84 #[] rep (repList 6 77 4000 rep) (repList 6 77 4001 rep) (fun x xs => some (x :: xs)) w := by
  refine ⟨enters_of Tryz.func84 (by kernel_rfl) rfl, ?_⟩
  intro W B x v xs u hW hB hx hu
  obtain ⟨i0, hi, hz0, hz1, hz2⟩ := info_parts Tryz.info_member
  obtain ⟨k0, k1, k2, k3, k4, k5, k6, k7, k8, k9, hv⟩ := h5 _ _ _ _ hx
  subst hv
  obtain ⟨hN, cs, F', h1, h2, h3, h4⟩ := hu
  have hbuilt := owns_two (w := W) (l := [.string k0, .int .i64 k1, .int .i64 k2, .string k3, .slice k4 k5 k6, .slice k7 k8 k9]) (T := 77) (n := 6) rfl (.cells [.string k0, .int .i64 k1, .int .i64 k2, .string k3, .slice k4 k5 k6, .slice k7 k8 k9].toArray 77)
  have HX := hide hx
  have H1 := hide h1
  have H2 := hide h2
  have H3 := hide h3
  have hones := ones6 h5 h2
  have HO := hide hones
  have bA := ((Below.refl _ W).alloc (Nat.le_refl _) (.cells [.string k0, .int .i64 k1, .int .i64 k2, .string k3, .slice k4 k5 k6, .slice k7 k8 k9].toArray 77)).alloc (by simp) (.cells [.string k0, .int .i64 k1, .int .i64 k2, .string k3, .slice k4 k5 k6, .slice k7 k8 k9].toArray 77)
  have hel := elems_length h2
  rcases h3.2 with ⟨hu0, hl0⟩ | ⟨g, cap, cur, hu1, _⟩
  · subst hu0
    have hxs : xs = [] := List.length_eq_zero_iff.1 hl0
    have hcs0 : cs = [] := List.length_eq_zero_iff.1 (by rw [hel.1]; exact hl0)
    have HB := hide hbuilt
    subst hxs
    subst hcs0
    clear hx h1 h2 h3 h4 hones hbuilt hel hl0 h5
    go_enter Tryz.func84, Tryz.ntmps84
    go_wp2_with (at_builtin; refine wpList_append_own_none rfl _ _ 28 rfl W.heap.size 77 i0 6 Tryz.underlying28 hi _ _ _ rfl (unhide HB) rfl ?_)
    go_wp2
    go_ret2
    refine ⟨bA.mono hB, Or.inr ⟨[x], _, rfl, ?_, rfl⟩⟩
    exact list_step (unhide HX) rfl (unhide H1) (unhide H2) hB bA (by simp) (by simpa using unhide HB)
  · subst hu1
    have hold := cells_old2 h3 (.cells [.string k0, .int .i64 k1, .int .i64 k2, .string k3, .slice k4 k5 k6, .slice k7 k8 k9].toArray 77) (.cells [.string k0, .int .i64 k1, .int .i64 k2, .string k3, .slice k4 k5 k6, .slice k7 k8 k9].toArray 77)
    have HOLD := hide hold
    have HB := hide hbuilt
    have HL := hide hel.2
    clear hx h1 h2 h3 h4 hones hbuilt hel hold h5
    go_enter Tryz.func84, Tryz.ntmps84
    go_wp2_with (at_builtin; refine wpList_append_own_at _ rfl _ _ 28 rfl W.heap.size 77 i0 (.agg #[.string ⟨#[]⟩, .int .i64 0, .int .i64 0, .string ⟨#[]⟩, .slice none 0 0, .slice none 0 0]) 6 96 Tryz.underlying28 hi hz0 hz1 hz2 rfl (by decide) _ _ _ rfl (unhide HB) ⟨g, 0, none⟩ xs.length cap cs.flatten rfl (unhide HL) (unhide HOLD) (unhide HO) ?c3 ?c4 ?c5 ?_)
    case c3 => unfold maxLen; omega
    case c4 => omega
    case c5 => simp; omega
    intro v' w2 hown' hgrow hnn hat
    have R2 : Below W.heap.size W w2 := bA.grown hgrow (by simp; omega) (fun k hk => ((unhide HB).lt k hk).1)
    have HOWN := hide hown'
    clear hown' hgrow hnn hat
    go_wp2
    go_ret2
    refine ⟨R2.mono hB, Or.inr ⟨x :: xs, v', rfl, ?_, rfl⟩⟩
    have ho := unhide HOWN
    rw [Nat.add_comm] at ho
    exact list_step (unhide HX) rfl (unhide H1) (unhide H2) hB R2 (by omega) ho

end Go.Proofs.YtgaddifabjoliaaGreatDoor
