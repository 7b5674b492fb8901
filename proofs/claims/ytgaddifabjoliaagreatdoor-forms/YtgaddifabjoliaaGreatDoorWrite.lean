import Derived.Test.YtgaddifabjoliaaGreatDoorMembs
namespace Go.Proofs.YtgaddifabjoliaaGreatDoor
open Go.RowKit

def leafF : Leaf → Bytes
  | .inl none => [110, 117, 108, 108]
  | .inl (some false) => [102, 97, 108, 115, 101]
  | .inl (some true) => [116, 114, 117, 101]
  | .inr (.inl n) => Lib.itoa n
  | .inr (.inr t) => textF t
def nodeF {α : Type} (f : α → Bytes) : Node α → Bytes
  | .inl x => leafF x
  | .inr (.inl xs) => listF f xs
  | .inr (.inr ms) => objectF f ms
def formF : (d : Nat) → JT d → Bytes
  | 0 => leafF
  | d + 1 => nodeF (formF d)

theorem below_grown (w : World) (k : Nat) (os : Array Obj) : Below w.heap.size w (Sort.grow (w.drewN k) os) :=
  ⟨rfl, rfl, rfl, by simp, fun j hj => Sort.heap_grow_old (w.drewN k) os (by simpa using hj)⟩

theorem format_any (n : Int) (h0 : -9007199254740992 < n) (h1 : n < 9007199254740992) (w : World) (ht : Lib.TabIs Tryz.prog w "internal/strconv.uint64pow10" .u64 Lib.pow10Tab) :
    Calls Tryz.prog 34 #[.int .i64 n, .int .i64 10] w fun e w' => e = .returned (.string ⟨(Lib.itoa n).toArray⟩) ∧ Hid (Below w.heap.size w w') := by
  refine (Tryz.strconv_FormatInt_10 n (by omega) (by omega) w ht).mono ?_
  rintro e w' ⟨he, k, os, rfl⟩
  exact ⟨he, below_grown w k os⟩

set_option maxHeartbeats 2000000 in
theorem write_leaf : WriteSays repLeaf leafF := by
  intro B b acc x v F w hI hx hS hl hB hT
  obtain ⟨hv, hok⟩ : v = leafV x ∧ okLeaf x := hx
  subst hv
  have bx : ∀ o, Below w.heap.size w (w.alloc o) := fun o => (Below.refl _ _).alloc (Nat.le_refl _) o
  have HI := hide hI
  have HT := hide hT
  clear hI hT hS
  rcases x with (_ | (_ | _)) | n | t
  · have hlz : acc.length + (⟨#[110, 117, 108, 108]⟩ : ByteArray).size ≤ 140737488355328 := by simp [leafF] at hl; show acc.length + 4 ≤ _; omega
    simp only [leafV, leafF] at *
    go_enter Tryz.func12, Tryz.ntmps12
    go_wp2_with (go_at_call 33; refine (writeString B b acc ⟨#[110, 117, 108, 108]⟩ _ (isBuilder_later (unhide HI) (bx _)) hlz (by simp; omega)).mono ?_; rintro e w2 ⟨rfl, hw2⟩; have HW2 := hide (hw2.from (bx _) hB); clear hw2)
    go_end0
    exact ⟨rfl, unhide HW2⟩
  · have hlz : acc.length + (⟨#[102, 97, 108, 115, 101]⟩ : ByteArray).size ≤ 140737488355328 := by simp [leafF] at hl; show acc.length + 5 ≤ _; omega
    simp only [leafV, leafF] at *
    go_enter Tryz.func12, Tryz.ntmps12
    go_wp2_with (go_at_call 33; refine (writeString B b acc ⟨#[102, 97, 108, 115, 101]⟩ _ (isBuilder_later (unhide HI) (bx _)) hlz (by simp; omega)).mono ?_; rintro e w2 ⟨rfl, hw2⟩; have HW2 := hide (hw2.from (bx _) hB); clear hw2)
    go_end0
    exact ⟨rfl, unhide HW2⟩
  · have hlz : acc.length + (⟨#[116, 114, 117, 101]⟩ : ByteArray).size ≤ 140737488355328 := by simp [leafF] at hl; show acc.length + 4 ≤ _; omega
    simp only [leafV, leafF] at *
    go_enter Tryz.func12, Tryz.ntmps12
    go_wp2_with (go_at_call 33; refine (writeString B b acc ⟨#[116, 114, 117, 101]⟩ _ (isBuilder_later (unhide HI) (bx _)) hlz (by simp; omega)).mono ?_; rintro e w2 ⟨rfl, hw2⟩; have HW2 := hide (hw2.from (bx _) hB); clear hw2)
    go_end0
    exact ⟨rfl, unhide HW2⟩
  · obtain ⟨h0, h1⟩ : -9007199254740992 < n ∧ n < 9007199254740992 := hok
    obtain ⟨s, hs⟩ : ∃ s : ByteArray, s = ⟨(Lib.itoa n).toArray⟩ := ⟨_, rfl⟩
    have hst : s.data.toList = Lib.itoa n := by rw [hs]
    have hlz : acc.length + s.size ≤ 140737488355328 := by rw [text_size hst]; simp only [leafF] at hl; omega
    have hfm := fun w' ht => format_any n h0 h1 w' ht
    simp only [← hs] at hfm
    have HFM := hide hfm
    have HST := hide hst
    simp only [leafV, leafF] at *
    clear hfm hst hl hs
    go_enter Tryz.func12, Tryz.ntmps12
    go_wp2_with (first
      | (go_at_call 34; refine (unhide HFM _ (unhide HT _ ((bx _).mono hB))).mono ?_; rintro e w2 ⟨rfl, HB2⟩; have HB3 := hide (up (bx _) (unhide HB2)); have hB3 := Nat.le_trans hB (unhide HB3).size)
      | (go_at_call 33; refine (writeString B b acc s _ (isBuilder_later (unhide HI) (unhide HB3)) hlz hB3).mono ?_; rintro e w4 ⟨rfl, hw4⟩; have HW4 := hide (hw4.from (unhide HB3) hB); clear hw4))
    go_end0
    refine ⟨rfl, ?_⟩
    rw [← unhide HST]
    exact unhide HW4
  · obtain ⟨s, hs⟩ : ∃ s : ByteArray, s = ⟨t.toArray⟩ := ⟨_, rfl⟩
    have hst : s.data.toList = t := by rw [hs]
    have hlz : acc.length + 6 * s.size + 2 ≤ 140737488355328 := by
      have := textF_ge t
      rw [text_size hst]; simp only [leafF] at hl; omega
    simp only [leafV, leafF] at *
    rw [← hs]
    have HST := hide hst
    clear hst hl hs
    go_enter Tryz.func12, Tryz.ntmps12
    go_wp2_with (go_at_call 35; refine (writeText_calls B b acc s _ (isBuilder_later (unhide HI) (bx _)) hlz (by simp; omega)).mono ?_; rintro e w2 ⟨rfl, hw2⟩; have HW2 := hide (hw2.from (bx _) hB); clear hw2)
    go_end0
    refine ⟨rfl, ?_⟩
    rw [← unhide HST]
    exact unhide HW2

set_option maxHeartbeats 2000000 in
theorem write_node {α : Type} (rep : Rep α) (h5 : Fives rep) (f : α → Bytes) (hw : WriteSays rep f) : WriteSays (repNode rep) (nodeF f) := by
  intro B b acc x v F w hI hx hS hl hB hT
  rcases x with x | xs | ms
  · exact write_leaf B b acc x v F w hI hx hS hl hB hT
  · obtain ⟨a, l, p, rfl, hr⟩ := hx
    have bx : ∀ o, Below w.heap.size w (w.alloc o) := fun o => (Below.refl _ _).alloc (Nat.le_refl _) o
    have hk : ∀ o, Lib.OthersKept 5 (some b) w (w.alloc o) := fun o => (Lib.OthersKept.refl _ _ w).below (bx o)
    have hcon := fun o => writeItems_calls rep h5 f hw B b acc xs (.slice a l p) F (w.alloc o) (isBuilder_later hI (bx o)) ((repItems rep).stays hr (above_of_below (bx o))) (hS.later (hk o)) hl (Nat.le_trans hB (bx o).size) (hT.on ((bx o).mono hB))
    have HC := hide hcon
    clear hcon hI hS hr hT hw h5
    go_enter Tryz.func12, Tryz.ntmps12
    go_wp2_with (go_at_call 36; refine (unhide HC _).mono ?_; rintro e w2 ⟨rfl, hw2⟩; have HW2 := hide (hw2.from (bx _) hB); clear hw2)
    go_end0
    exact ⟨rfl, unhide HW2⟩
  · obtain ⟨a, l, p, rfl, hr⟩ := hx
    have bx : ∀ o, Below w.heap.size w (w.alloc o) := fun o => (Below.refl _ _).alloc (Nat.le_refl _) o
    have hk : ∀ o, Lib.OthersKept 5 (some b) w (w.alloc o) := fun o => (Lib.OthersKept.refl _ _ w).below (bx o)
    have hcon := fun o => writeMembers_calls rep h5 f hw B b acc ms (.slice a l p) F (w.alloc o) (isBuilder_later hI (bx o)) ((repMembers rep).stays hr (above_of_below (bx o))) (hS.later (hk o)) hl (Nat.le_trans hB (bx o).size) (hT.on ((bx o).mono hB))
    have HC := hide hcon
    clear hcon hI hS hr hT hw h5
    go_enter Tryz.func12, Tryz.ntmps12
    go_wp2_with (go_at_call 37; refine (unhide HC _).mono ?_; rintro e w2 ⟨rfl, hw2⟩; have HW2 := hide (hw2.from (bx _) hB); clear hw2)
    go_end0
    exact ⟨rfl, unhide HW2⟩

theorem write_says : ∀ d, WriteSays (repV d) (formF d)
  | 0 => write_leaf
  | d + 1 => write_node (repV d) (fives_v d) (formF d) (write_says d)

/-! ### What a tree leads to are rows of values and members -/
def Row (w : World) (k : Nat) : Prop := ∃ cur T, (T = 30 ∨ T = 77) ∧ w.heap[k]? = some (.cells cur T (0, 0))

theorem elems_solid {α : Type} {k : Nat} {rep : Rep α} (hs : ∀ F w x v, rep.rel F w x v → rep.rel (fun i => F i ∧ Row w i) w x v) {F : Nat → Prop} {w : World} : ∀ {xs : List α} {cs : List (List Value)}, Elems k rep F w xs cs → Elems k rep (fun i => F i ∧ Row w i) w xs cs
  | [], [], _ => trivial
  | _x :: _xs, _c :: _cs, h => ⟨hs _ _ _ _ h.1, h.2.1, elems_solid hs h.2.2⟩
  | [], _ :: _, h => h.elim
  | _ :: _, [], h => h.elim
theorem list_solid {α : Type} {k : Nat} {T : TypeId} {N : Nat} {rep : Rep α} (hT : T = 30 ∨ T = 77) (hs : ∀ F w x v, rep.rel F w x v → rep.rel (fun i => F i ∧ Row w i) w x v) (F : Nat → Prop) (w : World) (xs : List α) (v : Value) (h : (repList k T N rep).rel F w xs v) : (repList k T N rep).rel (fun i => F i ∧ Row w i) w xs v := by
  obtain ⟨hN, cs, F', h1, h2, h3, h4⟩ := h
  refine ⟨hN, cs, _, fun i hi => ⟨h1 i hi.1, hi.2⟩, elems_solid hs h2, h3, fun g hg => ⟨⟨(h4 g hg).1, ?_⟩, fun hx => (h4 g hg).2 hx.1⟩⟩
  rcases h3.2 with ⟨rfl, _⟩ | ⟨g', cap, cur, rfl, _, hb, _⟩
  · cases hg
  · injection hg with hg
    subst hg
    exact ⟨cur, T, hT, hb⟩
theorem m_solid {α : Type} {rep : Rep α} (hs : ∀ F w x v, rep.rel F w x v → rep.rel (fun i => F i ∧ Row w i) w x v) (F : Nat → Prop) (w : World) (x : Named α) (v : Value) (h : (repM rep).rel F w x v) : (repM rep).rel (fun i => F i ∧ Row w i) w x v := by
  obtain ⟨k, n, t, a, l, p, a', l', p', h1, h2⟩ := h
  exact ⟨k, n, t, a, l, p, a', l', p', h1, hs _ _ _ _ h2⟩
theorem v_solid : ∀ d F w x v, (repV d).rel F w x v → (repV d).rel (fun i => F i ∧ Row w i) w x v
  | 0, _, _, _, _, h => h
  | d + 1, F, w, x, v, h => by
    rcases x with x | xs | ms
    · exact h
    · obtain ⟨a, l, p, h1, h2⟩ := h
      exact ⟨a, l, p, h1, list_solid (Or.inl rfl) (v_solid d) F w xs _ h2⟩
    · obtain ⟨a, l, p, h1, h2⟩ := h
      exact ⟨a, l, p, h1, list_solid (Or.inr rfl) (m_solid (v_solid d)) F w ms _ h2⟩
theorem safe_row (b : Nat) (F : Nat → Prop) (w : World) (hb : ∀ k, F k → k ≠ b) : Safe b (fun i => F i ∧ Row w i) w := by
  rintro k ⟨hF, cur, T, hT, hk⟩
  refine ⟨hb k hF, _, hk, ?_⟩
  intro c fz e
  injection e with _ e _
  rcases hT with rfl | rfl <;> cases e

/-! ### The one form of a value -/
set_option maxHeartbeats 1000000 in
theorem valueForm_calls (d : Nat) (x : JT d) (v : Value) (F : Nat → Prop) (w : World) (hx : (repV d).rel F w x v) (hF : ∀ k, F k → k < w.heap.size) (hl : 8 * (formF d x).length ≤ 140737488355328) (_ht : Lib.TabIs Tryz.prog w "internal/strconv.uint64pow10" .u64 Lib.pow10Tab) (hT : ∀ w', Below w.heap.size w w' → Lib.TabIs Tryz.prog w' "internal/strconv.uint64pow10" .u64 Lib.pow10Tab) :
    Calls Tryz.prog 8 #[v] w fun e w' => e = .returned (.string ⟨(formF d x).toArray⟩) ∧ Below w.heap.size w w' := by
  obtain ⟨k1, k2, k3, k4, k5, k6, k7, k8, k9, hv⟩ := fives_v d _ _ _ _ hx
  subst hv
  have HX := hide (v_solid d _ _ _ _ hx)
  have HT := hide hT
  have HF := hide hF
  clear hx hT _ht hF
  have hmain : ∀ o, Calls Tryz.prog 12 #[.agg #[.int .i64 k1, .int .i64 k2, .string k3, .slice k4 k5 k6, .slice k7 k8 k9], .pointer (some ⟨w.heap.size + 1, 0, none⟩)] ((w.alloc o).alloc (.cells #[.pointer none, .slice none 0 0] 47)) fun e w' => e = .returned (.tuple #[]) ∧ Hid (Lib.IsBuilderF 47 5 (w.heap.size + 1) (w.heap.size + 1) (Lib.byteCells (formF d x)) w' ∧ w.heap.size + 1 ≤ w'.heap.size ∧ Below w.heap.size w w') := by
    intro o
    have b1 : Below w.heap.size w (w.alloc o) := (Below.refl _ _).alloc (Nat.le_refl _) o
    have b2 : Below (w.alloc o).heap.size (w.alloc o) ((w.alloc o).alloc (.cells #[.pointer none, .slice none 0 0] 47)) := (Below.refl _ _).alloc (Nat.le_refl _) _
    have bb := up b1 b2
    have hk : Lib.OthersKept 5 (some (w.alloc o).heap.size) w ((w.alloc o).alloc (.cells #[.pointer none, .slice none 0 0] 47)) := (Lib.OthersKept.refl _ _ w).below bb
    have hsf := safe_row (w.alloc o).heap.size F w (fun k hk => by have := unhide HF k hk; simp; omega)
    have e1 : (w.alloc o).heap.size = w.heap.size + 1 := size_one w o
    have hcall := write_says d (w.alloc o).heap.size (w.alloc o).heap.size [] x _ _ _ (Lib.IsBuilderF.of (Lib.fresh_isBuilder 47 5 (w.alloc o))) ((repV d).stays (unhide HX) (above_of_below bb)) (hsf.later hk) (by simpa using hl) b2.size (fun w' hb => unhide HT w' (up b1 (b2.trans hb)))
    rw [e1] at hcall
    refine hcall.mono ?_
    rintro e w' ⟨he, hw⟩
    exact ⟨he, hw.1, Nat.le_trans (by rw [← e1]; exact b2.size) hw.2.1.size, (bb.trans (hw.2.1.mono (Nat.le_succ _)))⟩
  have HM := hide hmain
  clear hmain
  go_enter Tryz.func8, Tryz.ntmps8
  go_wp2_with (first
    | (go_at_call 12; refine (unhide HM _).mono ?_; rintro e w2 ⟨rfl, HW2⟩)
    | (go_at_call 13; refine (Tryz.Builder_String_any_k _ _ (formF d x) _ (unhide HW2).1 (unhide HW2).2.1).mono ?_; rintro e w3 ⟨rfl, hs3⟩; have HS3 := hide hs3; clear hs3))
  go_ret
  exact ⟨rfl, (unhide HW2).2.2.trans ((unhide HS3).2.1.mono (Nat.le_succ _))⟩

/-- What code.Form answers. -/
def FormSays (s : ByteArray) (w : World) (e : Ending) (w' : World) : Prop := Below w.heap.size w w' ∧
  ((4000 < s.size ∧ e = .returned (.tuple #[.string ⟨#[]⟩, .int .i64 1])) ∨
   (s.size ≤ 4000 ∧ readF s.data.toList = none ∧ e = .returned (.tuple #[.string ⟨#[]⟩, .int .i64 2])) ∨
   (s.size ≤ 4000 ∧ ∃ x, readF s.data.toList = some x ∧ e = .returned (.tuple #[.string ⟨(formF 8 x).toArray⟩, .int .i64 0])))

set_option maxHeartbeats 1000000 in
theorem form_says (s : ByteArray) (w : World) (hU : Lib.Utf8Tabs 2 3 w) (hE : Errs w) (_ht : Lib.TabIs Tryz.prog w "internal/strconv.uint64pow10" .u64 Lib.pow10Tab) (hT : ∀ w', Below w.heap.size w w' → Lib.TabIs Tryz.prog w' "internal/strconv.uint64pow10" .u64 Lib.pow10Tab)
    (hlen : ∀ x, s.size ≤ 4000 → readF s.data.toList = some x → 8 * (formF 8 x).length ≤ 140737488355328) : Calls Tryz.prog 5 #[.string s] w (FormSays s w) := by
  have HRD := hide (read_says s w hU hE)
  have HT := hide hT
  have HL := hide hlen
  clear hU hE _ht hT hlen
  go_enter Tryz.func5, Tryz.ntmps5
  go_wp2_with (go_at_call 7; refine (unhide HRD).mono ?_)
  intro e w1 hsays
  obtain ⟨b1, hsays⟩ := hsays
  rcases hsays with ⟨hs, rfl⟩ | ⟨hs, hn, rfl⟩ | ⟨hs, x, v, hx, hr, rfl⟩
  · have B1 := hide b1
    have HSZ := hide hs
    clear b1 hs
    go_wp2
    go_ret2
    exact ⟨grow (unhide B1) _, Or.inl ⟨unhide HSZ, rfl⟩⟩
  · have B1 := hide b1
    have HN := hide hn
    clear b1 hn
    go_wp2
    go_ret2
    exact ⟨grow (unhide B1) _, Or.inr (Or.inl ⟨hs, unhide HN, rfl⟩)⟩
  · obtain ⟨k1, k2, k3, k4, k5, k6, k7, k8, k9, hv⟩ := fives_v 8 _ _ _ _ hr
    subst hv
    have B1 := hide b1
    have HX := hide hx
    have hcon := fun o => valueForm_calls 8 x _ _ (w1.alloc o) ((repV 8).stays ((repV 8).inside hr) (above_of_below ((Below.refl _ w1).alloc (Nat.le_refl _) o))) (fun k hk => by have := hk.2; simp; omega) (unhide HL x hs hx) (unhide HT _ (grow b1 o)) (fun w' hb => unhide HT w' (up (grow b1 o) hb))
    have HC := hide hcon
    clear hcon b1 hr hx
    go_wp2_with (go_at_call 8; refine (unhide HC _).mono ?_; rintro e w2 ⟨rfl, hw2⟩; have HW2 := hide hw2; clear hw2)
    go_ret2
    exact ⟨up (grow (unhide B1) _) (unhide HW2), Or.inr (Or.inr ⟨hs, x, unhide HX, rfl⟩)⟩
end Go.Proofs.YtgaddifabjoliaaGreatDoor
