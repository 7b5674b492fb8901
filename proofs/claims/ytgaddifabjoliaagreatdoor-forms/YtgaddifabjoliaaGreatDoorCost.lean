import Derived.Test.YtgaddifabjoliaaGreatDoorWrite
import Derived.Lib.ItoaLen
namespace Go.Proofs.YtgaddifabjoliaaGreatDoor
open Go.RowKit

/-- What is read is paid by the bytes that it took up. -/
def Cost {α : Type} (R : Bytes → Option (α × Bytes)) (c : α → Nat) : Prop := ∀ s x r, R s = some (x, r) → c x + 30 * r.length ≤ 30 * s.length

theorem cost_word {α : Type} (text : Bytes) (x : α) (c : α → Nat) (h : c x ≤ 30 * text.length) : Cost (wordR text x) c := by
  intro s y r e
  unfold wordR at e
  split at e
  · rename_i hp
    simp at e; obtain ⟨rfl, rfl⟩ := e
    have h1 := (List.isPrefixOf_iff_prefix.1 hp).length_le
    simp; omega
  · simp at e
theorem cost_after {α : Type} (text : Bytes) (R : Bytes → Option (α × Bytes)) (c : α → Nat) (h : Cost R c) : Cost (afterR text R) (fun x => c x + 30 * text.length) := by
  intro s y r e
  unfold afterR at e
  split at e
  · rename_i hp
    have h1 := (List.isPrefixOf_iff_prefix.1 hp).length_le
    have h2 := h _ _ _ e
    simp at h2; simp only; omega
  · simp at e
theorem cost_oneOf {α : Type} (c : α → Nat) : ∀ (l : List (Bytes → Option (α × Bytes))), (∀ R ∈ l, Cost R c) → Cost (oneOfR l) c
  | [], _ => by intro s y r h; simp [oneOfR] at h
  | R :: l, hl => by
    intro s y r h
    unfold oneOfR at h
    cases hR : R s with
    | none => rw [hR] at h; exact cost_oneOf c l (fun S hS => hl S (by simp [hS])) s y r h
    | some z => rw [hR] at h; simp at h; subst h; exact hl R (by simp) s _ _ hR
theorem cost_changed {α β : Type} {R : Bytes → Option (α × Bytes)} {f : α → Option β} {c : α → Nat} {c' : β → Nat} (hR : Cost R c) (h : ∀ x y, f x = some y → c' y ≤ c x) : Cost (changedR R f) c' := by
  intro s y r e
  unfold changedR at e
  cases h1 : R s with
  | none => rw [h1] at e; simp at e
  | some z =>
    obtain ⟨x, q⟩ := z
    rw [h1] at e
    cases h2 : f x with
    | none => simp [h2] at e
    | some u =>
      simp [h2] at e; obtain ⟨rfl, rfl⟩ := e
      have := hR _ _ _ h1
      have := h x u h2
      omega
theorem cost_both {α β γ : Type} {R : Bytes → Option (α × Bytes)} {S : Bytes → Option (β × Bytes)} {f : α → β → Option γ} {a : α → Nat} {b : β → Nat} {c : γ → Nat} (hR : Cost R a) (hS : Cost S b) (h : ∀ x y z, f x y = some z → c z ≤ a x + b y) : Cost (bothR R S f) c := by
  intro s y r e
  unfold bothR at e
  cases h1 : R s with
  | none => rw [h1] at e; simp at e
  | some z =>
    obtain ⟨x, q⟩ := z
    rw [h1] at e
    simp only at e
    cases h2 : S q with
    | none => simp [h2] at e
    | some t =>
      obtain ⟨u, q2⟩ := t
      rw [h2] at e
      simp only at e
      cases h3 : f x u with
      | none => simp [h3] at e
      | some v => simp [h3] at e; obtain ⟨rfl, rfl⟩ := e; have := hR _ _ _ h1; have := hS _ _ _ h2; have := h _ _ _ h3; omega
theorem cost_padded {α : Type} {R : Bytes → Option (α × Bytes)} {c : α → Nat} (hR : Cost R c) : Cost (paddedR R) c := by
  intro s y r h
  unfold paddedR at h
  cases h1 : R (skipB s) with
  | none => rw [h1] at h; simp at h
  | some z =>
    obtain ⟨x, q⟩ := z
    rw [h1] at h
    simp at h
    obtain ⟨rfl, rfl⟩ := h
    have a := hR _ _ _ h1
    have b := skipB_length s
    have c := skipB_length q
    omega
theorem cost_until {α : Type} (shut : Bytes) {R : Bytes → Option (α × Bytes)} {c : α → Nat} (hR : Cost R c) : ∀ n, Cost (untilR shut R n) (fun l => (l.map c).sum + 30 * shut.length)
  | 0 => by intro s y r h; simp [untilR] at h
  | n + 1 => by
    intro s y r h
    unfold untilR at h
    split at h
    · rename_i hp
      have h1 := (List.isPrefixOf_iff_prefix.1 hp).length_le
      simp at h; obtain ⟨rfl, rfl⟩ := h; simp; omega
    · cases h1 : R s with
      | none => rw [h1] at h; simp at h
      | some z =>
        obtain ⟨x, q⟩ := z
        rw [h1] at h
        simp only at h
        cases h2 : untilR shut R n q with
        | none => simp [h2] at h
        | some t =>
          obtain ⟨l, q2⟩ := t
          simp [h2] at h
          obtain ⟨rfl, rfl⟩ := h
          have a := hR _ _ _ h1
          have b := cost_until shut hR n _ _ _ h2
          simp only [List.map_cons, List.sum_cons] at b ⊢
          omega
theorem cost_map {α β : Type} {R : Bytes → Option (α × Bytes)} {f : α → β} {c : β → Nat} (hR : Cost R (fun x => c (f x))) : Cost (mapR f R) c := by
  intro s y r h
  unfold mapR at h
  cases h1 : R s with
  | none => rw [h1] at h; simp at h
  | some z => rw [h1] at h; simp at h; obtain ⟨rfl, rfl⟩ := h; exact hR _ _ _ h1
theorem cost_strict {α : Type} {R : Bytes → Option (α × Bytes)} {c : α → Nat} (hR : Strict R) (h : ∀ s x r, R s = some (x, r) → c x ≤ 30) : Cost R c := by
  intro s x r e
  have := hR _ _ _ e
  have := h _ _ _ e
  omega

theorem encode_le (n : Int) : (Utf8.encode n).size ≤ 4 := by
  unfold Utf8.encode
  simp only
  repeat' split
  all_goals (first | exact Nat.le_of_ble_eq_true rfl)
theorem runes_size : ∀ (l : List Int) (b : ByteArray), (l.foldl (fun r n => r ++ Utf8.encode n) b).size ≤ b.size + 4 * l.length
  | [], b => by simp
  | n :: l, b => by
    have h1 := runes_size l (b ++ Utf8.encode n)
    have h2 := encode_le n
    rw [List.foldl_cons, List.length_cons]
    rw [ByteArray.size_append] at h1
    omega
theorem runesF_len (l : List Int) : (runesF l).length ≤ 4 * l.length := by
  have h := runes_size l ByteArray.empty
  have e : (runesF l).length = (runesBytes l).size := by unfold runesF; rw [Array.length_toList]; rfl
  rw [e]
  unfold runesBytes
  simpa using h

theorem strict_digits : Strict digitsR := by
  intro s x r h
  unfold digitsR at h
  split at h
  · simp at h
  · split at h
    · simp at h
    · rename_i n hn
      split at h
      · simp at h
      · simp at h
        obtain ⟨_, rfl⟩ := h
        have hd : digN s ≠ 0 := by
          intro h0
          rw [h0, List.take_zero] at hn
          simp [intOk, Lib.parseIntB] at hn
        have hl : digN s ≤ s.length := by unfold digN; exact (List.takeWhile_prefix isDig).length_le
        simp; omega
theorem strict_number : Strict numberR := by
  refine strict_oneOf _ ?_
  intro R hR
  simp only [List.mem_cons, List.not_mem_nil, or_false] at hR
  rcases hR with rfl | rfl
  · exact strict_digits
  · exact strict_changed _ (strict_after (by simp) strict_digits.shrinks)
theorem number_bound {s : Bytes} {n : Int} {r : Bytes} (h : numberR s = some (n, r)) : -9007199254740992 < n ∧ n < 9007199254740992 := by
  unfold numberR oneOfR at h
  cases h1 : digitsR s with
  | some y =>
    rw [h1] at h
    simp at h
    subst h
    have := digits_bound h1
    omega
  | none =>
    rw [h1] at h
    simp only [oneOfR] at h
    cases h2 : changedR (afterR [45] digitsR) negR s with
    | none => rw [h2] at h; simp at h
    | some y =>
      rw [h2] at h
      simp at h
      subst h
      unfold changedR at h2
      cases h3 : afterR [45] digitsR s with
      | none => rw [h3] at h2; simp at h2
      | some z =>
        obtain ⟨m, q⟩ := z
        rw [h3] at h2
        unfold afterR at h3
        split at h3
        · have hb := digits_bound h3
          simp only [negR] at h2
          split at h2
          · simp at h2
          · rename_i u hu
            split at hu
            · simp at hu
            · simp at hu
              simp at h2
              omega
        · simp at h3
theorem cost_number : Cost numberR (fun n => (Lib.itoa n).length) := by
  refine cost_strict strict_number ?_
  intro s n r h
  have hb := number_bound h
  have := Lib.itoa_length_le n (by omega) (by omega)
  omega

theorem cost_quoted : Cost quotedR (fun t => (textF t).length) := by
  have h1 : Cost itemR (fun _ => 30) := cost_strict strict_item (fun _ _ _ _ => Nat.le_refl _)
  have h2 : Cost (untilF [34] itemR) (fun l => (l.map (fun _ => 30)).sum + 30) := fun s x r e => cost_until [34] h1 _ s x r e
  refine cost_changed (cost_after [34] _ _ h2) ?_
  intro l t e
  simp at e
  subst e
  have h3 := runesF_len l
  have h4 := textF_len (runesF l)
  have h5 : (l.map (fun _ => 30)).sum = 30 * l.length := by
    clear h3 h4
    induction l with
    | nil => rfl
    | cons a l ih => rw [List.map_cons, List.sum_cons, ih, List.length_cons]; omega
  simp only [h5, List.length_cons, List.length_nil]
  omega
theorem cost_simple : Cost simpleR (fun x => (leafF x).length) := by
  refine cost_oneOf _ _ ?_
  intro R hR
  simp only [List.mem_cons, List.not_mem_nil, or_false] at hR
  rcases hR with rfl | rfl | rfl | rfl | rfl
  · exact cost_word _ _ _ (by simp [leafF])
  · exact cost_word _ _ _ (by simp [leafF])
  · exact cost_word _ _ _ (by simp [leafF])
  · exact cost_changed cost_number (fun x y e => by simp at e; subst e; exact Nat.le_refl _)
  · exact cost_changed cost_quoted (fun x y e => by simp at e; subst e; exact Nat.le_refl _)

def tot {α : Type} (g : α → Bytes) (xs : List α) : Nat := (xs.map fun x => (g x).length + 1).sum
theorem flat_tot : ∀ l : List Bytes, (l.flatMap fun y => [44] ++ y).length = (l.map fun y => y.length + 1).sum
  | [] => rfl
  | y :: l => by
    have := flat_tot l
    simp only [List.flatMap_cons, List.length_append, List.length_cons, List.length_nil, List.map_cons, List.sum_cons, this]
    omega
theorem sep_tot {α : Type} (g : α → Bytes) (xs : List α) : (sep (xs.map g)).length ≤ tot g xs := by
  cases xs with
  | nil => simp [sep, tot]
  | cons x xs =>
    have h := flat_tot (xs.map g)
    simp only [List.map_map, Function.comp_def] at h
    simp only [List.map_cons, sep, tot, List.length_append, h, List.sum_cons]
    omega
theorem tot_perm {α : Type} (g : α → Bytes) {xs ys : List α} (h : xs.Perm ys) : tot g xs = tot g ys := by
  unfold tot
  induction h with
  | nil => rfl
  | cons x _ ih => simp only [List.map_cons, List.sum_cons, ih]
  | swap x y l => simp only [List.map_cons, List.sum_cons]; omega
  | trans _ _ ih1 ih2 => exact ih1.trans ih2

theorem cost_list {α : Type} (g : α → Bytes) (o c : UInt8) {R : Bytes → Option (α × Bytes)} (hR : Cost R (fun x => (g x).length)) : Cost (listR [o] [c] R) (fun xs => tot g xs + 30) := by
  unfold listR
  refine cost_after [o] _ (tot g) ?_
  refine cost_oneOf _ _ ?_
  intro S hS
  simp only [List.mem_cons, List.not_mem_nil, or_false] at hS
  rcases hS with rfl | rfl
  · exact cost_padded (cost_word _ _ _ (by simp [tot]))
  · have h2 : Cost (untilF [c] (afterR [44] R)) (fun l => (l.map (fun x => (g x).length + 30)).sum + 30) := fun s x r e => cost_until [c] (cost_after [44] R _ hR) _ s x r e
    refine cost_both hR h2 ?_
    intro x xs z e
    simp at e
    subst e
    have h3 : tot g xs ≤ (xs.map (fun x => (g x).length + 30)).sum := by
      unfold tot
      induction xs with
      | nil => exact Nat.le_refl _
      | cons a l ih => simp only [List.map_cons, List.sum_cons]; omega
    have h4 : tot g (x :: xs) = (g x).length + 1 + tot g xs := by simp [tot]
    omega
theorem cost_array {α : Type} (f : α → Bytes) {R : Bytes → Option (α × Bytes)} (hR : Cost R (fun x => (f x).length)) : Cost (arrayR R) (fun x => (nodeF f x).length) := by
  refine cost_changed (cost_list f 91 93 hR) ?_
  intro xs y e
  simp at e
  subst e
  have := sep_tot f xs
  simp only [nodeF, listF, List.length_append, List.length_cons, List.length_nil]
  omega
theorem cost_object {α : Type} (f : α → Bytes) {R : Bytes → Option (α × Bytes)} (hR : Cost R (fun x => (f x).length)) : Cost (objectR R) (fun x => (nodeF f x).length) := by
  have hm : Cost (memberR quotedR R) (fun m => (pairF f m).length) := by
    refine cost_both (cost_padded cost_quoted) (cost_after [58] R _ hR) ?_
    intro x y z e
    simp at e
    subst e
    simp only [pairF, List.length_append, List.length_cons, List.length_nil]
    omega
  refine cost_changed (cost_list (pairF f) 123 125 hm) ?_
  intro ms y e
  unfold objF at e
  split at e
  · simp at e
    subst e
    have h1 := sep_tot (pairF f) (byName ms)
    rw [tot_perm (pairF f) (byName_perm ms)] at h1
    simp only [nodeF, objectF, List.length_append, List.length_cons, List.length_nil]
    omega
  · simp at e
theorem cost_val : ∀ d, Cost (valR d) (fun x => (formF d x).length)
  | 0 => cost_padded cost_simple
  | d + 1 => by
    show Cost (paddedR (oneOfR [mapR Sum.inl simpleR, arrayR (valR d), objectR (valR d)])) _
    refine cost_padded (cost_oneOf _ _ ?_)
    intro R hR
    simp only [List.mem_cons, List.not_mem_nil, or_false] at hR
    rcases hR with rfl | rfl | rfl
    · exact cost_map cost_simple
    · exact cost_array (formF d) (cost_val d)
    · exact cost_object (formF d) (cost_val d)
theorem read_short {s : Bytes} {x : JT 8} (hs : s.length ≤ 4000) (h : readF s = some x) : (formF 8 x).length ≤ 120000 := by
  unfold readF at h
  split at h
  · rename_i y hy
    simp at h
    subst h
    have := cost_val 8 _ _ _ hy
    simp only [List.length_nil] at this
    omega
  · simp at h

/-- code.Form, where the variables of the library are laid. -/
structure Laid (w : World) : Prop where
  utf : Lib.Utf8Tabs 2 3 w
  errs : Errs w
  pow : Lib.TabIs Tryz.prog w "internal/strconv.uint64pow10" .u64 Lib.pow10Tab
theorem tab_later {w w' : World} (h : Lib.TabIs Tryz.prog w "internal/strconv.uint64pow10" .u64 Lib.pow10Tab) (hb : Below w.heap.size w w') : Lib.TabIs Tryz.prog w' "internal/strconv.uint64pow10" .u64 Lib.pow10Tab := by
  unfold Lib.TabIs World.var? at *
  cases hg : Tryz.prog.globalNamed "internal/strconv.uint64pow10" with
  | none => simp [hg] at h
  | some g =>
    simp only [hg, Option.bind_some] at h ⊢
    have hlt : g < w.heap.size := by
      rcases Nat.lt_or_ge g w.heap.size with h' | h'
      · exact h'
      · rw [Array.getElem?_eq_none h'] at h; simp at h
    rw [hb.block g hlt]
    exact h
theorem Laid.later {w w' : World} (h : Laid w) (hb : Below w.heap.size w w') : Laid w' := ⟨tabs_later h.utf hb, errs_later h.errs hb, tab_later h.pow hb⟩
theorem code_form (s : ByteArray) (w : World) (h : Laid w) : Calls Tryz.prog 5 #[.string s] w (FormSays s w) :=
  form_says s w h.utf h.errs h.pow (fun _ hb => tab_later h.pow hb) (fun x hs hx => by
    have := read_short (by rw [Array.length_toList]; exact hs) hx
    omega)
end Go.Proofs.YtgaddifabjoliaaGreatDoor
