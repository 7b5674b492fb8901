import Derived.OrdersHeld
import Derived.Deep.RegionHeld3
import Derived.Laws.Rows
namespace Go.Proofs.YtgaddifabjoliaaDoor

section
variable {P : Program} {md : Region.Mode} {Q : Exit → Act → World → Prop}

/-- What is asked behind all operations but number n: that one. -/
def Behind (P : Program) (ops : Array Oper) (n : Nat) (Q : Exit → Act → World → Prop) : Exit → Act → World → Prop
  | .normal, a, w => wpOp P ops Q n (fun a' w' => Q .normal a' w') a w
  | e, a, w => Q e a w

/-- o stands behind all of ops, none of which is guarded or waits for one that is not ahead of it. -/
def lastOk (md : Region.Mode) (ops : Array Oper) (o : Oper) : Bool :=
  (List.range ops.size).all (fun j => o.after.toList.any fun e => Region.binds md e && e.on == j) &&
  o.after.all (fun e => !Region.binds md e || decide (e.on < ops.size)) &&
  (List.range ops.size).all (fun j => ((ops[j]?).map fun oj => oj.guard.isNone && oj.after.all fun e => !Region.binds md e || decide (e.on < j)).getD true)

theorem push_lt (l : Array Bool) (b d : Bool) (j : Nat) (h : j < l.size) : (l.push b).getD j d = l.getD j d := by
  simp only [Array.getD_eq_getD_getElem?, Array.getElem?_push_lt h, Array.getElem?_eq_getElem h]
theorem push_eq (l : Array Bool) (b d : Bool) : (l.push b).getD l.size d = b := by
  simp only [Array.getD_eq_getD_getElem?, Array.getElem?_push_size, Option.getD_some]
theorem push_set (l : Array Bool) (b : Bool) (i : Nat) (h : i < l.size) : (l.push b).setIfInBounds i true = (l.setIfInBounds i true).push b := by
  apply Array.ext_getElem?
  intro j
  simp only [Array.getElem?_setIfInBounds, Array.getElem?_push, Array.size_push, Array.size_setIfInBounds]
  by_cases hj : j = l.size
  · subst hj
    have : ¬ i = l.size := by omega
    simp [this]
  · by_cases hij : i = j
    · subst hij
      simp [h, hj]
      omega
    · simp [hij, hj]

theorem push_top (l : Array Bool) : (l.push false).setIfInBounds l.size true = l.push true := by
  apply Array.ext_getElem?
  intro j
  simp only [Array.getElem?_setIfInBounds, Array.getElem?_push, Array.size_push]
  by_cases hj : l.size = j
  · subst hj; simp
  · have hj' : ¬ j = l.size := fun e => hj e.symm
    simp [hj, hj']

variable {ops : Array Oper} {o : Oper}

theorem all_listed (h : lastOk md ops o = true) {l : Array Bool} (hr : Region.ready md ops l = []) : ∀ j, j < ops.size → l.getD j true = true := by
  simp only [lastOk, Bool.and_eq_true, List.all_eq_true, List.mem_range] at h
  obtain ⟨⟨_, _⟩, hb⟩ := h
  intro j
  induction j using Nat.strongRecOn with
  | _ j ih =>
    intro hj
    cases hl : l.getD j true with
    | true => rfl
    | false =>
      exfalso
      have hm : j ∈ Region.ready md ops l := by
        rw [mem_ready]
        refine ⟨hl, ops[j], Array.getElem?_eq_getElem hj, fun e he hbe => ?_⟩
        have h1 := hb j hj
        rw [Array.getElem?_eq_getElem hj] at h1
        simp only [Option.map_some, Option.getD_some, Bool.and_eq_true, Array.all_eq_true_iff_forall_mem] at h1
        have h2 := h1.2 e he
        rw [hbe] at h2
        have h3 : e.on < j := by simpa using h2
        have h4 := ih e.on h3 (by omega)
        by_cases hs : e.on < l.size
        · rw [Array.getD_eq_getD_getElem?, Array.getElem?_eq_getElem hs] at h4 ⊢
          exact h4
        · exfalso
          have : l.getD j true = true := by
            rw [Array.getD_eq_getD_getElem?, Array.getElem?_eq_none (by omega)]; rfl
          rw [this] at hl; cases hl
      rw [hr] at hm
      cases hm

theorem ready_old (h : lastOk md ops o = true) {l : Array Bool} (hl : l.size = ops.size) (b : Bool) {j : Nat} (hj : j < ops.size) : j ∈ Region.ready md (ops.push o) (l.push b) ↔ j ∈ Region.ready md ops l := by
  simp only [lastOk, Bool.and_eq_true, List.all_eq_true, List.mem_range] at h
  obtain ⟨⟨_, _⟩, hb⟩ := h
  have h1 := hb j hj
  rw [Array.getElem?_eq_getElem hj] at h1
  simp only [Option.map_some, Option.getD_some, Bool.and_eq_true, Array.all_eq_true_iff_forall_mem] at h1
  have hon : ∀ e ∈ ops[j].after, Region.binds md e = true → e.on < j := fun e he hbe => by
    have h2 := h1.2 e he
    rw [hbe] at h2
    simpa using h2
  rw [mem_ready, mem_ready, push_lt l b true j (by omega), Array.getElem?_push_lt hj, Array.getElem?_eq_getElem hj]
  constructor
  · rintro ⟨h0, o', ho, hall⟩
    cases ho
    exact ⟨h0, _, rfl, fun e he hbe => by rw [← push_lt l b false e.on (by have := hon e he hbe; omega)]; exact hall e he hbe⟩
  · rintro ⟨h0, o', ho, hall⟩
    cases ho
    exact ⟨h0, _, rfl, fun e he hbe => by rw [push_lt l b false e.on (by have := hon e he hbe; omega)]; exact hall e he hbe⟩

theorem ready_last (h : lastOk md ops o = true) {l : Array Bool} (hl : l.size = ops.size) (hall : ∀ j, j < ops.size → l.getD j true = true) : ops.size ∈ Region.ready md (ops.push o) (l.push false) := by
  simp only [lastOk, Bool.and_eq_true, List.all_eq_true, List.mem_range, Array.all_eq_true_iff_forall_mem] at h
  obtain ⟨⟨_, hs⟩, _⟩ := h
  rw [mem_ready]
  refine ⟨by rw [← hl]; exact push_eq _ _ _, o, Array.getElem?_push_size, fun e he hbe => ?_⟩
  have h2 := hs e he
  rw [hbe] at h2
  have h3 : e.on < ops.size := by simpa using h2
  rw [push_lt l false false e.on (by omega)]
  have h4 := hall e.on h3
  rw [Array.getD_eq_getD_getElem?, Array.getElem?_eq_getElem (by omega)] at h4 ⊢
  exact h4

theorem last_all (h : lastOk md ops o = true) {l : Array Bool} (hl : l.size = ops.size) (hm : ops.size ∈ Region.ready md (ops.push o) (l.push false)) : ∀ j, j < ops.size → l.getD j true = true := by
  simp only [lastOk, Bool.and_eq_true, List.all_eq_true, List.mem_range] at h
  obtain ⟨⟨ha, _⟩, _⟩ := h
  intro j hj
  rw [mem_ready] at hm
  obtain ⟨_, o', ho, hall⟩ := hm
  rw [Array.getElem?_push_size] at ho
  cases ho
  have h1 := ha j hj
  rw [List.any_eq_true] at h1
  obtain ⟨e, he', hb⟩ := h1
  have he : e ∈ o.after := by simpa using he'
  simp only [Bool.and_eq_true, beq_iff_eq] at hb
  have h2 := hall e he hb.1
  rw [hb.2, push_lt l false false j (by omega), Array.getD_eq_getD_getElem?, Array.getElem?_eq_getElem (by omega)] at h2
  rw [Array.getD_eq_getD_getElem?, Array.getElem?_eq_getElem (by omega)]
  exact h2

theorem ready_done {l : Array Bool} (hl : l.size = ops.size) (hall : ∀ j, j < ops.size → l.getD j true = true) : Region.ready md (ops.push o) (l.push true) = [] := by
  rw [List.eq_nil_iff_forall_not_mem]
  intro j hj
  rw [mem_ready] at hj
  obtain ⟨h0, o', ho, _⟩ := hj
  have hlt := (Array.getElem?_eq_some_iff.1 ho).1
  rw [Array.size_push] at hlt
  by_cases hjn : j = ops.size
  · rw [hjn, ← hl, push_eq] at h0
    cases h0
  · rw [push_lt l true true j (by omega), hall j (by omega)] at h0
    cases h0

theorem wpAny_push (h : lastOk md ops o = true) : ∀ (fuel : Nat) (l : Array Bool) (a : Act) (w : World), l.size = ops.size → wpAny P md ops (Behind P (ops.push o) ops.size Q) fuel l a w → wpAny P md (ops.push o) Q (fuel + 1) (l.push false) a w := by
  intro fuel
  induction fuel with
  | zero =>
    intro l a w hl hh
    obtain ⟨hr, hq⟩ := hh
    have hall := all_listed h hr
    refine ⟨fun h0 => absurd (ready_last h hl hall) (by rw [h0]; simp), fun i hi => ?_⟩
    by_cases hin : i < ops.size
    · have := (ready_old h hl false hin).1 hi
      rw [hr] at this
      cases this
    · have hie : i = ops.size := by
        have := (mem_ready.1 hi).2
        obtain ⟨o', ho, _⟩ := this
        have := (Array.getElem?_eq_some_iff.1 ho).1
        rw [Array.size_push] at this
        omega
      subst hie
      refine wpOp_mono (fun a' w' hq' => ?_) hq
      refine ⟨?_, hq'⟩
      have e : (l.push false).setIfInBounds ops.size true = l.push true := by rw [← hl]; exact push_top l
      rw [e]
      exact ready_done hl hall
  | succ fuel ih =>
    intro l a w hl hh
    obtain ⟨hq, hs⟩ := hh
    refine ⟨fun h0 => ?_, fun i hi => ?_⟩
    · exfalso
      cases hr : Region.ready md ops l with
      | nil => exact absurd (ready_last h hl (all_listed h hr)) (by rw [h0]; simp)
      | cons j js =>
        have hj : j ∈ Region.ready md ops l := by rw [hr]; simp
        have hjn : j < ops.size := by
          obtain ⟨_, o', ho, _⟩ := mem_ready.1 hj
          exact (Array.getElem?_eq_some_iff.1 ho).1
        exact absurd ((ready_old h hl false hjn).2 hj) (by rw [h0]; simp)
    · by_cases hin : i < ops.size
      · have hi0 := (ready_old h hl false hin).1 hi
        have h1 := hs i hi0
        have hg : ops[i].guard = none := by
          simp only [lastOk, Bool.and_eq_true, List.all_eq_true, List.mem_range] at h
          have h2 := h.2 i hin
          rw [Array.getElem?_eq_getElem hin] at h2
          simp only [Option.map_some, Option.getD_some, Bool.and_eq_true, Option.isNone_iff_eq_none] at h2
          exact h2.1
        have hw : ∀ y, Region.wanted ops[i] y = true := fun y => by simp [Region.wanted, hg]
        rw [push_set l false i (by omega)]
        unfold wpOp at h1 ⊢
        rw [Array.getElem?_eq_getElem hin] at h1
        rw [Array.getElem?_push_lt hin]
        simp only [hw, if_true] at h1 ⊢
        rcases h1 with h1 | h1
        · exact Or.inl (Oper.wp_mono (fun a' w' h2 => ih _ a' w' (by simpa using hl) h2) h1)
        · exact Or.inr h1
      · have hie : i = ops.size := by
          have := (mem_ready.1 hi).2
          obtain ⟨o', ho, _⟩ := this
          have := (Array.getElem?_eq_some_iff.1 ho).1
          rw [Array.size_push] at this
          omega
        subst hie
        have hall := last_all h hl hi
        have hr : Region.ready md ops l = [] := by
          rw [List.eq_nil_iff_forall_not_mem]
          intro j hj
          obtain ⟨h0, o', ho, _⟩ := mem_ready.1 hj
          have := hall j (Array.getElem?_eq_some_iff.1 ho).1
          rw [this] at h0
          cases h0
        refine wpOp_mono (fun a' w' hq' => ?_) (hq hr)
        have e : (l.push false).setIfInBounds ops.size true = l.push true := by rw [← hl]; exact push_top l
        have e2 := ready_done (md := md) (o := o) hl hall
        rw [e]
        refine ⟨fun _ => hq', fun i hi => ?_⟩
        rw [e2] at hi
        cases hi

/-- A region that draws its order, whose last operation stands behind all others: the others first, under S; then that one. -/
theorem wp_region_last {S : World → Prop} {id : Nat} {a : Act} {w : World} (hm : P.follows .mixedOrders = true) (h : lastOk .any ops o = true) (hS : S w.drew)
    (hh : S w.drew → wpAnyH P .any ops (Behind P (ops.push o) ops.size Q) S ops.size (Array.replicate ops.size false) a w.drew) : (Code.region id (ops.push o) true).wp P Q a w := by
  refine wp_region_any hm ?_
  have e : Array.replicate (ops.push o).size false = (Array.replicate ops.size false).push false := by
    rw [Array.size_push, Array.replicate_succ]
  rw [e, Array.size_push]
  exact wpAny_push h _ _ _ _ (by simp) (wpAny_of_held _ _ _ _ (hh hS))

theorem wp_region_back {S : World → Prop} {id : Nat} {a : Act} {w : World} {ops' : Array Oper} (hb : ops'.back? = some o) (hp : ops'.pop = ops) (hm : P.follows .mixedOrders = true) (h : lastOk .any ops o = true) (hS : S w.drew)
    (hh : S w.drew → wpAnyH P .any ops (Behind P ops' ops.size Q) S ops.size (Array.replicate ops.size false) a w.drew) : (Code.region id ops' true).wp P Q a w := by
  have e : ops' = ops.push o := by
    rw [← hp]
    obtain ⟨xs⟩ := ops'
    rcases List.eq_nil_or_concat xs with rfl | ⟨ys, y, rfl⟩
    · simp at hb
    · simp at hb
      subst hb
      simp
  subst e
  exact wp_region_last hm h hS hh

theorem wpOp_of {ops : Array Oper} {i : Nat} {o : Oper} {K : Act → World → Prop} {a : Act} {w : World} (hi : ops[i]? = some o) (hg : o.guard = none) (h : o.wp P a w K Q) : wpOp P ops Q i K a w := by
  unfold wpOp
  rw [hi]
  have hw : Region.wanted o (yielded ops a.tmps) = true := by simp [Region.wanted, hg]
  simp only [hw, if_true]
  exact Or.inl h

theorem behind_of {ops : Array Oper} {i : Nat} {o : Oper} {a : Act} {w : World} (hi : ops[i]? = some o) (hg : o.guard = none) (h : o.wp P a w (fun a' w' => Q .normal a' w') Q) : Behind P ops i Q .normal a w :=
  show wpOp P ops Q i (fun a' w' => Q .normal a' w') a w from wpOp_of hi hg h

/-- A whole row is loaded, in every world that meets S. -/
theorem yields_row {ops : Array Oper} {S : World → Prop} {o : Oper} {a : Act} (hg : o.guard = none) (ty : TypeId) (x : Operand) (ho : o.op = .load ty x) (g : Nat) (hx : a.eval x = .pointer (some ⟨g, 0, none⟩)) (t : TypeId) (cs : Array Value) (d : TypeDesc)
    (hu : P.underlying ty = some d) (hd : (match d with | .struct _ | .array _ _ => true | _ => false) = true) (hi : (P.info? ty).map (·.size) = some cs.size) (hS : ∀ w : World, S w → w.heap[g]? = some (.cells cs t (0, 0))) : YieldsIf P ops S o (.agg cs) a := by
  refine Or.inl ⟨by simp [Region.wanted, hg], fun w hw => ?_⟩
  unfold execOp
  simp only [ho, hx, Instr.loadAt, Instr.sureAddr, Sem.run_bind, Sem.run_pure, Result.andThen_ok, run_loadVar_row w g t ty cs (0, 0) d (hS w hw) hu hd hi]
end
end Go.Proofs.YtgaddifabjoliaaDoor
