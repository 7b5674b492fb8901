import Derived.Test.YtgaddifabjoliaaGreatDoorSorts
import Derived.Lib.OwnBridge
namespace Go.Proofs.YtgaddifabjoliaaGreatDoor
open Go.RowKit Go.Sort

abbrev Sl := Option Addr × Nat × Nat
abbrev M6 := ByteArray × Int × Int × ByteArray × Sl × Sl
def enc6 (m : M6) : List Value := [.string m.1, .int .i64 m.2.1, .int .i64 m.2.2.1, .string m.2.2.2.1, .slice m.2.2.2.2.1.1 m.2.2.2.2.1.2.1 m.2.2.2.2.1.2.2, .slice m.2.2.2.2.2.1 m.2.2.2.2.2.2.1 m.2.2.2.2.2.2.2]

theorem flat_at {α : Type} [Inhabited α] (enc : α → List Value) (k : Nat) (hk : ∀ x, (enc x).length = k) (k0 : 0 < k) : ∀ (l : List α) (t : Nat), t < l.length * k → ((l.map enc).flatten)[t]? = some (enc l[t / k]!)[t % k]!
  | [], t, h => by simp at h
  | x :: l, t, h => by
    rw [List.map_cons, List.flatten_cons]
    by_cases ht : t < k
    · rw [List.getElem?_append_left (by rw [hk]; exact ht), Nat.div_eq_of_lt ht, Nat.mod_eq_of_lt ht]
      have : t < (enc x).length := by rw [hk]; exact ht
      rw [List.getElem?_eq_getElem this]
      simp [getElem!_pos, this]
    · obtain ⟨u, rfl⟩ : ∃ u, t = u + k := ⟨t - k, by omega⟩
      rw [List.getElem?_append_right (by rw [hk]; omega), hk, Nat.add_sub_cancel]
      have hu : u < l.length * k := by rw [List.length_cons, Nat.add_mul] at h; omega
      rw [flat_at enc k hk k0 l u hu, Nat.add_div_right _ k0, Nat.add_mod_right]
      have h1 : u / k < l.length := by rw [Nat.div_lt_iff_lt_mul k0]; exact hu
      simp [getElem!_pos, h1]

theorem flat_list {α : Type} [Inhabited α] (enc : α → List Value) (k : Nat) (hk : ∀ x, (enc x).length = k) (k0 : 0 < k) (l : List α) : (flatK enc k l.toArray).toList = (l.map enc).flatten := by
  have hlen : ∀ l : List α, ((l.map enc).flatten).length = l.length * k := by
    intro l
    induction l with
    | nil => simp
    | cons x l ih => rw [List.map_cons, List.flatten_cons, List.length_append, hk, ih, List.length_cons, Nat.add_mul]; omega
  apply List.ext_getElem?
  intro t
  by_cases ht : t < l.length * k
  · rw [flat_at enc k hk k0 l t ht, Array.getElem?_toList, Array.getElem?_eq_getElem (by simpa using ht)]
    have h2 := get_flatK enc k l.toArray t (by simpa using ht)
    rw [getElem!_pos _ t (by simpa using ht)] at h2
    rw [h2]
    simp
  · rw [List.getElem?_eq_none (by simp; omega), List.getElem?_eq_none (by rw [hlen]; omega)]

theorem enc6_len (x : M6) : (enc6 x).length = 6 := rfl

theorem holds6 {w : World} {g : Nat} {cur : Array Value} {e : TypeId} {ms : List M6} (hb : w.heap[g]? = some (.cells cur e (0, 0))) (ht : cur.toList.take (ms.length * 6) = (ms.map enc6).flatten) : HoldsK enc6 6 w g 0 ms.toArray := by
  intro j hj
  have hj' : j < ms.length * 6 := by simpa using hj
  refine ⟨?_, by simp [World.frozen?, hb]⟩
  have h1 : (cur.toList.take (ms.length * 6))[j]? = (flatK enc6 6 ms.toArray).toList[j]? := by rw [ht, flat_list enc6 6 enc6_len (by decide)]
  rw [List.getElem?_take_of_lt hj'] at h1
  simp only [World.cell?, hb, Nat.zero_add]
  simp only [Option.isSome_none, Bool.false_eq_true, if_false]
  rw [← Array.getElem?_toList, h1, Array.getElem?_toList, Array.getElem?_eq_getElem hj, getElem!_pos _ j hj]
  rfl

theorem heap6 {w : World} {g n : Nat} {os : Array Obj} {cur : Array Value} {e : TypeId} {fr : Nat × Nat} (d : Array M6) (hb : w.heap[g]? = some (.cells cur e fr)) :
    (sortWorldK enc6 6 w g 0 n d os).heap[g]? = some (.cells (putCells id 0 (flatK enc6 6 d) cur) e fr) := by
  have hg : g < w.heap.size := (Array.getElem?_eq_some_iff.1 hb).1
  unfold sortWorldK putRowK
  rw [heap_grow_old _ _ (by simpa [Sort.ahead] using hg)]
  simp [putRow, mapBlock, Sort.ahead, Array.getElem?_modify, hb, onCells]

theorem grown6 {w : World} {g n : Nat} {os : Array Obj} (d : Array M6) : w.grownBy (sortWorldK enc6 6 w g 0 n d os) (some g) := by
  unfold sortWorldK putRowK
  refine ⟨rfl, rfl, rfl, by simp [Sort.ahead], fun k hk hne => ?_⟩
  rw [heap_grow_old _ _ (by simpa [Sort.ahead] using hk)]
  have : g ≠ k := fun e => hne (by rw [e])
  simp [putRow, mapBlock, Sort.ahead, Array.getElem?_modify, this]

theorem take6 (cur : Array Value) (ts : List M6) (h : ts.length * 6 ≤ cur.size) : (putCells id 0 (flatK enc6 6 ts.toArray) cur).toList.take (ts.length * 6) = (ts.map enc6).flatten := by
  rw [← flat_list enc6 6 enc6_len (by decide)]
  apply List.ext_getElem?
  intro j
  by_cases hj : j < ts.length * 6
  · have hj2 : j < (flatK enc6 6 ts.toArray).size := by simpa using hj
    rw [List.getElem?_take_of_lt hj, Array.getElem?_toList, Array.getElem?_toList, Array.getElem?_eq_getElem hj2]
    simp [putCells, hj, show j < cur.size by omega, getElem!_pos]
  · rw [List.getElem?_take_eq_none (by omega), List.getElem?_eq_none (by simp; omega)]

theorem owns6 {w : World} {base g cap n : Nat} {e : TypeId} {os : Array Obj} {cur : Array Value} {m : Nat} {ts : List M6} (hl : ts.length = m) (hbase : base ≤ g) (hb : w.heap[g]? = some (.cells cur e (0, 0)))
    (h1 : m ≤ cap) (h2 : cap ≤ maxLen) (h3 : cur.size = cap * 6) :
    (sortWorldK enc6 6 w g 0 n ts.toArray os).ownsRow base e 6 (.slice (some ⟨g, 0, none⟩) m cap) m ((ts.map enc6).flatten) := by
  refine ⟨?_, .inr ⟨g, cap, _, rfl, hbase, heap6 _ hb, h1, h2, by simp [putCells, h3], ?_⟩⟩
  · rw [← flat_list enc6 6 enc6_len (by decide), Array.length_toList]; simp [hl]
  · rw [← hl]; exact take6 cur ts (by omega)

/-- Members as cells. -/
theorem elems6 {α : Type} {rep : Rep α} {F : Nat → Prop} {w : World} : ∀ {xs : List (Named α)} {cs : List (List Value)}, Elems 6 (repM rep) F w xs cs →
    ∃ zs : List (Named α × M6), zs.map Prod.fst = xs ∧ zs.map (fun z => enc6 z.2) = cs ∧ ∀ z ∈ zs, (repM rep).rel F w z.1 (.agg (enc6 z.2).toArray) ∧ z.2.1 = ⟨z.1.1.toArray⟩
  | [], [], _ => ⟨[], rfl, rfl, fun z hz => by cases hz⟩
  | x :: xs, c :: cs, h => by
    obtain ⟨zs, h1, h2, h3⟩ := elems6 h.2.2
    obtain ⟨k, n, t, a, l, p, a', l', p', e, hr⟩ := h.1
    have hc : c = enc6 (⟨x.1.toArray⟩, k, n, t, (a, l, p), (a', l', p')) := by
      injection e with e
      have := congrArg Array.toList e
      simpa [enc6] using this
    refine ⟨(x, (⟨x.1.toArray⟩, k, n, t, (a, l, p), (a', l', p'))) :: zs, by simp [h1], by simp [h2, hc], ?_⟩
    intro z hz
    rcases List.mem_cons.1 hz with rfl | hz
    · refine ⟨?_, rfl⟩
      have := h.1
      rw [hc] at this
      exact this
    · exact h3 z hz
  | [], _ :: _, h => h.elim
  | _ :: _, [], h => h.elim
theorem elems6_of {α : Type} {rep : Rep α} {F : Nat → Prop} {w : World} : ∀ {zs : List (Named α × M6)}, (∀ z ∈ zs, (repM rep).rel F w z.1 (.agg (enc6 z.2).toArray)) → Elems 6 (repM rep) F w (zs.map Prod.fst) (zs.map fun z => enc6 z.2)
  | [], _ => trivial
  | z :: zs, h => ⟨h z (by simp), rfl, elems6_of fun y hy => h y (by simp [hy])⟩

def cmp6 (x y : M6) : Int := Lib.compareBytes x.1.data.toList y.1.data.toList
theorem lt6 (x y : M6) : ltOf cmp6 x y = ltB x.1.data.toList y.1.data.toList := rfl
theorem swo6 : SWO (ltOf cmp6) where
  irrefl x := by rw [lt6]; exact ltB_irrefl _
  trans x y z h1 h2 := by rw [lt6] at *; exact ltB_trans h1 h2
  ntrans x y z h1 h2 := by rw [lt6] at *; exact ltB_ntrans h1 h2

set_option maxHeartbeats 1000000 in
theorem closure6 (x y : M6) (W : World) : Calls Tryz.prog 91 #[.agg (enc6 x).toArray, .agg (enc6 y).toArray] W fun e w' => e = .returned (.int .i64 (cmp6 x y)) ∧ ∃ q os', w' = Sort.grow (W.drewN q) os' := by
  obtain ⟨x1, x2, x3, x4, ⟨x5, x6, x7⟩, x8, x9, x10⟩ := x
  obtain ⟨y1, y2, y3, y4, ⟨y5, y6, y7⟩, y8, y9, y10⟩ := y
  have hcon := fun W' => Tryz.strings_Compare x1 y1 W'
  simp only [cmp6, enc6]
  generalize Lib.compareBytes x1.data.toList y1.data.toList = r at hcon ⊢
  go_enter Tryz.func91, Tryz.ntmps91
  go_wp2_with (go_at_call 92; refine (hcon _).mono ?_; rintro e w' ⟨rfl, rfl⟩)
  go_ret
  exact ⟨rfl, 0, _, by rw [alloc_eq_grow, alloc_eq_grow, grow_grow]; rfl⟩

theorem cmpLays6 (blk off size : Nat) (w : World) : CmpLays Tryz.prog 91 #[] enc6 6 cmp6 blk off size w :=
  fun _ _ _ _ x y => closure6 x y _

theorem oneCell6 (x : M6) : ∀ v ∈ enc6 x, v.oneCell' = true := by
  intro v hv
  simp [enc6] at hv
  rcases hv with rfl | rfl | rfl | rfl | rfl | rfl <;> rfl

theorem sorted_list {l : List M6} (h : SortedIn (ltOf cmp6) 0 l.length l.toArray) : l.Pairwise fun a b => ltB b.1.data.toList a.1.data.toList = false := by
  rw [List.pairwise_iff_getElem]
  intro i j hi hj hij
  have := h i j (Nat.zero_le _) hij hj
  simpa [lt6, getElem!_pos, hi, hj] using this

/-- The library's sort of members. -/
theorem sort_members {α : Type} (rep : Rep α) {F : Nat → Prop} {W : World} {xs : List (Named α)} {v : Value} (hx : (repMembers rep).rel F W xs v) :
    Calls Tryz.prog 90 #[v, .func (.func 91) #[] #[]] W fun e w' => e = .returned (.tuple #[]) ∧ Hid (W.grownBy w' v.ownBlock) ∧ ∃ ys, Hid (ys.Perm xs) ∧ Hid (UpEq ys) ∧ Hid ((repMembers rep).rel F w' ys v) := by
  obtain ⟨hN, cs, F', hF, hE, ho, hblk⟩ := hx
  obtain ⟨zs, hz1, hz2, hz3⟩ := elems6 hE
  have hlen : zs.length = xs.length := by rw [← hz1]; simp
  have HO := ho
  rcases ho.2 with ⟨rfl, h0⟩ | ⟨g, cap, cur, rfl, hbase, hb, hn, hm, hs, ht⟩
  · have : xs = [] := List.length_eq_zero_iff.1 h0
    subst this
    refine (AnyF.slices_SortFunc_none { Tryz.sortM with } none 0 _ W).mono ?_
    rintro e w' ⟨rfl, rfl⟩
    exact ⟨rfl, ⟨rfl, rfl, rfl, Nat.le_refl _, fun _ _ _ => rfl⟩, [], List.Perm.refl _, List.Pairwise.nil, hN, cs, F', hF, hE, HO, hblk⟩
  · have hg : g < W.heap.size := (Array.getElem?_eq_some_iff.1 hb).1
    have hms : (zs.map Prod.snd).length = xs.length := by simp [hlen]
    have hcs : cs.flatten = ((zs.map Prod.snd).map enc6).flatten := by rw [← hz2, List.map_map]; rfl
    have hH : HoldsK enc6 6 W g 0 (zs.map Prod.snd).toArray := holds6 hb (by rw [hms, ht, hcs])
    have eg : ∀ args w, (callFunc 91 args).run Tryz.prog w = .ok (.enter 91 args) w := enters_of Tryz.func91 (by kernel_rfl) rfl
    have hcon := AnyQ.slices_SortFunc Tryz.sortM 6 Tryz.isAgg77 Tryz.sizeOf77 enc6 enc6_len oneCell6 cmp6 swo6 91 #[] g 0 cap (zs.map Prod.snd).toArray W eg (cmpLays6 g 0 _ W) hH hg (by simp; omega)
    simp only [List.size_toArray, hms] at hcon
    refine Calls.mono hcon ?_
    rintro e w' ⟨rfl, d', n, os, hp, hsd, rfl⟩
    obtain ⟨l', rfl⟩ : ∃ l' : List M6, d' = l'.toArray := ⟨d'.toList, rfl⟩
    have hl' : l'.length = xs.length := by have := hp.1; simp at this; omega
    have hperm : l'.Perm (zs.map Prod.snd) := by
      have := hp.2.2
      have e1 : (Array.extract l'.toArray 0 xs.length).toList = l' := by simp [← hl']
      have e2 : (Array.extract (zs.map Prod.snd).toArray 0 xs.length).toList = zs.map Prod.snd := by
        rw [Array.toList_extract]
        simp only [List.extract_eq_take_drop, List.drop_zero, Nat.sub_zero]
        rw [List.take_of_length_le (by rw [hms]; exact Nat.le_refl _)]
      rw [e1, e2] at this
      exact this
    obtain ⟨ys, hy1, hy2⟩ := perm_lift Prod.snd hperm zs rfl
    have hy3 : ∀ z ∈ ys, (repM rep).rel F' W z.1 (.agg (enc6 z.2).toArray) ∧ z.2.1 = ⟨z.1.1.toArray⟩ := fun z hz => hz3 z (hy1.mem_iff.1 hz)
    have hylen : ys.length = xs.length := by rw [hy1.length_eq, hlen]
    have gr := grown6 (w := W) (g := g) (n := n) (os := os) l'.toArray
    have ab : AboveF F' W (sortWorldK enc6 6 W g 0 n l'.toArray os) := by
      refine ⟨gr.size, fun k hk hlt => gr.block k hlt (fun e => ?_)⟩
      injection e with e
      subst e
      exact (hblk _ rfl).2 hk
    refine ⟨rfl, gr, ys.map Prod.fst, ?_, ?_, by simpa [hylen] using hN, ys.map (fun z => enc6 z.2), F', hF, elems_stays ab (elems6_of fun z hz => (hy3 z hz).1), ?_, hblk⟩
    · rw [← hz1]; exact hy1.map _
    · have hpw := sorted_list (l := l') (by rw [hl']; exact hsd)
      rw [← hy2, List.pairwise_map] at hpw
      show UpEq _
      unfold UpEq
      rw [List.pairwise_map]
      refine hpw.imp_of_mem ?_
      intro a b ha hb h
      rw [(hy3 a ha).2, (hy3 b hb).2] at h
      exact h
    · have h8 := owns6 (w := W) (base := 0) (n := n) (os := os) (ts := l') hl' (Nat.zero_le _) hb hn hm hs
      rw [← hy2, List.map_map] at h8
      rw [← hy2]
      simpa [hylen, Function.comp_def] using h8

/-- Where the names lie. -/
theorem names_at {α : Type} {rep : Rep α} {F : Nat → Prop} {w : World} {ys : List (Named α)} {v : Value} (h : (repMembers rep).rel F w ys v) :
    ∃ a p, v = .slice a ys.length p ∧ ((a = none ∧ ys.length = 0) ∨ ∃ g, a = some ⟨g, 0, none⟩ ∧ ∀ i (h : i < ys.length), w.cell? ⟨g, i * 6, none⟩ = some (.string ⟨ys[i].1.toArray⟩)) := by
  obtain ⟨hN, cs, F', hF, hE, ho, hblk⟩ := h
  obtain ⟨zs, hz1, hz2, hz3⟩ := elems6 hE
  have HO := ho
  rcases ho.2 with ⟨rfl, h0⟩ | ⟨g, cap, cur, rfl, hbase, hb, hn, hm, hs, ht⟩
  · exact ⟨none, 0, by rw [h0], Or.inl ⟨rfl, h0⟩⟩
  · refine ⟨_, cap, rfl, Or.inr ⟨g, rfl, fun i hi => ?_⟩⟩
    have hzl : zs.length = ys.length := by rw [← hz1]; simp
    rw [HO.cellAt (i * 6) (by omega), ← hz2]
    have h1 := flat_at enc6 6 enc6_len (by decide) (zs.map Prod.snd) (i * 6) (by simp; omega)
    rw [List.map_map] at h1
    have h2 : (zs.map fun z => enc6 z.2) = zs.map (enc6 ∘ Prod.snd) := rfl
    rw [h2, h1]
    have hiz : i < zs.length := by omega
    have h3 : i * 6 / 6 = i := by omega
    have h4 : i * 6 % 6 = 0 := by omega
    rw [h3, h4]
    have h5 := (hz3 zs[i] (List.getElem_mem hiz)).2
    have h6 : ys[i] = zs[i].1 := by subst hz1; simp
    simp [getElem!_pos, hiz, enc6, h5, h6]

theorem once_no {α : Type} {l : List (Named α)} {j : Nat} (h : j + 1 < l.length) (e : (l[j]'(by omega)).1 = (l[j + 1]).1) : ¬ Once l := by
  intro ho
  unfold Once List.Nodup at ho
  rw [List.pairwise_map, List.pairwise_iff_getElem] at ho
  exact ho j (j + 1) (by omega) h (by omega) e

theorem box5h {w1 : World} {o : Nat} {a b c d e : Value} {T : TypeId} (h : w1.heap[o]? = some (.cells #[a, b, c, d, e] T (0, 0))) :
    (w1.cell? ⟨o, 0, none⟩ = some a ∧ w1.cell? ⟨o, 1, none⟩ = some b ∧ w1.cell? ⟨o, 2, none⟩ = some c ∧ w1.cell? ⟨o, 3, none⟩ = some d ∧ w1.cell? ⟨o, 4, none⟩ = some e) ∧ (∀ j, w1.frozen? ⟨o, j, none⟩ = false) ∧ o < w1.heap.size :=
  ⟨⟨by simp [World.cell?, h], by simp [World.cell?, h], by simp [World.cell?, h], by simp [World.cell?, h], by simp [World.cell?, h]⟩, fun j => by simp [World.frozen?, h], (Array.getElem?_eq_some_iff.1 h).1⟩

theorem set5 {W w : World} {B o : Nat} {a b c d e : Value} (h : RowKit.Below B W w) (hB : B ≤ o) :
    RowKit.Below B W (((((w.setCell ⟨o, 0, none⟩ a).setCell ⟨o, 1, none⟩ b).setCell ⟨o, 2, none⟩ c).setCell ⟨o, 3, none⟩ d).setCell ⟨o, 4, none⟩ e) :=
  ((((h.setCell (p := ⟨o, 0, none⟩) hB a).setCell (p := ⟨o, 1, none⟩) hB b).setCell (p := ⟨o, 2, none⟩) hB c).setCell (p := ⟨o, 3, none⟩) hB d).setCell (p := ⟨o, 4, none⟩) hB e
theorem keep5 {F : Nat → Prop} {w : World} {o : Nat} {a b c d e : Value} (hF : ¬ F o) :
    AboveF F w (((((w.setCell ⟨o, 0, none⟩ a).setCell ⟨o, 1, none⟩ b).setCell ⟨o, 2, none⟩ c).setCell ⟨o, 3, none⟩ d).setCell ⟨o, 4, none⟩ e) :=
  (((((AboveF.refl F w).setCell (p := ⟨o, 0, none⟩) hF a).setCell (p := ⟨o, 1, none⟩) hF b).setCell (p := ⟨o, 2, none⟩) hF c).setCell (p := ⟨o, 3, none⟩) hF d).setCell (p := ⟨o, 4, none⟩) hF e

set_option maxHeartbeats 1000000 in
theorem objectValue_makes {α : Type} (rep : Rep α) (w : World) : Makes 32 #[] (repMembers rep) (repNode rep) objF w := by
  refine ⟨enters_of Tryz.func32 (by kernel_rfl) rfl, ?_⟩
  intro W B x v hW hB hx
  have hx1 := (repMembers rep).inside hx
  have hx2 := (repMembers rep).stays hx1 (above_of_below ((Below.refl _ W).alloc (Nat.le_refl _) (.cells #[.int .i64 0, .int .i64 0, .string ⟨#[]⟩, .slice none 0 0, .slice none 0 0] 30)))
  have hcon := sort_members rep hx2
  have hmf : ∀ (fn : Fn) (first cap : Array Value) (w : World), (Instr.makeFunc fn first cap).run Tryz.prog w = .ok (.func fn first cap) w := fun _ _ _ _ => rfl
  have hown : ∀ g, v.ownBlock = some g → B ≤ g ∧ g < W.heap.size := by
    obtain ⟨_, cs, F', _, _, h3, h4⟩ := hx1
    exact fun g hg => (h4 g hg).1
  obtain ⟨a, p, hv, hcl⟩ := names_at hx
  subst hv
  clear hx hx1 hx2
  have HC := hide hcon
  have HOWN := hide hown
  clear hcon hown hcl
  go_enter Tryz.func32, Tryz.ntmps32
  go_wp2_with (go_at_call 90; refine (unhide HC).mono ?_; rintro e w1 ⟨rfl, HG, ys, HP, HU, HR⟩)
  have hlen : x.length = ys.length := (unhide HP).length_eq.symm
  rw [hlen] at HG HR HOWN ⊢
  have hbox : w1.heap[W.heap.size]? = some (.cells #[.int .i64 0, .int .i64 0, .string ⟨#[]⟩, .slice none 0 0, .slice none 0 0] 30 (0, 0)) := by
    rw [(unhide HG).block W.heap.size (by simp) (fun e => by have := (unhide HOWN _ e.symm).2; omega)]
    exact Array.getElem?_push_size
  have hb1 : RowKit.Below B W w1 := by
    have gr := unhide HG
    have hsz := gr.size
    simp at hsz
    refine ⟨gr.os, gr.tape, gr.output, by omega, fun k hk => ?_⟩
    rw [gr.block k (by simp; omega) (fun e => by have := (unhide HOWN _ e.symm).1; omega)]
    exact Below.heap_alloc _ _ _ (by omega)
  have HBOX := hide hbox
  have HB1 := hide hb1
  have hyN := (unhide HR).1
  obtain ⟨a', p', hv, hcl⟩ := names_at (unhide HR)
  injection hv with ha _ hpp
  subst ha
  subst hpp
  have HCL := hide hcl
  clear hbox hb1 hcl HG HC HOWN hlen
  go_loopw [4] (fun idx wr => ∃ j : Nat, (j + 1 ≤ ys.length ∨ j = 0) ∧ idx = .int .i64 ((j : Int) + 1) ∧ RowKit.Below w1.heap.size w1 wr ∧ Hid (∀ i (h : i + 1 < ys.length), i < j → (ys[i]'(by omega)).1 ≠ (ys[i + 1]).1)) (fun idx _ => ys.length - (intOf idx).toNat)
  case atStart => exact ⟨0, Or.inr rfl, rfl, Below.refl _ _, fun i h hi => absurd hi (Nat.not_lt_zero _)⟩
  case round =>
    obtain ⟨j, hj, rfl, hbw, hok⟩ := hrel
    have hbx := hbw.block W.heap.size (Array.getElem?_eq_some_iff.1 (unhide HBOX)).1
    rw [unhide HBOX] at hbx
    obtain ⟨⟨q0, q1, q2, q3, q4⟩, qf, ql⟩ := box5h hbx
    by_cases hlt : j + 1 < ys.length
    · rcases unhide HCL with ⟨_, h0⟩ | ⟨g, rfl, hcell⟩
      · omega
      have hc1 := hcell j (by omega)
      have hc2 := hcell (j + 1) hlt
      have hc1' := (hbw.cell (p := ⟨g, j * 6, none⟩) (World.block_lt_of_cell? w1 _ hc1)).trans hc1
      have hc2' := (hbw.cell (p := ⟨g, (j + 1) * 6, none⟩) (World.block_lt_of_cell? w1 _ hc2)).trans hc2
      have HBW := hide hbw
      by_cases he : (ys[j]'(by omega)).1 = (ys[j + 1]).1
      · have hfin : objF x = none := by
          unfold objF
          rw [if_neg (fun h => once_no hlt he ((once_perm (unhide HP)).2 h))]
        have HFI := hide hfin
        rw [he] at hc1'
        generalize (⟨(ys[j + 1]).1.toArray⟩ : ByteArray) = nm at hc1' hc2'
        clear hc1 hc2 hcell hok hfin he hbw hbx
        go_wp2
        go_region
        all_goals
          go_wp2
          refine bodyPost_ret (v := .tuple #[.agg #[.int .i64 0, .int .i64 0, .string ⟨#[]⟩, .slice none 0 0, .slice none 0 0], .bool false]) (by simp [results, Tryz.results32, go_sem, q0, q1, q2, q3, q4]) rfl ?_
          refine ⟨(set5 ((unhide HB1).trans ((unhide HBW).mono (Nat.le_trans hB (unhide HB1).size))) hB).drew, Or.inl ⟨unhide HFI, _, ⟨_, _, _, _, _, _, _, _, _, rfl⟩, rfl⟩⟩
      · have hne : (((⟨(ys[j]'(by omega)).1.toArray⟩ : ByteArray).toList) == (⟨(ys[j + 1]).1.toArray⟩ : ByteArray).toList) = false := by
          rw [ByteArray.toList_mk, ByteArray.toList_mk, beq_eq_false_iff_ne]
          exact he
        have HOK : Hid (∀ i (h : i + 1 < ys.length), i < j + 1 → (ys[i]'(by omega)).1 ≠ (ys[i + 1]).1) := by
          intro i h hi
          by_cases hij : i = j
          · subst hij; exact he
          · exact hok.out i h (by omega)
        generalize (⟨(ys[j + 1]).1.toArray⟩ : ByteArray) = nm at hc2' hne
        generalize (⟨(ys[j]'(by omega)).1.toArray⟩ : ByteArray) = nm1 at hc1' hne
        clear hc1 hc2 hcell hok he hbw hbx
        go_wp2
        go_region
        all_goals
          go_wp2
          refine ⟨⟨j + 1, Or.inl (by omega), by go_num, (unhide HBW).drew, HOK⟩, ?_⟩
          simp [intOf]; omega
    · have hup : Up ys := near (unhide HU) (fun i h => hok.out i h (by omega))
      have hfin : objF x = some (.inr (.inr ys)) := by
        have ho : Once x := (once_perm (unhide HP)).1 (once_of hup)
        unfold objF
        rw [if_pos ho, byName_is (unhide HP) (unhide HU) ho]
      have HFI := hide hfin
      have HBW := hide hbw
      clear hok hfin hup hbw hbx
      go_wp2
      refine bodyPost_ret (v := .tuple #[.agg #[.int .i64 6, .int .i64 0, .string ⟨#[]⟩, .slice none 0 0, .slice a ys.length p], .bool true]) (by simp [results, Tryz.results32, go_sem, q0, q1, q2, q3, q4]) rfl ?_
      refine ⟨set5 ((unhide HB1).trans ((unhide HBW).mono (Nat.le_trans hB (unhide HB1).size))) hB, Or.inr ⟨_, _, unhide HFI, ⟨_, _, _, rfl, ?_⟩, rfl⟩⟩
      · exact (repMembers rep).anti ((repMembers rep).stays ((repMembers rep).stays (unhide HR) (above_of_below (unhide HBW))) (keep5 (fun h => Nat.lt_irrefl _ h.2))) (fun k hk => hk.1)
end Go.Proofs.YtgaddifabjoliaaGreatDoor
