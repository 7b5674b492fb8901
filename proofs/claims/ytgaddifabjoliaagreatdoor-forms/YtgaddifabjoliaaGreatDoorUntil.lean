import Derived.Test.YtgaddifabjoliaaGreatDoorKitB
namespace Go.Proofs.YtgaddifabjoliaaGreatDoor
open Go.RowKit

theorem owns_anti {w : World} {B B' : Nat} {e : TypeId} {k n : Nat} {v : Value} {xs : List Value} (h : w.ownsRow B e k v n xs) (hB : ∀ g, v.ownBlock = some g → B' ≤ g) : w.ownsRow B' e k v n xs := by
  obtain ⟨h1, h2⟩ := h
  refine ⟨h1, ?_⟩
  rcases h2 with h2 | ⟨g, cap, cur, a, b, c⟩
  · exact Or.inl h2
  · exact Or.inr ⟨g, cap, cur, a, hB g (by rw [a]; rfl), c⟩
theorem owns_stays {w w' : World} {B : Nat} {e : TypeId} {k n : Nat} {v : Value} {xs : List Value} (h : w.ownsRow B e k v n xs) (ha : ∀ g, v.ownBlock = some g → g < w.heap.size → w'.heap[g]? = w.heap[g]?) : w'.ownsRow B e k v n xs := by
  obtain ⟨h1, h2⟩ := h
  refine ⟨h1, ?_⟩
  rcases h2 with h2 | ⟨g, cap, cur, a, b, c, d⟩
  · exact Or.inl h2
  · refine Or.inr ⟨g, cap, cur, a, b, ?_, d⟩
    have hlt : g < w.heap.size := by
      rcases Nat.lt_or_ge g w.heap.size with h' | h'
      · exact h'
      · simp [Array.getElem?_eq_none h'] at c
    rw [ha g (by rw [a]; rfl) hlt]
    exact c

/-- A list of runes as a row of its own. -/
def repRunes : Rep (List Int) :=
  { rel := fun F w x v => w.ownsRow 0 21 1 v x.length (x.map (Value.int .i32)) ∧ ∀ g, v.ownBlock = some g → F g
    shape := fun _ => True
    anti := fun h hF => ⟨h.1, fun g hg => hF g (h.2 g hg)⟩
    stays := fun h ha => ⟨owns_stays h.1 fun g hg hlt => ha.2 g (h.2 g hg) hlt, h.2⟩
    inside := fun h => ⟨h.1, fun g hg => ⟨h.2 g hg, (h.1.lt g hg).2⟩⟩ }

theorem Tryz.infoRune : (Tryz.prog.info? 21).map (fun i => (i.zero, i.size, i.bytes)) = some (some (.int .i32 0), 1, 4) := by kernel_rfl

theorem until_more {α : Type} (shut : Bytes) (R : Bytes → Option (α × Bytes)) (hR : Strict R) : ∀ (n m : Nat) (s : Bytes), s.length < n → s.length < m → untilR shut R n s = untilR shut R m s
  | 0, _, _, h, _ => by omega
  | _, 0, _, _, h => by omega
  | n + 1, m + 1, s, h1, h2 => by
    simp only [untilR]
    split
    · rfl
    · cases hs : R s with
      | none => rfl
      | some z =>
        obtain ⟨x, r⟩ := z
        have := hR _ _ _ hs
        simp only
        rw [until_more shut R hR n m r (by omega) (by omega)]

theorem until_eq {α : Type} (shut : Bytes) (R : Bytes → Option (α × Bytes)) (hR : Strict R) (s : Bytes) :
    untilR shut R (s.length + 1) s = if shut.isPrefixOf s then some ([], s.drop shut.length) else
      match R s with
      | none => none
      | some (x, r) => match untilR shut R (r.length + 1) r with
        | none => none
        | some (l, q) => some (x :: l, q) := by
  rw [untilR]
  split
  · rfl
  · cases hs : R s with
    | none => rfl
    | some z =>
      obtain ⟨x, r⟩ := z
      have := hR _ _ _ hs
      simp only
      rw [until_more shut R hR s.length (r.length + 1) r (by omega) (by omega)]
      cases untilR shut R (r.length + 1) r <;> rfl

def textSize (v : Value) : Nat := match v with
  | .string s => s.size
  | _ => 0

def untilF {α : Type} (shut : Bytes) (R : Bytes → Option (α × Bytes)) (s : Bytes) : Option (List α × Bytes) := untilR shut R (s.length + 1) s

theorem shrinks_untilF {α : Type} (shut : Bytes) {R : Bytes → Option (α × Bytes)} (hR : Shrinks R) : Shrinks (untilF shut R) := fun s x r h => shrinks_until shut hR _ s x r h

set_option maxHeartbeats 1000000 in
theorem until_rune_reads (shut : ByteArray) (g : Nat) (lb : Array Value) (R : Bytes → Option (Int × Bytes)) (hst : Strict R) (b c : Nat) (w : World) (hb : w.cell? ⟨b, 0, none⟩ = some (.string shut)) (hc : w.cell? ⟨c, 0, none⟩ = some (.func (.func g) #[] lb)) (hR : Reads g lb repI32 (.int .i32 0) R w) :
    Reads 107 #[.pointer (some ⟨b, 0, none⟩), .pointer (some ⟨c, 0, none⟩)] repRunes (.slice none 0 0) (untilF shut.data.toList R) w := by
  refine ⟨enters_of Tryz.func107 (by kernel_rfl) rfl, shrinks_untilF _ hR.2.1, ?_⟩
  intro W s hW hs
  obtain ⟨i0, hi, hz0, hz1, hz2⟩ := info_parts Tryz.infoRune
  have hWb : ∀ w1, Below W.heap.size W w1 → w1.cell? ⟨b, 0, none⟩ = some (.string shut) := fun w1 h1 => ((up hW h1).cell (p := ⟨b, 0, none⟩) (World.block_lt_of_cell? w _ hb)).trans hb
  have hWc : ∀ w1, Below W.heap.size W w1 → w1.cell? ⟨c, 0, none⟩ = some (.func (.func g) #[] lb) := fun w1 h1 => ((up hW h1).cell (p := ⟨c, 0, none⟩) (World.block_lt_of_cell? w _ hc)).trans hc
  have HWB := hide hWb
  have HWC := hide hWc
  have HR := hide hR
  have HW := hide hW
  have HST := hide hst
  have eg : ∀ args w, (callFunc g args).run Tryz.prog w = .ok (.enter g args) w := hR.1
  clear hb hc hW hR hWb hWc hst
  go_enter Tryz.func107, Tryz.ntmps107
  go_wp2
  go_loopw [0, 7] (fun t all wr => ∃ (cur : ByteArray) (acc : List Int), t = .string cur ∧ cur.size ≤ 4000 ∧ acc.length + cur.size ≤ 4000 ∧ wr.ownsRow W.heap.size 21 1 all acc.length (acc.map (Value.int .i32)) ∧ Below W.heap.size W wr ∧ Hid (untilF shut.data.toList R s.data.toList = match untilF shut.data.toList R cur.data.toList with
      | none => none
      | some (l, q) => some (acc ++ l, q))) (fun t _ _ => textSize t)
  case atStart =>
    refine ⟨s, [], rfl, hs, by simpa using hs, World.ownsRow_nil W W.heap.size 21 1, Below.refl _ _, ?_⟩
    show untilF shut.data.toList R s.data.toList = _
    cases untilF shut.data.toList R s.data.toList with
    | none => rfl
    | some z => rfl
  case round =>
    obtain ⟨cur, acc, rfl, hcs, hal, hown, hbw, hU⟩ := hrel
    have hb1 := unhide HWB wr hbw
    have hc1 := unhide HWC wr hbw
    have hBw := hbw.size
    have hun := until_eq shut.data.toList R (unhide HST) cur.data.toList
    cases hp : shut.data.toList.isPrefixOf cur.data.toList with
    | true =>
      obtain ⟨r, hr⟩ : ∃ r : ByteArray, r.data.toList = cur.data.toList.drop shut.data.toList.length := ⟨⟨(cur.data.toList.drop shut.data.toList.length).toArray⟩, rfl⟩
      have hfin : untilF shut.data.toList R s.data.toList = some (acc, r.data.toList) := by
        rw [hU.out]
        unfold untilF
        rw [hun, if_pos hp, hr]
        simp
      have HF := hide hfin
      have HP := hide hp
      have HRR := hide hr
      have HOWN := hide hown
      clear hp hr hfin hun hU hown
      go_wp2_with (go_at_call 59; refine (cutPrefix_hit cur shut r _ (unhide HP) (unhide HRR)).mono ?_)
      rintro e w1 ⟨rfl, rfl⟩
      go_wp2
      go_ret3
      exact ⟨hbw, Or.inr ⟨acc, r.data.toList, _, unhide HF, ⟨owns_anti (unhide HOWN) (fun _ _ => Nat.zero_le _), fun k hk => ((unhide HOWN).lt k hk).1⟩, rfl⟩⟩
    | false =>
      rw [if_neg (by simp [hp])] at hun
      have HUN := hide hun
      have HP := hide hp
      clear hp hun
      have HB := hide (up (unhide HW) hbw)
      go_wp2_with (first | (go_at_call 59; refine (cutPrefix_miss cur shut _ (unhide HP)).mono ?_; rintro e w1 ⟨rfl, rfl⟩) | (go_at_fn g; refine ((unhide HR).2.2 _ cur (unhide HB) hcs).mono ?_))
      intro e w1 hgot
      obtain ⟨b1, hgot⟩ := hgot
      rcases hgot with ⟨hn, rfl⟩ | ⟨x, q, v, hn, hrep, rfl⟩
      · have hfin : untilF shut.data.toList R s.data.toList = none := by
          rw [hU.out]
          unfold untilF
          rw [unhide HUN, hn]
        have HF := hide hfin
        clear hn hfin hU
        go_wp2_with (go_at_call 106; refine (fail_runes _).mono ?_)
        rintro e w2 ⟨rfl, rfl⟩
        go_wp2
        go_ret3
        exact ⟨up hbw b1, Or.inl ⟨unhide HF, rfl⟩⟩
      · have hlt := unhide HST _ _ _ hn
        have hqs : (⟨q.toArray⟩ : ByteArray).size = q.length := rfl
        have hcl := text_size (rfl : cur.data.toList = cur.data.toList)
        have hU2 : Hid (untilF shut.data.toList R s.data.toList = match untilF shut.data.toList R (⟨q.toArray⟩ : ByteArray).data.toList with
            | none => none
            | some (l, p) => some ((acc ++ [x]) ++ l, p)) := by
          show _ = _
          rw [hU.out]
          unfold untilF
          rw [unhide HUN, hn]
          simp only
          cases untilR shut.data.toList R (q.length + 1) q with
          | none => rfl
          | some z => simp
        have hx : v = .int .i32 x := hrep
        subst hx
        have HLT := hide hlt
        have HQS := hide hqs
        have HCL := hide hcl
        have hown2 := hown
        have hown1 : w1.ownsRow W.heap.size 21 1 u7 acc.length (acc.map (Value.int .i32)) := by
          exact owns_stays hown (fun k _ hk => b1.block k hk)
        have bb1 := up hbw b1
        have hB1 := bb1.size
        clear hn hlt hqs hcl hU hrep hown hown2
        go_wp2_with (at_builtin; refine wpList_append_own _ rfl _ _ 103 rfl W.heap.size 21 i0 (.int .i32 0) 1 4 Tryz.underlying103 hi hz0 hz1 hz2 rfl (by decide) _ _ _ rfl (hown1.alloc _) ⟨w1.heap.size, 0, none⟩ 1 1 [.int .i32 x] rfl rfl ?c1 ?c2 ?c3 ?c4 ?c5 ?_)
        case c1 =>
          intro j y hj
          match j, hj with
          | 0, hj => simp at hj; subst hj; simp [Addr.add]
        case c2 => intro y hy; simp at hy; subst hy; rfl
        case c3 => unfold maxLen; omega
        case c4 => omega
        case c5 => simp; omega
        intro v' w2 hown' hgrow _
        have R1 : w2.ownsRow W.heap.size 21 1 v' (acc ++ [x]).length ((acc ++ [x]).map (Value.int .i32)) := by
          rw [List.map_append, List.length_append]
          exact hown'
        have R2 : Below W.heap.size W w2 := (bb1.alloc hB1 _).grown hgrow (by simp; omega) (fun k hk => (hown1.lt k hk).1)
        have HR1 := hide R1
        clear hown' hgrow hown1 R1
        go_wp2
        go_roundw
        case rel =>
          have h1 := unhide HLT
          have h2 := unhide HQS
          have h3 := unhide HCL
          exact ⟨⟨q.toArray⟩, acc ++ [x], rfl, by omega, by simp only [List.length_append, List.length_cons, List.length_nil]; omega, unhide HR1, R2, hU2⟩
        case measure =>
          have h1 := unhide HLT
          have h2 := unhide HQS
          have h3 := unhide HCL
          simp only [textSize]
          omega

set_option maxHeartbeats 400000 in
theorem until_rune (shut : ByteArray) (g : Nat) (lb : Array Value) (R : Bytes → Option (Int × Bytes)) (hst : Strict R) (w : World) (hR : Reads g lb repI32 (.int .i32 0) R w) :
    Calls Tryz.prog 51 #[.string shut, .func (.func g) #[] lb] w fun e w' => Below w.heap.size w w' ∧ ∃ l, e = .returned (.func (.func 107) #[] l) ∧ Reads 107 l repRunes (.slice none 0 0) (untilF shut.data.toList R) w' := by
  have hmf := mf
  have HR := hide hR
  have HST := hide hst
  clear hR hst
  go_enter Tryz.func51, Tryz.ntmps51
  go_wp2
  go_ret
  have hbel := ((Below.refl _ w).alloc (Nat.le_refl _) (.cells #[.string shut] 9)).alloc (by simp) (.cells #[.func (.func g) #[] lb] 96)
  exact ⟨hbel, _, rfl, until_rune_reads shut g lb R (unhide HST) _ _ _ (by simp) (by simp) ((unhide HR).later hbel)⟩
end Go.Proofs.YtgaddifabjoliaaGreatDoor
