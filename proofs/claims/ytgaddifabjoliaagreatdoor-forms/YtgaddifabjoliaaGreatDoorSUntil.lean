import Derived.Test.YtgaddifabjoliaaGreatDoorSAfters
import Derived.Test.YtgaddifabjoliaaGreatDoorElems
import Derived.Maps.AppendAt
import Derived.Laws.AppendOwnNone
namespace Go.Proofs.YtgaddifabjoliaaGreatDoor
open Go.RowKit

theorem Tryz.info_value : (Tryz.prog.info? 30).map (fun i => (i.zero, i.size, i.bytes)) = some (some (.agg #[.int .i64 0, .int .i64 0, .string ⟨#[]⟩, .slice none 0 0, .slice none 0 0]), 5, 80) := by kernel_rfl

set_option maxHeartbeats 1000000 in
theorem until_value_reads {α : Type} (rep : Rep α) (h5 : Fives rep) (shut : ByteArray) (g : Nat) (lb : Array Value) (R : Bytes → Option (α × Bytes)) (hst : Strict R) (b c : Nat) (w : World) (hb : w.cell? ⟨b, 0, none⟩ = some (.string shut)) (hc : w.cell? ⟨c, 0, none⟩ = some (.func (.func g) #[] lb)) (hR : Reads g lb rep (.agg #[.int .i64 0, .int .i64 0, .string ⟨#[]⟩, .slice none 0 0, .slice none 0 0]) R w) :
    Reads 121 #[.pointer (some ⟨b, 0, none⟩), .pointer (some ⟨c, 0, none⟩)] (repList 5 30 4000 rep) (.slice none 0 0) (untilF shut.data.toList R) w := by
  refine ⟨enters_of Tryz.func121 (by kernel_rfl) rfl, shrinks_untilF _ hR.2.1, ?_⟩
  intro W s hW hs
  obtain ⟨i0, hi, hz0, hz1, hz2⟩ := info_parts Tryz.info_value
  have hWb : ∀ w1, Below W.heap.size W w1 → w1.cell? ⟨b, 0, none⟩ = some (.string shut) := fun w1 h1 => ((up hW h1).cell (p := ⟨b, 0, none⟩) (World.block_lt_of_cell? w _ hb)).trans hb
  have hWc : ∀ w1, Below W.heap.size W w1 → w1.cell? ⟨c, 0, none⟩ = some (.func (.func g) #[] lb) := fun w1 h1 => ((up hW h1).cell (p := ⟨c, 0, none⟩) (World.block_lt_of_cell? w _ hc)).trans hc
  have HWB := hide hWb
  have HWC := hide hWc
  have HR := hide hR
  have HW := hide hW
  have HST := hide hst
  have H5 := hide h5
  have eg : ∀ args w, (callFunc g args).run Tryz.prog w = .ok (.enter g args) w := hR.1
  clear hb hc hW hR hWb hWc hst h5
  go_enter Tryz.func121, Tryz.ntmps121
  go_wp2
  go_loopw [0, 7] (fun t all wr => ∃ (cur : ByteArray) (acc : List α) (cs : List (List Value)), t = .string cur ∧ cur.size ≤ 4000 ∧ acc.length + cur.size ≤ 4000 ∧ Hid (∃ F, (∀ i, F i → W.heap.size ≤ i ∧ i < wr.heap.size) ∧ Elems 5 rep F wr acc cs ∧ ∀ g, all.ownBlock = some g → ¬ F g) ∧ wr.ownsRow W.heap.size 30 5 all acc.length cs.flatten ∧ Below W.heap.size W wr ∧ Hid (untilF shut.data.toList R s.data.toList = match untilF shut.data.toList R cur.data.toList with
      | none => none
      | some (l, q) => some (acc ++ l, q))) (fun t _ _ => textSize t)
  case atStart =>
    refine ⟨s, [], [], rfl, hs, by simpa using hs, ⟨fun _ => False, fun _ h => h.elim, trivial, fun _ _ h => h⟩, World.ownsRow_nil W W.heap.size 30 5, Below.refl _ _, ?_⟩
    show untilF shut.data.toList R s.data.toList = _
    cases untilF shut.data.toList R s.data.toList with
    | none => rfl
    | some z => rfl
  case round =>
    obtain ⟨cur, acc, cs, rfl, hcs, hal, HEL, hown, hbw, hU⟩ := hrel
    have hb1 := unhide HWB wr hbw
    have hc1 := unhide HWC wr hbw
    have hBw := hbw.size
    have HOWN := hide hown
    clear hown
    have hun := until_eq shut.data.toList R (unhide HST) cur.data.toList
    cases hp : shut.data.toList.isPrefixOf cur.data.toList with
    | true =>
      obtain ⟨r, hr⟩ : ∃ r : ByteArray, r.data.toList = cur.data.toList.drop shut.data.toList.length := ⟨⟨(cur.data.toList.drop shut.data.toList.length).toArray⟩, rfl⟩
      have hfin : untilF shut.data.toList R s.data.toList = some (acc, r.data.toList) := by
        rw [hU.out]
        unfold untilF
        rw [hun, if_pos hp, hr]
        simp
      have HF := hide hfin
      have HP := hide hp
      have HRR := hide hr
      clear hp hr hfin hun hU
      go_wp2_with (go_at_call 59; refine (cutPrefix_hit cur shut r _ (unhide HP) (unhide HRR)).mono ?_)
      rintro e w1 ⟨rfl, rfl⟩
      go_wp2
      go_ret3
      exact ⟨hbw, Or.inr ⟨acc, r.data.toList, _, unhide HF, until_list (unhide HEL) (unhide HOWN) (by omega), rfl⟩⟩
    | false =>
      rw [if_neg (by simp [hp])] at hun
      have HUN := hide hun
      have HP := hide hp
      clear hp hun
      have HB := hide (up (unhide HW) hbw)
      go_wp2_with (first | (go_at_call 59; refine (cutPrefix_miss cur shut _ (unhide HP)).mono ?_; rintro e w1 ⟨rfl, rfl⟩) | (go_at_fn g; refine ((unhide HR).2.2 _ cur (unhide HB) hcs).mono ?_))
      intro e w1 hgot
      obtain ⟨b1, hgot⟩ := hgot
      rcases hgot with ⟨hn, rfl⟩ | ⟨x, q, v, hn, hrep, rfl⟩
      · have hfin : untilF shut.data.toList R s.data.toList = none := by
          rw [hU.out]
          unfold untilF
          rw [unhide HUN, hn]
        have HF := hide hfin
        clear hn hfin hU
        go_wp2_with (go_at_call 119; refine (fail_values _).mono ?_)
        rintro e w2 ⟨rfl, rfl⟩
        go_wp2
        go_ret3
        exact ⟨grow (up hbw b1) _, Or.inl ⟨unhide HF, rfl⟩⟩
      · have hlt := unhide HST _ _ _ hn
        have hqs : (⟨q.toArray⟩ : ByteArray).size = q.length := rfl
        have hcl := text_size (rfl : cur.data.toList = cur.data.toList)
        have hU2 : Hid (untilF shut.data.toList R s.data.toList = match untilF shut.data.toList R (⟨q.toArray⟩ : ByteArray).data.toList with
            | none => none
            | some (l, p) => some ((acc ++ [x]) ++ l, p)) := by
          show _ = _
          rw [hU.out]
          unfold untilF
          rw [unhide HUN, hn]
          simp only
          cases untilR shut.data.toList R (q.length + 1) q with
          | none => rfl
          | some z => simp
        obtain ⟨k1, k2, k3, k4, k5, k6, k7, k8, k9, hv⟩ := unhide H5 _ _ _ _ hrep
        subst hv
        have HLT := hide hlt
        have HQS := hide hqs
        have HCL := hide hcl
        have HREP := hide hrep
        have hown1 := (owns_stays (unhide HOWN) (fun k _ hk => b1.block k hk)).alloc (.cells [.int .i64 k1, .int .i64 k2, .string k3, .slice k4 k5 k6, .slice k7 k8 k9].toArray 30)
        have hszr := b1.size
        have bb1 := up hbw b1
        have hB1 := bb1.size
        clear hn hlt hqs hcl hU hrep
        go_wp2_with (at_builtin; refine wpList_append_own_at _ rfl _ _ 27 rfl W.heap.size 30 i0 (.agg #[.int .i64 0, .int .i64 0, .string ⟨#[]⟩, .slice none 0 0, .slice none 0 0]) 5 80 Tryz.underlying27 hi hz0 hz1 hz2 rfl (by decide) _ _ _ rfl (hown1.alloc _) ⟨w1.heap.size + 1, 0, none⟩ 1 1 [.int .i64 k1, .int .i64 k2, .string k3, .slice k4 k5 k6, .slice k7 k8 k9] rfl rfl ?c1 ?c2 ?c3 ?c4 ?c5 ?_)
        case c1 =>
          have h1 := cells_add (w1.alloc (.cells [.int .i64 k1, .int .i64 k2, .string k3, .slice k4 k5 k6, .slice k7 k8 k9].toArray 30)) [.int .i64 k1, .int .i64 k2, .string k3, .slice k4 k5 k6, .slice k7 k8 k9] 30
          simpa using h1
        case c2 => intro y hy; simp at hy; rcases hy with rfl | rfl | rfl | rfl | rfl <;> rfl
        case c3 => unfold maxLen; omega
        case c4 => omega
        case c5 => simp; omega
        intro v' w2 hown' hgrow hnn hat
        have hat' : ∀ k, v'.ownBlock = some k → u7.ownBlock = some k ∨ w1.heap.size ≤ k := by
          intro k hk
          rcases hat with e | e
          · exact Or.inl (e ▸ hk)
          · rw [e] at hk
            simp at hk
            exact Or.inr (by omega)
        have R1 : w2.ownsRow W.heap.size 30 5 v' (acc ++ [x]).length (cs ++ [([.int .i64 k1, .int .i64 k2, .string k3, .slice k4 k5 k6, .slice k7 k8 k9] : List Value)]).flatten := by
          rw [List.flatten_append, List.length_append]
          simpa using hown'
        have R2 : Below W.heap.size W w2 := ((bb1.alloc hB1 _).alloc (by simp; omega) _).grown hgrow (by simp; omega) (fun k hk => (hown1.lt k hk).1)
        have R3 := until_step (n := 5) (c := [.int .i64 k1, .int .i64 k2, .string k3, .slice k4 k5 k6, .slice k7 k8 k9]) (T := 30) (unhide HEL) (unhide HREP) rfl b1 hBw (unhide HOWN) hgrow R1 hat'
        have HR1 := hide R1
        clear hown' hgrow hown1 R1 hat hat' hnn
        go_wp2
        go_roundw
        case rel =>
          have h1 := unhide HLT
          have h2 := unhide HQS
          have h3 := unhide HCL
          exact ⟨⟨q.toArray⟩, acc ++ [x], cs ++ [([.int .i64 k1, .int .i64 k2, .string k3, .slice k4 k5 k6, .slice k7 k8 k9] : List Value)], rfl, by omega, by simp only [List.length_append, List.length_cons, List.length_nil]; omega, hide R3, unhide HR1, R2, hU2⟩
        case measure =>
          have h1 := unhide HLT
          have h2 := unhide HQS
          have h3 := unhide HCL
          simp only [textSize]
          omega

set_option maxHeartbeats 400000 in
theorem until_value {α : Type} (rep : Rep α) (h5 : Fives rep) (shut : ByteArray) (g : Nat) (lb : Array Value) (R : Bytes → Option (α × Bytes)) (hst : Strict R) (w : World) (hR : Reads g lb rep (.agg #[.int .i64 0, .int .i64 0, .string ⟨#[]⟩, .slice none 0 0, .slice none 0 0]) R w) :
    Calls Tryz.prog 72 #[.string shut, .func (.func g) #[] lb] w fun e w' => Below w.heap.size w w' ∧ ∃ l, e = .returned (.func (.func 121) #[] l) ∧ Reads 121 l (repList 5 30 4000 rep) (.slice none 0 0) (untilF shut.data.toList R) w' := by
  have hmf := mf
  have HR := hide hR
  have HST := hide hst
  have H5 := hide h5
  clear hR hst h5
  go_enter Tryz.func72, Tryz.ntmps72
  go_wp2
  go_ret
  have hbel := ((Below.refl _ w).alloc (Nat.le_refl _) (.cells #[.string shut] 9)).alloc (by simp) (.cells #[.func (.func g) #[] lb] 42)
  exact ⟨hbel, _, rfl, until_value_reads rep (unhide H5) shut g lb R (unhide HST) _ _ _ (by simp) (by simp) ((unhide HR).later hbel)⟩

theorem Tryz.info_member : (Tryz.prog.info? 77).map (fun i => (i.zero, i.size, i.bytes)) = some (some (.agg #[.string ⟨#[]⟩, .int .i64 0, .int .i64 0, .string ⟨#[]⟩, .slice none 0 0, .slice none 0 0]), 6, 96) := by kernel_rfl

set_option maxHeartbeats 1000000 in
theorem until_member_reads {α : Type} (rep : Rep α) (h5 : Sixes rep) (shut : ByteArray) (g : Nat) (lb : Array Value) (R : Bytes → Option (α × Bytes)) (hst : Strict R) (b c : Nat) (w : World) (hb : w.cell? ⟨b, 0, none⟩ = some (.string shut)) (hc : w.cell? ⟨c, 0, none⟩ = some (.func (.func g) #[] lb)) (hR : Reads g lb rep (.agg #[.string ⟨#[]⟩, .int .i64 0, .int .i64 0, .string ⟨#[]⟩, .slice none 0 0, .slice none 0 0]) R w) :
    Reads 129 #[.pointer (some ⟨b, 0, none⟩), .pointer (some ⟨c, 0, none⟩)] (repList 6 77 4000 rep) (.slice none 0 0) (untilF shut.data.toList R) w := by
  refine ⟨enters_of Tryz.func129 (by kernel_rfl) rfl, shrinks_untilF _ hR.2.1, ?_⟩
  intro W s hW hs
  obtain ⟨i0, hi, hz0, hz1, hz2⟩ := info_parts Tryz.info_member
  have hWb : ∀ w1, Below W.heap.size W w1 → w1.cell? ⟨b, 0, none⟩ = some (.string shut) := fun w1 h1 => ((up hW h1).cell (p := ⟨b, 0, none⟩) (World.block_lt_of_cell? w _ hb)).trans hb
  have hWc : ∀ w1, Below W.heap.size W w1 → w1.cell? ⟨c, 0, none⟩ = some (.func (.func g) #[] lb) := fun w1 h1 => ((up hW h1).cell (p := ⟨c, 0, none⟩) (World.block_lt_of_cell? w _ hc)).trans hc
  have HWB := hide hWb
  have HWC := hide hWc
  have HR := hide hR
  have HW := hide hW
  have HST := hide hst
  have H5 := hide h5
  have eg : ∀ args w, (callFunc g args).run Tryz.prog w = .ok (.enter g args) w := hR.1
  clear hb hc hW hR hWb hWc hst h5
  go_enter Tryz.func129, Tryz.ntmps129
  go_wp2
  go_loopw [0, 7] (fun t all wr => ∃ (cur : ByteArray) (acc : List α) (cs : List (List Value)), t = .string cur ∧ cur.size ≤ 4000 ∧ acc.length + cur.size ≤ 4000 ∧ Hid (∃ F, (∀ i, F i → W.heap.size ≤ i ∧ i < wr.heap.size) ∧ Elems 6 rep F wr acc cs ∧ ∀ g, all.ownBlock = some g → ¬ F g) ∧ wr.ownsRow W.heap.size 77 6 all acc.length cs.flatten ∧ Below W.heap.size W wr ∧ Hid (untilF shut.data.toList R s.data.toList = match untilF shut.data.toList R cur.data.toList with
      | none => none
      | some (l, q) => some (acc ++ l, q))) (fun t _ _ => textSize t)
  case atStart =>
    refine ⟨s, [], [], rfl, hs, by simpa using hs, ⟨fun _ => False, fun _ h => h.elim, trivial, fun _ _ h => h⟩, World.ownsRow_nil W W.heap.size 77 6, Below.refl _ _, ?_⟩
    show untilF shut.data.toList R s.data.toList = _
    cases untilF shut.data.toList R s.data.toList with
    | none => rfl
    | some z => rfl
  case round =>
    obtain ⟨cur, acc, cs, rfl, hcs, hal, HEL, hown, hbw, hU⟩ := hrel
    have hb1 := unhide HWB wr hbw
    have hc1 := unhide HWC wr hbw
    have hBw := hbw.size
    have HOWN := hide hown
    clear hown
    have hun := until_eq shut.data.toList R (unhide HST) cur.data.toList
    cases hp : shut.data.toList.isPrefixOf cur.data.toList with
    | true =>
      obtain ⟨r, hr⟩ : ∃ r : ByteArray, r.data.toList = cur.data.toList.drop shut.data.toList.length := ⟨⟨(cur.data.toList.drop shut.data.toList.length).toArray⟩, rfl⟩
      have hfin : untilF shut.data.toList R s.data.toList = some (acc, r.data.toList) := by
        rw [hU.out]
        unfold untilF
        rw [hun, if_pos hp, hr]
        simp
      have HF := hide hfin
      have HP := hide hp
      have HRR := hide hr
      clear hp hr hfin hun hU
      go_wp2_with (go_at_call 59; refine (cutPrefix_hit cur shut r _ (unhide HP) (unhide HRR)).mono ?_)
      rintro e w1 ⟨rfl, rfl⟩
      go_wp2
      go_ret3
      exact ⟨hbw, Or.inr ⟨acc, r.data.toList, _, unhide HF, until_list (unhide HEL) (unhide HOWN) (by omega), rfl⟩⟩
    | false =>
      rw [if_neg (by simp [hp])] at hun
      have HUN := hide hun
      have HP := hide hp
      clear hp hun
      have HB := hide (up (unhide HW) hbw)
      go_wp2_with (first | (go_at_call 59; refine (cutPrefix_miss cur shut _ (unhide HP)).mono ?_; rintro e w1 ⟨rfl, rfl⟩) | (go_at_fn g; refine ((unhide HR).2.2 _ cur (unhide HB) hcs).mono ?_))
      intro e w1 hgot
      obtain ⟨b1, hgot⟩ := hgot
      rcases hgot with ⟨hn, rfl⟩ | ⟨x, q, v, hn, hrep, rfl⟩
      · have hfin : untilF shut.data.toList R s.data.toList = none := by
          rw [hU.out]
          unfold untilF
          rw [unhide HUN, hn]
        have HF := hide hfin
        clear hn hfin hU
        go_wp2_with (go_at_call 127; refine (fail_members _).mono ?_)
        rintro e w2 ⟨rfl, rfl⟩
        go_wp2
        go_ret3
        exact ⟨grow (up hbw b1) _, Or.inl ⟨unhide HF, rfl⟩⟩
      · have hlt := unhide HST _ _ _ hn
        have hqs : (⟨q.toArray⟩ : ByteArray).size = q.length := rfl
        have hcl := text_size (rfl : cur.data.toList = cur.data.toList)
        have hU2 : Hid (untilF shut.data.toList R s.data.toList = match untilF shut.data.toList R (⟨q.toArray⟩ : ByteArray).data.toList with
            | none => none
            | some (l, p) => some ((acc ++ [x]) ++ l, p)) := by
          show _ = _
          rw [hU.out]
          unfold untilF
          rw [unhide HUN, hn]
          simp only
          cases untilR shut.data.toList R (q.length + 1) q with
          | none => rfl
          | some z => simp
        obtain ⟨k0, k1, k2, k3, k4, k5, k6, k7, k8, k9, hv⟩ := unhide H5 _ _ _ _ hrep
        subst hv
        have HLT := hide hlt
        have HQS := hide hqs
        have HCL := hide hcl
        have HREP := hide hrep
        have hown1 := (owns_stays (unhide HOWN) (fun k _ hk => b1.block k hk)).alloc (.cells [.string k0, .int .i64 k1, .int .i64 k2, .string k3, .slice k4 k5 k6, .slice k7 k8 k9].toArray 77)
        have hszr := b1.size
        have bb1 := up hbw b1
        have hB1 := bb1.size
        clear hn hlt hqs hcl hU hrep
        go_wp2_with (at_builtin; refine wpList_append_own_at _ rfl _ _ 28 rfl W.heap.size 77 i0 (.agg #[.string ⟨#[]⟩, .int .i64 0, .int .i64 0, .string ⟨#[]⟩, .slice none 0 0, .slice none 0 0]) 6 96 Tryz.underlying28 hi hz0 hz1 hz2 rfl (by decide) _ _ _ rfl (hown1.alloc _) ⟨w1.heap.size + 1, 0, none⟩ 1 1 [.string k0, .int .i64 k1, .int .i64 k2, .string k3, .slice k4 k5 k6, .slice k7 k8 k9] rfl rfl ?c1 ?c2 ?c3 ?c4 ?c5 ?_)
        case c1 =>
          have h1 := cells_add (w1.alloc (.cells [.string k0, .int .i64 k1, .int .i64 k2, .string k3, .slice k4 k5 k6, .slice k7 k8 k9].toArray 77)) [.string k0, .int .i64 k1, .int .i64 k2, .string k3, .slice k4 k5 k6, .slice k7 k8 k9] 77
          simpa using h1
        case c2 => intro y hy; simp at hy; rcases hy with rfl | rfl | rfl | rfl | rfl | rfl <;> rfl
        case c3 => unfold maxLen; omega
        case c4 => omega
        case c5 => simp; omega
        intro v' w2 hown' hgrow hnn hat
        have hat' : ∀ k, v'.ownBlock = some k → u7.ownBlock = some k ∨ w1.heap.size ≤ k := by
          intro k hk
          rcases hat with e | e
          · exact Or.inl (e ▸ hk)
          · rw [e] at hk
            simp at hk
            exact Or.inr (by omega)
        have R1 : w2.ownsRow W.heap.size 77 6 v' (acc ++ [x]).length (cs ++ [([.string k0, .int .i64 k1, .int .i64 k2, .string k3, .slice k4 k5 k6, .slice k7 k8 k9] : List Value)]).flatten := by
          rw [List.flatten_append, List.length_append]
          simpa using hown'
        have R2 : Below W.heap.size W w2 := ((bb1.alloc hB1 _).alloc (by simp; omega) _).grown hgrow (by simp; omega) (fun k hk => (hown1.lt k hk).1)
        have R3 := until_step (n := 6) (c := [.string k0, .int .i64 k1, .int .i64 k2, .string k3, .slice k4 k5 k6, .slice k7 k8 k9]) (T := 77) (unhide HEL) (unhide HREP) rfl b1 hBw (unhide HOWN) hgrow R1 hat'
        have HR1 := hide R1
        clear hown' hgrow hown1 R1 hat hat' hnn
        go_wp2
        go_roundw
        case rel =>
          have h1 := unhide HLT
          have h2 := unhide HQS
          have h3 := unhide HCL
          exact ⟨⟨q.toArray⟩, acc ++ [x], cs ++ [([.string k0, .int .i64 k1, .int .i64 k2, .string k3, .slice k4 k5 k6, .slice k7 k8 k9] : List Value)], rfl, by omega, by simp only [List.length_append, List.length_cons, List.length_nil]; omega, hide R3, unhide HR1, R2, hU2⟩
        case measure =>
          have h1 := unhide HLT
          have h2 := unhide HQS
          have h3 := unhide HCL
          simp only [textSize]
          omega

set_option maxHeartbeats 400000 in
theorem until_member {α : Type} (rep : Rep α) (h5 : Sixes rep) (shut : ByteArray) (g : Nat) (lb : Array Value) (R : Bytes → Option (α × Bytes)) (hst : Strict R) (w : World) (hR : Reads g lb rep (.agg #[.string ⟨#[]⟩, .int .i64 0, .int .i64 0, .string ⟨#[]⟩, .slice none 0 0, .slice none 0 0]) R w) :
    Calls Tryz.prog 81 #[.string shut, .func (.func g) #[] lb] w fun e w' => Below w.heap.size w w' ∧ ∃ l, e = .returned (.func (.func 129) #[] l) ∧ Reads 129 l (repList 6 77 4000 rep) (.slice none 0 0) (untilF shut.data.toList R) w' := by
  have hmf := mf
  have HR := hide hR
  have HST := hide hst
  have H5 := hide h5
  clear hR hst h5
  go_enter Tryz.func81, Tryz.ntmps81
  go_wp2
  go_ret
  have hbel := ((Below.refl _ w).alloc (Nat.le_refl _) (.cells #[.string shut] 9)).alloc (by simp) (.cells #[.func (.func g) #[] lb] 79)
  exact ⟨hbel, _, rfl, until_member_reads rep (unhide H5) shut g lb R (unhide HST) _ _ _ (by simp) (by simp) ((unhide HR).later hbel)⟩

end Go.Proofs.YtgaddifabjoliaaGreatDoor
