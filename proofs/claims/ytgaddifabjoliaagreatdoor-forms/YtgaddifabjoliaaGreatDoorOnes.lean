import Derived.Test.YtgaddifabjoliaaGreatDoorKitB
namespace Go.Proofs.YtgaddifabjoliaaGreatDoor
open Go.RowKit

set_option maxHeartbeats 400000 in
theorem oneOf_runeg_reads {α : Type} (rep : Rep α) (b g off cap : Nat) (cs : List (Nat × Array Value × (Bytes → Option (α × Bytes)))) (w : World) (hb : w.cell? ⟨b, 0, none⟩ = some (.slice (some ⟨g, off, none⟩) cs.length cap)) (hl : cs.length ≤ 100)
    (hcs : Choices w g off rep (.int .i32 0) cs) :
    Reads 108 #[.pointer (some ⟨b, 0, none⟩)] rep (.int .i32 0) (oneOfR (cs.map (·.2.2))) w := by
  refine ⟨enters_of Tryz.func108 (by kernel_rfl) rfl, shrinks_choices hcs, ?_⟩
  intro W s hW hs
  have hb' := (hW.cell (p := ⟨b, 0, none⟩) (World.block_lt_of_cell? w _ hb)).trans hb
  have HCS := hide hcs
  clear hb hcs
  go_enter Tryz.func108, Tryz.ntmps108
  go_wp2
  go_loopw [13] (fun idx wr => ∃ i : Nat, i ≤ cs.length ∧ idx = .int .i64 i ∧ Below W.heap.size W wr ∧ Hid (oneOfR (cs.map (·.2.2)) s.data.toList = oneOfR ((cs.drop i).map (·.2.2)) s.data.toList)) (fun idx _ => cs.length - (intOf idx).toNat)
  case atStart => exact ⟨0, Nat.zero_le _, rfl, Below.refl _ _, rfl⟩
  case round =>
    obtain ⟨i, hi, rfl, hbw, hR⟩ := hrel
    by_cases hlt : i < cs.length
    · obtain ⟨c, hc⟩ : ∃ c, cs[i]? = some c := ⟨_, List.getElem?_eq_getElem hlt⟩
      obtain ⟨hcell, hrd⟩ := unhide HCS i c hc
      have hd := oneOf_drop cs i c hc s.data.toList
      have hW' := up hW hbw
      have hcell' := (hW'.cell (p := ⟨g, off + i, none⟩) (World.block_lt_of_cell? w _ hcell)).trans hcell
      have eg : ∀ args w, (callFunc c.1 args).run Tryz.prog w = .ok (.enter c.1 args) w := hrd.1
      have HRD := hide hrd
      have HD := hide hd
      have HW := hide hW'
      clear hcell hrd hd hc hb' hW hW'
      go_wp2_with (go_at_fn c.1; refine ((unhide HRD).2.2 _ s (unhide HW) hs).mono ?_)
      intro e w1 hgot
      obtain ⟨b1, hgot⟩ := hgot
      rcases hgot with ⟨hn, rfl⟩ | ⟨x, r, v, hn, hrep, rfl⟩
      · have HR : Hid (oneOfR (cs.map (·.2.2)) s.data.toList = oneOfR ((cs.drop (i + 1)).map (·.2.2)) s.data.toList) := by
          show _ = _
          rw [hR.out, unhide HD, hn]
        clear hn hR
        go_wp2
        go_roundw
        case rel => exact ⟨i + 1, by omega, by go_num, hbw.trans (b1.mono hbw.size), HR⟩
        case measure => simp [intOf]; omega
      · have HR : Hid (oneOfR (cs.map (·.2.2)) s.data.toList = some (x, r)) := by
          show _ = _
          rw [hR.out, unhide HD, hn]
        clear hn hR
        go_wp2
        go_ret3
        exact ⟨up hbw b1, Or.inr ⟨x, r, v, unhide HR, rep.antiB hrep hbw.size, rfl⟩⟩
    · have hn : oneOfR (cs.map (·.2.2)) s.data.toList = none := by
        rw [hR.out, List.drop_eq_nil_of_le (by omega)]
        rfl
      have HN := hide hn
      clear hn hR
      go_wp2_with (go_at_call 99; refine (fail_rune _).mono ?_)
      rintro e w2 ⟨rfl, rfl⟩
      go_wp2
      go_ret3
      exact ⟨hbw, Or.inl ⟨unhide HN, rfl⟩⟩

set_option maxHeartbeats 400000 in
theorem oneOf_rune {α : Type} (rep : Rep α) (g off cap : Nat) (cs : List (Nat × Array Value × (Bytes → Option (α × Bytes)))) (w : World) (hl : cs.length ≤ 100) (hcs : ∀ W, Below w.heap.size w W → Choices W g off rep (.int .i32 0) cs) :
    Calls Tryz.prog 52 #[.slice (some ⟨g, off, none⟩) cs.length cap] w fun e w' => Below w.heap.size w w' ∧ ∃ lb, e = .returned (.func (.func 108) #[] lb) ∧ Reads 108 lb rep (.int .i32 0) (oneOfR (cs.map (·.2.2))) w' := by
  have hmf := mf
  have HCS := hide hcs
  clear hcs
  go_enter Tryz.func52, Tryz.ntmps52
  go_wp2
  go_ret
  have hbel := (Below.refl _ w).alloc (Nat.le_refl _) (.cells #[.slice (some ⟨g, off, none⟩) cs.length cap] 156)
  exact ⟨hbel, _, rfl, oneOf_runeg_reads rep _ g off cap cs _ (by simp) hl (unhide HCS _ hbel)⟩

set_option maxHeartbeats 400000 in
theorem oneOf_int64_reads {α : Type} (rep : Rep α) (b g off cap : Nat) (cs : List (Nat × Array Value × (Bytes → Option (α × Bytes)))) (w : World) (hb : w.cell? ⟨b, 0, none⟩ = some (.slice (some ⟨g, off, none⟩) cs.length cap)) (hl : cs.length ≤ 100)
    (hcs : Choices w g off rep (.int .i64 0) cs) :
    Reads 112 #[.pointer (some ⟨b, 0, none⟩)] rep (.int .i64 0) (oneOfR (cs.map (·.2.2))) w := by
  refine ⟨enters_of Tryz.func112 (by kernel_rfl) rfl, shrinks_choices hcs, ?_⟩
  intro W s hW hs
  have hb' := (hW.cell (p := ⟨b, 0, none⟩) (World.block_lt_of_cell? w _ hb)).trans hb
  have HCS := hide hcs
  clear hb hcs
  go_enter Tryz.func112, Tryz.ntmps112
  go_wp2
  go_loopw [13] (fun idx wr => ∃ i : Nat, i ≤ cs.length ∧ idx = .int .i64 i ∧ Below W.heap.size W wr ∧ Hid (oneOfR (cs.map (·.2.2)) s.data.toList = oneOfR ((cs.drop i).map (·.2.2)) s.data.toList)) (fun idx _ => cs.length - (intOf idx).toNat)
  case atStart => exact ⟨0, Nat.zero_le _, rfl, Below.refl _ _, rfl⟩
  case round =>
    obtain ⟨i, hi, rfl, hbw, hR⟩ := hrel
    by_cases hlt : i < cs.length
    · obtain ⟨c, hc⟩ : ∃ c, cs[i]? = some c := ⟨_, List.getElem?_eq_getElem hlt⟩
      obtain ⟨hcell, hrd⟩ := unhide HCS i c hc
      have hd := oneOf_drop cs i c hc s.data.toList
      have hW' := up hW hbw
      have hcell' := (hW'.cell (p := ⟨g, off + i, none⟩) (World.block_lt_of_cell? w _ hcell)).trans hcell
      have eg : ∀ args w, (callFunc c.1 args).run Tryz.prog w = .ok (.enter c.1 args) w := hrd.1
      have HRD := hide hrd
      have HD := hide hd
      have HW := hide hW'
      clear hcell hrd hd hc hb' hW hW'
      go_wp2_with (go_at_fn c.1; refine ((unhide HRD).2.2 _ s (unhide HW) hs).mono ?_)
      intro e w1 hgot
      obtain ⟨b1, hgot⟩ := hgot
      rcases hgot with ⟨hn, rfl⟩ | ⟨x, r, v, hn, hrep, rfl⟩
      · have HR : Hid (oneOfR (cs.map (·.2.2)) s.data.toList = oneOfR ((cs.drop (i + 1)).map (·.2.2)) s.data.toList) := by
          show _ = _
          rw [hR.out, unhide HD, hn]
        clear hn hR
        go_wp2
        go_roundw
        case rel => exact ⟨i + 1, by omega, by go_num, hbw.trans (b1.mono hbw.size), HR⟩
        case measure => simp [intOf]; omega
      · have HR : Hid (oneOfR (cs.map (·.2.2)) s.data.toList = some (x, r)) := by
          show _ = _
          rw [hR.out, unhide HD, hn]
        clear hn hR
        go_wp2
        go_ret3
        exact ⟨up hbw b1, Or.inr ⟨x, r, v, unhide HR, rep.antiB hrep hbw.size, rfl⟩⟩
    · have hn : oneOfR (cs.map (·.2.2)) s.data.toList = none := by
        rw [hR.out, List.drop_eq_nil_of_le (by omega)]
        rfl
      have HN := hide hn
      clear hn hR
      go_wp2_with (go_at_call 113; refine (fail_int64 _).mono ?_)
      rintro e w2 ⟨rfl, rfl⟩
      go_wp2
      go_ret3
      exact ⟨hbw, Or.inl ⟨unhide HN, rfl⟩⟩

set_option maxHeartbeats 400000 in
theorem oneOf_int64 {α : Type} (rep : Rep α) (g off cap : Nat) (cs : List (Nat × Array Value × (Bytes → Option (α × Bytes)))) (w : World) (hl : cs.length ≤ 100) (hcs : ∀ W, Below w.heap.size w W → Choices W g off rep (.int .i64 0) cs) :
    Calls Tryz.prog 61 #[.slice (some ⟨g, off, none⟩) cs.length cap] w fun e w' => Below w.heap.size w w' ∧ ∃ lb, e = .returned (.func (.func 112) #[] lb) ∧ Reads 112 lb rep (.int .i64 0) (oneOfR (cs.map (·.2.2))) w' := by
  have hmf := mf
  have HCS := hide hcs
  clear hcs
  go_enter Tryz.func61, Tryz.ntmps61
  go_wp2
  go_ret
  have hbel := (Below.refl _ w).alloc (Nat.le_refl _) (.cells #[.slice (some ⟨g, off, none⟩) cs.length cap] 160)
  exact ⟨hbel, _, rfl, oneOf_int64_reads rep _ g off cap cs _ (by simp) hl (unhide HCS _ hbel)⟩

set_option maxHeartbeats 400000 in
theorem oneOf_values_reads {α : Type} (rep : Rep α) (b g off cap : Nat) (cs : List (Nat × Array Value × (Bytes → Option (α × Bytes)))) (w : World) (hb : w.cell? ⟨b, 0, none⟩ = some (.slice (some ⟨g, off, none⟩) cs.length cap)) (hl : cs.length ≤ 100)
    (hcs : Choices w g off rep (.slice none 0 0) cs) :
    Reads 125 #[.pointer (some ⟨b, 0, none⟩)] rep (.slice none 0 0) (oneOfR (cs.map (·.2.2))) w := by
  refine ⟨enters_of Tryz.func125 (by kernel_rfl) rfl, shrinks_choices hcs, ?_⟩
  intro W s hW hs
  have hb' := (hW.cell (p := ⟨b, 0, none⟩) (World.block_lt_of_cell? w _ hb)).trans hb
  have HCS := hide hcs
  clear hb hcs
  go_enter Tryz.func125, Tryz.ntmps125
  go_wp2
  go_loopw [13] (fun idx wr => ∃ i : Nat, i ≤ cs.length ∧ idx = .int .i64 i ∧ Below W.heap.size W wr ∧ Hid (oneOfR (cs.map (·.2.2)) s.data.toList = oneOfR ((cs.drop i).map (·.2.2)) s.data.toList)) (fun idx _ => cs.length - (intOf idx).toNat)
  case atStart => exact ⟨0, Nat.zero_le _, rfl, Below.refl _ _, rfl⟩
  case round =>
    obtain ⟨i, hi, rfl, hbw, hR⟩ := hrel
    by_cases hlt : i < cs.length
    · obtain ⟨c, hc⟩ : ∃ c, cs[i]? = some c := ⟨_, List.getElem?_eq_getElem hlt⟩
      obtain ⟨hcell, hrd⟩ := unhide HCS i c hc
      have hd := oneOf_drop cs i c hc s.data.toList
      have hW' := up hW hbw
      have hcell' := (hW'.cell (p := ⟨g, off + i, none⟩) (World.block_lt_of_cell? w _ hcell)).trans hcell
      have eg : ∀ args w, (callFunc c.1 args).run Tryz.prog w = .ok (.enter c.1 args) w := hrd.1
      have HRD := hide hrd
      have HD := hide hd
      have HW := hide hW'
      clear hcell hrd hd hc hb' hW hW'
      go_wp2_with (go_at_fn c.1; refine ((unhide HRD).2.2 _ s (unhide HW) hs).mono ?_)
      intro e w1 hgot
      obtain ⟨b1, hgot⟩ := hgot
      rcases hgot with ⟨hn, rfl⟩ | ⟨x, r, v, hn, hrep, rfl⟩
      · have HR : Hid (oneOfR (cs.map (·.2.2)) s.data.toList = oneOfR ((cs.drop (i + 1)).map (·.2.2)) s.data.toList) := by
          show _ = _
          rw [hR.out, unhide HD, hn]
        clear hn hR
        go_wp2
        go_roundw
        case rel => exact ⟨i + 1, by omega, by go_num, hbw.trans (b1.mono hbw.size), HR⟩
        case measure => simp [intOf]; omega
      · have HR : Hid (oneOfR (cs.map (·.2.2)) s.data.toList = some (x, r)) := by
          show _ = _
          rw [hR.out, unhide HD, hn]
        clear hn hR
        go_wp2
        go_ret3
        exact ⟨up hbw b1, Or.inr ⟨x, r, v, unhide HR, rep.antiB hrep hbw.size, rfl⟩⟩
    · have hn : oneOfR (cs.map (·.2.2)) s.data.toList = none := by
        rw [hR.out, List.drop_eq_nil_of_le (by omega)]
        rfl
      have HN := hide hn
      clear hn hR
      go_wp2_with (go_at_call 119; refine (fail_values _).mono ?_)
      rintro e w2 ⟨rfl, rfl⟩
      go_wp2
      go_ret3
      exact ⟨hbw, Or.inl ⟨unhide HN, rfl⟩⟩

set_option maxHeartbeats 400000 in
theorem oneOf_values {α : Type} (rep : Rep α) (g off cap : Nat) (cs : List (Nat × Array Value × (Bytes → Option (α × Bytes)))) (w : World) (hl : cs.length ≤ 100) (hcs : ∀ W, Below w.heap.size w W → Choices W g off rep (.slice none 0 0) cs) :
    Calls Tryz.prog 77 #[.slice (some ⟨g, off, none⟩) cs.length cap] w fun e w' => Below w.heap.size w w' ∧ ∃ lb, e = .returned (.func (.func 125) #[] lb) ∧ Reads 125 lb rep (.slice none 0 0) (oneOfR (cs.map (·.2.2))) w' := by
  have hmf := mf
  have HCS := hide hcs
  clear hcs
  go_enter Tryz.func77, Tryz.ntmps77
  go_wp2
  go_ret
  have hbel := (Below.refl _ w).alloc (Nat.le_refl _) (.cells #[.slice (some ⟨g, off, none⟩) cs.length cap] 168)
  exact ⟨hbel, _, rfl, oneOf_values_reads rep _ g off cap cs _ (by simp) hl (unhide HCS _ hbel)⟩

set_option maxHeartbeats 400000 in
theorem oneOf_members_reads {α : Type} (rep : Rep α) (b g off cap : Nat) (cs : List (Nat × Array Value × (Bytes → Option (α × Bytes)))) (w : World) (hb : w.cell? ⟨b, 0, none⟩ = some (.slice (some ⟨g, off, none⟩) cs.length cap)) (hl : cs.length ≤ 100)
    (hcs : Choices w g off rep (.slice none 0 0) cs) :
    Reads 134 #[.pointer (some ⟨b, 0, none⟩)] rep (.slice none 0 0) (oneOfR (cs.map (·.2.2))) w := by
  refine ⟨enters_of Tryz.func134 (by kernel_rfl) rfl, shrinks_choices hcs, ?_⟩
  intro W s hW hs
  have hb' := (hW.cell (p := ⟨b, 0, none⟩) (World.block_lt_of_cell? w _ hb)).trans hb
  have HCS := hide hcs
  clear hb hcs
  go_enter Tryz.func134, Tryz.ntmps134
  go_wp2
  go_loopw [13] (fun idx wr => ∃ i : Nat, i ≤ cs.length ∧ idx = .int .i64 i ∧ Below W.heap.size W wr ∧ Hid (oneOfR (cs.map (·.2.2)) s.data.toList = oneOfR ((cs.drop i).map (·.2.2)) s.data.toList)) (fun idx _ => cs.length - (intOf idx).toNat)
  case atStart => exact ⟨0, Nat.zero_le _, rfl, Below.refl _ _, rfl⟩
  case round =>
    obtain ⟨i, hi, rfl, hbw, hR⟩ := hrel
    by_cases hlt : i < cs.length
    · obtain ⟨c, hc⟩ : ∃ c, cs[i]? = some c := ⟨_, List.getElem?_eq_getElem hlt⟩
      obtain ⟨hcell, hrd⟩ := unhide HCS i c hc
      have hd := oneOf_drop cs i c hc s.data.toList
      have hW' := up hW hbw
      have hcell' := (hW'.cell (p := ⟨g, off + i, none⟩) (World.block_lt_of_cell? w _ hcell)).trans hcell
      have eg : ∀ args w, (callFunc c.1 args).run Tryz.prog w = .ok (.enter c.1 args) w := hrd.1
      have HRD := hide hrd
      have HD := hide hd
      have HW := hide hW'
      clear hcell hrd hd hc hb' hW hW'
      go_wp2_with (go_at_fn c.1; refine ((unhide HRD).2.2 _ s (unhide HW) hs).mono ?_)
      intro e w1 hgot
      obtain ⟨b1, hgot⟩ := hgot
      rcases hgot with ⟨hn, rfl⟩ | ⟨x, r, v, hn, hrep, rfl⟩
      · have HR : Hid (oneOfR (cs.map (·.2.2)) s.data.toList = oneOfR ((cs.drop (i + 1)).map (·.2.2)) s.data.toList) := by
          show _ = _
          rw [hR.out, unhide HD, hn]
        clear hn hR
        go_wp2
        go_roundw
        case rel => exact ⟨i + 1, by omega, by go_num, hbw.trans (b1.mono hbw.size), HR⟩
        case measure => simp [intOf]; omega
      · have HR : Hid (oneOfR (cs.map (·.2.2)) s.data.toList = some (x, r)) := by
          show _ = _
          rw [hR.out, unhide HD, hn]
        clear hn hR
        go_wp2
        go_ret3
        exact ⟨up hbw b1, Or.inr ⟨x, r, v, unhide HR, rep.antiB hrep hbw.size, rfl⟩⟩
    · have hn : oneOfR (cs.map (·.2.2)) s.data.toList = none := by
        rw [hR.out, List.drop_eq_nil_of_le (by omega)]
        rfl
      have HN := hide hn
      clear hn hR
      go_wp2_with (go_at_call 127; refine (fail_members _).mono ?_)
      rintro e w2 ⟨rfl, rfl⟩
      go_wp2
      go_ret3
      exact ⟨hbw, Or.inl ⟨unhide HN, rfl⟩⟩

set_option maxHeartbeats 400000 in
theorem oneOf_members {α : Type} (rep : Rep α) (g off cap : Nat) (cs : List (Nat × Array Value × (Bytes → Option (α × Bytes)))) (w : World) (hl : cs.length ≤ 100) (hcs : ∀ W, Below w.heap.size w W → Choices W g off rep (.slice none 0 0) cs) :
    Calls Tryz.prog 86 #[.slice (some ⟨g, off, none⟩) cs.length cap] w fun e w' => Below w.heap.size w w' ∧ ∃ lb, e = .returned (.func (.func 134) #[] lb) ∧ Reads 134 lb rep (.slice none 0 0) (oneOfR (cs.map (·.2.2))) w' := by
  have hmf := mf
  have HCS := hide hcs
  clear hcs
  go_enter Tryz.func86, Tryz.ntmps86
  go_wp2
  go_ret
  have hbel := (Below.refl _ w).alloc (Nat.le_refl _) (.cells #[.slice (some ⟨g, off, none⟩) cs.length cap] 173)
  exact ⟨hbel, _, rfl, oneOf_members_reads rep _ g off cap cs _ (by simp) hl (unhide HCS _ hbel)⟩

end Go.Proofs.YtgaddifabjoliaaGreatDoor
