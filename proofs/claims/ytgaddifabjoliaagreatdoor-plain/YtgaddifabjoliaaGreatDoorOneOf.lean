import Derived.Test.YtgaddifabjoliaaGreatDoorRune
namespace Go.Proofs.YtgaddifabjoliaaGreatDoor
open Go.RowKit

/-- A row of function values, each of which reads as it is said. -/
def Choices {α : Type} (w : World) (g off : Nat) (rep : Rep α) (z : Value) (cs : List (Nat × Array Value × (Bytes → Option (α × Bytes)))) : Prop :=
  ∀ i c, cs[i]? = some c → w.cell? ⟨g, off + i, none⟩ = some (.func (.func c.1) #[] c.2.1) ∧ Reads c.1 c.2.1 rep z c.2.2 w

theorem shrinks_choices {α : Type} {w : World} {g off : Nat} {rep : Rep α} {z : Value} {cs : List (Nat × Array Value × (Bytes → Option (α × Bytes)))} (h : Choices w g off rep z cs) : Shrinks (oneOfR (cs.map (·.2.2))) := by
  refine shrinks_oneOf _ ?_
  intro R hR
  simp only [List.mem_map] at hR
  obtain ⟨c, hc, rfl⟩ := hR
  obtain ⟨i, hi⟩ := List.getElem?_of_mem hc
  exact (h i c hi).2.2.1

theorem oneOf_drop {α : Type} (cs : List (Nat × Array Value × (Bytes → Option (α × Bytes)))) (i : Nat) (c : Nat × Array Value × (Bytes → Option (α × Bytes))) (h : cs[i]? = some c) (s : Bytes) :
    oneOfR ((cs.drop i).map (·.2.2)) s = match c.2.2 s with
      | some y => some y
      | none => oneOfR ((cs.drop (i + 1)).map (·.2.2)) s := by
  obtain ⟨hi, rfl⟩ := List.getElem?_eq_some_iff.1 h
  rw [List.drop_eq_getElem_cons hi]
  rfl

set_option maxHeartbeats 400000 in
theorem oneOf_rune_reads (b g off cap : Nat) (cs : List (Nat × Array Value × (Bytes → Option (Int × Bytes)))) (w : World) (hb : w.cell? ⟨b, 0, none⟩ = some (.slice (some ⟨g, off, none⟩) cs.length cap)) (hl : cs.length ≤ 100)
    (hcs : Choices w g off repI32 (.int .i32 0) cs) :
    Reads 108 #[.pointer (some ⟨b, 0, none⟩)] repI32 (.int .i32 0) (oneOfR (cs.map (·.2.2))) w := by
  refine ⟨enters_of Tryz.func108 (by kernel_rfl) rfl, shrinks_choices hcs, ?_⟩
  intro W s hW hs
  have hb' := (hW.cell (p := ⟨b, 0, none⟩) (World.block_lt_of_cell? w _ hb)).trans hb
  have HCS := hide hcs
  clear hb hcs
  go_enter Tryz.func108, Tryz.ntmps108
  go_wp2
  go_loopw [13] (fun idx wr => ∃ i : Nat, i ≤ cs.length ∧ idx = .int .i64 i ∧ Below W.heap.size W wr ∧ Hid (oneOfR (cs.map (·.2.2)) s.data.toList = oneOfR ((cs.drop i).map (·.2.2)) s.data.toList)) (fun idx _ => cs.length - (intOf idx).toNat)
  case atStart => exact ⟨0, Nat.zero_le _, rfl, Below.refl _ _, rfl⟩
  case round =>
    obtain ⟨i, hi, rfl, hbw, hR⟩ := hrel
    by_cases hlt : i < cs.length
    · obtain ⟨c, hc⟩ : ∃ c, cs[i]? = some c := ⟨_, List.getElem?_eq_getElem hlt⟩
      obtain ⟨hcell, hrd⟩ := unhide HCS i c hc
      have hd := oneOf_drop cs i c hc s.data.toList
      have hW' := up hW hbw
      have hcell' := (hW'.cell (p := ⟨g, off + i, none⟩) (World.block_lt_of_cell? w _ hcell)).trans hcell
      have eg : ∀ args w, (callFunc c.1 args).run Tryz.prog w = .ok (.enter c.1 args) w := hrd.1
      have HRD := hide hrd
      have HD := hide hd
      have HW := hide hW'
      clear hcell hrd hd hc hb' hW hW'
      go_wp2_with (go_at_fn c.1; refine ((unhide HRD).2.2 _ s (unhide HW) hs).mono ?_)
      intro e w1 hgot
      obtain ⟨b1, hgot⟩ := hgot
      rcases hgot with ⟨hn, rfl⟩ | ⟨x, r, v, hn, hrep, rfl⟩
      · have HR : Hid (oneOfR (cs.map (·.2.2)) s.data.toList = oneOfR ((cs.drop (i + 1)).map (·.2.2)) s.data.toList) := by
          show _ = _
          rw [hR.out, unhide HD, hn]
        clear hn hR
        go_wp2
        go_roundw
        case rel => exact ⟨i + 1, by omega, by go_num, hbw.trans (b1.mono hbw.size), HR⟩
        case measure => simp [intOf]; omega
      · have HR : Hid (oneOfR (cs.map (·.2.2)) s.data.toList = some (x, r)) := by
          show _ = _
          rw [hR.out, unhide HD, hn]
        clear hn hR
        go_wp2
        go_ret3
        exact ⟨up hbw b1, Or.inr ⟨x, r, v, unhide HR, repI32.antiB hrep hbw.size, rfl⟩⟩
    · have hn : oneOfR (cs.map (·.2.2)) s.data.toList = none := by
        rw [hR.out, List.drop_eq_nil_of_le (by omega)]
        rfl
      have HN := hide hn
      clear hn hR
      go_wp2_with (go_at_call 99; refine (fail_rune _).mono ?_)
      rintro e w2 ⟨rfl, rfl⟩
      go_wp2
      go_ret3
      exact ⟨hbw, Or.inl ⟨unhide HN, rfl⟩⟩
end Go.Proofs.YtgaddifabjoliaaGreatDoor
