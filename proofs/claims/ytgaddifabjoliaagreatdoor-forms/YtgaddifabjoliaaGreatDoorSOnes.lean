import Derived.Test.YtgaddifabjoliaaGreatDoorSAfters
namespace Go.Proofs.YtgaddifabjoliaaGreatDoor
open Go.RowKit

set_option maxHeartbeats 1000000 in
theorem oneOf_value_reads {α : Type} (rep : Rep α) (h5 : Fives rep) (b g off cap : Nat) (cs : List (Nat × Array Value × (Bytes → Option (α × Bytes)))) (w : World) (hb : w.cell? ⟨b, 0, none⟩ = some (.slice (some ⟨g, off, none⟩) cs.length cap)) (hl : cs.length ≤ 100)
    (hcs : Choices w g off rep (.agg #[.int .i64 0, .int .i64 0, .string ⟨#[]⟩, .slice none 0 0, .slice none 0 0]) cs) :
    Reads 56 #[.pointer (some ⟨b, 0, none⟩)] rep (.agg #[.int .i64 0, .int .i64 0, .string ⟨#[]⟩, .slice none 0 0, .slice none 0 0]) (oneOfR (cs.map (·.2.2))) w := by
  refine ⟨enters_of Tryz.func56 (by kernel_rfl) rfl, shrinks_choices hcs, ?_⟩
  intro W s hW hs
  have hlb := World.block_lt_of_cell? w _ hb
  have hsz := hW.size
  have hb' := (hW.cell (p := ⟨b, 0, none⟩) hlb).trans hb
  have hbW : b < W.heap.size := by simp at hlb; omega
  have HCS := hide hcs
  have H5 := hide h5
  clear hb hcs hlb hsz h5
  go_enter Tryz.func56, Tryz.ntmps56
  go_wp2
  go_loopw [13] (fun idx wr => ∃ i : Nat, i ≤ cs.length ∧ idx = .int .i64 i ∧ Below (W.alloc (.cells #[.int .i64 0, .int .i64 0, .string ⟨#[]⟩, .slice none 0 0, .slice none 0 0] 30)).heap.size (W.alloc (.cells #[.int .i64 0, .int .i64 0, .string ⟨#[]⟩, .slice none 0 0, .slice none 0 0] 30)) wr ∧ Hid (oneOfR (cs.map (·.2.2)) s.data.toList = oneOfR ((cs.drop i).map (·.2.2)) s.data.toList)) (fun idx _ => cs.length - (intOf idx).toNat)
  case atStart => exact ⟨0, Nat.zero_le _, rfl, Below.refl _ _, rfl⟩
  case round =>
    obtain ⟨i, hi, rfl, hbw, hR⟩ := hrel
    by_cases hlt : i < cs.length
    · obtain ⟨c, hc⟩ : ∃ c, cs[i]? = some c := ⟨_, List.getElem?_eq_getElem hlt⟩
      obtain ⟨hcell, hrd⟩ := unhide HCS i c hc
      have hd := oneOf_drop cs i c hc s.data.toList
      have hbw' := up ((Below.refl _ W).alloc (Nat.le_refl _) (.cells #[.int .i64 0, .int .i64 0, .string ⟨#[]⟩, .slice none 0 0, .slice none 0 0] 30)) hbw
      have hW' := up hW hbw'
      have hcell' := (hW'.cell (p := ⟨g, off + i, none⟩) (World.block_lt_of_cell? w _ hcell)).trans hcell
      have eg : ∀ args w, (callFunc c.1 args).run Tryz.prog w = .ok (.enter c.1 args) w := hrd.1
      have HRD := hide hrd
      have HD := hide hd
      have HW := hide hW'
      clear hcell hrd hd hc hb' hW hW'
      go_wp2_with (go_at_fn c.1; refine ((unhide HRD).2.2 _ s (unhide HW) hs).mono ?_)
      intro e w1 hgot
      obtain ⟨b1, hgot⟩ := hgot
      have bb := up hbw b1
      obtain ⟨⟨q0, q1, q2, q3, q4⟩, qf, ql⟩ := box5 bb
      have hwr := hbw.size
      simp at hwr
      rcases hgot with ⟨hn, rfl⟩ | ⟨x, r, v, hn, hrep, rfl⟩
      · have HR : Hid (oneOfR (cs.map (·.2.2)) s.data.toList = oneOfR ((cs.drop (i + 1)).map (·.2.2)) s.data.toList) := by
          show _ = _
          rw [hR.out, unhide HD, hn]
        clear hn hR
        go_wp2
        go_roundw
        case rel => exact ⟨i + 1, by omega, by go_num, bb.alloc bb.size _, HR⟩
        case measure => simp [intOf]; omega
      · have HR : Hid (oneOfR (cs.map (·.2.2)) s.data.toList = some (x, r)) := by
          show _ = _
          rw [hR.out, unhide HD, hn]
        obtain ⟨k1, k2, k3, k4, k5, k6, k7, k8, k9, hv⟩ := unhide H5 _ _ _ _ hrep
        subst hv
        have HREP := hide hrep
        clear hn hR hrep
        go_wp2
        refine bodyPost_ret (v := .tuple #[.agg #[.int .i64 k1, .int .i64 k2, .string k3, .slice k4 k5 k6, .slice k7 k8 k9], .string ⟨r.toArray⟩, .bool true]) (by simp [results, Tryz.results56, go_sem, q0, q1, q2, q3, q4, ql]) rfl ?_
        refine ⟨grow (below5 (up hbw' b1) (Nat.le_refl _)) _, Or.inr ⟨x, r, _, unhide HR, ?_, rfl⟩⟩
        exact rep.antiB (rep.stays (unhide HREP) ((above5 (by omega)).alloc _)) (by omega)
    · have hn : oneOfR (cs.map (·.2.2)) s.data.toList = none := by
        rw [hR.out, List.drop_eq_nil_of_le (by omega)]
        rfl
      have HN := hide hn
      have hbw' := up ((Below.refl _ W).alloc (Nat.le_refl _) (.cells #[.int .i64 0, .int .i64 0, .string ⟨#[]⟩, .slice none 0 0, .slice none 0 0] 30)) hbw
      clear hn hR
      go_wp2_with (go_at_call 57; refine (fail_value _).mono ?_)
      rintro e w2 ⟨rfl, b2⟩
      obtain ⟨⟨q0, q1, q2, q3, q4⟩, qf, ql⟩ := box5 (up hbw b2)
      go_wp2
      refine bodyPost_ret (v := .tuple #[.agg #[.int .i64 0, .int .i64 0, .string ⟨#[]⟩, .slice none 0 0, .slice none 0 0], .string ⟨#[]⟩, .bool false]) (by simp [results, Tryz.results56, go_sem, q0, q1, q2, q3, q4]) rfl ?_
      exact ⟨below5 (up hbw' b2) (Nat.le_refl _), Or.inl ⟨unhide HN, rfl⟩⟩

set_option maxHeartbeats 400000 in
theorem oneOf_value {α : Type} (rep : Rep α) (h5 : Fives rep) (g off cap : Nat) (cs : List (Nat × Array Value × (Bytes → Option (α × Bytes)))) (w : World) (hl : cs.length ≤ 100) (hcs : ∀ W, Below w.heap.size w W → Choices W g off rep (.agg #[.int .i64 0, .int .i64 0, .string ⟨#[]⟩, .slice none 0 0, .slice none 0 0]) cs) :
    Calls Tryz.prog 18 #[.slice (some ⟨g, off, none⟩) cs.length cap] w fun e w' => Below w.heap.size w w' ∧ ∃ lb, e = .returned (.func (.func 56) #[] lb) ∧ Reads 56 lb rep (.agg #[.int .i64 0, .int .i64 0, .string ⟨#[]⟩, .slice none 0 0, .slice none 0 0]) (oneOfR (cs.map (·.2.2))) w' := by
  have hmf := mf
  have HCS := hide hcs
  have H5 := hide h5
  clear hcs h5
  go_enter Tryz.func18, Tryz.ntmps18
  go_wp2
  go_ret
  have hbel := (Below.refl _ w).alloc (Nat.le_refl _) (.cells #[.slice (some ⟨g, off, none⟩) cs.length cap] 111)
  exact ⟨hbel, _, rfl, oneOf_value_reads rep (unhide H5) _ g off cap cs _ (by simp) hl (unhide HCS _ hbel)⟩

end Go.Proofs.YtgaddifabjoliaaGreatDoor
