import Derived.Test.YtgaddifabjoliaaGreatDoorDoc
namespace Go.Proofs.YtgaddifabjoliaaGreatDoor
open Go.RowKit

def readF (s : Bytes) : Option (JT 8) := match valR 8 s with
  | some (x, []) => some x
  | _ => none

def ReadSays (s : ByteArray) (w : World) (e : Ending) (w' : World) : Prop := Below w.heap.size w w' ∧
  ((4000 < s.size ∧ e = .returned (.tuple #[.agg #[.int .i64 0, .int .i64 0, .string ⟨#[]⟩, .slice none 0 0, .slice none 0 0], .int .i64 1])) ∨
   (s.size ≤ 4000 ∧ readF s.data.toList = none ∧ e = .returned (.tuple #[.agg #[.int .i64 0, .int .i64 0, .string ⟨#[]⟩, .slice none 0 0, .slice none 0 0], .int .i64 2])) ∨
   (s.size ≤ 4000 ∧ ∃ x v, readF s.data.toList = some x ∧ (repV 8).rel (From w.heap.size) w' x v ∧ e = .returned (.tuple #[v, .int .i64 0])))

set_option maxHeartbeats 1000000 in
theorem read_says (s : ByteArray) (w : World) (hT : Lib.Utf8Tabs 2 3 w) (hE : Errs w) : Calls Tryz.prog 7 #[.string s] w (ReadSays s w) := by
  by_cases hs : s.size ≤ 4000
  · have hsi : ¬ ((s.size : Int) > 4000) := by omega
    have HD := fun o => hide (document_gives (w.alloc o) (tabs_later hT ((Below.refl _ w).alloc (Nat.le_refl _) o)) (errs_later hE ((Below.refl _ w).alloc (Nat.le_refl _) o)))
    clear hT hE
    go_enter Tryz.func7, Tryz.ntmps7
    go_wp2_with (go_at_call 11; refine (gave (unhide (HD _))).mono ?_)
    intro e w1 hgave
    obtain ⟨b, l1, rfl, hr⟩ := hgave
    have B1 := hide b
    have HR1 := hide hr
    have eg : ∀ args w, (callFunc 67 args).run Tryz.prog w = .ok (.enter 67 args) w := hr.1
    obtain ⟨⟨q0, q1, q2, q3, q4⟩, qf, ql⟩ := box5 b
    clear b hr HD
    go_wp2_with (go_at_fn 67; refine ((unhide HR1).2.2 _ s (Below.refl _ _) hs).mono ?_)
    clear q0 q1 q2 q3 q4 qf ql
    intro e w2 hgot
    obtain ⟨b2, hgot⟩ := hgot
    obtain ⟨⟨q0, q1, q2, q3, q4⟩, qf, ql⟩ := box5 (up (unhide B1) b2)
    have hw1 := (unhide B1).size
    simp at hw1
    have hw2 := b2.size
    have B2 := hide (up ((Below.refl _ w).alloc (Nat.le_refl _) _) (up (unhide B1) b2))
    rcases hgot with ⟨hn, rfl⟩ | ⟨x, r, v, hn, hrep, rfl⟩
    · have hfin : readF s.data.toList = none := by unfold readF; rw [hn]
      have HFI := hide hfin
      clear hn hfin HR1 B1 b2
      go_wp2
      refine bodyPost_ret (v := .tuple #[.agg #[.int .i64 0, .int .i64 0, .string ⟨#[]⟩, .slice none 0 0, .slice none 0 0], .int .i64 2]) (by simp [results, Tryz.results7, go_sem, q0, q1, q2, q3, q4, ql]) rfl ?_
      exact ⟨grow (below5 (unhide B2) (Nat.le_refl _)) _, Or.inr (Or.inl ⟨hs, unhide HFI, rfl⟩)⟩
    · obtain ⟨k1, k2, k3, k4, k5, k6, k7, k8, k9, hv⟩ := fives_v 8 _ _ _ _ hrep
      subst hv
      have HREP := hide hrep
      clear hrep
      by_cases hr : r = []
      · subst hr
        have hfin : readF s.data.toList = some x := by unfold readF; rw [hn]
        have HFI := hide hfin
        clear hn hfin HR1 B1 b2
        go_wp2
        refine bodyPost_ret (v := .tuple #[.agg #[.int .i64 k1, .int .i64 k2, .string k3, .slice k4 k5 k6, .slice k7 k8 k9], .int .i64 0]) (by simp [results, Tryz.results7, go_sem, q0, q1, q2, q3, q4, ql]) rfl ?_
        refine ⟨grow (below5 (unhide B2) (Nat.le_refl _)) _, Or.inr (Or.inr ⟨hs, x, _, unhide HFI, ?_, rfl⟩)⟩
        exact (repV 8).antiB ((repV 8).stays (unhide HREP) ((above5 (by omega)).alloc _)) (by omega)
      · have hfin : readF s.data.toList = none := by
          unfold readF
          rw [hn]
          cases r with
          | nil => exact absurd rfl hr
          | cons _ _ => rfl
        have HFI := hide hfin
        have hr1 : (r == ([] : Bytes)) = false := by rw [beq_eq_false_iff_ne]; exact hr
        clear hn hfin HR1 B1 b2 hr
        go_wp2
        refine bodyPost_ret (v := .tuple #[.agg #[.int .i64 0, .int .i64 0, .string ⟨#[]⟩, .slice none 0 0, .slice none 0 0], .int .i64 2]) (by simp [results, Tryz.results7, go_sem, q0, q1, q2, q3, q4, ql]) rfl ?_
        exact ⟨grow (below5 (unhide B2) (Nat.le_refl _)) _, Or.inr (Or.inl ⟨hs, unhide HFI, rfl⟩)⟩
  · have hsi : (s.size : Int) > 4000 := by omega
    go_enter Tryz.func7, Tryz.ntmps7
    go_wp2
    refine bodyPost_ret (v := .tuple #[.agg #[.int .i64 0, .int .i64 0, .string ⟨#[]⟩, .slice none 0 0, .slice none 0 0], .int .i64 1]) (by simp [results, Tryz.results7, go_sem]) rfl ?_
    exact ⟨(Below.refl _ w).alloc (Nat.le_refl _) _, Or.inl ⟨by omega, rfl⟩⟩
end Go.Proofs.YtgaddifabjoliaaGreatDoor
