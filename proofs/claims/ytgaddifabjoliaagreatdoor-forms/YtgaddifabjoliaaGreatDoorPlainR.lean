import Derived.Test.YtgaddifabjoliaaGreatDoorHex
import Derived.Test.YtgaddifabjoliaaGreatDoorShelf2
import Derived.Shelf.Unicode.DecodeLastEight
namespace Go.Proofs.YtgaddifabjoliaaGreatDoor
open Go.RowKit

theorem tabs_later {a b : Nat} {w W : World} (h : Lib.Utf8Tabs a b w) (hW : Below w.heap.size w W) : Lib.Utf8Tabs a b W := by
  refine ⟨fun c hc => ?_, fun i hi => ⟨?_, ?_⟩⟩
  · exact (hW.cell (p := ⟨a, c, none⟩) (World.block_lt_of_cell? w _ (h.1 c hc))).trans (h.1 c hc)
  · exact (hW.cell (p := ⟨b, 2 * i, none⟩) (World.block_lt_of_cell? w _ (h.2 i hi).1)).trans (h.2 i hi).1
  · exact (hW.cell (p := ⟨b, 2 * i + 1, none⟩) (World.block_lt_of_cell? w _ (h.2 i hi).2)).trans (h.2 i hi).2

/-- The first rune, and how long it is. -/
def decL (s : Bytes) : Nat × Nat := Lib.decodeGo ⟨s.toArray⟩
def plainBad (r n : Nat) : Prop := (r = 65533 ∧ n < 2) ∨ r < 32 ∨ r = 34 ∨ r = 92
instance (r n : Nat) : Decidable (plainBad r n) := by unfold plainBad; exact inferInstance
def plainR (s : Bytes) : Option (Int × Bytes) := if plainBad (decL s).1 (decL s).2 then none else some (((decL s).1 : Int), s.drop (decL s).2)

set_option maxHeartbeats 1000000 in
theorem plainRune_reads (w : World) (hT : Lib.Utf8Tabs 2 3 w) : Reads 53 #[] repI32 (.int .i32 0) plainR w := by
  refine ⟨enters_of Tryz.func53 (by kernel_rfl) rfl, ?_, ?_⟩
  · intro s x r h
    unfold plainR at h
    split at h
    · simp at h
    · simp at h; obtain ⟨_, rfl⟩ := h; simp
  intro W s hW hs
  have hT' := tabs_later hT hW
  clear hT
  have hcon := Tryz.utf8_DecodeRuneInString s W hT'
  have hle := Lib.decodeGo_le_size s
  have hR : plainR s.data.toList = if plainBad (Lib.decodeGo s).1 (Lib.decodeGo s).2 then none else some (((Lib.decodeGo s).1 : Int), s.data.toList.drop (Lib.decodeGo s).2) := rfl
  generalize hdg : Lib.decodeGo s = y at hcon hle hR
  obtain ⟨r, n⟩ := y
  simp only at hcon hle hR
  have HC := hide hcon
  have HR := hide hR
  clear hcon hR hdg hT'
  by_cases hbad : plainBad r n
  · have hfin : plainR s.data.toList = none := by rw [unhide HR, if_pos hbad]
    have HFI := hide hfin
    clear hfin
    have hcs : (r = 65533 ∧ n < 2) ∨ (¬ (r = 65533 ∧ n < 2) ∧ (r < 32 ∨ r = 34 ∨ r = 92)) := by unfold plainBad at hbad; omega
    clear hbad
    rcases hcs with ⟨rfl, hn⟩ | ⟨hno, hr⟩
    · have hn' : (n : Int) < 2 := by omega
      go_enter Tryz.func53, Tryz.ntmps53
      go_wp2_with (go_at_call 109; refine (unhide HC).mono ?_)
      rintro e w1 ⟨rfl, hb⟩
      go_wp2_with (go_at_call 99; refine (fail_rune _).mono ?_)
      rintro e w2 ⟨rfl, rfl⟩
      go_wp2
      go_ret3
      exact ⟨hb, Or.inl ⟨unhide HFI, rfl⟩⟩
    · rcases hr with hr | rfl | rfl
      · have h1 : ¬ ((r : Int) = 65533) := by omega
        have h2 : (r : Int) < 32 := by omega
        clear hno hr
        go_enter Tryz.func53, Tryz.ntmps53
        go_wp2_with (go_at_call 109; refine (unhide HC).mono ?_)
        rintro e w1 ⟨rfl, hb⟩
        go_wp2_with (go_at_call 99; refine (fail_rune _).mono ?_)
        rintro e w2 ⟨rfl, rfl⟩
        go_wp2
        go_ret3
        exact ⟨hb, Or.inl ⟨unhide HFI, rfl⟩⟩
      · clear hno
        go_enter Tryz.func53, Tryz.ntmps53
        go_wp2_with (go_at_call 109; refine (unhide HC).mono ?_)
        rintro e w1 ⟨rfl, hb⟩
        go_wp2_with (go_at_call 99; refine (fail_rune _).mono ?_)
        rintro e w2 ⟨rfl, rfl⟩
        go_wp2
        go_ret3
        exact ⟨hb, Or.inl ⟨unhide HFI, rfl⟩⟩
      · clear hno
        go_enter Tryz.func53, Tryz.ntmps53
        go_wp2_with (go_at_call 109; refine (unhide HC).mono ?_)
        rintro e w1 ⟨rfl, hb⟩
        go_wp2_with (go_at_call 99; refine (fail_rune _).mono ?_)
        rintro e w2 ⟨rfl, rfl⟩
        go_wp2
        go_ret3
        exact ⟨hb, Or.inl ⟨unhide HFI, rfl⟩⟩
  · have hfin : plainR s.data.toList = some ((r : Int), s.data.toList.drop n) := by rw [unhide HR, if_neg hbad]
    obtain ⟨q, hq⟩ : ∃ q : ByteArray, q.data.toList = s.data.toList.drop n := ⟨⟨(s.data.toList.drop n).toArray⟩, rfl⟩
    rw [← hq] at hfin
    have hex : s.extract n s.size = q := by
      apply (text_eq _).symm.trans
      · rfl
      · rw [hq, ByteArray.data_extract, Array.toList_extract]
        simp [List.take_of_length_le]
    have HFI := hide hfin
    have HEX := hide hex
    have h2 : ¬ ((r : Int) < 32) := by unfold plainBad at hbad; omega
    have h3 : ¬ ((r : Int) = 34) := by unfold plainBad at hbad; omega
    have h4 : ¬ ((r : Int) = 92) := by unfold plainBad at hbad; omega
    have hle' : (n : Int) ≤ (s.size : Int) := by omega
    by_cases hr : r = 65533
    · subst hr
      have hn : ¬ ((n : Int) < 2) := by unfold plainBad at hbad; omega
      clear hfin hex hq hbad
      go_enter Tryz.func53, Tryz.ntmps53
      go_wp2_with (go_at_call 109; refine (unhide HC).mono ?_)
      rintro e w1 rfl hb
      have HB := hide hb
      clear hb
      go_wp2
      go_region
      all_goals
        go_wp2
        go_ret3
        rw [unhide HEX]
        exact ⟨(unhide HB).drew, Or.inr ⟨_, q.data.toList, _, unhide HFI, rfl, rfl⟩⟩
    · have g1 : ((r : Int) == 65533) = false := by simp; omega
      have g2 : decide ((r : Int) < 32) = false := by simp; omega
      have g3 : ((r : Int) == 34) = false := by simp; omega
      have g4 : ((r : Int) == 92) = false := by simp; omega
      clear hfin hex hq hbad hr h2 h3 h4
      go_enter Tryz.func53, Tryz.ntmps53
      go_wp2_with (go_at_call 109; refine (unhide HC).mono ?_)
      rintro e w1 ⟨rfl, hb⟩
      have HB := hide hb
      clear hb
      go_wp2
      go_region
      all_goals
        go_wp2
        go_ret3
        rw [unhide HEX]
        exact ⟨(unhide HB).drew, Or.inr ⟨_, q.data.toList, _, unhide HFI, rfl, rfl⟩⟩
end Go.Proofs.YtgaddifabjoliaaGreatDoor
