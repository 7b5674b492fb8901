import Derived.Test.YtgaddifabjoliaaGreatDoorKit
import Derived.Shelf.Strings.SlTrimAscii
namespace Go.Proofs.YtgaddifabjoliaaGreatDoor
open Go.RowKit

theorem fail_rune (w : World) : Calls Tryz.prog 99 #[] w fun e w' => e = .returned (.tuple #[.int .i32 0, .string ⟨#[]⟩, .bool false]) ∧ w' = w := by
  go_enter Tryz.func99, Tryz.ntmps99
  go_wp2
  go_ret3
  exact ⟨rfl, rfl⟩

set_option maxHeartbeats 400000 in
theorem word_rune_reads (text : ByteArray) (x : Int) (b c : Nat) (w : World) (hb : w.cell? ⟨b, 0, none⟩ = some (.string text)) (hc : w.cell? ⟨c, 0, none⟩ = some (.int .i32 x)) :
    Reads 148 #[.pointer (some ⟨b, 0, none⟩), .pointer (some ⟨c, 0, none⟩)] repI32 (.int .i32 0) (wordR text.data.toList x) w := by
  refine ⟨enters_of Tryz.func148 (by kernel_rfl) rfl, shrinks_word _ _, ?_⟩
  intro W s hW hs
  have hb' := (hW.cell (p := ⟨b, 0, none⟩) (World.block_lt_of_cell? w _ hb)).trans hb
  have hc' := (hW.cell (p := ⟨c, 0, none⟩) (World.block_lt_of_cell? w _ hc)).trans hc
  clear hb hc hW
  cases hp : text.data.toList.isPrefixOf s.data.toList with
  | true =>
    obtain ⟨r, hr⟩ : ∃ r : ByteArray, r.data.toList = s.data.toList.drop text.data.toList.length := ⟨⟨(s.data.toList.drop text.data.toList.length).toArray⟩, rfl⟩
    have HP := hide hp
    have HR := hide hr
    clear hp hr
    go_enter Tryz.func148, Tryz.ntmps148
    go_wp2_with (go_at_call 59; refine (cutPrefix_hit s text r _ (unhide HP) (unhide HR)).mono ?_)
    rintro e w1 ⟨rfl, rfl⟩
    go_wp2
    go_ret3
    refine ⟨Below.refl _ _, Or.inr ⟨x, r.data.toList, _, ?_, rfl, rfl⟩⟩
    unfold wordR
    rw [if_pos (unhide HP), unhide HR]
  | false =>
    have HP := hide hp
    clear hp
    go_enter Tryz.func148, Tryz.ntmps148
    go_wp2_with (first | (go_at_call 59; refine (cutPrefix_miss s text _ (unhide HP)).mono ?_) | (go_at_call 99; refine (fail_rune _).mono ?_))
    rintro e w1 ⟨rfl, rfl⟩
    go_wp2_with (go_at_call 99; refine (fail_rune _).mono ?_)
    rintro e w2 ⟨rfl, rfl⟩
    go_wp2
    go_ret3
    refine ⟨Below.refl _ _, Or.inl ⟨?_, rfl⟩⟩
    unfold wordR
    rw [if_neg (by simp [unhide HP])]

set_option maxHeartbeats 400000 in
theorem word_rune (text : ByteArray) (x : Int) (w : World) :
    Calls Tryz.prog 110 #[.string text, .int .i32 x] w fun e w' => Below w.heap.size w w' ∧ ∃ lb, e = .returned (.func (.func 148) #[] lb) ∧ Reads 148 lb repI32 (.int .i32 0) (wordR text.data.toList x) w' := by
  have hmf : ∀ (fn : Fn) (first cap : Array Value) (w : World), (Instr.makeFunc fn first cap).run Tryz.prog w = .ok (.func fn first cap) w := fun _ _ _ _ => rfl
  go_enter Tryz.func110, Tryz.ntmps110
  go_wp2
  go_ret
  refine ⟨((Below.refl _ _).alloc (Nat.le_refl _) _).alloc (by simp) _, _, rfl, ?_⟩
  refine word_rune_reads text x _ _ _ ?_ ?_
  · simp
  · simp
end Go.Proofs.YtgaddifabjoliaaGreatDoor

namespace Go.Proofs.YtgaddifabjoliaaGreatDoor
open Go.RowKit

/-- A row of function values, each of which reads as it is said. -/
def Choices {α : Type} (w : World) (g off : Nat) (rep : Rep α) (z : Value) (cs : List (Nat × Array Value × (Bytes → Option (α × Bytes)))) : Prop :=
  ∀ i c, cs[i]? = some c → w.cell? ⟨g, off + i, none⟩ = some (.func (.func c.1) #[] c.2.1) ∧ Reads c.1 c.2.1 rep z c.2.2 w

theorem shrinks_choices {α : Type} {w : World} {g off : Nat} {rep : Rep α} {z : Value} {cs : List (Nat × Array Value × (Bytes → Option (α × Bytes)))} (h : Choices w g off rep z cs) : Shrinks (oneOfR (cs.map (·.2.2))) := by
  refine shrinks_oneOf _ ?_
  intro R hR
  simp only [List.mem_map] at hR
  obtain ⟨c, hc, rfl⟩ := hR
  obtain ⟨i, hi⟩ := List.getElem?_of_mem hc
  exact (h i c hi).2.2.1

theorem oneOf_drop {α : Type} (cs : List (Nat × Array Value × (Bytes → Option (α × Bytes)))) (i : Nat) (c : Nat × Array Value × (Bytes → Option (α × Bytes))) (h : cs[i]? = some c) (s : Bytes) :
    oneOfR ((cs.drop i).map (·.2.2)) s = match c.2.2 s with
      | some y => some y
      | none => oneOfR ((cs.drop (i + 1)).map (·.2.2)) s := by
  obtain ⟨hi, rfl⟩ := List.getElem?_eq_some_iff.1 h
  rw [List.drop_eq_getElem_cons hi]
  rfl

set_option maxHeartbeats 400000 in
theorem oneOf_rune_reads (b g off cap : Nat) (cs : List (Nat × Array Value × (Bytes → Option (Int × Bytes)))) (w : World) (hb : w.cell? ⟨b, 0, none⟩ = some (.slice (some ⟨g, off, none⟩) cs.length cap)) (hl : cs.length ≤ 100)
    (hcs : Choices w g off repI32 (.int .i32 0) cs) :
    Reads 108 #[.pointer (some ⟨b, 0, none⟩)] repI32 (.int .i32 0) (oneOfR (cs.map (·.2.2))) w := by
  refine ⟨enters_of Tryz.func108 (by kernel_rfl) rfl, shrinks_choices hcs, ?_⟩
  intro W s hW hs
  have hb' := (hW.cell (p := ⟨b, 0, none⟩) (World.block_lt_of_cell? w _ hb)).trans hb
  have HCS := hide hcs
  clear hb hcs
  go_enter Tryz.func108, Tryz.ntmps108
  go_wp2
  go_loopw [13] (fun idx wr => ∃ i : Nat, i ≤ cs.length ∧ idx = .int .i64 i ∧ Below W.heap.size W wr ∧ Hid (oneOfR (cs.map (·.2.2)) s.data.toList = oneOfR ((cs.drop i).map (·.2.2)) s.data.toList)) (fun idx _ => cs.length - (intOf idx).toNat)
  case atStart => exact ⟨0, Nat.zero_le _, rfl, Below.refl _ _, rfl⟩
  case round =>
    obtain ⟨i, hi, rfl, hbw, hR⟩ := hrel
    by_cases hlt : i < cs.length
    · obtain ⟨c, hc⟩ : ∃ c, cs[i]? = some c := ⟨_, List.getElem?_eq_getElem hlt⟩
      obtain ⟨hcell, hrd⟩ := unhide HCS i c hc
      have hd := oneOf_drop cs i c hc s.data.toList
      have hW' := up hW hbw
      have hcell' := (hW'.cell (p := ⟨g, off + i, none⟩) (World.block_lt_of_cell? w _ hcell)).trans hcell
      have eg : ∀ args w, (callFunc c.1 args).run Tryz.prog w = .ok (.enter c.1 args) w := hrd.1
      have HRD := hide hrd
      have HD := hide hd
      have HW := hide hW'
      clear hcell hrd hd hc hb' hW hW'
      go_wp2_with (go_at_fn c.1; refine ((unhide HRD).2.2 _ s (unhide HW) hs).mono ?_)
      intro e w1 hgot
      obtain ⟨b1, hgot⟩ := hgot
      rcases hgot with ⟨hn, rfl⟩ | ⟨x, r, v, hn, hrep, rfl⟩
      · have HR : Hid (oneOfR (cs.map (·.2.2)) s.data.toList = oneOfR ((cs.drop (i + 1)).map (·.2.2)) s.data.toList) := by
          show _ = _
          rw [hR.out, unhide HD, hn]
        clear hn hR
        go_wp2
        go_roundw
        case rel => exact ⟨i + 1, by omega, by go_num, hbw.trans (b1.mono hbw.size), HR⟩
        case measure => simp [intOf]; omega
      · have HR : Hid (oneOfR (cs.map (·.2.2)) s.data.toList = some (x, r)) := by
          show _ = _
          rw [hR.out, unhide HD, hn]
        clear hn hR
        go_wp2
        go_ret3
        exact ⟨up hbw b1, Or.inr ⟨x, r, v, unhide HR, repI32.antiB hrep hbw.size, rfl⟩⟩
    · have hn : oneOfR (cs.map (·.2.2)) s.data.toList = none := by
        rw [hR.out, List.drop_eq_nil_of_le (by omega)]
        rfl
      have HN := hide hn
      clear hn hR
      go_wp2_with (go_at_call 99; refine (fail_rune _).mono ?_)
      rintro e w2 ⟨rfl, rfl⟩
      go_wp2
      go_ret3
      exact ⟨hbw, Or.inl ⟨unhide HN, rfl⟩⟩
end Go.Proofs.YtgaddifabjoliaaGreatDoor

namespace Go.Proofs.YtgaddifabjoliaaGreatDoor
open Go.RowKit

theorem blanks_skip (l : Bytes) : Lib.trimLeftS l [32, 9, 10, 13] = skipB l := by
  unfold Lib.trimLeftS skipB
  congr 1
  funext c
  rw [Bool.eq_iff_iff]
  simp [isBlank, or_assoc]

set_option maxHeartbeats 400000 in
theorem skipBlanks_to (s t : ByteArray) (w : World) (ht : t.data.toList = skipB s.data.toList) :
    Calls Tryz.prog 68 #[.string s] w fun e w' => e = .returned (.string t) ∧ Below w.heap.size w w' := by
  have h1 := Any.strings_TrimLeft_laid Tryz.lays161 (by kernel_rfl) s ⟨#[32, 9, 10, 13]⟩ w (by decide) (ascii_of_all (by decide))
  have e1 : (⟨(Lib.trimLeftS s.data.toList (ByteArray.mk #[32, 9, 10, 13]).data.toList).toArray⟩ : ByteArray) = t := by
    refine text_eq ?_
    rw [ht]
    exact (blanks_skip _).symm
  rw [e1] at h1
  have H1 := hide h1
  clear h1 e1
  go_enter Tryz.func68, Tryz.ntmps68
  go_wp2_with (go_at_call 117; refine (unhide H1).mono ?_)
  rintro e w1 ⟨rfl, b1⟩
  go_wp2
  go_ret
  exact ⟨rfl, b1⟩
end Go.Proofs.YtgaddifabjoliaaGreatDoor

namespace Go.Proofs.YtgaddifabjoliaaGreatDoor
open Go.RowKit

theorem cells_three (w : World) (x y z : Value) (T U V : TypeId) :
    (((w.alloc (.cells #[x] T)).alloc (.cells #[y] U)).alloc (.cells #[z] V)).cell? ⟨w.heap.size, 0, none⟩ = some x ∧
    (((w.alloc (.cells #[x] T)).alloc (.cells #[y] U)).alloc (.cells #[z] V)).cell? ⟨w.heap.size + 1, 0, none⟩ = some y ∧
    (((w.alloc (.cells #[x] T)).alloc (.cells #[y] U)).alloc (.cells #[z] V)).cell? ⟨w.heap.size + 1 + 1, 0, none⟩ = some z := by
  refine ⟨?_, ?_, ?_⟩
  · rw [World.cell?_alloc_past _ _ _ (by simp; omega)]
    simp
  · rw [World.cell?_alloc_past _ _ _ (by simp)]
    simp
  · rw [World.cell?_alloc_at _ _ _ _ (by simp)]
    rfl

theorem mf : ∀ (fn : Fn) (first cap : Array Value) (w : World), (Instr.makeFunc fn first cap).run Tryz.prog w = .ok (.func fn first cap) w := fun _ _ _ _ => rfl

theorem fail_int64 (w : World) : Calls Tryz.prog 113 #[] w fun e w' => e = .returned (.tuple #[.int .i64 0, .string ⟨#[]⟩, .bool false]) ∧ w' = w := by
  go_enter Tryz.func113, Tryz.ntmps113
  go_wp2
  go_ret3
  exact ⟨rfl, rfl⟩

theorem fail_text (w : World) : Calls Tryz.prog 104 #[] w fun e w' => e = .returned (.tuple #[.string ⟨#[]⟩, .string ⟨#[]⟩, .bool false]) ∧ w' = w := by
  go_enter Tryz.func104, Tryz.ntmps104
  go_wp2
  go_ret3
  exact ⟨rfl, rfl⟩

theorem fail_runes (w : World) : Calls Tryz.prog 106 #[] w fun e w' => e = .returned (.tuple #[.slice none 0 0, .string ⟨#[]⟩, .bool false]) ∧ w' = w := by
  go_enter Tryz.func106, Tryz.ntmps106
  go_wp2
  go_ret3
  exact ⟨rfl, rfl⟩

theorem fail_values (w : World) : Calls Tryz.prog 119 #[] w fun e w' => e = .returned (.tuple #[.slice none 0 0, .string ⟨#[]⟩, .bool false]) ∧ w' = w := by
  go_enter Tryz.func119, Tryz.ntmps119
  go_wp2
  go_ret3
  exact ⟨rfl, rfl⟩

theorem fail_members (w : World) : Calls Tryz.prog 127 #[] w fun e w' => e = .returned (.tuple #[.slice none 0 0, .string ⟨#[]⟩, .bool false]) ∧ w' = w := by
  go_enter Tryz.func127, Tryz.ntmps127
  go_wp2
  go_ret3
  exact ⟨rfl, rfl⟩

end Go.Proofs.YtgaddifabjoliaaGreatDoor
