import Derived.Test.YtgaddifabjoliaaGreatDoorQuoted
import Derived.Test.YtgaddifabjoliaaGreatDoorSMember
namespace Go.Proofs.YtgaddifabjoliaaGreatDoor
open Go.RowKit

def listR {α : Type} (o c : Bytes) (R : Bytes → Option (α × Bytes)) : Bytes → Option (List α × Bytes) :=
  afterR o (oneOfR [paddedR (wordR c []), bothR R (untilF c (afterR [44] R)) (fun x xs => some (x :: xs))])
def memberR {α : Type} (N : Bytes → Option (Bytes × Bytes)) (R : Bytes → Option (α × Bytes)) : Bytes → Option (Named α × Bytes) :=
  bothR (paddedR N) (afterR [58] R) (fun n x => some (n, x))

theorem nil_list {α : Type} (k : Nat) (T : TypeId) (N : Nat) (rep : Rep α) (F : Nat → Prop) (W : World) : (repList k T N rep).rel F W [] (.slice none 0 0) :=
  ⟨Nat.zero_le _, [], F, fun _ h => h, trivial, ⟨by simp, Or.inl ⟨rfl, rfl⟩⟩, fun g hg => by cases hg⟩

theorem list_value_one {α : Type} (rep : Rep α) (c : Bytes) (R : Bytes → Option (α × Bytes)) (w : World) (l0 l1 : Array Value) (h0 : Reads 118 l0 (repList 5 30 4001 rep) (.slice none 0 0) (paddedR (wordR c [])) w) (h1 : Reads 123 l1 (repList 5 30 4001 rep) (.slice none 0 0) (bothR R (untilF c (afterR [44] R)) (fun x xs => some (x :: xs))) w) :
    Calls Tryz.prog 77 #[.slice (some ⟨w.heap.size, 0, none⟩) 2 2] (w.alloc (.cells #[.func (.func 118) #[] l0, .func (.func 123) #[] l1] 69))
      fun e w' => Below w.heap.size w w' ∧ ∃ lb, e = .returned (.func (.func 125) #[] lb) ∧ Reads 125 lb (repList 5 30 4001 rep) (.slice none 0 0) (oneOfR [paddedR (wordR c []), bothR R (untilF c (afterR [44] R)) (fun x xs => some (x :: xs))]) w' := by
  have hc := choices_alloc (w := w) (T := 69) (rep := (repList 5 30 4001 rep)) (z := .slice none 0 0) (cs := [(118, l0, paddedR (wordR c [])), (123, l1, bothR R (untilF c (afterR [44] R)) (fun x xs => some (x :: xs)))]) (by
    intro c hc
    simp only [List.mem_cons, List.not_mem_nil, or_false] at hc
    rcases hc with rfl | rfl
    · exact h0
    · exact h1)
  refine (oneOf_values (repList 5 30 4001 rep) w.heap.size 0 2 _ _ (by simp) hc).mono ?_
  rintro e w' ⟨hb, lb, he, hr⟩
  exact ⟨up ((Below.refl _ w).alloc (Nat.le_refl _) _) hb, lb, he, hr⟩

set_option maxHeartbeats 1000000 in
theorem list_value_gives {α : Type} (rep : Rep α) (h5 : Fives rep) (o c : ByteArray) (g : Nat) (lb : Array Value) (R : Bytes → Option (α × Bytes)) (w : World) (hR : Reads g lb rep (.agg #[.int .i64 0, .int .i64 0, .string ⟨#[]⟩, .slice none 0 0, .slice none 0 0]) R w) :
    Calls Tryz.prog 27 #[.string o, .string c, .func (.func g) #[] lb] w fun e w' => Below w.heap.size w w' ∧ ∃ l, e = .returned (.func (.func 124) #[] l) ∧ Reads 124 l (repList 5 30 4001 rep) (.slice none 0 0) (listR o.data.toList c.data.toList R) w' := by
  have hmf := mf
  have HR0 := hide hR
  have H5 := hide h5
  clear hR h5
  go_enter Tryz.func27, Tryz.ntmps27
  go_wp2_with (go_at_call 71; refine (gave (word_values (repList 5 30 4001 rep) c [] _ (nil_list _ _ _ rep))).mono ?_)
  intro e w1 hgave
  obtain ⟨b, l1, rfl, hr⟩ := hgave
  have B1 := hide b
  have HR1 := hide hr
  clear b hr
  go_wp2_with (go_at_call 70; refine (gave (padded_values (repList 5 30 4001 rep) _ l1 _ _ (unhide HR1))).mono ?_)
  intro e w2 hgave
  obtain ⟨b, l2, rfl, hr⟩ := hgave
  have B2 := hide b
  have HR2 := hide hr
  have HRa := hide ((unhide HR0).later (up (unhide B1) b))
  clear b hr
  go_wp2_with (go_at_call 73; refine (gave (after_value rep (unhide H5) ⟨#[44]⟩ g lb R _ (unhide HRa))).mono ?_)
  intro e w3 hgave
  obtain ⟨b, l3, rfl, hr⟩ := hgave
  have B3 := hide b
  have HR3 := hide hr
  clear b hr
  go_wp2_with (go_at_call 72; refine (gave (until_value rep (unhide H5) c _ l3 _ (strict_after (by simp) (unhide HRa).2.1) _ (unhide HR3))).mono ?_)
  intro e w4 hgave
  obtain ⟨b, l4, rfl, hr⟩ := hgave
  have B4 := hide b
  have HR4 := hide hr
  have HRb := hide (((unhide HRa).later (unhide B3)).later b)
  clear b hr
  go_wp2_with (go_at_call 74; refine (gave (both_value_list rep (unhide H5) (repList 5 30 4000 rep) (repList 5 30 4001 rep) g _ _ lb l4 #[] R _ _ _ (unhide HRb) (unhide HR4) (list_value_joins rep (unhide H5) _))).mono ?_)
  intro e w5 hgave
  obtain ⟨b, l5, rfl, hr⟩ := hgave
  have B5 := hide b
  have HR5 := hide hr
  clear b hr
  go_wp2_with (go_at_call 77; refine (gave2 (list_value_one rep c.data.toList R w5 l2 l5 ((((unhide HR2).later (unhide B3)).later (unhide B4)).later (unhide B5)) (unhide HR5))).mono ?_)
  intro e w6 hgave
  obtain ⟨b, l6, rfl, hr⟩ := hgave
  have B6 := hide b
  have HR6 := hide hr
  clear b hr
  go_wp2_with (go_at_call 76; refine (gave (after_values (repList 5 30 4001 rep) o _ l6 _ _ (unhide HR6))).mono ?_)
  intro e w7 hgave
  obtain ⟨b, l7, rfl, hr⟩ := hgave
  have B7 := hide b
  have HR7 := hide hr
  clear b hr
  go_wp2
  go_ret
  exact ⟨(up (up (up (up (up (up (unhide B1) (unhide B2)) (unhide B3)) (unhide B4)) (unhide B5)) (unhide B6)) (unhide B7)), l7, rfl, unhide HR7⟩

theorem list_member_one {α : Type} (rep : Rep α) (c : Bytes) (R : Bytes → Option (α × Bytes)) (w : World) (l0 l1 : Array Value) (h0 : Reads 126 l0 (repList 6 77 4001 rep) (.slice none 0 0) (paddedR (wordR c [])) w) (h1 : Reads 132 l1 (repList 6 77 4001 rep) (.slice none 0 0) (bothR R (untilF c (afterR [44] R)) (fun x xs => some (x :: xs))) w) :
    Calls Tryz.prog 86 #[.slice (some ⟨w.heap.size, 0, none⟩) 2 2] (w.alloc (.cells #[.func (.func 126) #[] l0, .func (.func 132) #[] l1] 74))
      fun e w' => Below w.heap.size w w' ∧ ∃ lb, e = .returned (.func (.func 134) #[] lb) ∧ Reads 134 lb (repList 6 77 4001 rep) (.slice none 0 0) (oneOfR [paddedR (wordR c []), bothR R (untilF c (afterR [44] R)) (fun x xs => some (x :: xs))]) w' := by
  have hc := choices_alloc (w := w) (T := 74) (rep := (repList 6 77 4001 rep)) (z := .slice none 0 0) (cs := [(126, l0, paddedR (wordR c [])), (132, l1, bothR R (untilF c (afterR [44] R)) (fun x xs => some (x :: xs)))]) (by
    intro c hc
    simp only [List.mem_cons, List.not_mem_nil, or_false] at hc
    rcases hc with rfl | rfl
    · exact h0
    · exact h1)
  refine (oneOf_members (repList 6 77 4001 rep) w.heap.size 0 2 _ _ (by simp) hc).mono ?_
  rintro e w' ⟨hb, lb, he, hr⟩
  exact ⟨up ((Below.refl _ w).alloc (Nat.le_refl _) _) hb, lb, he, hr⟩

set_option maxHeartbeats 1000000 in
theorem list_member_gives {α : Type} (rep : Rep α) (h5 : Sixes rep) (o c : ByteArray) (g : Nat) (lb : Array Value) (R : Bytes → Option (α × Bytes)) (w : World) (hR : Reads g lb rep (.agg #[.string ⟨#[]⟩, .int .i64 0, .int .i64 0, .string ⟨#[]⟩, .slice none 0 0, .slice none 0 0]) R w) :
    Calls Tryz.prog 30 #[.string o, .string c, .func (.func g) #[] lb] w fun e w' => Below w.heap.size w w' ∧ ∃ l, e = .returned (.func (.func 133) #[] l) ∧ Reads 133 l (repList 6 77 4001 rep) (.slice none 0 0) (listR o.data.toList c.data.toList R) w' := by
  have hmf := mf
  have HR0 := hide hR
  have H5 := hide h5
  clear hR h5
  go_enter Tryz.func30, Tryz.ntmps30
  go_wp2_with (go_at_call 80; refine (gave (word_members (repList 6 77 4001 rep) c [] _ (nil_list _ _ _ rep))).mono ?_)
  intro e w1 hgave
  obtain ⟨b, l1, rfl, hr⟩ := hgave
  have B1 := hide b
  have HR1 := hide hr
  clear b hr
  go_wp2_with (go_at_call 79; refine (gave (padded_members (repList 6 77 4001 rep) _ l1 _ _ (unhide HR1))).mono ?_)
  intro e w2 hgave
  obtain ⟨b, l2, rfl, hr⟩ := hgave
  have B2 := hide b
  have HR2 := hide hr
  have HRa := hide ((unhide HR0).later (up (unhide B1) b))
  clear b hr
  go_wp2_with (go_at_call 82; refine (gave (after_member rep (unhide H5) ⟨#[44]⟩ g lb R _ (unhide HRa))).mono ?_)
  intro e w3 hgave
  obtain ⟨b, l3, rfl, hr⟩ := hgave
  have B3 := hide b
  have HR3 := hide hr
  clear b hr
  go_wp2_with (go_at_call 81; refine (gave (until_member rep (unhide H5) c _ l3 _ (strict_after (by simp) (unhide HRa).2.1) _ (unhide HR3))).mono ?_)
  intro e w4 hgave
  obtain ⟨b, l4, rfl, hr⟩ := hgave
  have B4 := hide b
  have HR4 := hide hr
  have HRb := hide (((unhide HRa).later (unhide B3)).later b)
  clear b hr
  go_wp2_with (go_at_call 83; refine (gave (both_member_list rep (unhide H5) (repList 6 77 4000 rep) (repList 6 77 4001 rep) g _ _ lb l4 #[] R _ _ _ (unhide HRb) (unhide HR4) (list_member_joins rep (unhide H5) _))).mono ?_)
  intro e w5 hgave
  obtain ⟨b, l5, rfl, hr⟩ := hgave
  have B5 := hide b
  have HR5 := hide hr
  clear b hr
  go_wp2_with (go_at_call 86; refine (gave2 (list_member_one rep c.data.toList R w5 l2 l5 ((((unhide HR2).later (unhide B3)).later (unhide B4)).later (unhide B5)) (unhide HR5))).mono ?_)
  intro e w6 hgave
  obtain ⟨b, l6, rfl, hr⟩ := hgave
  have B6 := hide b
  have HR6 := hide hr
  clear b hr
  go_wp2_with (go_at_call 85; refine (gave (after_members (repList 6 77 4001 rep) o _ l6 _ _ (unhide HR6))).mono ?_)
  intro e w7 hgave
  obtain ⟨b, l7, rfl, hr⟩ := hgave
  have B7 := hide b
  have HR7 := hide hr
  clear b hr
  go_wp2
  go_ret
  exact ⟨(up (up (up (up (up (up (unhide B1) (unhide B2)) (unhide B3)) (unhide B4)) (unhide B5)) (unhide B6)) (unhide B7)), l7, rfl, unhide HR7⟩

set_option maxHeartbeats 1000000 in
theorem member_gives {α : Type} (rep : Rep α) (h5 : Fives rep) (g h : Nat) (lb lc : Array Value) (N : Bytes → Option (Bytes × Bytes)) (R : Bytes → Option (α × Bytes)) (w : World) (hN : Reads g lb repText (.string ⟨#[]⟩) N w) (hR : Reads h lc rep (.agg #[.int .i64 0, .int .i64 0, .string ⟨#[]⟩, .slice none 0 0, .slice none 0 0]) R w) :
    Calls Tryz.prog 31 #[.func (.func g) #[] lb, .func (.func h) #[] lc] w fun e w' => Below w.heap.size w w' ∧ ∃ l, e = .returned (.func (.func 135) #[] l) ∧ Reads 135 l (repM rep) (.agg #[.string ⟨#[]⟩, .int .i64 0, .int .i64 0, .string ⟨#[]⟩, .slice none 0 0, .slice none 0 0]) (memberR N R) w' := by
  have hmf := mf
  have HN := hide hN
  have HR0 := hide hR
  have H5 := hide h5
  clear hR h5 hN
  go_enter Tryz.func31, Tryz.ntmps31
  go_wp2_with (go_at_call 88; refine (gave (padded_text repText g lb N _ (unhide HN))).mono ?_)
  intro e w1 hgave
  obtain ⟨b, l1, rfl, hr⟩ := hgave
  have B1 := hide b
  have HR1 := hide hr
  have HRa := hide ((unhide HR0).later b)
  clear b hr
  go_wp2_with (go_at_call 73; refine (gave (after_value rep (unhide H5) ⟨#[58]⟩ h lc R _ (unhide HRa))).mono ?_)
  intro e w2 hgave
  obtain ⟨b, l2, rfl, hr⟩ := hgave
  have B2 := hide b
  have HR2 := hide hr
  have HRb := hide ((unhide HR1).later b)
  clear b hr
  go_wp2_with (go_at_call 87; refine (gave (both_member repText rep (unhide H5) (repM rep) (sixes_m rep) (sixesU_m rep) _ _ _ l1 l2 #[] _ _ _ _ (unhide HRb) (unhide HR2) (member_joins rep (unhide H5) _))).mono ?_)
  intro e w3 hgave
  obtain ⟨b, l3, rfl, hr⟩ := hgave
  have B3 := hide b
  have HR3 := hide hr
  clear b hr
  go_wp2
  go_ret
  exact ⟨up (up (unhide B1) (unhide B2)) (unhide B3), l3, rfl, unhide HR3⟩
end Go.Proofs.YtgaddifabjoliaaGreatDoor
