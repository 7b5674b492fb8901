import Derived.Test.YtgaddifabjoliaaGreatDoorStruct
namespace Go.Proofs.YtgaddifabjoliaaGreatDoor
open Go.RowKit

/-- Shapes. -/
def FivesU {α : Type} (rep : Rep α) : Prop := ∀ v, rep.shape v → ∃ k n t a l p a' l' p', v = .agg #[.int .i64 k, .int .i64 n, .string t, .slice a l p, .slice a' l' p']
def SixesU {α : Type} (rep : Rep α) : Prop := ∀ v, rep.shape v → ∃ s k n t a l p a' l' p', v = .agg #[.string s, .int .i64 k, .int .i64 n, .string t, .slice a l p, .slice a' l' p']

/-- A new box of six cells. -/
theorem box6 {w w1 : World} {a b c d e f : Value} {T : TypeId} (hb : Below (w.alloc (.cells #[a, b, c, d, e, f] T)).heap.size (w.alloc (.cells #[a, b, c, d, e, f] T)) w1) :
    (w1.cell? ⟨w.heap.size, 0, none⟩ = some a ∧ w1.cell? ⟨w.heap.size, 1, none⟩ = some b ∧ w1.cell? ⟨w.heap.size, 2, none⟩ = some c ∧ w1.cell? ⟨w.heap.size, 3, none⟩ = some d ∧ w1.cell? ⟨w.heap.size, 4, none⟩ = some e ∧ w1.cell? ⟨w.heap.size, 5, none⟩ = some f) ∧ (∀ o, w1.frozen? ⟨w.heap.size, o, none⟩ = false) ∧ w.heap.size < w1.heap.size := by
  have hs := hb.size
  have hc : ∀ o, w1.cell? ⟨w.heap.size, o, none⟩ = (w.alloc (.cells #[a, b, c, d, e, f] T)).cell? ⟨w.heap.size, o, none⟩ := fun o => hb.cell (p := ⟨w.heap.size, o, none⟩) (by simp)
  refine ⟨⟨?_, ?_, ?_, ?_, ?_, ?_⟩, ?_, ?_⟩
  · rw [hc]; simp
  · rw [hc]; simp
  · rw [hc]; simp
  · rw [hc]; simp
  · rw [hc]; simp
  · rw [hc]; simp
  · intro o
    rw [hb.frozen (p := ⟨w.heap.size, o, none⟩) (by simp)]
    exact World.frozen?_alloc_at _ _ _ _ rfl
  · simp at hs; omega

theorem below6 {W w : World} {B : Nat} {a b c d e f : Value} (h : Below W.heap.size W w) (hB : W.heap.size ≤ B) :
    Below W.heap.size W ((((((w.setCell ⟨B, 0, none⟩ a).setCell ⟨B, 1, none⟩ b).setCell ⟨B, 2, none⟩ c).setCell ⟨B, 3, none⟩ d).setCell ⟨B, 4, none⟩ e).setCell ⟨B, 5, none⟩ f) :=
  (below5 h hB).setCell (p := ⟨B, 5, none⟩) hB f

theorem above6 {w : World} {B C : Nat} {a b c d e f : Value} (hB : B < C) :
    Above C w ((((((w.setCell ⟨B, 0, none⟩ a).setCell ⟨B, 1, none⟩ b).setCell ⟨B, 2, none⟩ c).setCell ⟨B, 3, none⟩ d).setCell ⟨B, 4, none⟩ e).setCell ⟨B, 5, none⟩ f) :=
  (above5 hB).setCell (p := ⟨B, 5, none⟩) (fun h => Nat.lt_irrefl _ (Nat.lt_of_lt_of_le hB h)) f

/-- What stands as a struct of six cells. -/
def Sixes {α : Type} (rep : Rep α) : Prop := ∀ B w x v, rep.rel B w x v → ∃ s k n t a l p a' l' p', v = .agg #[.string s, .int .i64 k, .int .i64 n, .string t, .slice a l p, .slice a' l' p']

set_option maxHeartbeats 400000 in
theorem fail_member (w : World) : Calls Tryz.prog 131 #[] w fun e w' => e = .returned (.tuple #[.agg #[.string ⟨#[]⟩, .int .i64 0, .int .i64 0, .string ⟨#[]⟩, .slice none 0 0, .slice none 0 0], .string ⟨#[]⟩, .bool false]) ∧ Below w.heap.size w w' := by
  go_enter Tryz.func131, Tryz.ntmps131
  go_wp2
  refine bodyPost_ret (v := .tuple #[.agg #[.string ⟨#[]⟩, .int .i64 0, .int .i64 0, .string ⟨#[]⟩, .slice none 0 0, .slice none 0 0], .string ⟨#[]⟩, .bool false]) (by simp [results, Tryz.results131, go_sem]) rfl ⟨rfl, ?_⟩
  exact ((Below.refl _ _).alloc (Nat.le_refl _) _).alloc (by simp) _

set_option maxHeartbeats 400000 in
theorem after_value_reads {α : Type} (rep : Rep α) (h5 : Fives rep) (text : ByteArray) (g : Nat) (lb : Array Value) (R : Bytes → Option (α × Bytes)) (b c : Nat) (w : World) (hb : w.cell? ⟨b, 0, none⟩ = some (.string text)) (hc : w.cell? ⟨c, 0, none⟩ = some (.func (.func g) #[] lb)) (hR : Reads g lb rep (.agg #[.int .i64 0, .int .i64 0, .string ⟨#[]⟩, .slice none 0 0, .slice none 0 0]) R w) :
    Reads 122 #[.pointer (some ⟨b, 0, none⟩), .pointer (some ⟨c, 0, none⟩)] rep (.agg #[.int .i64 0, .int .i64 0, .string ⟨#[]⟩, .slice none 0 0, .slice none 0 0]) (afterR text.data.toList R) w := by
  refine ⟨enters_of Tryz.func122 (by kernel_rfl) rfl, shrinks_after _ hR.2.1, ?_⟩
  intro W s hW hs
  have hlb := World.block_lt_of_cell? w _ hb
  have hlc := World.block_lt_of_cell? w _ hc
  have hsz := hW.size
  have hb' := (hW.cell (p := ⟨b, 0, none⟩) hlb).trans hb
  have hc' := (hW.cell (p := ⟨c, 0, none⟩) hlc).trans hc
  have hbW : b < W.heap.size := by simp at hlb; omega
  have hcW : c < W.heap.size := by simp at hlc; omega
  have HR := hide hR
  have HW := hide hW
  have H5 := hide h5
  have eg : ∀ args w, (callFunc g args).run Tryz.prog w = .ok (.enter g args) w := hR.1
  clear hb hc hW hR hlb hlc hsz h5
  cases hp : text.data.toList.isPrefixOf s.data.toList with
  | true =>
    obtain ⟨r, hr⟩ : ∃ r : ByteArray, r.data.toList = s.data.toList.drop text.data.toList.length := ⟨⟨(s.data.toList.drop text.data.toList.length).toArray⟩, rfl⟩
    have hrs : r.size ≤ 4000 := by
      rw [text_size hr, List.length_drop]
      have := text_size (rfl : s.data.toList = s.data.toList)
      omega
    have he : afterR text.data.toList R s.data.toList = R r.data.toList := by unfold afterR; rw [if_pos hp, hr]
    have HE := hide he
    have HP := hide hp
    have HRR := hide hr
    clear hp hr he
    go_enter Tryz.func122, Tryz.ntmps122
    go_wp2_with (go_at_call 59; refine (cutPrefix_hit s text r _ (unhide HP) (unhide HRR)).mono ?_)
    rintro e w1 ⟨rfl, rfl⟩
    go_wp2_with (go_at_fn g; refine ((unhide HR).2.2 _ r (up (unhide HW) ((Below.refl _ _).alloc (Nat.le_refl _) _)) hrs).mono ?_)
    intro e w1 hgot
    obtain ⟨b1, hgot⟩ := hgot
    obtain ⟨⟨q0, q1, q2, q3, q4⟩, qf, ql⟩ := box5 b1
    rcases hgot with ⟨hn, rfl⟩ | ⟨x, q, v, hn, hrep, rfl⟩
    · have HN := hide hn
      clear hn
      go_wp2
      refine bodyPost_ret (v := .tuple #[.agg #[.int .i64 0, .int .i64 0, .string ⟨#[]⟩, .slice none 0 0, .slice none 0 0], .string ⟨#[]⟩, .bool false]) (by simp [results, Tryz.results122, go_sem, q0, q1, q2, q3, q4]) rfl ?_
      exact ⟨below5 (up ((Below.refl _ _).alloc (Nat.le_refl _) _) b1) (Nat.le_refl _), Or.inl ⟨by rw [unhide HE, unhide HN], rfl⟩⟩
    · have HN := hide hn
      obtain ⟨k1, k2, k3, k4, k5, k6, k7, k8, k9, hv⟩ := unhide H5 _ _ _ _ hrep
      subst hv
      have HREP := hide hrep
      clear hn hrep
      go_wp2
      refine bodyPost_ret (v := .tuple #[.agg #[.int .i64 k1, .int .i64 k2, .string k3, .slice k4 k5 k6, .slice k7 k8 k9], .string ⟨q.toArray⟩, .bool true]) (by simp [results, Tryz.results122, go_sem, q0, q1, q2, q3, q4]) rfl ?_
      refine ⟨below5 (up ((Below.refl _ _).alloc (Nat.le_refl _) _) b1) (Nat.le_refl _), Or.inr ⟨x, q, _, by rw [unhide HE, unhide HN], ?_, rfl⟩⟩
      exact rep.antiB (rep.stays (unhide HREP) (above5 (by simp))) (by simp)
  | false =>
    have HP := hide hp
    clear hp
    go_enter Tryz.func122, Tryz.ntmps122
    go_wp2_with (go_at_call 59; refine (cutPrefix_miss s text _ (unhide HP)).mono ?_)
    rintro e w1 ⟨rfl, rfl⟩
    go_wp2_with (go_at_call 57; refine (fail_value _).mono ?_)
    rintro e w2 ⟨rfl, b2⟩
    obtain ⟨⟨q0, q1, q2, q3, q4⟩, qf, ql⟩ := box5 b2
    go_wp2
    refine bodyPost_ret (v := .tuple #[.agg #[.int .i64 0, .int .i64 0, .string ⟨#[]⟩, .slice none 0 0, .slice none 0 0], .string ⟨#[]⟩, .bool false]) (by simp [results, Tryz.results122, go_sem, q0, q1, q2, q3, q4]) rfl ?_
    refine ⟨below5 (up ((Below.refl _ _).alloc (Nat.le_refl _) _) b2) (Nat.le_refl _), Or.inl ⟨?_, rfl⟩⟩
    unfold afterR
    rw [if_neg (by simp [unhide HP])]

set_option maxHeartbeats 400000 in
theorem after_value {α : Type} (rep : Rep α) (h5 : Fives rep) (text : ByteArray) (g : Nat) (lb : Array Value) (R : Bytes → Option (α × Bytes)) (w : World) (hR : Reads g lb rep (.agg #[.int .i64 0, .int .i64 0, .string ⟨#[]⟩, .slice none 0 0, .slice none 0 0]) R w) :
    Calls Tryz.prog 73 #[.string text, .func (.func g) #[] lb] w fun e w' => Below w.heap.size w w' ∧ ∃ l, e = .returned (.func (.func 122) #[] l) ∧ Reads 122 l rep (.agg #[.int .i64 0, .int .i64 0, .string ⟨#[]⟩, .slice none 0 0, .slice none 0 0]) (afterR text.data.toList R) w' := by
  have hmf := mf
  have HR := hide hR
  have H5 := hide h5
  clear hR h5
  go_enter Tryz.func73, Tryz.ntmps73
  go_wp2
  go_ret
  have hbel := ((Below.refl _ w).alloc (Nat.le_refl _) (.cells #[.string text] 9)).alloc (by simp) (.cells #[.func (.func g) #[] lb] 42)
  exact ⟨hbel, _, rfl, after_value_reads rep (unhide H5) text g lb R _ _ _ (by simp) (by simp) ((unhide HR).later hbel)⟩

set_option maxHeartbeats 400000 in
theorem after_member_reads {α : Type} (rep : Rep α) (h5 : Sixes rep) (text : ByteArray) (g : Nat) (lb : Array Value) (R : Bytes → Option (α × Bytes)) (b c : Nat) (w : World) (hb : w.cell? ⟨b, 0, none⟩ = some (.string text)) (hc : w.cell? ⟨c, 0, none⟩ = some (.func (.func g) #[] lb)) (hR : Reads g lb rep (.agg #[.string ⟨#[]⟩, .int .i64 0, .int .i64 0, .string ⟨#[]⟩, .slice none 0 0, .slice none 0 0]) R w) :
    Reads 130 #[.pointer (some ⟨b, 0, none⟩), .pointer (some ⟨c, 0, none⟩)] rep (.agg #[.string ⟨#[]⟩, .int .i64 0, .int .i64 0, .string ⟨#[]⟩, .slice none 0 0, .slice none 0 0]) (afterR text.data.toList R) w := by
  refine ⟨enters_of Tryz.func130 (by kernel_rfl) rfl, shrinks_after _ hR.2.1, ?_⟩
  intro W s hW hs
  have hlb := World.block_lt_of_cell? w _ hb
  have hlc := World.block_lt_of_cell? w _ hc
  have hsz := hW.size
  have hb' := (hW.cell (p := ⟨b, 0, none⟩) hlb).trans hb
  have hc' := (hW.cell (p := ⟨c, 0, none⟩) hlc).trans hc
  have hbW : b < W.heap.size := by simp at hlb; omega
  have hcW : c < W.heap.size := by simp at hlc; omega
  have HR := hide hR
  have HW := hide hW
  have H5 := hide h5
  have eg : ∀ args w, (callFunc g args).run Tryz.prog w = .ok (.enter g args) w := hR.1
  clear hb hc hW hR hlb hlc hsz h5
  cases hp : text.data.toList.isPrefixOf s.data.toList with
  | true =>
    obtain ⟨r, hr⟩ : ∃ r : ByteArray, r.data.toList = s.data.toList.drop text.data.toList.length := ⟨⟨(s.data.toList.drop text.data.toList.length).toArray⟩, rfl⟩
    have hrs : r.size ≤ 4000 := by
      rw [text_size hr, List.length_drop]
      have := text_size (rfl : s.data.toList = s.data.toList)
      omega
    have he : afterR text.data.toList R s.data.toList = R r.data.toList := by unfold afterR; rw [if_pos hp, hr]
    have HE := hide he
    have HP := hide hp
    have HRR := hide hr
    clear hp hr he
    go_enter Tryz.func130, Tryz.ntmps130
    go_wp2_with (go_at_call 59; refine (cutPrefix_hit s text r _ (unhide HP) (unhide HRR)).mono ?_)
    rintro e w1 ⟨rfl, rfl⟩
    go_wp2_with (go_at_fn g; refine ((unhide HR).2.2 _ r (up (unhide HW) ((Below.refl _ _).alloc (Nat.le_refl _) _)) hrs).mono ?_)
    intro e w1 hgot
    obtain ⟨b1, hgot⟩ := hgot
    obtain ⟨⟨q0, q1, q2, q3, q4, q5⟩, qf, ql⟩ := box6 b1
    rcases hgot with ⟨hn, rfl⟩ | ⟨x, q, v, hn, hrep, rfl⟩
    · have HN := hide hn
      clear hn
      go_wp2
      refine bodyPost_ret (v := .tuple #[.agg #[.string ⟨#[]⟩, .int .i64 0, .int .i64 0, .string ⟨#[]⟩, .slice none 0 0, .slice none 0 0], .string ⟨#[]⟩, .bool false]) (by simp [results, Tryz.results130, go_sem, q0, q1, q2, q3, q4, q5]) rfl ?_
      exact ⟨below6 (up ((Below.refl _ _).alloc (Nat.le_refl _) _) b1) (Nat.le_refl _), Or.inl ⟨by rw [unhide HE, unhide HN], rfl⟩⟩
    · have HN := hide hn
      obtain ⟨k0, k1, k2, k3, k4, k5, k6, k7, k8, k9, hv⟩ := unhide H5 _ _ _ _ hrep
      subst hv
      have HREP := hide hrep
      clear hn hrep
      go_wp2
      refine bodyPost_ret (v := .tuple #[.agg #[.string k0, .int .i64 k1, .int .i64 k2, .string k3, .slice k4 k5 k6, .slice k7 k8 k9], .string ⟨q.toArray⟩, .bool true]) (by simp [results, Tryz.results130, go_sem, q0, q1, q2, q3, q4, q5]) rfl ?_
      refine ⟨below6 (up ((Below.refl _ _).alloc (Nat.le_refl _) _) b1) (Nat.le_refl _), Or.inr ⟨x, q, _, by rw [unhide HE, unhide HN], ?_, rfl⟩⟩
      exact rep.antiB (rep.stays (unhide HREP) (above6 (by simp))) (by simp)
  | false =>
    have HP := hide hp
    clear hp
    go_enter Tryz.func130, Tryz.ntmps130
    go_wp2_with (go_at_call 59; refine (cutPrefix_miss s text _ (unhide HP)).mono ?_)
    rintro e w1 ⟨rfl, rfl⟩
    go_wp2_with (go_at_call 131; refine (fail_member _).mono ?_)
    rintro e w2 ⟨rfl, b2⟩
    obtain ⟨⟨q0, q1, q2, q3, q4, q5⟩, qf, ql⟩ := box6 b2
    go_wp2
    refine bodyPost_ret (v := .tuple #[.agg #[.string ⟨#[]⟩, .int .i64 0, .int .i64 0, .string ⟨#[]⟩, .slice none 0 0, .slice none 0 0], .string ⟨#[]⟩, .bool false]) (by simp [results, Tryz.results130, go_sem, q0, q1, q2, q3, q4, q5]) rfl ?_
    refine ⟨below6 (up ((Below.refl _ _).alloc (Nat.le_refl _) _) b2) (Nat.le_refl _), Or.inl ⟨?_, rfl⟩⟩
    unfold afterR
    rw [if_neg (by simp [unhide HP])]

set_option maxHeartbeats 400000 in
theorem after_member {α : Type} (rep : Rep α) (h5 : Sixes rep) (text : ByteArray) (g : Nat) (lb : Array Value) (R : Bytes → Option (α × Bytes)) (w : World) (hR : Reads g lb rep (.agg #[.string ⟨#[]⟩, .int .i64 0, .int .i64 0, .string ⟨#[]⟩, .slice none 0 0, .slice none 0 0]) R w) :
    Calls Tryz.prog 82 #[.string text, .func (.func g) #[] lb] w fun e w' => Below w.heap.size w w' ∧ ∃ l, e = .returned (.func (.func 130) #[] l) ∧ Reads 130 l rep (.agg #[.string ⟨#[]⟩, .int .i64 0, .int .i64 0, .string ⟨#[]⟩, .slice none 0 0, .slice none 0 0]) (afterR text.data.toList R) w' := by
  have hmf := mf
  have HR := hide hR
  have H5 := hide h5
  clear hR h5
  go_enter Tryz.func82, Tryz.ntmps82
  go_wp2
  go_ret
  have hbel := ((Below.refl _ w).alloc (Nat.le_refl _) (.cells #[.string text] 9)).alloc (by simp) (.cells #[.func (.func g) #[] lb] 79)
  exact ⟨hbel, _, rfl, after_member_reads rep (unhide H5) text g lb R _ _ _ (by simp) (by simp) ((unhide HR).later hbel)⟩

end Go.Proofs.YtgaddifabjoliaaGreatDoor
