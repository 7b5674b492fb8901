import Derived.Test.YtgaddifabjoliaaGreatDoorKitB
namespace Go.Proofs.YtgaddifabjoliaaGreatDoor
open Go.RowKit

set_option maxHeartbeats 400000 in
theorem fail_value (w : World) : Calls Tryz.prog 57 #[] w fun e w' => e = .returned (.tuple #[.agg #[.int .i64 0, .int .i64 0, .string ⟨#[]⟩, .slice none 0 0, .slice none 0 0], .string ⟨#[]⟩, .bool false]) ∧ Below w.heap.size w w' := by
  go_enter Tryz.func57, Tryz.ntmps57
  go_wp2
  refine bodyPost_ret (v := .tuple #[.agg #[.int .i64 0, .int .i64 0, .string ⟨#[]⟩, .slice none 0 0, .slice none 0 0], .string ⟨#[]⟩, .bool false]) (by simp [results, Tryz.results57, go_sem]) rfl ⟨rfl, ?_⟩
  exact ((Below.refl _ _).alloc (Nat.le_refl _) _).alloc (by simp) _

/-- A new box of five cells, and what a store of a struct leaves in it. -/
theorem box5 {w w1 : World} {a b c d e : Value} {T : TypeId} (hb : Below (w.alloc (.cells #[a, b, c, d, e] T)).heap.size (w.alloc (.cells #[a, b, c, d, e] T)) w1) :
    (w1.cell? ⟨w.heap.size, 0, none⟩ = some a ∧ w1.cell? ⟨w.heap.size, 1, none⟩ = some b ∧ w1.cell? ⟨w.heap.size, 2, none⟩ = some c ∧ w1.cell? ⟨w.heap.size, 3, none⟩ = some d ∧ w1.cell? ⟨w.heap.size, 4, none⟩ = some e) ∧ (∀ o, w1.frozen? ⟨w.heap.size, o, none⟩ = false) ∧ w.heap.size < w1.heap.size := by
  have hs := hb.size
  have hc : ∀ o, w1.cell? ⟨w.heap.size, o, none⟩ = (w.alloc (.cells #[a, b, c, d, e] T)).cell? ⟨w.heap.size, o, none⟩ := fun o => hb.cell (p := ⟨w.heap.size, o, none⟩) (by simp)
  refine ⟨⟨?_, ?_, ?_, ?_, ?_⟩, ?_, ?_⟩
  · rw [hc]; simp
  · rw [hc]; simp
  · rw [hc]; simp
  · rw [hc]; simp
  · rw [hc]; simp
  · intro o
    rw [hb.frozen (p := ⟨w.heap.size, o, none⟩) (by simp)]
    exact World.frozen?_alloc_at _ _ _ _ rfl
  · simp at hs; omega

theorem below5 {W w : World} {B : Nat} {a b c d e : Value} (h : Below W.heap.size W w) (hB : W.heap.size ≤ B) :
    Below W.heap.size W (((((w.setCell ⟨B, 0, none⟩ a).setCell ⟨B, 1, none⟩ b).setCell ⟨B, 2, none⟩ c).setCell ⟨B, 3, none⟩ d).setCell ⟨B, 4, none⟩ e) :=
  ((((h.setCell (p := ⟨B, 0, none⟩) hB a).setCell (p := ⟨B, 1, none⟩) hB b).setCell (p := ⟨B, 2, none⟩) hB c).setCell (p := ⟨B, 3, none⟩) hB d).setCell (p := ⟨B, 4, none⟩) hB e

theorem above5 {w : World} {B C : Nat} {a b c d e : Value} (hB' : B < C) :
    Above C w (((((w.setCell ⟨B, 0, none⟩ a).setCell ⟨B, 1, none⟩ b).setCell ⟨B, 2, none⟩ c).setCell ⟨B, 3, none⟩ d).setCell ⟨B, 4, none⟩ e) :=
  have hB : ¬ From C B := fun h => Nat.lt_irrefl _ (Nat.lt_of_lt_of_le hB' h)
  (((((Above.refl C w).setCell (p := ⟨B, 0, none⟩) hB a).setCell (p := ⟨B, 1, none⟩) hB b).setCell (p := ⟨B, 2, none⟩) hB c).setCell (p := ⟨B, 3, none⟩) hB d).setCell (p := ⟨B, 4, none⟩) hB e

/-- What stands as a struct of five cells. -/
def Fives {α : Type} (rep : Rep α) : Prop := ∀ B w x v, rep.rel B w x v → ∃ k n t a l p a' l' p', v = .agg #[.int .i64 k, .int .i64 n, .string t, .slice a l p, .slice a' l' p']

set_option maxHeartbeats 400000 in
theorem word_value_reads {α : Type} (rep : Rep α) (text : ByteArray) (x : α) (k : Int) (b c : Nat) (w : World) (hm : ∀ F W, rep.rel F W x (.agg #[.int .i64 k, .int .i64 0, .string ⟨#[]⟩, .slice none 0 0, .slice none 0 0])) (hb : w.cell? ⟨b, 0, none⟩ = some (.string text))
    (hc0 : w.cell? ⟨c, 0, none⟩ = some (.int .i64 k)) (hc1 : w.cell? ⟨c, 1, none⟩ = some (.int .i64 0)) (hc2 : w.cell? ⟨c, 2, none⟩ = some (.string ⟨#[]⟩)) (hc3 : w.cell? ⟨c, 3, none⟩ = some (.slice none 0 0)) (hc4 : w.cell? ⟨c, 4, none⟩ = some (.slice none 0 0)) :
    Reads 58 #[.pointer (some ⟨b, 0, none⟩), .pointer (some ⟨c, 0, none⟩)] rep (.agg #[.int .i64 0, .int .i64 0, .string ⟨#[]⟩, .slice none 0 0, .slice none 0 0]) (wordR text.data.toList x) w := by
  refine ⟨enters_of Tryz.func58 (by kernel_rfl) rfl, shrinks_word _ _, ?_⟩
  intro W s hW hs
  have hlc := World.block_lt_of_cell? w _ hc0
  have hlb := World.block_lt_of_cell? w _ hb
  have hsz := hW.size
  have hm' := hm (From W.heap.size)
  have hb' := (hW.cell (p := ⟨b, 0, none⟩) hlb).trans hb
  have hd0 := (hW.cell (p := ⟨c, 0, none⟩) hlc).trans hc0
  have hd1 := (hW.cell (p := ⟨c, 1, none⟩) hlc).trans hc1
  have hd2 := (hW.cell (p := ⟨c, 2, none⟩) hlc).trans hc2
  have hd3 := (hW.cell (p := ⟨c, 3, none⟩) hlc).trans hc3
  have hd4 := (hW.cell (p := ⟨c, 4, none⟩) hlc).trans hc4
  have HM := hide hm'
  have hbW : b < W.heap.size := by simp at hlb; omega
  have hcW : c < W.heap.size := by simp at hlc; omega
  clear hb hc0 hc1 hc2 hc3 hc4 hW hm hm' hlc hlb hsz
  cases hp : text.data.toList.isPrefixOf s.data.toList with
  | true =>
    obtain ⟨r, hr⟩ : ∃ r : ByteArray, r.data.toList = s.data.toList.drop text.data.toList.length := ⟨⟨(s.data.toList.drop text.data.toList.length).toArray⟩, rfl⟩
    have HP := hide hp
    have HR := hide hr
    clear hp hr
    go_enter Tryz.func58, Tryz.ntmps58
    go_wp2_with (go_at_call 59; refine (cutPrefix_hit s text r _ (unhide HP) (unhide HR)).mono ?_)
    rintro e w1 ⟨rfl, rfl⟩
    go_wp2
    refine bodyPost_ret (v := .tuple #[.agg #[.int .i64 k, .int .i64 0, .string ⟨#[]⟩, .slice none 0 0, .slice none 0 0], .string r, .bool true]) (by simp [results, Tryz.results58, go_sem]) rfl ?_
    refine ⟨(Below.refl _ _).alloc (Nat.le_refl _) _, Or.inr ⟨x, r.data.toList, _, ?_, unhide HM _, rfl⟩⟩
    unfold wordR
    rw [if_pos (unhide HP), unhide HR]
  | false =>
    have HP := hide hp
    clear hp
    go_enter Tryz.func58, Tryz.ntmps58
    go_wp2_with (go_at_call 59; refine (cutPrefix_miss s text _ (unhide HP)).mono ?_)
    rintro e w1 ⟨rfl, rfl⟩
    go_wp2_with (go_at_call 57; refine (fail_value _).mono ?_)
    rintro e w2 ⟨rfl, b2⟩
    obtain ⟨⟨q0, q1, q2, q3, q4⟩, qf, ql⟩ := box5 b2
    go_wp2
    refine bodyPost_ret (v := .tuple #[.agg #[.int .i64 0, .int .i64 0, .string ⟨#[]⟩, .slice none 0 0, .slice none 0 0], .string ⟨#[]⟩, .bool false]) (by simp [results, Tryz.results58, go_sem, q0, q1, q2, q3, q4]) rfl ?_
    refine ⟨below5 (up ((Below.refl _ _).alloc (Nat.le_refl _) _) b2) (Nat.le_refl _), Or.inl ⟨?_, rfl⟩⟩
    unfold wordR
    rw [if_neg (by simp [unhide HP])]

set_option maxHeartbeats 400000 in
theorem word_value {α : Type} (rep : Rep α) (text : ByteArray) (x : α) (k : Int) (w : World) (hm : ∀ F W, rep.rel F W x (.agg #[.int .i64 k, .int .i64 0, .string ⟨#[]⟩, .slice none 0 0, .slice none 0 0])) :
    Calls Tryz.prog 19 #[.string text, .agg #[.int .i64 k, .int .i64 0, .string ⟨#[]⟩, .slice none 0 0, .slice none 0 0]] w fun e w' => Below w.heap.size w w' ∧ ∃ lb, e = .returned (.func (.func 58) #[] lb) ∧ Reads 58 lb rep (.agg #[.int .i64 0, .int .i64 0, .string ⟨#[]⟩, .slice none 0 0, .slice none 0 0]) (wordR text.data.toList x) w' := by
  have hmf := mf
  have HM := hide hm
  clear hm
  go_enter Tryz.func19, Tryz.ntmps19
  go_wp2
  go_ret
  refine ⟨((Below.refl _ _).alloc (Nat.le_refl _) _).alloc (by simp) _, _, rfl, ?_⟩
  refine word_value_reads rep text x k _ _ _ (unhide HM) ?_ ?_ ?_ ?_ ?_ ?_ <;> simp

end Go.Proofs.YtgaddifabjoliaaGreatDoor
