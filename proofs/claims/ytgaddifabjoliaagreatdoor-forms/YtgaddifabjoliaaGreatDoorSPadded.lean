import Derived.Test.YtgaddifabjoliaaGreatDoorSAfters
import Derived.Deep.DeepCutAuto
namespace Go.Proofs.YtgaddifabjoliaaGreatDoor
open Go.RowKit

theorem WasGot.five {α : Type} {rep : Rep α} (h5 : Fives rep) {y : Option (α × Bytes)} {B : Nat} {w' : World} {v : Value} {r : ByteArray} {ok : Bool} (h : WasGot rep (.agg #[.int .i64 0, .int .i64 0, .string ⟨#[]⟩, .slice none 0 0, .slice none 0 0]) y B w' v r ok) :
    ∃ k1 k2 k3 k4 k5 k6 k7 k8 k9, v = .agg #[.int .i64 k1, .int .i64 k2, .string k3, .slice k4 k5 k6, .slice k7 k8 k9] := by
  rcases h with ⟨_, rfl, _⟩ | ⟨x, q, _, hr, _⟩
  · exact ⟨_, _, _, _, _, _, _, _, _, rfl⟩
  · exact h5 _ _ _ _ hr

theorem WasGot.later {α : Type} {rep : Rep α} {z : Value} {y : Option (α × Bytes)} {B B' : Nat} {w w' : World} {v : Value} {r : ByteArray} {ok : Bool} (h : WasGot rep z y B w v r ok) (hB : B' ≤ B) (ha : Above B w w') : WasGot rep z y B' w' v r ok := by
  rcases h with h | ⟨x, q, h1, h2, h3, h4⟩
  · exact Or.inl h
  · exact Or.inr ⟨x, q, h1, rep.antiB (rep.stays h2 ha) hB, h3, h4⟩

/-- What stands behind the first statement: a box that is not the result's, and what was read in it. -/
def PadRel {α : Type} (rep : Rep α) (y : Option (α × Bytes)) (W1 : World) (B : Nat) (wx : World) (a b c d e : Value) (B5 : Nat) (rr : ByteArray) (okb : Bool) : Prop :=
  B ≤ B5 ∧ B5 < wx.heap.size ∧ wx.cell? ⟨B5, 0, none⟩ = some a ∧ wx.cell? ⟨B5, 1, none⟩ = some b ∧ wx.cell? ⟨B5, 2, none⟩ = some c ∧ wx.cell? ⟨B5, 3, none⟩ = some d ∧ wx.cell? ⟨B5, 4, none⟩ = some e ∧
    Below W1.heap.size W1 wx ∧ WasGot rep (.agg #[.int .i64 0, .int .i64 0, .string ⟨#[]⟩, .slice none 0 0, .slice none 0 0]) y B wx (.agg #[a, b, c, d, e]) rr okb

theorem set5_cells {w : World} {B : Nat} {a b c d e a' b' c' d' e' : Value} (h : w.cell? ⟨B, 0, none⟩ = some a' ∧ w.cell? ⟨B, 1, none⟩ = some b' ∧ w.cell? ⟨B, 2, none⟩ = some c' ∧ w.cell? ⟨B, 3, none⟩ = some d' ∧ w.cell? ⟨B, 4, none⟩ = some e') :
    let w5 := (((((w.setCell ⟨B, 0, none⟩ a).setCell ⟨B, 1, none⟩ b).setCell ⟨B, 2, none⟩ c).setCell ⟨B, 3, none⟩ d).setCell ⟨B, 4, none⟩ e)
    w5.cell? ⟨B, 0, none⟩ = some a ∧ w5.cell? ⟨B, 1, none⟩ = some b ∧ w5.cell? ⟨B, 2, none⟩ = some c ∧ w5.cell? ⟨B, 3, none⟩ = some d ∧ w5.cell? ⟨B, 4, none⟩ = some e := by
  obtain ⟨h0, h1, h2, h3, h4⟩ := h
  refine ⟨?_, ?_, ?_, ?_, ?_⟩ <;> simp [go_sem, h0, h1, h2, h3, h4]

theorem padA {α : Type} {rep : Rep α} {y : Option (α × Bytes)} {W1 w0 w1 : World} {a b c d e : Value} {T : TypeId} {rr : ByteArray} {okb : Bool} (b0 : Below W1.heap.size W1 w0) (b1 : Below w0.heap.size w0 w1)
    (h : WasGot rep (.agg #[.int .i64 0, .int .i64 0, .string ⟨#[]⟩, .slice none 0 0, .slice none 0 0]) y w0.heap.size w1 (.agg #[a, b, c, d, e]) rr okb) :
    PadRel rep y W1 W1.heap.size (w1.alloc (.cells #[a, b, c, d, e] T)) a b c d e w1.heap.size rr okb := by
  have h1 := (up b0 b1).size
  refine ⟨h1, by simp, by simp, by simp, by simp, by simp, by simp, grow (up b0 b1) _, h.later b0.size ((AboveF.refl _ _).alloc _)⟩

theorem padB {α : Type} {rep : Rep α} {y : Option (α × Bytes)} {W1 w0 w1 : World} {a b c d e a' b' c' d' e' : Value} {T : TypeId} {rr : ByteArray} {okb : Bool} (b0 : Below W1.heap.size W1 w0) (b1 : Below (w0.alloc (.cells #[a', b', c', d', e'] T)).heap.size (w0.alloc (.cells #[a', b', c', d', e'] T)) w1)
    (h : WasGot rep (.agg #[.int .i64 0, .int .i64 0, .string ⟨#[]⟩, .slice none 0 0, .slice none 0 0]) y (w0.alloc (.cells #[a', b', c', d', e'] T)).heap.size w1 (.agg #[a, b, c, d, e]) rr okb) :
    PadRel rep y W1 W1.heap.size (((((w1.setCell ⟨w0.heap.size, 0, none⟩ a).setCell ⟨w0.heap.size, 1, none⟩ b).setCell ⟨w0.heap.size, 2, none⟩ c).setCell ⟨w0.heap.size, 3, none⟩ d).setCell ⟨w0.heap.size, 4, none⟩ e) a b c d e w0.heap.size rr okb := by
  obtain ⟨q, _, ql⟩ := box5 b1
  obtain ⟨h0, h1, h2, h3, h4⟩ := set5_cells (a := a) (b := b) (c := c) (d := d) (e := e) q
  have hb0 := b0.size
  refine ⟨hb0, by simp; exact ql, h0, h1, h2, h3, h4, below5 (up b0 (up ((Below.refl _ w0).alloc (Nat.le_refl _) _) b1)) hb0, h.later (by simp; omega) (above5 (by simp))⟩

theorem padC {α : Type} {rep : Rep α} {y : Option (α × Bytes)} {W1 w0 w1 : World} {a b c d e a' b' c' d' e' : Value} {T : TypeId} {rr : ByteArray} {okb : Bool} (b0 : Below (W1.alloc (.cells #[a', b', c', d', e'] T)).heap.size (W1.alloc (.cells #[a', b', c', d', e'] T)) w0) (b1 : Below w0.heap.size w0 w1)
    (h : WasGot rep (.agg #[.int .i64 0, .int .i64 0, .string ⟨#[]⟩, .slice none 0 0, .slice none 0 0]) y w0.heap.size w1 (.agg #[a, b, c, d, e]) rr okb) :
    PadRel rep y W1 W1.heap.size (((((w1.setCell ⟨W1.heap.size, 0, none⟩ a).setCell ⟨W1.heap.size, 1, none⟩ b).setCell ⟨W1.heap.size, 2, none⟩ c).setCell ⟨W1.heap.size, 3, none⟩ d).setCell ⟨W1.heap.size, 4, none⟩ e) a b c d e W1.heap.size rr okb := by
  obtain ⟨q, _, ql⟩ := box5 (up b0 b1)
  obtain ⟨h0, h1, h2, h3, h4⟩ := set5_cells (a := a) (b := b) (c := c) (d := d) (e := e) q
  have hb0 := b0.size
  simp at hb0
  refine ⟨Nat.le_refl _, by simp; exact ql, h0, h1, h2, h3, h4, below5 (up ((Below.refl _ W1).alloc (Nat.le_refl _) _) (up b0 b1)) (Nat.le_refl _), h.later (by omega) (above5 (by omega))⟩

theorem keepS {X w : World} (h : Below X.heap.size X w) (p : Nat) : (∀ o, (X.cell? ⟨p, o, none⟩).isSome = true → w.cell? ⟨p, o, none⟩ = X.cell? ⟨p, o, none⟩) ∧ (∀ o, (X.cell? ⟨p, o, none⟩).isSome = true → w.frozen? ⟨p, o, none⟩ = X.frozen? ⟨p, o, none⟩) := by
  have hlt : ∀ o, (X.cell? ⟨p, o, none⟩).isSome = true → p < X.heap.size := by
    intro o ho
    obtain ⟨v, hv⟩ := Option.isSome_iff_exists.1 ho
    exact World.block_lt_of_cell? X _ hv
  exact ⟨fun o ho => h.cell (p := ⟨p, o, none⟩) (hlt o ho), fun o ho => h.frozen (p := ⟨p, o, none⟩) (hlt o ho)⟩
theorem size_one (w : World) (o : Obj) : (w.alloc o).heap.size = w.heap.size + 1 := by simp

set_option maxHeartbeats 2000000 in
theorem padded_value_reads {α : Type} (rep : Rep α) (h5 : Fives rep) (g : Nat) (lb : Array Value) (R : Bytes → Option (α × Bytes)) (c : Nat) (w : World) (hc : w.cell? ⟨c, 0, none⟩ = some (.func (.func g) #[] lb)) (hR : Reads g lb rep (.agg #[.int .i64 0, .int .i64 0, .string ⟨#[]⟩, .slice none 0 0, .slice none 0 0]) R w) :
    Reads 67 #[.pointer (some ⟨c, 0, none⟩)] rep (.agg #[.int .i64 0, .int .i64 0, .string ⟨#[]⟩, .slice none 0 0, .slice none 0 0]) (paddedR R) w := by
  refine ⟨enters_of Tryz.func67 (by kernel_rfl) rfl, shrinks_padded hR.2.1, ?_⟩
  intro W s hW hs
  obtain ⟨t, ht⟩ : ∃ t : ByteArray, t.data.toList = skipB s.data.toList := ⟨⟨(skipB s.data.toList).toArray⟩, rfl⟩
  have hts : t.size ≤ 4000 := by
    rw [text_size ht]
    have h1 := skipB_length s.data.toList
    have h2 := text_size (rfl : s.data.toList = s.data.toList)
    omega
  have HT := hide ht
  have HR := hide hR
  have HW := hide hW
  have H5 := hide h5
  have hlc := World.block_lt_of_cell? w _ hc
  have hsz := hW.size
  have hcW : c < W.heap.size := by simp at hlc; omega
  have hWc : ∀ w1, Below W.heap.size W w1 → w1.cell? ⟨c, 0, none⟩ = some (.func (.func g) #[] lb) := fun w1 h1 => ((up hW h1).cell (p := ⟨c, 0, none⟩) (World.block_lt_of_cell? w _ hc)).trans hc
  have hc0 := hWc W (Below.refl _ _)
  have HWC := hide hWc
  have eg : ∀ args w, (callFunc g args).run Tryz.prog w = .ok (.enter g args) w := hR.1
  clear hc hW hR ht hWc h5 hlc hsz
  have hcW1 : c < W.heap.size + 1 := by omega
  have hcW2 : c < W.heap.size + 1 + 1 := by omega
  have bA : Below W.heap.size W (W.alloc (.cells #[.int .i64 0, .int .i64 0, .string ⟨#[]⟩, .slice none 0 0, .slice none 0 0] 30)) := (Below.refl _ _).alloc (Nat.le_refl _) _
  go_enter Tryz.func67, Tryz.ntmps67
  go_upto_region 1 with fail
  go_cut [6, 7, 8] (fun p r ok wx => ∃ k1 k2 k3 k4 k5 k6 k7 k8 k9 B5 rr okb, p = .pointer (some ⟨B5, 0, none⟩) ∧ r = .string rr ∧ ok = .bool okb ∧ Hid (PadRel rep (R t.data.toList) (W.alloc (.cells #[.int .i64 0, .int .i64 0, .string ⟨#[]⟩, .slice none 0 0, .slice none 0 0] 30)) (W.heap.size + 1) wx (.int .i64 k1) (.int .i64 k2) (.string k3) (.slice k4 k5 k6) (.slice k7 k8 k9) B5 rr okb))
  case first =>
    go_region_with (first | (go_at_call 68; refine (skipBlanks_to s t _ (unhide HT)).mono ?_; rintro e w0 ⟨rfl, b0'⟩; have b0 : Below (W.alloc (.cells #[.int .i64 0, .int .i64 0, .string ⟨#[]⟩, .slice none 0 0, .slice none 0 0] 30)).heap.size (W.alloc (.cells #[.int .i64 0, .int .i64 0, .string ⟨#[]⟩, .slice none 0 0, .slice none 0 0] 30)) w0 := (by first | exact up drewB b0' | exact up ((Below.refl _ (W.alloc (.cells #[.int .i64 0, .int .i64 0, .string ⟨#[]⟩, .slice none 0 0, .slice none 0 0] 30))).alloc (Nat.le_refl _) _).drew b0'); have hc1 := unhide HWC w0 (up bA b0); have HB0 := hide (up (unhide HW) (up bA b0)); have hcw0 : c < w0.heap.size := Nat.lt_of_lt_of_le hcW (up bA b0).size; have h0c := (keepS b0' (W.heap.size + 1)).1; have h0f := (keepS b0' (W.heap.size + 1)).2; have hw0 := b0'.size; simp at hw0; have hlt0 := Nat.lt_of_succ_le hw0) | (go_at_fn g; refine ((unhide HR).2.2 _ t (by first | exact unhide HB0 | exact grow (unhide HB0) _) hts).mono ?_; intro e w1 hgot; obtain ⟨v, r, ok, he, b1, hwas⟩ := hgot.one; subst he; clear hgot; obtain ⟨k1, k2, k3, k4, k5, k6, k7, k8, k9, hv⟩ := hwas.five (unhide H5); subst hv; have HWAS := hide hwas; clear hwas; have h1c := (keepS b1 (W.heap.size + 1)).1; have h1f := (keepS b1 (W.heap.size + 1)).2; have h2c := (keepS b1 w0.heap.size).1; have h2f := (keepS b1 w0.heap.size).2; have hw1 := b1.size; (try simp at hw1)))
    all_goals
      go_wp2_with fail
      go_meet
      case rel =>
        first
        | (refine ⟨k1, k2, k3, k4, k5, k6, k7, k8, k9, w1.heap.size, r, ok, rfl, rfl, rfl, ?_⟩; have hpc := padA (T := 30) b0 b1 (unhide HWAS); simp only [size_one] at hpc; exact hpc)
        | (refine ⟨k1, k2, k3, k4, k5, k6, k7, k8, k9, w0.heap.size, r, ok, rfl, rfl, rfl, ?_⟩; have hpc := padB b0 b1 (unhide HWAS); simp only [size_one] at hpc; exact hpc)
        | (refine ⟨k1, k2, k3, k4, k5, k6, k7, k8, k9, W.heap.size + 1, r, ok, rfl, rfl, rfl, ?_⟩; have hpc := padC (W1 := W.alloc (.cells #[.int .i64 0, .int .i64 0, .string ⟨#[]⟩, .slice none 0 0, .slice none 0 0] 30)) (up drewB b0') b1 (unhide HWAS); simp only [size_one] at hpc; exact hpc)
  case rest =>
    obtain ⟨k1, k2, k3, k4, k5, k6, k7, k8, k9, B5, rr, okb, rfl, rfl, rfl, HP⟩ := hcut
    obtain ⟨hB5, hB5', g0, g1, g2, g3, g4, bx, hwas⟩ := unhide HP
    have bxW := up bA bx
    clear HP
    rcases hwas with ⟨hn, hv, rfl, rfl⟩ | ⟨x, q, hn, hrep, rfl, rfl⟩
    · have HN := hide hn
      clear hn hv
      go_wp2_with (go_at_call 57; refine (fail_value _).mono ?_)
      rintro e w2 ⟨rfl, b2⟩
      obtain ⟨⟨q0, q1, q2, q3, q4⟩, qf, ql⟩ := box5 (up bx b2)
      go_wp2
      refine bodyPost_ret (v := .tuple #[.agg #[.int .i64 0, .int .i64 0, .string ⟨#[]⟩, .slice none 0 0, .slice none 0 0], .string ⟨#[]⟩, .bool false]) (by simp [results, Tryz.results67, go_sem, q0, q1, q2, q3, q4]) rfl ?_
      refine ⟨below5 (up bxW b2) (Nat.le_refl _), Or.inl ⟨?_, rfl⟩⟩
      unfold paddedR
      rw [← unhide HT, unhide HN]
    · have HN := hide hn
      have HREP := hide hrep
      clear hn hrep
      obtain ⟨p, hp⟩ : ∃ p : ByteArray, p.data.toList = skipB q := ⟨⟨(skipB q).toArray⟩, rfl⟩
      have HPP := hide hp
      clear hp
      go_wp2
      go_region_with (go_at_call 68; refine (skipBlanks_to ⟨q.toArray⟩ p _ (unhide HPP)).mono ?_; rintro e w2 ⟨rfl, b2'⟩; have b2 := up drewB b2'; have h2c := (keepS b2 B5).1; have h2f := (keepS b2 B5).2; obtain ⟨⟨q0, q1, q2, q3, q4⟩, qf, ql⟩ := box5 (up bx b2))
      all_goals
        go_wp2
        refine bodyPost_ret (v := .tuple #[.agg #[.int .i64 k1, .int .i64 k2, .string k3, .slice k4 k5 k6, .slice k7 k8 k9], .string p, .bool true]) (by simp [results, Tryz.results67, go_sem, q0, q1, q2, q3, q4]) rfl ?_
        refine ⟨below5 (up bxW b2) (Nat.le_refl _), Or.inr ⟨x, p.data.toList, _, ?_, ?_, rfl⟩⟩
        · unfold paddedR
          rw [← unhide HT, unhide HN]
          simp only [unhide HPP]
        · exact rep.antiB (rep.stays (rep.stays (unhide HREP) (above_of_below b2)) (above5 (by omega))) (by omega)

set_option maxHeartbeats 400000 in
theorem padded_value {α : Type} (rep : Rep α) (h5 : Fives rep) (g : Nat) (lb : Array Value) (R : Bytes → Option (α × Bytes)) (w : World) (hR : Reads g lb rep (.agg #[.int .i64 0, .int .i64 0, .string ⟨#[]⟩, .slice none 0 0, .slice none 0 0]) R w) :
    Calls Tryz.prog 25 #[.func (.func g) #[] lb] w fun e w' => Below w.heap.size w w' ∧ ∃ l, e = .returned (.func (.func 67) #[] l) ∧ Reads 67 l rep (.agg #[.int .i64 0, .int .i64 0, .string ⟨#[]⟩, .slice none 0 0, .slice none 0 0]) (paddedR R) w' := by
  have hmf := mf
  have HR := hide hR
  have H5 := hide h5
  clear hR h5
  go_enter Tryz.func25, Tryz.ntmps25
  go_wp2
  go_ret
  have hbel := (Below.refl _ w).alloc (Nat.le_refl _) (.cells #[.func (.func g) #[] lb] 42)
  exact ⟨hbel, _, rfl, padded_value_reads rep (unhide H5) g lb R _ _ (by simp) ((unhide HR).later hbel)⟩
end Go.Proofs.YtgaddifabjoliaaGreatDoor
