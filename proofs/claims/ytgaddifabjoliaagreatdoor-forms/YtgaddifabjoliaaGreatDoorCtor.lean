import Derived.Test.YtgaddifabjoliaaGreatDoorObj
import Derived.Test.YtgaddifabjoliaaGreatDoorChangeds
import Derived.Test.YtgaddifabjoliaaGreatDoorAfters
import Derived.Test.YtgaddifabjoliaaGreatDoorSChangeds
import Derived.Test.YtgaddifabjoliaaGreatDoorSBoths
import Derived.Test.YtgaddifabjoliaaGreatDoorSPadded
import Derived.Test.YtgaddifabjoliaaGreatDoorBoths
import Derived.Test.YtgaddifabjoliaaGreatDoorWords
import Derived.Test.YtgaddifabjoliaaGreatDoorSOnes
import Derived.Test.YtgaddifabjoliaaGreatDoorOnes
import Derived.Test.YtgaddifabjoliaaGreatDoorPaddeds
namespace Go.Proofs.YtgaddifabjoliaaGreatDoor
open Go.RowKit

theorem Reads.to {α : Type} {g : Nat} {lb : Array Value} {rep rep' : Rep α} {z : Value} {R : Bytes → Option (α × Bytes)} {w : World} (h : Reads g lb rep z R w) (hr : ∀ s x r F w v, R s = some (x, r) → rep.rel F w x v → rep'.rel F w x v) : Reads g lb rep' z R w := by
  refine ⟨h.1, h.2.1, fun W s hW hs => (h.2.2 W s hW hs).mono ?_⟩
  rintro e w' ⟨hb, ⟨hn, he⟩ | ⟨x, r, v, hn, hv, he⟩⟩
  · exact ⟨hb, Or.inl ⟨hn, he⟩⟩
  · exact ⟨hb, Or.inr ⟨x, r, v, hn, hr _ _ _ _ _ _ hn hv, he⟩⟩

/-- A call that gives a reader. -/
def Gave {α : Type} (g : Nat) (rep : Rep α) (z : Value) (R : Bytes → Option (α × Bytes)) (w : World) (e : Ending) (w' : World) : Prop := Below w.heap.size w w' ∧ ∃ lb, e = .returned (.func (.func g) #[] lb) ∧ Reads g lb rep z R w'
theorem gave {α : Type} {g : Nat} {rep : Rep α} {z : Value} {R : Bytes → Option (α × Bytes)} {w : World} {f : Nat} {args : Array Value} (h : Calls Tryz.prog f args w fun e w' => Below w.heap.size w w' ∧ ∃ lb, e = .returned (.func (.func g) #[] lb) ∧ Reads g lb rep z R w') : Calls Tryz.prog f args w (Gave g rep z R w) := h

theorem gave2 {α : Type} {g : Nat} {rep : Rep α} {z : Value} {R : Bytes → Option (α × Bytes)} {w w2 : World} {f : Nat} {args : Array Value} (h : Calls Tryz.prog f args w2 fun e w' => Below w.heap.size w w' ∧ ∃ lb, e = .returned (.func (.func g) #[] lb) ∧ Reads g lb rep z R w') : Calls Tryz.prog f args w2 (Gave g rep z R w) := h

abbrev Choice (α : Type) := Nat × Array Value × (Bytes → Option (α × Bytes))
def cell1 {α : Type} (c : Choice α) : Value := .func (.func c.1) #[] c.2.1
theorem choices_alloc {α : Type} {w : World} {T : TypeId} {rep : Rep α} {z : Value} {cs : List (Choice α)} (h : ∀ c ∈ cs, Reads c.1 c.2.1 rep z c.2.2 w) (W : World) (hW : Below (w.alloc (.cells (cs.map cell1).toArray T)).heap.size (w.alloc (.cells (cs.map cell1).toArray T)) W) : Choices W w.heap.size 0 rep z cs := by
  intro i c hc
  have hi : i < cs.length := (List.getElem?_eq_some_iff.1 hc).1
  refine ⟨?_, (h c (List.mem_of_getElem? hc)).later (up ((Below.refl _ w).alloc (Nat.le_refl _) _) hW)⟩
  have h1 : (w.alloc (.cells (cs.map cell1).toArray T)).cell? ⟨w.heap.size, 0 + i, none⟩ = some (cell1 c) := by
    rw [Nat.zero_add, World.cell?_alloc_at _ _ _ _ rfl]
    simp [hc]
  exact (hW.cell (p := ⟨w.heap.size, 0 + i, none⟩) (by simp)).trans h1

theorem takeWhile_all : ∀ (l : Bytes) (c : UInt8), c ∈ l.takeWhile isDig → isDig c = true
  | [], c, h => by simp at h
  | a :: l, c, h => by
    simp only [List.takeWhile_cons] at h
    split at h
    · rcases List.mem_cons.1 h with rfl | h
      · assumption
      · exact takeWhile_all l c h
    · cases h
theorem digits_bound {s : Bytes} {x : Int} {r : Bytes} (h : digitsR s = some (x, r)) : 0 ≤ x ∧ x < 9007199254740992 := by
  unfold digitsR at h
  split at h
  · simp at h
  · split at h
    · simp at h
    · rename_i n hn
      split at h
      · simp at h
      · simp at h
        obtain ⟨rfl, _⟩ := h
        refine ⟨?_, by omega⟩
        unfold intOk at hn
        split at hn
        · rename_i v hv
          cases hn
          have hd : ∀ c ∈ s.take (digN s), isDig c = true := by
            have e : s.take (digN s) = s.takeWhile isDig := by
              unfold digN
              exact (List.prefix_iff_eq_take.1 (List.takeWhile_prefix isDig)).symm
            rw [e]
            intro c hc
            exact takeWhile_all s c hc
          generalize s.take (digN s) = l at hv hd
          match l, hv, hd with
          | c :: q, hv, hd =>
            have hc := hd c (by simp)
            simp [isDig] at hc
            have h45 : ¬ c.toNat = 45 := by omega
            unfold Lib.parseIntB at hv
            simp only [h45, not_false_eq_true, true_and, false_and, if_false] at hv
            split at hv
            · cases hv
            · cases hv
            · split at hv
              · cases hv
              · injection hv with hv
                omega
        · cases hn

theorem digits_dig (w : World) (hE : Errs w) : Reads 62 #[] repDig (.int .i64 0) digitsR w :=
  (digits_reads w hE).to fun _ _ _ _ _ _ h hv => ⟨hv, digits_bound h⟩
theorem digits_num (w : World) (hE : Errs w) : Reads 62 #[] repNum (.int .i64 0) digitsR w :=
  (digits_reads w hE).to fun _ _ _ _ _ _ h hv => ⟨hv, by have := digits_bound h; omega, (digits_bound h).2⟩

def negR (n : Int) : Option Int := if n = 0 then none else some (-n)
def numberR : Bytes → Option (Int × Bytes) := oneOfR [digitsR, changedR (afterR [45] digitsR) negR]

theorem number_one (w : World) (l : Array Value) (hE : Errs w) (h : Reads 115 l repNum (.int .i64 0) (changedR (afterR [45] digitsR) negR) w) :
    Calls Tryz.prog 61 #[.slice (some ⟨w.heap.size, 0, none⟩) 2 2] (w.alloc (.cells #[.func (.func 62) #[] #[], .func (.func 115) #[] l] 61))
      fun e w' => Below w.heap.size w w' ∧ ∃ lb, e = .returned (.func (.func 112) #[] lb) ∧ Reads 112 lb repNum (.int .i64 0) numberR w' := by
  have hc := choices_alloc (w := w) (T := 61) (rep := repNum) (z := .int .i64 0) (cs := [(62, #[], digitsR), (115, l, changedR (afterR [45] digitsR) negR)]) (by
    intro c hc
    simp at hc
    rcases hc with rfl | rfl
    · exact digits_num w hE
    · exact h)
  refine (oneOf_int64 repNum w.heap.size 0 2 _ _ (by simp) hc).mono ?_
  rintro e w' ⟨hb, lb, he, hr⟩
  exact ⟨up ((Below.refl _ w).alloc (Nat.le_refl _) _) hb, lb, he, hr⟩

set_option maxHeartbeats 1000000 in
theorem number_gives (w : World) (hE : Errs w) : Calls Tryz.prog 21 #[] w fun e w' => Below w.heap.size w w' ∧ ∃ lb, e = .returned (.func (.func 112) #[] lb) ∧ Reads 112 lb repNum (.int .i64 0) numberR w' := by
  have hmf := mf
  have HE := hide hE
  clear hE
  go_enter Tryz.func21, Tryz.ntmps21
  go_wp2_with (first
    | (go_at_call 64; refine (after_int64 repDig ⟨#[45]⟩ _ #[] digitsR _ (digits_dig _ (unhide HE))).mono ?_; rintro e w1 ⟨b1, l1, rfl, hr1⟩; have B1 := hide b1; have HR1 := hide hr1; clear b1 hr1)
    | (go_at_call 63; refine (changed_int64_int64 repDig repNum _ _ l1 #[] _ _ _ (unhide HR1) (negative_makes _)).mono ?_; rintro e w2 ⟨b2, l2, rfl, hr2⟩; have B2 := hide (up (unhide B1) b2); have HR2 := hide hr2; clear b2 hr2)
    | (go_at_call 61; refine (number_one w2 l2 (errs_later (unhide HE) (unhide B2)) (unhide HR2)).mono ?_; rintro e w3 ⟨b3, l3, rfl, hr3⟩; have B3 := hide (up (unhide B2) b3); have HR3 := hide hr3; clear b3 hr3))
  go_ret
  exact ⟨unhide B3, l3, rfl, unhide HR3⟩
end Go.Proofs.YtgaddifabjoliaaGreatDoor
