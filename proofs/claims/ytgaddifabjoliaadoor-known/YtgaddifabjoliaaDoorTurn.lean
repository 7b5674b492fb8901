import Derived.Test.YtgaddifabjoliaaDoorProg
import Derived.Test.YtgaddifabjoliaaDoorSha
import Derived.WalkKit
import Derived.WalkSpells
import Derived.WalkLawsBesides
import Derived.Laws.BitsLemmas
import Derived.Deep.QuietTactic
import Derived.BigQuiet
namespace Go.Proofs.YtgaddifabjoliaaDoor
open Go.RowKit

theorem bits_u32 (a b : Nat) (ha : a < 4294967296) (hb : b < 4294967296) :
    bits .or .u32 (a : Int) (b : Int) = ((a ||| b : Nat) : Int) ∧ bits .and .u32 (a : Int) (b : Int) = ((a &&& b : Nat) : Int) ∧ bits .xor .u32 (a : Int) (b : Int) = ((a ^^^ b : Nat) : Int) := by
  have ha' : a % 2 ^ IntKind.u32.bits = a := Nat.mod_eq_of_lt ha
  have hb' : b % 2 ^ IntKind.u32.bits = b := Nat.mod_eq_of_lt hb
  have hw : ∀ n : Nat, n < 2 ^ 32 → IntKind.u32.wrap (n : Int) = (n : Int) := fun n h => by rw [IntKind.wrap_u32]; omega
  refine ⟨?_, ?_, ?_⟩
  · simp only [bits, BitVec.ofInt_natCast, BitVec.toNat_or, BitVec.toNat_ofNat, ha', hb']
    exact hw _ (Nat.or_lt_two_pow ha hb)
  · simp only [bits, BitVec.ofInt_natCast, BitVec.toNat_and, BitVec.toNat_ofNat, ha', hb']
    exact hw _ (Nat.and_lt_two_pow _ hb)
  · simp only [bits, BitVec.ofInt_natCast, BitVec.toNat_xor, BitVec.toNat_ofNat, ha', hb']
    exact hw _ (Nat.xor_lt_two_pow ha hb)

theorem wrap_u64 (n : Int) : IntKind.u64.wrap n = n % 18446744073709551616 := by simp [IntKind.wrap, IntKind.bits, IntKind.signed]

theorem bits_u64 (a b : Nat) (ha : a < 18446744073709551616) (hb : b < 18446744073709551616) :
    bits .or .u64 (a : Int) (b : Int) = ((a ||| b : Nat) : Int) ∧ bits .and .u64 (a : Int) (b : Int) = ((a &&& b : Nat) : Int) ∧ bits .xor .u64 (a : Int) (b : Int) = ((a ^^^ b : Nat) : Int) := by
  have ha' : a % 2 ^ IntKind.u64.bits = a := Nat.mod_eq_of_lt ha
  have hb' : b % 2 ^ IntKind.u64.bits = b := Nat.mod_eq_of_lt hb
  have hw : ∀ n : Nat, n < 2 ^ 64 → IntKind.u64.wrap (n : Int) = (n : Int) := fun n h => by rw [wrap_u64]; omega
  refine ⟨?_, ?_, ?_⟩
  · simp only [bits, BitVec.ofInt_natCast, BitVec.toNat_or, BitVec.toNat_ofNat, ha', hb']
    exact hw _ (Nat.or_lt_two_pow ha hb)
  · simp only [bits, BitVec.ofInt_natCast, BitVec.toNat_and, BitVec.toNat_ofNat, ha', hb']
    exact hw _ (Nat.and_lt_two_pow _ hb)
  · simp only [bits, BitVec.ofInt_natCast, BitVec.toNat_xor, BitVec.toNat_ofNat, ha', hb']
    exact hw _ (Nat.xor_lt_two_pow ha hb)

theorem ret_int {k : IntKind} {a b : Int} (h : a = b) : Ending.returned (.int k a) = .returned (.int k b) := by rw [h]

theorem rot_lt (W x n : Nat) (hx : x < 2 ^ W) : rot W x n < 2 ^ W := by
  unfold rot
  exact Nat.or_lt_two_pow (Nat.lt_of_le_of_lt (Nat.div_le_self _ _) hx) (Nat.mod_lt _ (Nat.two_pow_pos _))


theorem rot_32 (x n : Nat) (hx : x < 4294967296) : bits .or .u32 ((x : Int) / 2 ^ n) ((x : Int) * 2 ^ (32 - n) % 4294967296) = ((rot 32 x n : Nat) : Int) := by
  have h1 : ((x : Int) / 2 ^ n) = ((x / 2 ^ n : Nat) : Int) := by simp
  have h2 : ((x : Int) * 2 ^ (32 - n) % 4294967296) = ((x * 2 ^ (32 - n) % 4294967296 : Nat) : Int) := by simp
  rw [h1, h2, (bits_u32 _ _ (Nat.lt_of_le_of_lt (Nat.div_le_self _ _) hx) (Nat.mod_lt _ (by decide))).1]
  rfl
theorem rot_64 (x n : Nat) (hx : x < 18446744073709551616) : bits .or .u64 ((x : Int) / 2 ^ n) (IntKind.u64.wrap ((x : Int) * 2 ^ (64 - n))) = ((rot 64 x n : Nat) : Int) := by
  have h1 : ((x : Int) / 2 ^ n) = ((x / 2 ^ n : Nat) : Int) := by simp
  have h2 : (IntKind.u64.wrap ((x : Int) * 2 ^ (64 - n))) = ((x * 2 ^ (64 - n) % 18446744073709551616 : Nat) : Int) := by rw [wrap_u64]; simp
  rw [h1, h2, (bits_u64 _ _ (Nat.lt_of_le_of_lt (Nat.div_le_self _ _) hx) (Nat.mod_lt _ (by decide))).1]
  rfl
theorem low_lt (W x : Nat) (t : Nat × Nat × Nat) (hx : x < 2 ^ W) : low W t x < 2 ^ W :=
  Nat.xor_lt_two_pow (Nat.xor_lt_two_pow (rot_lt W x _ hx) (rot_lt W x _ hx)) (Nat.lt_of_le_of_lt (Nat.div_le_self _ _) hx)
theorem big_lt (W x : Nat) (t : Nat × Nat × Nat) (hx : x < 2 ^ W) : big W t x < 2 ^ W :=
  Nat.xor_lt_two_pow (Nat.xor_lt_two_pow (rot_lt W x _ hx) (rot_lt W x _ hx)) (rot_lt W x _ hx)

set_option maxHeartbeats 400000 in
theorem turn32 (x n : Nat) (w : World) (hx : x < 4294967296) (hn : n ≤ 32) :
    Calls Tryd.prog 40 #[.int .u32 x, .int .i64 n, .int .i64 32] w fun e w' => e = .returned (.int .u32 (rot 32 x n : Nat)) ∧ ∃ k, w' = w.drewN k := by
  have hr := rot_32 x n hx
  go_enter Tryd.func40, Tryd.ntmps40
  go_wp2
  go_region
  go_wp2
  go_ret
  exact ⟨rfl, _, rfl⟩

set_option maxHeartbeats 800000 in
theorem big32 (x p q r : Nat) (w : World) (hx : x < 4294967296) (hp : p ≤ 32) (hq : q ≤ 32) (hr : r ≤ 32) :
    Calls Tryd.prog 36 #[.int .u32 x, .agg #[.int .i64 p, .int .i64 q, .int .i64 r], .int .i64 32] w fun e w' => e = .returned (.int .u32 (big 32 (p, q, r) x : Nat)) ∧ Below w.heap.size w w' := by
  have h1 := rot_lt 32 x p hx
  have h2 := rot_lt 32 x q hx
  have h3 := rot_lt 32 x r hx
  have hx1 := (bits_u32 _ _ h1 h2).2.2
  have hx2 := (bits_u32 _ _ (Nat.xor_lt_two_pow h1 h2) h3).2.2
  have hx2' : bits .xor .u32 ((rot 32 x p ^^^ rot 32 x q : Nat) : Int) ((rot 32 x r : Nat) : Int) = ((big 32 (p, q, r) x : Nat) : Int) := hx2
  clear hx2 h1 h2 h3
  go_enter Tryd.func36, Tryd.ntmps36
  go_wp2
  go_quiet ((go_at_call 40; exact Calls.quiet_of (turn32 _ _ _ hx (by assumption))))
  go_wp2
  go_ret
  exact ⟨rfl, below_drewN ((Below.refl _ _).alloc (Nat.le_refl _) _) _⟩

set_option maxHeartbeats 800000 in
theorem low32 (x p q r : Nat) (w : World) (hx : x < 4294967296) (hp : p ≤ 32) (hq : q ≤ 32) (hr : r ≤ 32) :
    Calls Tryd.prog 37 #[.int .u32 x, .agg #[.int .i64 p, .int .i64 q, .int .i64 r], .int .i64 32] w fun e w' => e = .returned (.int .u32 (low 32 (p, q, r) x : Nat)) ∧ Below w.heap.size w w' := by
  have h1 := rot_lt 32 x p hx
  have h2 := rot_lt 32 x q hx
  have hx1 := (bits_u32 _ _ h1 h2).2.2
  have hx2 := (bits_u32 _ (x / 2 ^ r) (Nat.xor_lt_two_pow h1 h2) (Nat.lt_of_le_of_lt (Nat.div_le_self _ _) hx)).2.2
  have hx2' : bits .xor .u32 ((rot 32 x p ^^^ rot 32 x q : Nat) : Int) ((x : Int) / 2 ^ r) = ((low 32 (p, q, r) x : Nat) : Int) := by
    have h3 : ((x : Int) / 2 ^ r) = ((x / 2 ^ r : Nat) : Int) := by simp
    rw [h3]; exact hx2
  clear hx2 h1 h2
  go_enter Tryd.func37, Tryd.ntmps37
  go_wp2
  go_quiet ((go_at_call 40; exact Calls.quiet_of (turn32 _ _ _ hx (by assumption))))
  go_wp2
  go_ret
  exact ⟨rfl, below_drewN ((Below.refl _ _).alloc (Nat.le_refl _) _) _⟩

set_option maxHeartbeats 800000 in
theorem top32 (r : Nat) (w : World) (hr : r < 18446744073709551616) :
    Calls Tryd.prog 20 #[.int .u64 r, .agg #[.int .i64 32, .int .i64 64, .int .i64 2, .int .i64 13, .int .i64 22, .int .i64 6, .int .i64 11, .int .i64 25, .int .i64 7, .int .i64 18, .int .i64 3, .int .i64 17, .int .i64 19, .int .i64 10]] w fun e w' => e = .returned (.int .u32 (top 32 r : Nat)) ∧ Below w.heap.size w w' := by
  have hd : r / 2 ^ (64 - 32) < 4294967296 := by simp; omega
  go_enter Tryd.func20, Tryd.ntmps20
  go_wp2
  go_ret
  refine ⟨ret_int ?_, ((Below.refl _ _).alloc (Nat.le_refl _) _)⟩
  simp [top] <;> omega

set_option maxHeartbeats 800000 in
theorem block32 (w : World) :
    Calls Tryd.prog 21 #[.agg #[.int .i64 32, .int .i64 64, .int .i64 2, .int .i64 13, .int .i64 22, .int .i64 6, .int .i64 11, .int .i64 25, .int .i64 7, .int .i64 18, .int .i64 3, .int .i64 17, .int .i64 19, .int .i64 10]] w fun e w' => e = .returned (.int .i64 64) ∧ Below w.heap.size w w' := by
  go_enter Tryd.func21, Tryd.ntmps21
  go_wp2
  go_ret
  exact ⟨rfl, ((Below.refl _ _).alloc (Nat.le_refl _) _)⟩
set_option maxHeartbeats 400000 in
theorem turn64 (x n : Nat) (w : World) (hx : x < 18446744073709551616) (hn : n ≤ 64) :
    Calls Tryd.prog 41 #[.int .u64 x, .int .i64 n, .int .i64 64] w fun e w' => e = .returned (.int .u64 (rot 64 x n : Nat)) ∧ ∃ k, w' = w.drewN k := by
  have hr := rot_64 x n hx
  go_enter Tryd.func41, Tryd.ntmps41
  go_wp2
  go_region
  go_wp2
  go_ret
  exact ⟨rfl, _, rfl⟩

set_option maxHeartbeats 800000 in
theorem big64 (x p q r : Nat) (w : World) (hx : x < 18446744073709551616) (hp : p ≤ 64) (hq : q ≤ 64) (hr : r ≤ 64) :
    Calls Tryd.prog 38 #[.int .u64 x, .agg #[.int .i64 p, .int .i64 q, .int .i64 r], .int .i64 64] w fun e w' => e = .returned (.int .u64 (big 64 (p, q, r) x : Nat)) ∧ Below w.heap.size w w' := by
  have h1 := rot_lt 64 x p hx
  have h2 := rot_lt 64 x q hx
  have h3 := rot_lt 64 x r hx
  have hx1 := (bits_u64 _ _ h1 h2).2.2
  have hx2 := (bits_u64 _ _ (Nat.xor_lt_two_pow h1 h2) h3).2.2
  have hx2' : bits .xor .u64 ((rot 64 x p ^^^ rot 64 x q : Nat) : Int) ((rot 64 x r : Nat) : Int) = ((big 64 (p, q, r) x : Nat) : Int) := hx2
  clear hx2 h1 h2 h3
  go_enter Tryd.func38, Tryd.ntmps38
  go_wp2
  go_quiet ((go_at_call 41; exact Calls.quiet_of (turn64 _ _ _ hx (by assumption))))
  go_wp2
  go_ret
  exact ⟨rfl, below_drewN ((Below.refl _ _).alloc (Nat.le_refl _) _) _⟩

set_option maxHeartbeats 800000 in
theorem low64 (x p q r : Nat) (w : World) (hx : x < 18446744073709551616) (hp : p ≤ 64) (hq : q ≤ 64) (hr : r ≤ 64) :
    Calls Tryd.prog 39 #[.int .u64 x, .agg #[.int .i64 p, .int .i64 q, .int .i64 r], .int .i64 64] w fun e w' => e = .returned (.int .u64 (low 64 (p, q, r) x : Nat)) ∧ Below w.heap.size w w' := by
  have h1 := rot_lt 64 x p hx
  have h2 := rot_lt 64 x q hx
  have hx1 := (bits_u64 _ _ h1 h2).2.2
  have hx2 := (bits_u64 _ (x / 2 ^ r) (Nat.xor_lt_two_pow h1 h2) (Nat.lt_of_le_of_lt (Nat.div_le_self _ _) hx)).2.2
  have hx2' : bits .xor .u64 ((rot 64 x p ^^^ rot 64 x q : Nat) : Int) ((x : Int) / 2 ^ r) = ((low 64 (p, q, r) x : Nat) : Int) := by
    have h3 : ((x : Int) / 2 ^ r) = ((x / 2 ^ r : Nat) : Int) := by simp
    rw [h3]; exact hx2
  clear hx2 h1 h2
  go_enter Tryd.func39, Tryd.ntmps39
  go_wp2
  go_quiet ((go_at_call 41; exact Calls.quiet_of (turn64 _ _ _ hx (by assumption))))
  go_wp2
  go_ret
  exact ⟨rfl, below_drewN ((Below.refl _ _).alloc (Nat.le_refl _) _) _⟩

set_option maxHeartbeats 800000 in
theorem top64 (r : Nat) (w : World) (hr : r < 18446744073709551616) :
    Calls Tryd.prog 27 #[.int .u64 r, .agg #[.int .i64 64, .int .i64 80, .int .i64 28, .int .i64 34, .int .i64 39, .int .i64 14, .int .i64 18, .int .i64 41, .int .i64 1, .int .i64 8, .int .i64 7, .int .i64 19, .int .i64 61, .int .i64 6]] w fun e w' => e = .returned (.int .u64 (top 64 r : Nat)) ∧ Below w.heap.size w w' := by
  have hd : r / 2 ^ (64 - 64) < 18446744073709551616 := by simp; omega
  go_enter Tryd.func27, Tryd.ntmps27
  go_wp2
  go_ret
  refine ⟨ret_int ?_, ((Below.refl _ _).alloc (Nat.le_refl _) _)⟩
  simp [top] <;> omega

set_option maxHeartbeats 800000 in
theorem block64 (w : World) :
    Calls Tryd.prog 21 #[.agg #[.int .i64 64, .int .i64 80, .int .i64 28, .int .i64 34, .int .i64 39, .int .i64 14, .int .i64 18, .int .i64 41, .int .i64 1, .int .i64 8, .int .i64 7, .int .i64 19, .int .i64 61, .int .i64 6]] w fun e w' => e = .returned (.int .i64 128) ∧ Below w.heap.size w w' := by
  go_enter Tryd.func21, Tryd.ntmps21
  go_wp2
  go_ret
  exact ⟨rfl, ((Below.refl _ _).alloc (Nat.le_refl _) _)⟩
end Go.Proofs.YtgaddifabjoliaaDoor
