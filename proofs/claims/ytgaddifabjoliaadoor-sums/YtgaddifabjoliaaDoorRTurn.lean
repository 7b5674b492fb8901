import Derived.Test.YtgaddifabjoliaaDoorSched
import Derived.Test.YtgaddifabjoliaaDoorRefM
import Derived.Deep.Light
namespace Go.Proofs.YtgaddifabjoliaaDoor
open Go.RowKit

theorem rrot_32 (x n : Nat) (hx : x < 4294967296) (_hn : n ≤ 32) : bits .or .u64 ((x : Int) / 2 ^ n) (IntKind.u64.wrap ((x : Int) * 2 ^ (32 - n)) % 4294967296) = ((rot 32 x n : Nat) : Int) := by
  have h1 : ((x : Int) / 2 ^ n) = ((x / 2 ^ n : Nat) : Int) := by simp
  have h2 : (IntKind.u64.wrap ((x : Int) * 2 ^ (32 - n)) % 4294967296) = ((x * 2 ^ (32 - n) % 4294967296 : Nat) : Int) := by
    rw [wrap_u64]
    have e : ((x : Int) * 2 ^ (32 - n)) = ((x * 2 ^ (32 - n) : Nat) : Int) := by simp
    rw [e]
    omega
  rw [h1, h2, (bits_u64 _ _ (Nat.lt_of_le_of_lt (Nat.div_le_self _ _) (by omega)) (Nat.lt_trans (Nat.mod_lt _ (by decide)) (by decide))).1]
  rfl

set_option maxHeartbeats 400000 in
theorem rturn32 (x n : Nat) (w : World) (hx : x < 4294967296) (hn : n ≤ 32) :
    Calls Tryd.prog 33 #[.int .u64 x, .int .i64 n, .int .i64 32] w fun e w' => e = .returned (.int .u64 (rot 32 x n : Nat)) ∧ w' = w := by
  have hr := rrot_32 x n hx hn
  go_enter Tryd.func33, Tryd.ntmps33
  go_wp2
  go_ret
  refine ⟨ret_int ?_, rfl⟩
  exact hr

set_option maxHeartbeats 400000 in
theorem rturn64 (x n : Nat) (w : World) (hx : x < 18446744073709551616) (hn : n ≤ 64) :
    Calls Tryd.prog 33 #[.int .u64 x, .int .i64 n, .int .i64 64] w fun e w' => e = .returned (.int .u64 (rot 64 x n : Nat)) ∧ w' = w := by
  have hr := rot_64 x n hx
  go_enter Tryd.func33, Tryd.ntmps33
  go_wp2
  go_ret
  refine ⟨ret_int ?_, rfl⟩
  exact rfl

theorem pr_true (n : Nat) (h : ∀ k, 2 ≤ k → k < n → n % k ≠ 0) : pr n = true := by
  unfold pr
  rw [List.all_eq_true]
  intro k hk
  rw [List.mem_range] at hk
  by_cases h2 : k < 2
  · simp [h2]
  · have := h k (by omega) hk
    simp [this]
theorem pr_false (n k : Nat) (h2 : 2 ≤ k) (hk : k < n) (h : n % k = 0) : pr n = false := by
  unfold pr
  rw [List.all_eq_false]
  exact ⟨k, List.mem_range.2 hk, by simp [h]; omega⟩

set_option maxHeartbeats 400000 in
theorem rprime (n : Nat) (w : World) (hn : 2 ≤ n) (hn2 : n < 1000) :
    Calls Tryd.prog 18 #[.int .i64 n] w fun e w' => e = .returned (.bool (pr n)) ∧ w' = w := by
  go_enter Tryd.func18, Tryd.ntmps18
  go_wp2
  go_loopw [3] (fun i wr => ∃ k : Nat, 2 ≤ k ∧ k ≤ n ∧ i = .int .i64 (k : Int) ∧ wr = w ∧ Hid (∀ j, 2 ≤ j → j < k → n % j ≠ 0)) (fun i _ => n - (intOf i).toNat)
  case atStart => exact ⟨2, by omega, by omega, rfl, rfl, fun j h1 h2 => by omega⟩
  case round =>
    obtain ⟨k, hk2, hkn, rfl, rfl, hj⟩ := hrel
    by_cases hlt : k < n
    · by_cases hz : n % k = 0
      · have hz' : ((n : Int) % (k : Int)) = 0 := by omega
        have hp := pr_false n k hk2 hlt hz
        go_wp2
        go_ret
        exact ⟨by rw [hp]; rfl, rfl⟩
      · have hz' : ¬ ((n : Int) % (k : Int)) = 0 := by omega
        go_wp2
        go_roundw
        case rel =>
          refine ⟨k + 1, by omega, by omega, by go_num, trivial, ?_⟩
          intro j h1 h2
          by_cases hjk : j = k
          · rw [hjk]; exact hz
          · exact unhide hj j h1 (by omega)
        case measure => (go_light; simp [intOf] <;> omega)
    · have hke : k = n := by omega
      subst hke
      have hp := pr_true k (unhide hj)
      go_wp2
      go_ret
      exact ⟨by rw [hp]; rfl, rfl⟩
end Go.Proofs.YtgaddifabjoliaaDoor
