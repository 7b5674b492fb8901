import Derived.Test.YtgaddifabjoliaaDoorRTurn
namespace Go.Proofs.YtgaddifabjoliaaDoor
open Go.RowKit

def shape32 : Array Value := #[.int .i64 32, .int .i64 2, .int .i64 13, .int .i64 22, .int .i64 6, .int .i64 11, .int .i64 25, .int .i64 7, .int .i64 18, .int .i64 3, .int .i64 17, .int .i64 19, .int .i64 10, .int .u64 4294967295]
def shape64 : Array Value := #[.int .i64 64, .int .i64 28, .int .i64 34, .int .i64 39, .int .i64 14, .int .i64 18, .int .i64 41, .int .i64 1, .int .i64 8, .int .i64 7, .int .i64 19, .int .i64 61, .int .i64 6, .int .u64 18446744073709551615]

set_option maxHeartbeats 800000 in
theorem rmix32_0 (x : Nat) (w : World) (hx : x < 4294967296) :
    Calls Tryd.prog 25 #[.agg #[.int .i64 32, .int .i64 2, .int .i64 13, .int .i64 22, .int .i64 6, .int .i64 11, .int .i64 25, .int .i64 7, .int .i64 18, .int .i64 3, .int .i64 17, .int .i64 19, .int .i64 10, .int .u64 4294967295], .int .i64 0, .int .u64 x] w fun e w' => e = .returned (.int .u64 (big 32 (2, 13, 22) x : Nat)) ∧ Below w.heap.size w w' := by
  have h1 : rot 32 x 2 < 18446744073709551616 := Nat.lt_of_lt_of_le (rot_lt 32 x 2 hx) (by decide)
  have h2 : rot 32 x 13 < 18446744073709551616 := Nat.lt_of_lt_of_le (rot_lt 32 x 13 hx) (by decide)
  have h3 : rot 32 x 22 < 18446744073709551616 := Nat.lt_of_lt_of_le (rot_lt 32 x 22 hx) (by decide)
  have hx1 := (bits_u64 _ _ h1 h2).2.2
  have hx2 : bits .xor .u64 ((rot 32 x 2 ^^^ rot 32 x 13 : Nat) : Int) ((rot 32 x 22 : Nat) : Int) = ((big 32 (2, 13, 22) x : Nat) : Int) := by
    exact (bits_u64 _ _ (Nat.xor_lt_two_pow (n := 64) h1 h2) h3).2.2
  clear h1 h2 h3
  go_enter Tryd.func25, Tryd.ntmps25
  go_wp2
  go_quiet ((go_at_call 33; exact (rturn32 x 2 _ hx (by decide)).mono fun _ _ h => ⟨h.1, _, h.2⟩))
  go_wp2
  go_quiet ((go_at_call 33; exact (rturn32 x 13 _ hx (by decide)).mono fun _ _ h => ⟨h.1, _, h.2⟩))
  go_wp2
  go_quiet ((go_at_call 33; exact (rturn32 x 22 _ hx (by decide)).mono fun _ _ h => ⟨h.1, _, h.2⟩))
  go_wp2
  go_ret
  exact ⟨rfl, by first | exact below_drewN (below_drewN (below_drewN ((Below.refl _ _).alloc (Nat.le_refl _) _) _) _) _ | exact below_drewN (below_drewN ((Below.refl _ _).alloc (Nat.le_refl _) _) _) _ | exact below_drewN ((Below.refl _ _).alloc (Nat.le_refl _) _) _⟩

set_option maxHeartbeats 800000 in
theorem rmix32_1 (x : Nat) (w : World) (hx : x < 4294967296) :
    Calls Tryd.prog 25 #[.agg #[.int .i64 32, .int .i64 2, .int .i64 13, .int .i64 22, .int .i64 6, .int .i64 11, .int .i64 25, .int .i64 7, .int .i64 18, .int .i64 3, .int .i64 17, .int .i64 19, .int .i64 10, .int .u64 4294967295], .int .i64 1, .int .u64 x] w fun e w' => e = .returned (.int .u64 (big 32 (6, 11, 25) x : Nat)) ∧ Below w.heap.size w w' := by
  have h1 : rot 32 x 6 < 18446744073709551616 := Nat.lt_of_lt_of_le (rot_lt 32 x 6 hx) (by decide)
  have h2 : rot 32 x 11 < 18446744073709551616 := Nat.lt_of_lt_of_le (rot_lt 32 x 11 hx) (by decide)
  have h3 : rot 32 x 25 < 18446744073709551616 := Nat.lt_of_lt_of_le (rot_lt 32 x 25 hx) (by decide)
  have hx1 := (bits_u64 _ _ h1 h2).2.2
  have hx2 : bits .xor .u64 ((rot 32 x 6 ^^^ rot 32 x 11 : Nat) : Int) ((rot 32 x 25 : Nat) : Int) = ((big 32 (6, 11, 25) x : Nat) : Int) := by
    exact (bits_u64 _ _ (Nat.xor_lt_two_pow (n := 64) h1 h2) h3).2.2
  clear h1 h2 h3
  go_enter Tryd.func25, Tryd.ntmps25
  go_wp2
  go_quiet ((go_at_call 33; exact (rturn32 x 6 _ hx (by decide)).mono fun _ _ h => ⟨h.1, _, h.2⟩))
  go_wp2
  go_quiet ((go_at_call 33; exact (rturn32 x 11 _ hx (by decide)).mono fun _ _ h => ⟨h.1, _, h.2⟩))
  go_wp2
  go_quiet ((go_at_call 33; exact (rturn32 x 25 _ hx (by decide)).mono fun _ _ h => ⟨h.1, _, h.2⟩))
  go_wp2
  go_ret
  exact ⟨rfl, by first | exact below_drewN (below_drewN (below_drewN ((Below.refl _ _).alloc (Nat.le_refl _) _) _) _) _ | exact below_drewN (below_drewN ((Below.refl _ _).alloc (Nat.le_refl _) _) _) _ | exact below_drewN ((Below.refl _ _).alloc (Nat.le_refl _) _) _⟩

set_option maxHeartbeats 800000 in
theorem rmix32_2 (x : Nat) (w : World) (hx : x < 4294967296) :
    Calls Tryd.prog 25 #[.agg #[.int .i64 32, .int .i64 2, .int .i64 13, .int .i64 22, .int .i64 6, .int .i64 11, .int .i64 25, .int .i64 7, .int .i64 18, .int .i64 3, .int .i64 17, .int .i64 19, .int .i64 10, .int .u64 4294967295], .int .i64 2, .int .u64 x] w fun e w' => e = .returned (.int .u64 (low 32 (7, 18, 3) x : Nat)) ∧ Below w.heap.size w w' := by
  have h1 : rot 32 x 7 < 18446744073709551616 := Nat.lt_of_lt_of_le (rot_lt 32 x 7 hx) (by decide)
  have h2 : rot 32 x 18 < 18446744073709551616 := Nat.lt_of_lt_of_le (rot_lt 32 x 18 hx) (by decide)
  have h3 : x / 2 ^ 3 < 18446744073709551616 := Nat.lt_of_le_of_lt (Nat.div_le_self _ _) (by omega)
  have hx1 := (bits_u64 _ _ h1 h2).2.2
  have hx2 : bits .xor .u64 ((rot 32 x 7 ^^^ rot 32 x 18 : Nat) : Int) ((x : Int) / 8) = ((low 32 (7, 18, 3) x : Nat) : Int) := by
    have e : ((x : Int) / 8) = ((x / 2 ^ 3 : Nat) : Int) := by simp
    rw [e]
    exact (bits_u64 _ _ (Nat.xor_lt_two_pow (n := 64) h1 h2) h3).2.2
  clear h1 h2 h3
  go_enter Tryd.func25, Tryd.ntmps25
  go_wp2
  go_quiet ((go_at_call 33; exact (rturn32 x 7 _ hx (by decide)).mono fun _ _ h => ⟨h.1, _, h.2⟩))
  go_wp2
  go_quiet ((go_at_call 33; exact (rturn32 x 18 _ hx (by decide)).mono fun _ _ h => ⟨h.1, _, h.2⟩))
  go_wp2
  go_ret
  exact ⟨rfl, by first | exact below_drewN (below_drewN (below_drewN ((Below.refl _ _).alloc (Nat.le_refl _) _) _) _) _ | exact below_drewN (below_drewN ((Below.refl _ _).alloc (Nat.le_refl _) _) _) _ | exact below_drewN ((Below.refl _ _).alloc (Nat.le_refl _) _) _⟩

set_option maxHeartbeats 800000 in
theorem rmix32_3 (x : Nat) (w : World) (hx : x < 4294967296) :
    Calls Tryd.prog 25 #[.agg #[.int .i64 32, .int .i64 2, .int .i64 13, .int .i64 22, .int .i64 6, .int .i64 11, .int .i64 25, .int .i64 7, .int .i64 18, .int .i64 3, .int .i64 17, .int .i64 19, .int .i64 10, .int .u64 4294967295], .int .i64 3, .int .u64 x] w fun e w' => e = .returned (.int .u64 (low 32 (17, 19, 10) x : Nat)) ∧ Below w.heap.size w w' := by
  have h1 : rot 32 x 17 < 18446744073709551616 := Nat.lt_of_lt_of_le (rot_lt 32 x 17 hx) (by decide)
  have h2 : rot 32 x 19 < 18446744073709551616 := Nat.lt_of_lt_of_le (rot_lt 32 x 19 hx) (by decide)
  have h3 : x / 2 ^ 10 < 18446744073709551616 := Nat.lt_of_le_of_lt (Nat.div_le_self _ _) (by omega)
  have hx1 := (bits_u64 _ _ h1 h2).2.2
  have hx2 : bits .xor .u64 ((rot 32 x 17 ^^^ rot 32 x 19 : Nat) : Int) ((x : Int) / 1024) = ((low 32 (17, 19, 10) x : Nat) : Int) := by
    have e : ((x : Int) / 1024) = ((x / 2 ^ 10 : Nat) : Int) := by simp
    rw [e]
    exact (bits_u64 _ _ (Nat.xor_lt_two_pow (n := 64) h1 h2) h3).2.2
  clear h1 h2 h3
  go_enter Tryd.func25, Tryd.ntmps25
  go_wp2
  go_quiet ((go_at_call 33; exact (rturn32 x 17 _ hx (by decide)).mono fun _ _ h => ⟨h.1, _, h.2⟩))
  go_wp2
  go_quiet ((go_at_call 33; exact (rturn32 x 19 _ hx (by decide)).mono fun _ _ h => ⟨h.1, _, h.2⟩))
  go_wp2
  go_ret
  exact ⟨rfl, by first | exact below_drewN (below_drewN (below_drewN ((Below.refl _ _).alloc (Nat.le_refl _) _) _) _) _ | exact below_drewN (below_drewN ((Below.refl _ _).alloc (Nat.le_refl _) _) _) _ | exact below_drewN ((Below.refl _ _).alloc (Nat.le_refl _) _) _⟩

set_option maxHeartbeats 800000 in
theorem rmix64_0 (x : Nat) (w : World) (hx : x < 18446744073709551616) :
    Calls Tryd.prog 25 #[.agg #[.int .i64 64, .int .i64 28, .int .i64 34, .int .i64 39, .int .i64 14, .int .i64 18, .int .i64 41, .int .i64 1, .int .i64 8, .int .i64 7, .int .i64 19, .int .i64 61, .int .i64 6, .int .u64 18446744073709551615], .int .i64 0, .int .u64 x] w fun e w' => e = .returned (.int .u64 (big 64 (28, 34, 39) x : Nat)) ∧ Below w.heap.size w w' := by
  have h1 : rot 64 x 28 < 18446744073709551616 := rot_lt 64 x 28 hx
  have h2 : rot 64 x 34 < 18446744073709551616 := rot_lt 64 x 34 hx
  have h3 : rot 64 x 39 < 18446744073709551616 := rot_lt 64 x 39 hx
  have hx1 := (bits_u64 _ _ h1 h2).2.2
  have hx2 : bits .xor .u64 ((rot 64 x 28 ^^^ rot 64 x 34 : Nat) : Int) ((rot 64 x 39 : Nat) : Int) = ((big 64 (28, 34, 39) x : Nat) : Int) := by
    exact (bits_u64 _ _ (Nat.xor_lt_two_pow (n := 64) h1 h2) h3).2.2
  clear h1 h2 h3
  go_enter Tryd.func25, Tryd.ntmps25
  go_wp2
  go_quiet ((go_at_call 33; exact (rturn64 x 28 _ hx (by decide)).mono fun _ _ h => ⟨h.1, _, h.2⟩))
  go_wp2
  go_quiet ((go_at_call 33; exact (rturn64 x 34 _ hx (by decide)).mono fun _ _ h => ⟨h.1, _, h.2⟩))
  go_wp2
  go_quiet ((go_at_call 33; exact (rturn64 x 39 _ hx (by decide)).mono fun _ _ h => ⟨h.1, _, h.2⟩))
  go_wp2
  go_ret
  exact ⟨rfl, by first | exact below_drewN (below_drewN (below_drewN ((Below.refl _ _).alloc (Nat.le_refl _) _) _) _) _ | exact below_drewN (below_drewN ((Below.refl _ _).alloc (Nat.le_refl _) _) _) _ | exact below_drewN ((Below.refl _ _).alloc (Nat.le_refl _) _) _⟩

set_option maxHeartbeats 800000 in
theorem rmix64_1 (x : Nat) (w : World) (hx : x < 18446744073709551616) :
    Calls Tryd.prog 25 #[.agg #[.int .i64 64, .int .i64 28, .int .i64 34, .int .i64 39, .int .i64 14, .int .i64 18, .int .i64 41, .int .i64 1, .int .i64 8, .int .i64 7, .int .i64 19, .int .i64 61, .int .i64 6, .int .u64 18446744073709551615], .int .i64 1, .int .u64 x] w fun e w' => e = .returned (.int .u64 (big 64 (14, 18, 41) x : Nat)) ∧ Below w.heap.size w w' := by
  have h1 : rot 64 x 14 < 18446744073709551616 := rot_lt 64 x 14 hx
  have h2 : rot 64 x 18 < 18446744073709551616 := rot_lt 64 x 18 hx
  have h3 : rot 64 x 41 < 18446744073709551616 := rot_lt 64 x 41 hx
  have hx1 := (bits_u64 _ _ h1 h2).2.2
  have hx2 : bits .xor .u64 ((rot 64 x 14 ^^^ rot 64 x 18 : Nat) : Int) ((rot 64 x 41 : Nat) : Int) = ((big 64 (14, 18, 41) x : Nat) : Int) := by
    exact (bits_u64 _ _ (Nat.xor_lt_two_pow (n := 64) h1 h2) h3).2.2
  clear h1 h2 h3
  go_enter Tryd.func25, Tryd.ntmps25
  go_wp2
  go_quiet ((go_at_call 33; exact (rturn64 x 14 _ hx (by decide)).mono fun _ _ h => ⟨h.1, _, h.2⟩))
  go_wp2
  go_quiet ((go_at_call 33; exact (rturn64 x 18 _ hx (by decide)).mono fun _ _ h => ⟨h.1, _, h.2⟩))
  go_wp2
  go_quiet ((go_at_call 33; exact (rturn64 x 41 _ hx (by decide)).mono fun _ _ h => ⟨h.1, _, h.2⟩))
  go_wp2
  go_ret
  exact ⟨rfl, by first | exact below_drewN (below_drewN (below_drewN ((Below.refl _ _).alloc (Nat.le_refl _) _) _) _) _ | exact below_drewN (below_drewN ((Below.refl _ _).alloc (Nat.le_refl _) _) _) _ | exact below_drewN ((Below.refl _ _).alloc (Nat.le_refl _) _) _⟩

set_option maxHeartbeats 800000 in
theorem rmix64_2 (x : Nat) (w : World) (hx : x < 18446744073709551616) :
    Calls Tryd.prog 25 #[.agg #[.int .i64 64, .int .i64 28, .int .i64 34, .int .i64 39, .int .i64 14, .int .i64 18, .int .i64 41, .int .i64 1, .int .i64 8, .int .i64 7, .int .i64 19, .int .i64 61, .int .i64 6, .int .u64 18446744073709551615], .int .i64 2, .int .u64 x] w fun e w' => e = .returned (.int .u64 (low 64 (1, 8, 7) x : Nat)) ∧ Below w.heap.size w w' := by
  have h1 : rot 64 x 1 < 18446744073709551616 := rot_lt 64 x 1 hx
  have h2 : rot 64 x 8 < 18446744073709551616 := rot_lt 64 x 8 hx
  have h3 : x / 2 ^ 7 < 18446744073709551616 := Nat.lt_of_le_of_lt (Nat.div_le_self _ _) (by omega)
  have hx1 := (bits_u64 _ _ h1 h2).2.2
  have hx2 : bits .xor .u64 ((rot 64 x 1 ^^^ rot 64 x 8 : Nat) : Int) ((x : Int) / 128) = ((low 64 (1, 8, 7) x : Nat) : Int) := by
    have e : ((x : Int) / 128) = ((x / 2 ^ 7 : Nat) : Int) := by simp
    rw [e]
    exact (bits_u64 _ _ (Nat.xor_lt_two_pow (n := 64) h1 h2) h3).2.2
  clear h1 h2 h3
  go_enter Tryd.func25, Tryd.ntmps25
  go_wp2
  go_quiet ((go_at_call 33; exact (rturn64 x 1 _ hx (by decide)).mono fun _ _ h => ⟨h.1, _, h.2⟩))
  go_wp2
  go_quiet ((go_at_call 33; exact (rturn64 x 8 _ hx (by decide)).mono fun _ _ h => ⟨h.1, _, h.2⟩))
  go_wp2
  go_ret
  exact ⟨rfl, by first | exact below_drewN (below_drewN (below_drewN ((Below.refl _ _).alloc (Nat.le_refl _) _) _) _) _ | exact below_drewN (below_drewN ((Below.refl _ _).alloc (Nat.le_refl _) _) _) _ | exact below_drewN ((Below.refl _ _).alloc (Nat.le_refl _) _) _⟩

set_option maxHeartbeats 800000 in
theorem rmix64_3 (x : Nat) (w : World) (hx : x < 18446744073709551616) :
    Calls Tryd.prog 25 #[.agg #[.int .i64 64, .int .i64 28, .int .i64 34, .int .i64 39, .int .i64 14, .int .i64 18, .int .i64 41, .int .i64 1, .int .i64 8, .int .i64 7, .int .i64 19, .int .i64 61, .int .i64 6, .int .u64 18446744073709551615], .int .i64 3, .int .u64 x] w fun e w' => e = .returned (.int .u64 (low 64 (19, 61, 6) x : Nat)) ∧ Below w.heap.size w w' := by
  have h1 : rot 64 x 19 < 18446744073709551616 := rot_lt 64 x 19 hx
  have h2 : rot 64 x 61 < 18446744073709551616 := rot_lt 64 x 61 hx
  have h3 : x / 2 ^ 6 < 18446744073709551616 := Nat.lt_of_le_of_lt (Nat.div_le_self _ _) (by omega)
  have hx1 := (bits_u64 _ _ h1 h2).2.2
  have hx2 : bits .xor .u64 ((rot 64 x 19 ^^^ rot 64 x 61 : Nat) : Int) ((x : Int) / 64) = ((low 64 (19, 61, 6) x : Nat) : Int) := by
    have e : ((x : Int) / 64) = ((x / 2 ^ 6 : Nat) : Int) := by simp
    rw [e]
    exact (bits_u64 _ _ (Nat.xor_lt_two_pow (n := 64) h1 h2) h3).2.2
  clear h1 h2 h3
  go_enter Tryd.func25, Tryd.ntmps25
  go_wp2
  go_quiet ((go_at_call 33; exact (rturn64 x 19 _ hx (by decide)).mono fun _ _ h => ⟨h.1, _, h.2⟩))
  go_wp2
  go_quiet ((go_at_call 33; exact (rturn64 x 61 _ hx (by decide)).mono fun _ _ h => ⟨h.1, _, h.2⟩))
  go_wp2
  go_ret
  exact ⟨rfl, by first | exact below_drewN (below_drewN (below_drewN ((Below.refl _ _).alloc (Nat.le_refl _) _) _) _) _ | exact below_drewN (below_drewN ((Below.refl _ _).alloc (Nat.le_refl _) _) _) _ | exact below_drewN ((Below.refl _ _).alloc (Nat.le_refl _) _) _⟩

end Go.Proofs.YtgaddifabjoliaaDoor
