import Derived.Test.YtgaddifabjoliaaDoorHex
namespace Go.Proofs.YtgaddifabjoliaaDoor

set_option maxRecDepth 100000
theorem known_256 : hexF (sumF m256 [97, 98, 99]) = [98, 97, 55, 56, 49, 54, 98, 102, 56, 102, 48, 49, 99, 102, 101, 97, 52, 49, 52, 49, 52, 48, 100, 101, 53, 100, 97, 101, 50, 50, 50, 51, 98, 48, 48, 51, 54, 49, 97, 51, 57, 54, 49, 55, 55, 97, 57, 99, 98, 52, 49, 48, 102, 102, 54, 49, 102, 50, 48, 48, 49, 53, 97, 100] := by decide +kernel
theorem known_512 : hexF (sumF m512 [97, 98, 99]) = [100, 100, 97, 102, 51, 53, 97, 49, 57, 51, 54, 49, 55, 97, 98, 97, 99, 99, 52, 49, 55, 51, 52, 57, 97, 101, 50, 48, 52, 49, 51, 49, 49, 50, 101, 54, 102, 97, 52, 101, 56, 57, 97, 57, 55, 101, 97, 50, 48, 97, 57, 101, 101, 101, 101, 54, 52, 98, 53, 53, 100, 51, 57, 97, 50, 49, 57, 50, 57, 57, 50, 97, 50, 55, 52, 102, 99, 49, 97, 56, 51, 54, 98, 97, 51, 99, 50, 51, 97, 51, 102, 101, 101, 98, 98, 100, 52, 53, 52, 100, 52, 52, 50, 51, 54, 52, 51, 99, 101, 56, 48, 101, 50, 97, 57, 97, 99, 57, 52, 102, 97, 53, 52, 99, 97, 52, 57, 102] := by decide +kernel
theorem known_mac : hexF (macF [107, 101, 121] [84, 104, 101, 32, 113, 117, 105, 99, 107, 32, 98, 114, 111, 119, 110, 32, 102, 111, 120, 32, 106, 117, 109, 112, 115, 32, 111, 118, 101, 114, 32, 116, 104, 101, 32, 108, 97, 122, 121, 32, 100, 111, 103]) = [102, 55, 98, 99, 56, 51, 102, 52, 51, 48, 53, 51, 56, 52, 50, 52, 98, 49, 51, 50, 57, 56, 101, 54, 97, 97, 54, 102, 98, 49, 52, 51, 101, 102, 52, 100, 53, 57, 97, 49, 52, 57, 52, 54, 49, 55, 53, 57, 57, 55, 52, 55, 57, 100, 98, 99, 50, 100, 49, 97, 51, 99, 100, 56] := by decide +kernel

theorem sumF_len (l : List UInt8) : (sumF m256 l).length = 32 := by
  unfold sumF
  simp only [St.out, List.length_append]
  simp only [show ∀ x n, (be x n).length = n from fun x n => by induction n with
    | zero => rfl
    | succ n ih => simp [be, ih]]
  rfl
theorem mac_long (k s : List UInt8) (h : 64 < k.length) : macF (sumF m256 k) s = macF k s := by
  unfold macF
  rw [if_pos h, if_neg (by rw [sumF_len]; decide)]
theorem mac_short (k s : List UInt8) (h : k.length < 64) : macF (k ++ [0]) s = macF k s := by
  have e : ∀ on, laidF (k ++ [0]) on = laidF k on := by
    intro on
    unfold laidF
    have e1 : 64 - k.length = (64 - (k ++ [0]).length) + 1 := by simp; omega
    rw [e1, List.replicate_succ, List.append_assoc]
    rfl
  unfold macF
  rw [if_neg (by simp; omega), if_neg (by omega)]
  simp only [e]
end Go.Proofs.YtgaddifabjoliaaDoor
