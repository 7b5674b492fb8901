import Derived.Test.YtgaddifabjoliaaDoorRBlock
import Derived.Test.YtgaddifabjoliaaDoorSum
namespace Go.Proofs.YtgaddifabjoliaaDoor
open Go.RowKit

/-- What stands behind the zeros. -/
def tailF (M : Meas) (len : Nat) : List UInt8 := (if M.W = 64 then be (len / 2 ^ 61) 8 else []) ++ be (len * 8 % 2 ^ 64) 8
theorem pad_eq (M : Meas) (l : List UInt8) : padF M l = (l ++ 128 :: List.replicate (zeros M (l.length % (2 * M.W))) 0) ++ tailF M l.length := by
  unfold padF tailF
  simp only [List.append_assoc]

theorem tail_len_32 (len : Nat) : (tailF m256 len).length = 8 := by simp [tailF, m256, be_len]
theorem tail_len_64 (len : Nat) : (tailF m512 len).length = 16 := by simp [tailF, m512, be_len]

theorem ofNat_mod (x : Nat) : UInt8.ofNat (x % 256) = UInt8.ofNat x := by
  apply UInt8.toNat_inj.1
  simp

theorem tail_low_32 (len i : Nat) (hlen : len < 2 ^ 50) (hi : i < 8) : (tailF m256 len).take (7 - i + 1) = (tailF m256 len).take (7 - i) ++ [UInt8.ofNat (8 * len / 2 ^ (8 * i) % 256)] := by
  have e : tailF m256 len = be (len * 8 % 2 ^ 64) 8 := by simp [tailF, m256]
  rw [e, be_take _ 8 (7 - i) (by omega), ofNat_mod, show 8 - 1 - (7 - i) = i by omega, Nat.mod_eq_of_lt (by omega), Nat.mul_comm len 8, Nat.pow_mul]
theorem tail_low_64 (len i : Nat) (hlen : len < 2 ^ 50) (hi : i < 8) : (tailF m512 len).take (15 - i + 1) = (tailF m512 len).take (15 - i) ++ [UInt8.ofNat (8 * len / 2 ^ (8 * i) % 256)] := by
  have e : tailF m512 len = be (len / 2 ^ 61) 8 ++ be (len * 8 % 2 ^ 64) 8 := by simp [tailF, m512]
  have hl : (be (len / 2 ^ 61) 8).length = 8 := be_len _ _
  have t1 : (be (len / 2 ^ 61) 8).take (15 - i + 1) = be (len / 2 ^ 61) 8 := List.take_of_length_le (by omega)
  have t2 : (be (len / 2 ^ 61) 8).take (15 - i) = be (len / 2 ^ 61) 8 := List.take_of_length_le (by omega)
  rw [e, List.take_append, List.take_append, hl, t1, t2, show 15 - i + 1 - 8 = (7 - i) + 1 by omega, show 15 - i - 8 = 7 - i by omega, be_take _ 8 (7 - i) (by omega), ofNat_mod, show 8 - 1 - (7 - i) = i by omega, Nat.mod_eq_of_lt (by omega), Nat.mul_comm len 8, Nat.pow_mul, List.append_assoc]
theorem tail_high_64 (len i : Nat) (hlen : len < 2 ^ 50) (hi : 8 ≤ i) (hi2 : i < 16) : (tailF m512 len).take (15 - i + 1) = (tailF m512 len).take (15 - i) ++ [UInt8.ofNat 0] := by
  have e : tailF m512 len = be (len / 2 ^ 61) 8 ++ be (len * 8 % 2 ^ 64) 8 := by simp [tailF, m512]
  have hl : (be (len / 2 ^ 61) 8).length = 8 := be_len _ _
  have h0 : len / 2 ^ 61 = 0 := Nat.div_eq_of_lt (by omega)
  rw [e, List.take_append_of_le_length (by omega), List.take_append_of_le_length (by omega), be_take _ 8 (15 - i) (by omega), h0, Nat.zero_div]

theorem zeros_32 (n : Nat) : zeros m256 (n % 64) = (64 - (n % 64 + 1 + 8) % 64) % 64 := rfl
theorem zeros_64 (n : Nat) : zeros m512 (n % 128) = (128 - (n % 128 + 1 + 16) % 128) % 128 := rfl

/-- The state as it begins. -/
def topL (W k : Nat) : List Nat := (sq.take k).map (top W)
theorem topL_len (W k : Nat) (h : k ≤ 8) : (topL W k).length = k := by simp [topL, sq]; omega
theorem topL_succ (W k : Nat) (h : k < 8) : topL W (k + 1) = topL W k ++ [top W (sq.getD k 0)] := by
  have hl : sq.length = 8 := rfl
  rw [topL, topL, List.take_succ_eq_append_getElem (by omega), List.map_append, List.getD_eq_getElem?_getD, List.getElem?_eq_getElem (by omega)]
  rfl
theorem topL_32 : topL 32 8 = (start m256).list := by decide
theorem topL_64 : topL 64 8 = (start m512).list := by decide

theorem take_succ_getD (l : List Nat) (i : Nat) (h : i < l.length) : l.take (i + 1) = l.take i ++ [l.getD i 0] := by
  rw [List.take_succ_eq_append_getElem h, List.getD_eq_getElem?_getD, List.getElem?_eq_getElem h]; rfl

/-- A byte of a block is a byte of the whole. -/
theorem block_byte (l : List UInt8) (k b j : Nat) (hj : j < b) : ((l.drop (k * b)).take b).getD j 0 = l.getD (k * b + j) 0 := by
  rw [List.getD_eq_getElem?_getD, List.getElem?_take_of_lt hj, List.getElem?_drop, List.getD_eq_getElem?_getD]
theorem block_len (l : List UInt8) (k b : Nat) (h : (k + 1) * b ≤ l.length) : ((l.drop (k * b)).take b).length = b := by
  rw [List.length_take, List.length_drop]
  rw [Nat.add_mul] at h
  omega
end Go.Proofs.YtgaddifabjoliaaDoor
