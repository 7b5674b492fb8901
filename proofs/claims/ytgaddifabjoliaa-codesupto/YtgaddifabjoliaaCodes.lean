import Derived.Test.YtgaddifabjoliaaRefDec
namespace Go.Proofs.Ytgaddifabjoliaa
open Go.RowKit

theorem decode_to (s y : ByteArray) (n : Nat) (w : World) (hs : s.size ≤ 8388608) (hy : y.data.toList = outB s.data.toList) (hn : outE s.data.toList = n) :
    Calls Try.prog 6 #[.string s] w fun e w' => e = .returned (.tuple #[.string y, .int .i64 n]) ∧ Below w.heap.size w w' := by
  have h := decode_any s w hs
  rw [text_eq hy, hn] at h
  exact h

theorem refDecode_to (s y : ByteArray) (n : Nat) (w : World) (hs : s.size ≤ 8388608) (hy : y.data.toList = outB s.data.toList) (hn : outE s.data.toList = n) :
    Calls Try.prog 7 #[.string s] w fun e w' => e = .returned (.tuple #[.string y, .int .i64 n]) ∧ Below w.heap.size w w' := by
  have h := refDecode_any s w hs
  rw [text_eq hy, hn] at h
  exact h

set_option maxHeartbeats 1000000 in
theorem codes_walk (b s : ByteArray) (w : World) (hb : b.size ≤ 1048576) (hs : s.size ≤ 1048576) :
    Calls Try.prog 3 #[.string b, .string s] w fun e w' => e = .returned (.bool true) ∧ Below w.heap.size w w' := by
  obtain ⟨x, hx⟩ : ∃ x : ByteArray, x.data.toList = enc b.data.toList := ⟨⟨(enc b.data.toList).toArray⟩, rfl⟩
  obtain ⟨y, hy⟩ : ∃ y : ByteArray, y.data.toList = outB s.data.toList := ⟨⟨(outB s.data.toList).toArray⟩, rfl⟩
  obtain ⟨n, hn⟩ : ∃ n : Nat, outE s.data.toList = n := ⟨_, rfl⟩
  have HX := hide hx
  have HY := hide hy
  have HN := hide hn
  clear hx hy hn
  go_enter Try.func3, Try.ntmps3
  go_wp2_with fail
  refine (encode_to b x _ (by omega) (unhide HX)).mono ?_
  rintro e W1 ⟨rfl, b1⟩
  go_wp2_with fail
  refine (decode_to s y n _ (by omega) (unhide HY) (unhide HN)).mono ?_
  rintro e W2 ⟨rfl, b2⟩
  go_wp2_with fail
  refine (refDecode_to s y n _ (by omega) (unhide HY) (unhide HN)).mono ?_
  rintro e W3 ⟨rfl, b3⟩
  go_wp2_with fail
  refine (decode_ok ⟨#[90, 103]⟩ ⟨#[102]⟩ _ (by decide) dec_Zg).mono ?_
  rintro e W4 ⟨rfl, b4⟩
  go_wp2_with fail
  refine (refEncode_to b x _ (by omega) (unhide HX)).mono ?_
  rintro e W5 ⟨rfl, rfl⟩
  go_wp2
  go_ret
  exact ⟨rfl, up (up (up b1 b2) b3) b4⟩
end Go.Proofs.Ytgaddifabjoliaa
