import Derived.Test.YtgaddifabjoliaaRows
import Derived.Test.YtgaddifabjoliaaDec
namespace Go.Proofs.Ytgaddifabjoliaa
open Go.RowKit

theorem text_eq {x : ByteArray} {l : List UInt8} (h : x.data.toList = l) : (⟨l.toArray⟩ : ByteArray) = x := by
  subst h; rfl

theorem text_size {x : ByteArray} {l : List UInt8} (h : x.data.toList = l) : x.size = l.length := by
  subst h; rw [Array.length_toList]; rfl

theorem encode_to (b x : ByteArray) (w : World) (hb : b.size ≤ 8388608) (hx : x.data.toList = enc b.data.toList) :
    Calls Try.prog 5 #[.string b] w fun e w' => e = .returned (.string x) ∧ Below w.heap.size w w' := by
  have h := encode_any b w hb
  rw [text_eq hx] at h
  exact h

theorem decode_ok (s z : ByteArray) (w : World) (hs : s.size ≤ 8388608) (hz : dec s.data.toList = some z.data.toList) :
    Calls Try.prog 6 #[.string s] w fun e w' => e = .returned (.tuple #[.string z, .int .i64 0]) ∧ Below w.heap.size w w' := by
  have h := decode_any s w hs
  rw [(outB_some hz).1, (outB_some hz).2] at h
  exact h

theorem decode_bad (s : ByteArray) (w : World) (hs : s.size ≤ 8388608) (hz : dec s.data.toList = none) :
    Calls Try.prog 6 #[.string s] w fun e w' => e = .returned (.tuple #[.string ⟨#[]⟩, .int .i64 2]) ∧ Below w.heap.size w w' := by
  have h := decode_any s w hs
  rw [(outB_none hz).1, (outB_none hz).2] at h
  exact h

theorem up {w a b : World} (h : Below w.heap.size w a) (k : Below a.heap.size a b) : Below w.heap.size w b := h.trans (k.mono h.size)

set_option maxHeartbeats 1000000 in
theorem backs_walk (b s : ByteArray) (w : World) (hb : b.size ≤ 1048576) (hs : s.size ≤ 1048576) :
    Calls Try.prog 4 #[.string b, .string s] w fun e w' => e = .returned (.bool true) ∧ Below w.heap.size w w' := by
  have hqb : (⟨#[97, 98, 99]⟩ ++ b : ByteArray).size ≤ 8388608 := by rw [ByteArray.size_append]; show 3 + b.size ≤ _; omega
  obtain ⟨x, hx⟩ : ∃ x : ByteArray, x.data.toList = enc b.data.toList := ⟨⟨(enc b.data.toList).toArray⟩, rfl⟩
  have hxs : x.size = (8 * b.size + 5) / 6 := by rw [text_size hx, enc_length]; simp
  have HX := hide hx
  have HXS := hide hxs
  have hxl : x.size ≤ 1398102 := by omega
  have hdx : dec x.data.toList = some b.data.toList := by rw [hx]; exact dec_enc _
  have HDX := hide hdx
  have hah : (⟨#[89, 87, 74, 106]⟩ ++ x : ByteArray).data.toList = enc (⟨#[97, 98, 99]⟩ ++ b : ByteArray).data.toList := by
    rw [ByteArray.data_append, ByteArray.data_append, Array.toList_append, Array.toList_append]
    show 89 :: 87 :: 74 :: 106 :: x.data.toList = enc (97 :: 98 :: 99 :: b.data.toList)
    rw [enc_abc, hx]
  have HAH := hide hah
  have hpd : dec (x ++ ⟨#[61]⟩ : ByteArray).data.toList = none := by
    rw [ByteArray.data_append, Array.toList_append]
    exact dec_bad _
  have HPD := hide hpd
  have hps : (x ++ ⟨#[61]⟩ : ByteArray).size ≤ 8388608 := by rw [ByteArray.size_append]; show x.size + 1 ≤ _; omega
  have HPS := hide hps
  have HQB := hide hqb
  clear hx hxs hdx hah hpd hps hqb
  cases hd : dec s.data.toList with
  | none =>
    have HD := hide hd
    clear hd
    go_enter Try.func4, Try.ntmps4
    go_wp2_with fail
    refine (encode_to b x _ (by omega) (unhide HX)).mono ?_
    rintro e W1 ⟨rfl, b1⟩
    go_wp2_with fail
    refine (decode_ok x b _ (by omega) (unhide HDX)).mono ?_
    rintro e W2 ⟨rfl, b2⟩
    go_wp2_with fail
    refine (decode_bad s _ (by omega) (unhide HD)).mono ?_
    rintro e W3 ⟨rfl, b3⟩
    go_wp2_with fail
    refine (encode_to _ _ _ (unhide HQB) (unhide HAH)).mono ?_
    rintro e W4 ⟨rfl, b4⟩
    go_wp2_with fail
    refine (decode_bad _ _ (unhide HPS) (unhide HPD)).mono ?_
    rintro e W5 ⟨rfl, b5⟩
    have q1 : x.size ≤ (8 * b.size + 5) / 6 := Nat.le_of_eq (unhide HXS)
    have q2 : (8 * b.size + 5) / 6 ≤ x.size := Nat.le_of_eq (unhide HXS).symm
    go_wp2
    go_ret
    exact ⟨rfl, up (up (up (up b1 b2) b3) b4) b5⟩
  | some z0 =>
    obtain ⟨z, hz⟩ : ∃ z : ByteArray, z.data.toList = z0 := ⟨⟨z0.toArray⟩, rfl⟩
    subst hz
    have hsz : s.data.toList = enc z.data.toList := (enc_dec _ _ hd).symm
    have hzs : s.size = (8 * z.size + 5) / 6 := by rw [text_size hsz, enc_length]; simp
    have hzl : z.size ≤ 8388608 := by omega
    have HD := hide hd
    have HSZ := hide hsz
    clear hd hzs hsz
    go_enter Try.func4, Try.ntmps4
    go_wp2_with fail
    refine (encode_to b x _ (by omega) (unhide HX)).mono ?_
    rintro e W1 ⟨rfl, b1⟩
    go_wp2_with fail
    refine (decode_ok x b _ (by omega) (unhide HDX)).mono ?_
    rintro e W2 ⟨rfl, b2⟩
    go_wp2_with fail
    refine (decode_ok s z _ (by omega) (unhide HD)).mono ?_
    rintro e W3 ⟨rfl, b3⟩
    go_wp2_with fail
    refine (encode_to z s _ hzl (unhide HSZ)).mono ?_
    rintro e W6 ⟨rfl, b6⟩
    go_wp2_with fail
    refine (encode_to _ _ _ (unhide HQB) (unhide HAH)).mono ?_
    rintro e W4 ⟨rfl, b4⟩
    go_wp2_with fail
    refine (decode_bad _ _ (unhide HPS) (unhide HPD)).mono ?_
    rintro e W5 ⟨rfl, b5⟩
    have q1 : x.size ≤ (8 * b.size + 5) / 6 := Nat.le_of_eq (unhide HXS)
    have q2 : (8 * b.size + 5) / 6 ≤ x.size := Nat.le_of_eq (unhide HXS).symm
    go_wp2
    go_ret
    exact ⟨rfl, up (up (up (up (up b1 b2) b3) b6) b4) b5⟩
end Go.Proofs.Ytgaddifabjoliaa
