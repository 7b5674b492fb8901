import Derived.Test.YtgaddifabjoliaaDoorBlocks
import Derived.Test.YtgaddifabjoliaaDoorAppW
namespace Go.Proofs.YtgaddifabjoliaaDoor
open Go.RowKit

theorem append_word8 (B : Nat) (v : Value) (acc : List UInt8) (x : Nat) (w : World) (hB : B ≤ w.heap.size) (hx : x < 18446744073709551616) (hlen : acc.length ≤ 2 ^ 40) (hown : OwnB B w v acc) :
    Calls Tryd.prog 24 #[v, .int .u64 x, .int .i64 64] w fun e w' => ∃ v', e = .returned v' ∧ OwnB B w' v' (acc ++ be x 8) ∧ Below B w w' := append_word B v acc x 8 w hB hx (Nat.le_refl _) hlen hown
theorem append_word4 (B : Nat) (v : Value) (acc : List UInt8) (x : Nat) (w : World) (hB : B ≤ w.heap.size) (hx : x < 18446744073709551616) (hlen : acc.length ≤ 2 ^ 40) (hown : OwnB B w v acc) :
    Calls Tryd.prog 24 #[v, .int .u64 x, .int .i64 32] w fun e w' => ∃ v', e = .returned v' ∧ OwnB B w' v' (acc ++ be x 4) ∧ Below B w w' := append_word B v acc x 4 w hB hx (by decide) hlen hown

theorem OwnB.drew {B : Nat} {w : World} {v : Value} {acc : List UInt8} (h : OwnB B w v acc) : OwnB B w.drew v acc := h
theorem ownB_bytes2 (w : World) (s : ByteArray) (n : Nat) (hn : w.heap.size = n) : OwnB n (w.alloc (.cells (bytesRow s (grownCap w s.size 0 5)) 5 ((bytesRow s (grownCap w s.size 0 5)).size, (bytesRow s (grownCap w s.size 0 5)).size + 1))) (.slice (some ⟨n, 0, none⟩) s.size (grownCap w s.size 0 5)) s.data.toList := by
  subst hn; exact ownB_bytes w s
theorem one_cell_drew (w : World) (v : Value) (t : TypeId) (n : Nat) (hn : w.heap.size = n) : ∀ (j : Nat) (u : Value), [v][j]? = some u → (w.alloc (.cells #[v] t)).drew.cell? ((⟨n, 0, none⟩ : Addr).add j) = some u := by
  subst hn; exact one_cell w v t

def lenOf : Value → Nat
  | .slice _ n _ => n
  | _ => 0

set_option maxRecDepth 20000 in
set_option maxHeartbeats 2000000 in
theorem ending32 (r : ByteArray) (len : Nat) (w : World) (hr : r.size < 64) (hlen : len < 2 ^ 60) :
    Calls Tryd.prog 23 #[.string r, .int .i64 len, .agg #[.int .i64 32, .int .i64 64, .int .i64 2, .int .i64 13, .int .i64 22, .int .i64 6, .int .i64 11, .int .i64 25, .int .i64 7, .int .i64 18, .int .i64 3, .int .i64 17, .int .i64 19, .int .i64 10]] w fun e w' => e = .returned (.string ⟨(ending m256 r.data.toList len).toArray⟩) ∧ Below w.heap.size w w' := by
  have hcv2 := fun w s => run_bytes_of_string (P := Tryd.prog) w 9 45 5 s Tryd.underlying9 Tryd.underlying45 Tryd.underlying5
  have hrl : r.data.toList.length = r.size := by simp
  go_enter Tryd.func23, Tryd.ntmps23
  go_wp2_with (at_builtin; refine wpList_append_byte (by rfl) _ _ (by rfl) (w.heap.size + 1) _ r.data.toList (by rfl) ?g4 ⟨w.heap.size + 1 + 1, 0, none⟩ 128 ?g0 (by rfl) ?g6 ?g8 ?g7 ?_)
  case g4 => exact ((ownB_bytes2 (w.alloc (.cells #[.int .i64 32, .int .i64 64, .int .i64 2, .int .i64 13, .int .i64 22, .int .i64 6, .int .i64 11, .int .i64 25, .int .i64 7, .int .i64 18, .int .i64 3, .int .i64 17, .int .i64 19, .int .i64 10] 38)) r (w.heap.size + 1) (by simp)).alloc _).drew
  case g0 => decide
  case g6 => exact fun j u h => one_cell_drew _ _ _ _ (by simp) j u h
  case g8 => rw [hrl]; omega
  case g7 => (simp <;> omega)
  intro v0 w0 hob0 hbw0
  have hb0 : Below w.heap.size w w0 := (((((Below.refl _ w).alloc (Nat.le_refl _) _).alloc (by simp) _).alloc (by simp; omega) _).drew).trans (hbw0.mono (by omega))
  have hm0 : w0.heap[w.heap.size]? = some (.cells #[.int .i64 32, .int .i64 64, .int .i64 2, .int .i64 13, .int .i64 22, .int .i64 6, .int .i64 11, .int .i64 25, .int .i64 7, .int .i64 18, .int .i64 3, .int .i64 17, .int .i64 19, .int .i64 10] 38) := (hbw0.block _ (by omega)).trans (heap3 w _ _ _).1
  clear hbw0 hcv2
  go_wp2
  go_loopw [8] (fun out wr => ∃ (z : Nat) (got : List UInt8), z ≤ zeros m256 r.size ∧ got.length = r.size + 1 + z ∧ OwnB (w.heap.size + 1) wr out got ∧ Below w.heap.size w wr ∧ w.heap.size + 1 ≤ wr.heap.size ∧ wr.heap[w.heap.size]? = some (.cells #[.int .i64 32, .int .i64 64, .int .i64 2, .int .i64 13, .int .i64 22, .int .i64 6, .int .i64 11, .int .i64 25, .int .i64 7, .int .i64 18, .int .i64 3, .int .i64 17, .int .i64 19, .int .i64 10] 38) ∧ Hid (got = r.data.toList ++ 128 :: List.replicate z 0)) (fun out _ => 1000 - lenOf out)
  case atStart => exact ⟨0, _, Nat.zero_le _, by simp, hob0, hb0, by have := (Array.getElem?_eq_some_iff.1 hm0).1; omega, hm0, rfl⟩
  case round =>
    obtain ⟨z, got, hz, hgl, hob, hb, hsz, hm, hgot⟩ := hrel
    clear hob0 hb0 hm0
    obtain ⟨g, cap, rfl, hg⟩ := hob.form
    have y0 := cell_of_row wr w.heap.size 0 _ _ _ hm
    have y1 := cell_of_row wr w.heap.size 1 _ _ _ hm
    have y2 := cell_of_row wr w.heap.size 2 _ _ _ hm
    have y3 := cell_of_row wr w.heap.size 3 _ _ _ hm
    have y4 := cell_of_row wr w.heap.size 4 _ _ _ hm
    have y5 := cell_of_row wr w.heap.size 5 _ _ _ hm
    have y6 := cell_of_row wr w.heap.size 6 _ _ _ hm
    have y7 := cell_of_row wr w.heap.size 7 _ _ _ hm
    have y8 := cell_of_row wr w.heap.size 8 _ _ _ hm
    have y9 := cell_of_row wr w.heap.size 9 _ _ _ hm
    have y10 := cell_of_row wr w.heap.size 10 _ _ _ hm
    have y11 := cell_of_row wr w.heap.size 11 _ _ _ hm
    have y12 := cell_of_row wr w.heap.size 12 _ _ _ hm
    have y13 := cell_of_row wr w.heap.size 13 _ _ _ hm
    simp only [List.getElem?_toArray, List.getElem?_cons_zero, List.getElem?_cons_succ] at y0 y1 y2 y3 y4 y5 y6 y7 y8 y9 y10 y11 y12 y13
    have hzz : zeros m256 r.size = (64 - (r.size + 1 + 8) % 64) % 64 := rfl
    have HO := hide hob
    clear hob
    by_cases hlt : z < zeros m256 r.size
    · have hcond : (((got.length : Int) + 8) % 64 == 0) = false := by
        rw [hgl]; simp; rw [hzz] at hlt; omega
      have hbnd : got.length < 1000 := by rw [hzz] at hz; omega
      have HGL := hide hgl
      clear hgl hzz
      go_wp2_with (go_at_call 21; refine (block32 _).mono ?_)
      rintro e2 w2 ⟨rfl, hb2⟩
      have hob2 := (unhide HO).all hb2
      have hbb2 : Below w.heap.size w w2 := hb.trans (hb2.mono hb.size)
      have hm2 := (hb2.block _ (by omega)).trans hm
      have hs2 := hb2.size
      clear y0 y1 y2 y3 y4 y5 y6 y7 y8 y9 y10 y11 y12 y13
      have HO2 := hide hob2
      clear hob2
      go_wp2_with (at_builtin; refine wpList_append_byte (by rfl) _ _ (by rfl) (w.heap.size + 1) _ got (by rfl) ?g4 ⟨w2.heap.size, 0, none⟩ 0 ?g0 (by rfl) ?g6 ?g8 ?g7 ?_)
      case g4 => exact (unhide HO2).alloc _
      case g0 => decide
      case g6 => exact one_cell _ _ _
      case g8 => omega
      case g7 => (simp; omega)
      intro v3 w3 hob3 hbw3
      go_wp2
      go_roundw
      case rel =>
        refine ⟨z + 1, _, by omega, ?_, hob3, (hbb2.alloc (by omega) _).trans (hbw3.mono (by omega)), ?_, (hbw3.block _ (by omega)).trans ((heap_alloc_old _ _ (by omega)).trans hm2), ?_⟩
        · have := unhide HGL
          simp; omega
        · have := hbw3.size; simp at this; omega
        · show _ = _
          rw [unhide hgot, List.replicate_succ']
          simp
      case measure =>
        obtain ⟨g3, c3, rfl, _⟩ := hob3.form
        go_light
        simp [lenOf]
        omega
    · have hze : z = zeros m256 r.size := by omega
      have hcond : (((got.length : Int) + 8) % 64 == 0) = true := by
        rw [hgl]; simp; rw [hzz] at hze; omega
      have hbnd : got.length < 1000 := by rw [hzz] at hz; omega
      have HZE := hide hze
      clear hgl hzz hze hlt hz
      go_wp2_with (go_at_call 21; refine (block32 _).mono ?_)
      rintro e2 w2 ⟨rfl, hb2⟩
      have hob2 := (unhide HO).all hb2
      have hbb2 : Below w.heap.size w w2 := hb.trans (hb2.mono hb.size)
      have hs2 := hb2.size
      clear y0 y1 y2 y3 y4 y5 y6 y7 y8 y9 y10 y11 y12 y13
      have hl8 : len * 8 < 18446744073709551616 := by omega
      go_wp2_with (go_at_call 24; refine (append_word8 (w.heap.size + 1) _ got (len * 8) _ ?h1 hl8 ?h2 ?h3).mono ?_)
      case h1 => omega
      case h2 => omega
      case h3 => exact hob2
      rintro e3 w3 ⟨v3, rfl, hob3, hbw3⟩
      have hcv := hob3.text
      go_wp2
      go_ret
      refine ⟨?_, hbb2.trans (hbw3.mono (by omega))⟩
      have e1 : ending m256 r.data.toList len = got ++ be (len * 8) 8 := by
        unfold ending
        rw [unhide hgot, unhide HZE, hrl, Nat.mod_eq_of_lt (by omega)]
        simp [m256]
      rw [e1]
      rfl
set_option maxRecDepth 20000 in
set_option maxHeartbeats 2000000 in
theorem ending64 (r : ByteArray) (len : Nat) (w : World) (hr : r.size < 128) (hlen : len < 2 ^ 60) :
    Calls Tryd.prog 23 #[.string r, .int .i64 len, .agg #[.int .i64 64, .int .i64 80, .int .i64 28, .int .i64 34, .int .i64 39, .int .i64 14, .int .i64 18, .int .i64 41, .int .i64 1, .int .i64 8, .int .i64 7, .int .i64 19, .int .i64 61, .int .i64 6]] w fun e w' => e = .returned (.string ⟨(ending m512 r.data.toList len).toArray⟩) ∧ Below w.heap.size w w' := by
  have hcv2 := fun w s => run_bytes_of_string (P := Tryd.prog) w 9 45 5 s Tryd.underlying9 Tryd.underlying45 Tryd.underlying5
  have hrl : r.data.toList.length = r.size := by simp
  go_enter Tryd.func23, Tryd.ntmps23
  go_wp2_with (at_builtin; refine wpList_append_byte (by rfl) _ _ (by rfl) (w.heap.size + 1) _ r.data.toList (by rfl) ?g4 ⟨w.heap.size + 1 + 1, 0, none⟩ 128 ?g0 (by rfl) ?g6 ?g8 ?g7 ?_)
  case g4 => exact ((ownB_bytes2 (w.alloc (.cells #[.int .i64 64, .int .i64 80, .int .i64 28, .int .i64 34, .int .i64 39, .int .i64 14, .int .i64 18, .int .i64 41, .int .i64 1, .int .i64 8, .int .i64 7, .int .i64 19, .int .i64 61, .int .i64 6] 38)) r (w.heap.size + 1) (by simp)).alloc _).drew
  case g0 => decide
  case g6 => exact fun j u h => one_cell_drew _ _ _ _ (by simp) j u h
  case g8 => rw [hrl]; omega
  case g7 => (simp <;> omega)
  intro v0 w0 hob0 hbw0
  have hb0 : Below w.heap.size w w0 := (((((Below.refl _ w).alloc (Nat.le_refl _) _).alloc (by simp) _).alloc (by simp; omega) _).drew).trans (hbw0.mono (by omega))
  have hm0 : w0.heap[w.heap.size]? = some (.cells #[.int .i64 64, .int .i64 80, .int .i64 28, .int .i64 34, .int .i64 39, .int .i64 14, .int .i64 18, .int .i64 41, .int .i64 1, .int .i64 8, .int .i64 7, .int .i64 19, .int .i64 61, .int .i64 6] 38) := (hbw0.block _ (by omega)).trans (heap3 w _ _ _).1
  clear hbw0 hcv2
  go_wp2
  go_loopw [8] (fun out wr => ∃ (z : Nat) (got : List UInt8), z ≤ zeros m512 r.size ∧ got.length = r.size + 1 + z ∧ OwnB (w.heap.size + 1) wr out got ∧ Below w.heap.size w wr ∧ w.heap.size + 1 ≤ wr.heap.size ∧ wr.heap[w.heap.size]? = some (.cells #[.int .i64 64, .int .i64 80, .int .i64 28, .int .i64 34, .int .i64 39, .int .i64 14, .int .i64 18, .int .i64 41, .int .i64 1, .int .i64 8, .int .i64 7, .int .i64 19, .int .i64 61, .int .i64 6] 38) ∧ Hid (got = r.data.toList ++ 128 :: List.replicate z 0)) (fun out _ => 1000 - lenOf out)
  case atStart => exact ⟨0, _, Nat.zero_le _, by simp, hob0, hb0, by have := (Array.getElem?_eq_some_iff.1 hm0).1; omega, hm0, rfl⟩
  case round =>
    obtain ⟨z, got, hz, hgl, hob, hb, hsz, hm, hgot⟩ := hrel
    clear hob0 hb0 hm0
    obtain ⟨g, cap, rfl, hg⟩ := hob.form
    have y0 := cell_of_row wr w.heap.size 0 _ _ _ hm
    have y1 := cell_of_row wr w.heap.size 1 _ _ _ hm
    have y2 := cell_of_row wr w.heap.size 2 _ _ _ hm
    have y3 := cell_of_row wr w.heap.size 3 _ _ _ hm
    have y4 := cell_of_row wr w.heap.size 4 _ _ _ hm
    have y5 := cell_of_row wr w.heap.size 5 _ _ _ hm
    have y6 := cell_of_row wr w.heap.size 6 _ _ _ hm
    have y7 := cell_of_row wr w.heap.size 7 _ _ _ hm
    have y8 := cell_of_row wr w.heap.size 8 _ _ _ hm
    have y9 := cell_of_row wr w.heap.size 9 _ _ _ hm
    have y10 := cell_of_row wr w.heap.size 10 _ _ _ hm
    have y11 := cell_of_row wr w.heap.size 11 _ _ _ hm
    have y12 := cell_of_row wr w.heap.size 12 _ _ _ hm
    have y13 := cell_of_row wr w.heap.size 13 _ _ _ hm
    simp only [List.getElem?_toArray, List.getElem?_cons_zero, List.getElem?_cons_succ] at y0 y1 y2 y3 y4 y5 y6 y7 y8 y9 y10 y11 y12 y13
    have hzz : zeros m512 r.size = (128 - (r.size + 1 + 16) % 128) % 128 := rfl
    have HO := hide hob
    clear hob
    by_cases hlt : z < zeros m512 r.size
    · have hcond : (((got.length : Int) + 16) % 128 == 0) = false := by
        rw [hgl]; simp; rw [hzz] at hlt; omega
      have hbnd : got.length < 1000 := by rw [hzz] at hz; omega
      have HGL := hide hgl
      clear hgl hzz
      go_wp2_with (go_at_call 21; refine (block64 _).mono ?_)
      rintro e2 w2 ⟨rfl, hb2⟩
      have hob2 := (unhide HO).all hb2
      have hbb2 : Below w.heap.size w w2 := hb.trans (hb2.mono hb.size)
      have hm2 := (hb2.block _ (by omega)).trans hm
      have hs2 := hb2.size
      clear y0 y1 y2 y3 y4 y5 y6 y7 y8 y9 y10 y11 y12 y13
      have HO2 := hide hob2
      clear hob2
      go_wp2_with (at_builtin; refine wpList_append_byte (by rfl) _ _ (by rfl) (w.heap.size + 1) _ got (by rfl) ?g4 ⟨w2.heap.size, 0, none⟩ 0 ?g0 (by rfl) ?g6 ?g8 ?g7 ?_)
      case g4 => exact (unhide HO2).alloc _
      case g0 => decide
      case g6 => exact one_cell _ _ _
      case g8 => omega
      case g7 => (simp; omega)
      intro v3 w3 hob3 hbw3
      go_wp2
      go_roundw
      case rel =>
        refine ⟨z + 1, _, by omega, ?_, hob3, (hbb2.alloc (by omega) _).trans (hbw3.mono (by omega)), ?_, (hbw3.block _ (by omega)).trans ((heap_alloc_old _ _ (by omega)).trans hm2), ?_⟩
        · have := unhide HGL
          simp; omega
        · have := hbw3.size; simp at this; omega
        · show _ = _
          rw [unhide hgot, List.replicate_succ']
          simp
      case measure =>
        obtain ⟨g3, c3, rfl, _⟩ := hob3.form
        go_light
        simp [lenOf]
        omega
    · have hze : z = zeros m512 r.size := by omega
      have hcond : (((got.length : Int) + 16) % 128 == 0) = true := by
        rw [hgl]; simp; rw [hzz] at hze; omega
      have hbnd : got.length < 1000 := by rw [hzz] at hz; omega
      have HZE := hide hze
      clear hgl hzz hze hlt hz
      go_wp2_with (go_at_call 21; refine (block64 _).mono ?_)
      rintro e2 w2 ⟨rfl, hb2⟩
      have hob2 := (unhide HO).all hb2
      have hbb2 : Below w.heap.size w w2 := hb.trans (hb2.mono hb.size)
      have hs2 := hb2.size
      clear y0 y1 y2 y3 y4 y5 y6 y7 y8 y9 y10 y11 y12 y13
      have hl8 : len * 8 < 18446744073709551616 := by omega
      obtain ⟨q, hq⟩ : ∃ q : Nat, q = len / 2 ^ 61 := ⟨_, rfl⟩
      have hd : q < 18446744073709551616 := by omega
      have hd2 : (len : Int) / 2305843009213693952 = (q : Int) := by omega
      have HQ := hide hq
      clear hq
      go_wp2_with (go_at_call 24; refine (append_word8 (w.heap.size + 1) _ got q _ ?h1 hd ?h2 ?h3).mono ?_)
      case h1 => omega
      case h2 => omega
      case h3 => exact hob2
      rintro e3 w3 ⟨v3, rfl, hob3, hbw3⟩
      have hz3 := hbw3.size
      go_wp2_with (go_at_call 24; refine (append_word8 (w.heap.size + 1) _ (got ++ be q 8) (len * 8) _ ?h1 hl8 ?h2 ?h3).mono ?_)
      case h1 => omega
      case h2 => (rw [List.length_append, be_length]; omega)
      case h3 => exact hob3
      rintro e4 w4 ⟨v4, rfl, hob4, hbw4⟩
      have hcv := hob4.text
      go_wp2
      go_ret
      refine ⟨?_, hbb2.trans ((hbw3.trans hbw4).mono (by omega))⟩
      have e1 : ending m512 r.data.toList len = got ++ be q 8 ++ be (len * 8) 8 := by
        unfold ending
        rw [unhide hgot, unhide HZE, unhide HQ, hrl, Nat.mod_eq_of_lt (by omega)]
        simp [m512]
      rw [e1, List.append_assoc]
      rfl
end Go.Proofs.YtgaddifabjoliaaDoor
