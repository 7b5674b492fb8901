import Derived.Test.YtgaddifabjoliaaDoorRNew
import Derived.Test.YtgaddifabjoliaaDoorRSum
import Derived.Test.YtgaddifabjoliaaDoorRSumV
import Derived.Test.YtgaddifabjoliaaDoorCalls
namespace Go.Proofs.YtgaddifabjoliaaDoor
open Go.RowKit

theorem cu_all : cu.take 80 = cu := rfl
theorem zero_shape_32 : (∀ w, (zeroValue 42).run Tryd.prog w = .ok (.agg #[.int .i64 0, .int .i64 0, .int .i64 0, .int .i64 0, .int .i64 0, .int .i64 0, .int .i64 0, .int .i64 0, .int .i64 0, .int .i64 0, .int .i64 0, .int .i64 0, .int .i64 0, .int .u64 0]) w) ∧ (Tryd.prog.info? 42).map (·.size) = some 14 := zero_of_info (by kernel_rfl)

set_option maxRecDepth 20000 in
set_option maxHeartbeats 2000000 in
theorem rtop_32 (s : ByteArray) (w : World) (g : Nat) (hT : Tab w g) (hs : s.size < 140737488355000) :
    Calls Tryd.prog 7 #[.pointer (some ⟨g, 0, none⟩), .string s] w fun e w' => e = .returned (.string ⟨(sumF m256 s.data.toList).toArray⟩) ∧ Below w.heap.size w w' := by
  obtain ⟨sv, cf, cv, hg, hsv, hcf, hcv⟩ := hT
  have hglt := (Array.getElem?_eq_some_iff.1 hg).1
  have hz := zero_shape_32.1
  go_enter Tryd.func7, Tryd.ntmps7
  go_wp2
  generalize hW : w.alloc (.cells #[.int .i64 32, .int .i64 2, .int .i64 13, .int .i64 22, .int .i64 6, .int .i64 11, .int .i64 25, .int .i64 7, .int .i64 18, .int .i64 3, .int .i64 17, .int .i64 19, .int .i64 10, .int .u64 4294967295] 42) = w0
  have hm : w0.heap[w.heap.size]? = some (.cells #[.int .i64 32, .int .i64 2, .int .i64 13, .int .i64 22, .int .i64 6, .int .i64 11, .int .i64 25, .int .i64 7, .int .i64 18, .int .i64 3, .int .i64 17, .int .i64 19, .int .i64 10, .int .u64 4294967295] 42) := by rw [← hW]; exact heap_alloc_new _ _
  have hb0 : Below w.heap.size w w0 := by rw [← hW]; exact (Below.refl _ _).alloc (Nat.le_refl _) _
  have hs0 : w.heap.size < w0.heap.size := (Array.getElem?_eq_some_iff.1 hm).1
  clear hW hz
  have hg0 := (hb0.block g hglt).trans hg
  have R0 : ∀ w', Below w0.heap.size w0 w' → w'.cell? ⟨w.heap.size, 0, none⟩ = some (.int .i64 32) := fun w' q => (q.cell (by show w.heap.size < w0.heap.size; omega)).trans ((cell_of_row w0 w.heap.size 0 _ _ _ hm).trans rfl)
  have R1 : ∀ w', Below w0.heap.size w0 w' → w'.cell? ⟨w.heap.size, 1, none⟩ = some (.int .i64 2) := fun w' q => (q.cell (by show w.heap.size < w0.heap.size; omega)).trans ((cell_of_row w0 w.heap.size 1 _ _ _ hm).trans rfl)
  have R2 : ∀ w', Below w0.heap.size w0 w' → w'.cell? ⟨w.heap.size, 2, none⟩ = some (.int .i64 13) := fun w' q => (q.cell (by show w.heap.size < w0.heap.size; omega)).trans ((cell_of_row w0 w.heap.size 2 _ _ _ hm).trans rfl)
  have R3 : ∀ w', Below w0.heap.size w0 w' → w'.cell? ⟨w.heap.size, 3, none⟩ = some (.int .i64 22) := fun w' q => (q.cell (by show w.heap.size < w0.heap.size; omega)).trans ((cell_of_row w0 w.heap.size 3 _ _ _ hm).trans rfl)
  have R4 : ∀ w', Below w0.heap.size w0 w' → w'.cell? ⟨w.heap.size, 4, none⟩ = some (.int .i64 6) := fun w' q => (q.cell (by show w.heap.size < w0.heap.size; omega)).trans ((cell_of_row w0 w.heap.size 4 _ _ _ hm).trans rfl)
  have R5 : ∀ w', Below w0.heap.size w0 w' → w'.cell? ⟨w.heap.size, 5, none⟩ = some (.int .i64 11) := fun w' q => (q.cell (by show w.heap.size < w0.heap.size; omega)).trans ((cell_of_row w0 w.heap.size 5 _ _ _ hm).trans rfl)
  have R6 : ∀ w', Below w0.heap.size w0 w' → w'.cell? ⟨w.heap.size, 6, none⟩ = some (.int .i64 25) := fun w' q => (q.cell (by show w.heap.size < w0.heap.size; omega)).trans ((cell_of_row w0 w.heap.size 6 _ _ _ hm).trans rfl)
  have R7 : ∀ w', Below w0.heap.size w0 w' → w'.cell? ⟨w.heap.size, 7, none⟩ = some (.int .i64 7) := fun w' q => (q.cell (by show w.heap.size < w0.heap.size; omega)).trans ((cell_of_row w0 w.heap.size 7 _ _ _ hm).trans rfl)
  have R8 : ∀ w', Below w0.heap.size w0 w' → w'.cell? ⟨w.heap.size, 8, none⟩ = some (.int .i64 18) := fun w' q => (q.cell (by show w.heap.size < w0.heap.size; omega)).trans ((cell_of_row w0 w.heap.size 8 _ _ _ hm).trans rfl)
  have R9 : ∀ w', Below w0.heap.size w0 w' → w'.cell? ⟨w.heap.size, 9, none⟩ = some (.int .i64 3) := fun w' q => (q.cell (by show w.heap.size < w0.heap.size; omega)).trans ((cell_of_row w0 w.heap.size 9 _ _ _ hm).trans rfl)
  have R10 : ∀ w', Below w0.heap.size w0 w' → w'.cell? ⟨w.heap.size, 10, none⟩ = some (.int .i64 17) := fun w' q => (q.cell (by show w.heap.size < w0.heap.size; omega)).trans ((cell_of_row w0 w.heap.size 10 _ _ _ hm).trans rfl)
  have R11 : ∀ w', Below w0.heap.size w0 w' → w'.cell? ⟨w.heap.size, 11, none⟩ = some (.int .i64 19) := fun w' q => (q.cell (by show w.heap.size < w0.heap.size; omega)).trans ((cell_of_row w0 w.heap.size 11 _ _ _ hm).trans rfl)
  have R12 : ∀ w', Below w0.heap.size w0 w' → w'.cell? ⟨w.heap.size, 12, none⟩ = some (.int .i64 10) := fun w' q => (q.cell (by show w.heap.size < w0.heap.size; omega)).trans ((cell_of_row w0 w.heap.size 12 _ _ _ hm).trans rfl)
  have R13 : ∀ w', Below w0.heap.size w0 w' → w'.cell? ⟨w.heap.size, 13, none⟩ = some (.int .u64 4294967295) := fun w' q => (q.cell (by show w.heap.size < w0.heap.size; omega)).trans ((cell_of_row w0 w.heap.size 13 _ _ _ hm).trans rfl)
  have T0 : ∀ w', Below w0.heap.size w0 w' → w'.cell? ⟨g, 0, none⟩ = some sv := fun w' q => (q.cell (by show g < w0.heap.size; omega)).trans ((cell_of_row w0 g 0 _ _ _ hg0).trans rfl)
  have T1 : ∀ w', Below w0.heap.size w0 w' → w'.cell? ⟨g, 1, none⟩ = some cf := fun w' q => (q.cell (by show g < w0.heap.size; omega)).trans ((cell_of_row w0 g 1 _ _ _ hg0).trans rfl)
  have q1 := hsv.all hb0
  have q2 : RowN w0 cf (cu.take 64) := hcf.all hb0
  have HQ := hide (And.intro q1 q2)
  clear q1 q2 hg hg0 hm hsv hcf hcv
  go_region_held3 (fun w' => Below w0.heap.size w0 w')
    (first | exact hwr | exact (Below.refl _ w0).drew)
    ((go_at_call 15; refine (rsum32 s sv cf _ ((unhide HQ).1.all (Below.refl _ w0).drew) ((unhide HQ).2.all (Below.refl _ w0).drew) hs).mono ?_; rintro e1 w1 ⟨rfl, hb1⟩; have hwr : Below w0.heap.size w0 w1 := (Below.refl _ w0).drew.trans hb1))
  go_wp2
  go_ret
  exact ⟨rfl, hb0.trans (hwr.mono (by omega))⟩
theorem zero_shape_64 : (∀ w, (zeroValue 42).run Tryd.prog w = .ok (.agg #[.int .i64 0, .int .i64 0, .int .i64 0, .int .i64 0, .int .i64 0, .int .i64 0, .int .i64 0, .int .i64 0, .int .i64 0, .int .i64 0, .int .i64 0, .int .i64 0, .int .i64 0, .int .u64 0]) w) ∧ (Tryd.prog.info? 42).map (·.size) = some 14 := zero_of_info (by kernel_rfl)

set_option maxRecDepth 20000 in
set_option maxHeartbeats 2000000 in
theorem rtop_64 (s : ByteArray) (w : World) (g : Nat) (hT : Tab w g) (hs : s.size < 140737488355000) :
    Calls Tryd.prog 9 #[.pointer (some ⟨g, 0, none⟩), .string s] w fun e w' => e = .returned (.string ⟨(sumF m512 s.data.toList).toArray⟩) ∧ Below w.heap.size w w' := by
  obtain ⟨sv, cf, cv, hg, hsv, hcf, hcv⟩ := hT
  have hglt := (Array.getElem?_eq_some_iff.1 hg).1
  have hz := zero_shape_64.1
  go_enter Tryd.func9, Tryd.ntmps9
  go_wp2
  generalize hW : w.alloc (.cells #[.int .i64 64, .int .i64 28, .int .i64 34, .int .i64 39, .int .i64 14, .int .i64 18, .int .i64 41, .int .i64 1, .int .i64 8, .int .i64 7, .int .i64 19, .int .i64 61, .int .i64 6, .int .u64 18446744073709551615] 42) = w0
  have hm : w0.heap[w.heap.size]? = some (.cells #[.int .i64 64, .int .i64 28, .int .i64 34, .int .i64 39, .int .i64 14, .int .i64 18, .int .i64 41, .int .i64 1, .int .i64 8, .int .i64 7, .int .i64 19, .int .i64 61, .int .i64 6, .int .u64 18446744073709551615] 42) := by rw [← hW]; exact heap_alloc_new _ _
  have hb0 : Below w.heap.size w w0 := by rw [← hW]; exact (Below.refl _ _).alloc (Nat.le_refl _) _
  have hs0 : w.heap.size < w0.heap.size := (Array.getElem?_eq_some_iff.1 hm).1
  clear hW hz
  have hg0 := (hb0.block g hglt).trans hg
  have R0 : ∀ w', Below w0.heap.size w0 w' → w'.cell? ⟨w.heap.size, 0, none⟩ = some (.int .i64 64) := fun w' q => (q.cell (by show w.heap.size < w0.heap.size; omega)).trans ((cell_of_row w0 w.heap.size 0 _ _ _ hm).trans rfl)
  have R1 : ∀ w', Below w0.heap.size w0 w' → w'.cell? ⟨w.heap.size, 1, none⟩ = some (.int .i64 28) := fun w' q => (q.cell (by show w.heap.size < w0.heap.size; omega)).trans ((cell_of_row w0 w.heap.size 1 _ _ _ hm).trans rfl)
  have R2 : ∀ w', Below w0.heap.size w0 w' → w'.cell? ⟨w.heap.size, 2, none⟩ = some (.int .i64 34) := fun w' q => (q.cell (by show w.heap.size < w0.heap.size; omega)).trans ((cell_of_row w0 w.heap.size 2 _ _ _ hm).trans rfl)
  have R3 : ∀ w', Below w0.heap.size w0 w' → w'.cell? ⟨w.heap.size, 3, none⟩ = some (.int .i64 39) := fun w' q => (q.cell (by show w.heap.size < w0.heap.size; omega)).trans ((cell_of_row w0 w.heap.size 3 _ _ _ hm).trans rfl)
  have R4 : ∀ w', Below w0.heap.size w0 w' → w'.cell? ⟨w.heap.size, 4, none⟩ = some (.int .i64 14) := fun w' q => (q.cell (by show w.heap.size < w0.heap.size; omega)).trans ((cell_of_row w0 w.heap.size 4 _ _ _ hm).trans rfl)
  have R5 : ∀ w', Below w0.heap.size w0 w' → w'.cell? ⟨w.heap.size, 5, none⟩ = some (.int .i64 18) := fun w' q => (q.cell (by show w.heap.size < w0.heap.size; omega)).trans ((cell_of_row w0 w.heap.size 5 _ _ _ hm).trans rfl)
  have R6 : ∀ w', Below w0.heap.size w0 w' → w'.cell? ⟨w.heap.size, 6, none⟩ = some (.int .i64 41) := fun w' q => (q.cell (by show w.heap.size < w0.heap.size; omega)).trans ((cell_of_row w0 w.heap.size 6 _ _ _ hm).trans rfl)
  have R7 : ∀ w', Below w0.heap.size w0 w' → w'.cell? ⟨w.heap.size, 7, none⟩ = some (.int .i64 1) := fun w' q => (q.cell (by show w.heap.size < w0.heap.size; omega)).trans ((cell_of_row w0 w.heap.size 7 _ _ _ hm).trans rfl)
  have R8 : ∀ w', Below w0.heap.size w0 w' → w'.cell? ⟨w.heap.size, 8, none⟩ = some (.int .i64 8) := fun w' q => (q.cell (by show w.heap.size < w0.heap.size; omega)).trans ((cell_of_row w0 w.heap.size 8 _ _ _ hm).trans rfl)
  have R9 : ∀ w', Below w0.heap.size w0 w' → w'.cell? ⟨w.heap.size, 9, none⟩ = some (.int .i64 7) := fun w' q => (q.cell (by show w.heap.size < w0.heap.size; omega)).trans ((cell_of_row w0 w.heap.size 9 _ _ _ hm).trans rfl)
  have R10 : ∀ w', Below w0.heap.size w0 w' → w'.cell? ⟨w.heap.size, 10, none⟩ = some (.int .i64 19) := fun w' q => (q.cell (by show w.heap.size < w0.heap.size; omega)).trans ((cell_of_row w0 w.heap.size 10 _ _ _ hm).trans rfl)
  have R11 : ∀ w', Below w0.heap.size w0 w' → w'.cell? ⟨w.heap.size, 11, none⟩ = some (.int .i64 61) := fun w' q => (q.cell (by show w.heap.size < w0.heap.size; omega)).trans ((cell_of_row w0 w.heap.size 11 _ _ _ hm).trans rfl)
  have R12 : ∀ w', Below w0.heap.size w0 w' → w'.cell? ⟨w.heap.size, 12, none⟩ = some (.int .i64 6) := fun w' q => (q.cell (by show w.heap.size < w0.heap.size; omega)).trans ((cell_of_row w0 w.heap.size 12 _ _ _ hm).trans rfl)
  have R13 : ∀ w', Below w0.heap.size w0 w' → w'.cell? ⟨w.heap.size, 13, none⟩ = some (.int .u64 18446744073709551615) := fun w' q => (q.cell (by show w.heap.size < w0.heap.size; omega)).trans ((cell_of_row w0 w.heap.size 13 _ _ _ hm).trans rfl)
  have T0 : ∀ w', Below w0.heap.size w0 w' → w'.cell? ⟨g, 2, none⟩ = some sv := fun w' q => (q.cell (by show g < w0.heap.size; omega)).trans ((cell_of_row w0 g 2 _ _ _ hg0).trans rfl)
  have T1 : ∀ w', Below w0.heap.size w0 w' → w'.cell? ⟨g, 3, none⟩ = some cv := fun w' q => (q.cell (by show g < w0.heap.size; omega)).trans ((cell_of_row w0 g 3 _ _ _ hg0).trans rfl)
  have q1 := hsv.all hb0
  have q2 : RowN w0 cv (cu.take 80) := hcv.all hb0
  have HQ := hide (And.intro q1 q2)
  clear q1 q2 hg hg0 hm hsv hcf hcv
  go_region_held3 (fun w' => Below w0.heap.size w0 w')
    (first | exact hwr | exact (Below.refl _ w0).drew)
    ((go_at_call 15; refine (rsum64 s sv cv _ ((unhide HQ).1.all (Below.refl _ w0).drew) ((unhide HQ).2.all (Below.refl _ w0).drew) hs).mono ?_; rintro e1 w1 ⟨rfl, hb1⟩; have hwr : Below w0.heap.size w0 w1 := (Below.refl _ w0).drew.trans hb1))
  go_wp2
  go_ret
  exact ⟨rfl, hb0.trans (hwr.mono (by omega))⟩
theorem rsum256_ex (s : ByteArray) (w : World) (g : Nat) (hT : Tab w g) (hs : s.size < 140737488355000) :
    Calls Tryd.prog 7 #[.pointer (some ⟨g, 0, none⟩), .string s] w fun e w' => ∃ y : ByteArray, e = .returned (.string y) ∧ y.size = 32 ∧ Hid (y.data.toList = sumF m256 s.data.toList) ∧ Below w.heap.size w w' :=
  (rtop_32 s w g hT hs).mono fun e w' h => ⟨_, h.1, by show (sumF m256 s.data.toList).toArray.size = 32; simp [sumF_256], rfl, h.2⟩
theorem rsum512_ex (s : ByteArray) (w : World) (g : Nat) (hT : Tab w g) (hs : s.size < 140737488355000) :
    Calls Tryd.prog 9 #[.pointer (some ⟨g, 0, none⟩), .string s] w fun e w' => ∃ y : ByteArray, e = .returned (.string y) ∧ y.size = 64 ∧ Hid (y.data.toList = sumF m512 s.data.toList) ∧ Below w.heap.size w w' :=
  (rtop_64 s w g hT hs).mono fun e w' h => ⟨_, h.1, by show (sumF m512 s.data.toList).toArray.size = 64; simp [sumF_512], rfl, h.2⟩
end Go.Proofs.YtgaddifabjoliaaDoor
