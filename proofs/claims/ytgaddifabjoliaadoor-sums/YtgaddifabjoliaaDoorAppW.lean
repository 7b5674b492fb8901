import Derived.Test.YtgaddifabjoliaaDoorSched
import Derived.OwnWalk
import Derived.ArgAppend
import Derived.Laws.IdiomStrings
import Derived.Deep.Light
import Derived.Lib.BufferRead
namespace Go.Proofs.YtgaddifabjoliaaDoor
open Go.RowKit

theorem be_length (x : Nat) : ∀ n, (be x n).length = n
  | 0 => rfl
  | n + 1 => by simp [be, be_length x n]
theorem be_take (x : Nat) : ∀ (m j : Nat), j < m → (be x m).take (j + 1) = (be x m).take j ++ [UInt8.ofNat (x / 256 ^ (m - 1 - j))]
  | 0, j, h => by omega
  | m + 1, 0, _ => by simp [be]
  | m + 1, j + 1, h => by
    have ih := be_take x m j (by omega)
    have e : m + 1 - 1 - (j + 1) = m - 1 - j := by omega
    rw [be, List.take_succ_cons, List.take_succ_cons, ih, e]
    rfl

/-- v is a slice of bytes, acc, in a block that is at B or beyond; no place of it may not be written. -/
def OwnB (B : Nat) (w : World) (v : Value) (acc : List UInt8) : Prop :=
  ∃ g cap cur fz, v = .slice (some ⟨g, 0, none⟩) acc.length cap ∧ B ≤ g ∧ w.heap[g]? = some (.cells cur 5 fz) ∧ (fz.2 ≤ fz.1 ∨ cap ≤ fz.1) ∧ acc.length ≤ cap ∧ cur.size = cap ∧ cur.toList.take acc.length = Lib.byteCells acc

theorem OwnB.below {B C : Nat} {w w' : World} {v : Value} {acc : List UInt8} (h : OwnB B w v acc) (hb : Below C w w') (hC : ∀ g, v.ownBlock = some g → g < C) : OwnB B w' v acc := by
  obtain ⟨g, cap, cur, fz, rfl, h2, h3, h4⟩ := h
  exact ⟨g, cap, cur, fz, rfl, h2, (hb.block g (hC g rfl)).trans h3, h4⟩
theorem OwnB.all {B : Nat} {w w' : World} {v : Value} {acc : List UInt8} (h : OwnB B w v acc) (hb : Below w.heap.size w w') : OwnB B w' v acc := by
  obtain ⟨g, cap, cur, fz, rfl, h2, h3, h4⟩ := h
  exact ⟨g, cap, cur, fz, rfl, h2, (hb.block g (Array.getElem?_eq_some_iff.1 h3).1).trans h3, h4⟩
theorem OwnB.alloc {B : Nat} {w : World} {v : Value} {acc : List UInt8} (h : OwnB B w v acc) (o : Obj) : OwnB B (w.alloc o) v acc := h.all ((Below.refl _ _).alloc (Nat.le_refl _) _)
theorem OwnB.form {B : Nat} {w : World} {v : Value} {acc : List UInt8} (h : OwnB B w v acc) : ∃ g cap, v = .slice (some ⟨g, 0, none⟩) acc.length cap ∧ g < w.heap.size := by
  obtain ⟨g, cap, cur, fz, rfl, h2, h3, h4⟩ := h
  exact ⟨g, cap, rfl, (Array.getElem?_eq_some_iff.1 h3).1⟩

/-- '[]byte(s)' owns what it made. -/
theorem ownB_bytes (w : World) (s : ByteArray) : OwnB w.heap.size (w.drew.alloc (.cells (bytesRow s (grownCap w s.size 0 5)) 5 ((bytesRow s (grownCap w s.size 0 5)).size, (bytesRow s (grownCap w s.size 0 5)).size + 1))) (.slice (some ⟨w.heap.size, 0, none⟩) s.size (grownCap w s.size 0 5)) s.data.toList := by
  have hge := grownCap_ge w s.size 0 5
  have hsz : (bytesRow s (grownCap w s.size 0 5)).size = grownCap w s.size 0 5 := by
    simp only [bytesRow, Array.size_append, Array.size_map, Array.size_replicate]
    show s.size + _ = _
    omega
  refine ⟨w.heap.size, _, _, _, rfl, Nat.le_refl _, heap_alloc_new w.drew _, Or.inr (by rw [hsz]; exact Nat.le_refl _), hge, hsz, ?_⟩
  simp only [bytesRow, Array.toList_append, Array.toList_map]
  rw [List.take_left' (by simp)]
  rfl

/-- A row of bytes, as a text. -/
theorem OwnB.text {B : Nat} {w : World} {v : Value} {acc : List UInt8} (h : OwnB B w v acc) : (convert 45 9 v).run Tryd.prog w = .ok (.string ⟨acc.toArray⟩) w := by
  obtain ⟨g, cap, cur, fz, rfl, _, hg, _, _, _, htk⟩ := h
  exact run_convert_bytes_back w 45 9 5 ⟨g, 0, none⟩ cap acc Tryd.underlying45 Tryd.underlying5 Tryd.underlying9 (Lib.bytes_of_row hg htk)

theorem one_cell (w : World) (v : Value) (t : TypeId) : ∀ (j : Nat) (u : Value), [v][j]? = some u → (w.alloc (.cells #[v] t)).cell? ((⟨w.heap.size, 0, none⟩ : Addr).add j) = some u := by
  intro j u h
  cases j with
  | zero =>
    simp only [List.getElem?_cons_zero, Option.some.injEq] at h
    subst h
    exact (cell_of_row _ _ 0 _ _ _ (heap_alloc_new w _)).trans rfl
  | succ j => simp at h

theorem info_u8 : (Tryd.prog.info? 5).map (fun i => (i.zero, i.size, i.bytes)) = some (some (.int .u8 0), 1, 1) := by kernel_rfl

theorem byte_conv (x p : Nat) (b : Nat) (hb : b = x / 2 ^ p % 256) : IntKind.u8.wrap ((x : Int) / 2 ^ p) = (b : Int) := by
  rw [IntKind.wrap_u8, hb]; simp


theorem wpList_append_byte {ops : Array Oper} {rest : List Oper} {o : Oper} {a : Act} {w : World} {Q : Exit → Act → World → Prop} (hgd : o.guard = none) (s x : Operand)
    (hop : o.op = Op.call { callee := Callee.builtin Builtin.append, args := #[s, x], argTypes := #[45, 45] })
    (B : Nat) (v : Value) (acc : List UInt8) (hs : a.eval s = v) (hown : OwnB B w v acc) (ad : Addr) (b : Nat) (hb : b < 256) (hx : a.eval x = .slice (some ad) 1 1) (hc : ∀ (j : Nat) (u : Value), [Value.int .u8 (b : Int)][j]? = some u → w.cell? (ad.add j) = some u)
    (hlen : acc.length < 2 ^ 47) (hB : B ≤ w.heap.size)
    (h : ∀ v' w', OwnB B w' v' (acc ++ [UInt8.ofNat b]) → Below B w w' → wpList Tryd.prog ops Q rest (a.put o.dst v') w') : wpList Tryd.prog ops Q (o :: rest) a w := by
  obtain ⟨j0, hj, hy0, hy1, hy2⟩ := info_parts info_u8
  obtain ⟨g, cap, cur, fz, rfl, hBg, hg, hfz, hle, hsz, htk⟩ := hown
  have e1 : ((UInt8.ofNat b).toNat : Nat) = b := by rw [UInt8.toNat_ofNat']; exact Nat.mod_eq_of_lt hb
  have e2 : Lib.byteCells (acc ++ [UInt8.ofNat b]) = Lib.byteCells acc ++ [.int .u8 (b : Int)] := by
    rw [Lib.byteCells_append]
    have : Lib.byteCells [UInt8.ofNat b] = [.int .u8 (b : Int)] := by simp only [Lib.byteCells, List.map_cons, List.map_nil, e1]
    rw [this]
  refine wpList_append_arg w hgd s x 45 hop 5 j0 (.int .u8 0) 1 1 Tryd.underlying45 hj hy0 hy1 hy2 rfl (by decide) g 0 acc.length cap (Lib.byteCells acc) hs (by rw [Lib.byteCells_length, Nat.mul_one]) ?_ ad 1 1 [.int .u8 (b : Int)] hx rfl hc ?_ ?_ (by unfold maxLen; omega) (by omega) ?_ ?_
  · intro j u hu
    rw [Nat.zero_add, cell_of_row w g j cur _ fz hg]
    have hjl : j < acc.length := by
      have := (List.getElem?_eq_some_iff.1 hu).1
      rwa [Lib.byteCells_length] at this
    rw [← htk, List.getElem?_take_of_lt hjl] at hu
    simpa using hu
  · intro u hu; simp only [List.mem_singleton] at hu; subst hu; rfl
  · intro hroom j hj'
    have hj0 : j = 0 := by simpa using hj'
    subst hj0
    have hlt : acc.length < cur.size := by omega
    refine ⟨?_, ?_⟩
    · rw [cell_of_row w g _ cur _ fz hg, Array.getElem?_eq_getElem (by omega)]; rfl
    · simp only [World.frozen?, hg]
      rcases hfz with hfz | hfz
      · simp; omega
      · simp; omega
  · intro hroom
    have hlt : acc.length < cur.size := by omega
    have hset : w.setCells g (0 + acc.length * 1) [.int .u8 (b : Int)] = w.setRow g (cur.setIfInBounds acc.length (.int .u8 (b : Int))) := by
      rw [Nat.zero_add, Nat.mul_one]
      exact setCell_eq_setRow w g acc.length cur _ fz _ hg
    rw [hset]
    refine h _ _ ⟨g, cap, _, fz, by simp, hBg, heap_setRow_same hg, hfz, by simp; omega, by simp [hsz], ?_⟩ (below_setRow (Below.refl _ _) hBg _)
    rw [e2, ← htk]
    simp only [List.length_append, List.length_cons, List.length_nil, Array.toList_setIfInBounds]
    rw [List.take_succ_eq_append_getElem (by simpa using hlt)]
    congr 1
    · rw [List.take_set_of_le (Nat.le_refl _)]
    · simp
  · intro hno v' w' ho hgr
    rcases ho.2 with ⟨_, h0⟩ | ⟨g', cap', cur', hv', hBg', hg', hle', hmx, hcs, htk'⟩
    · omega
    · refine h _ _ ⟨g', cap', cur', (0, 0), ?_, by omega, hg', Or.inl (Nat.le_refl _), ?_, by omega, ?_⟩ ((Below.refl _ _).grown hgr hB (fun k hk => by cases hk))
      · rw [hv']; simp
      · simp; omega
      · rw [e2, ← htk']; simp

set_option maxHeartbeats 1000000 in
theorem append_word (B : Nat) (v : Value) (acc : List UInt8) (x m : Nat) (w : World) (hB : B ≤ w.heap.size) (_hx : x < 18446744073709551616) (hm : m ≤ 8) (hlen : acc.length ≤ 2 ^ 40)
    (hown : OwnB B w v acc) :
    Calls Tryd.prog 24 #[v, .int .u64 x, .int .i64 (8 * (m : Int))] w fun e w' => ∃ v', e = .returned v' ∧ OwnB B w' v' (acc ++ be x m) ∧ Below B w w' := by
  go_enter Tryd.func24, Tryd.ntmps24
  go_wp2
  go_loopw [0, 7] (fun out i wr => ∃ (k : Nat) (got : List UInt8), k ≤ m ∧ i = .int .i64 (8 * (m : Int) - 8 * (k : Int) - 8) ∧ got.length ≤ acc.length + k ∧ OwnB B wr out got ∧ Below B w wr ∧ Hid (got = acc ++ (be x m).take k)) (fun _ i _ => (intOf i + 8).toNat)
  case atStart => exact ⟨0, acc, by omega, by go_num, by omega, hown, Below.refl _ _, by show _ = _; simp⟩
  case round =>
    obtain ⟨k, got, hk, rfl, hgl, hob, hbw, hgot⟩ := hrel
    have hBw := hbw.size
    by_cases hlt : k < m
    · obtain ⟨p, hp⟩ : ∃ p : Nat, p = 8 * (m - 1 - k) := ⟨_, rfl⟩
      have hpe : (8 * (m : Int) - 8 * (k : Int) - 8) = (p : Int) := by omega
      have hp64 : p < 64 := by omega
      obtain ⟨b, hbb⟩ : ∃ b : Nat, b = x / 2 ^ p % 256 := ⟨_, rfl⟩
      have hb256 : b < 256 := by omega
      have hcv := byte_conv x p b hbb
      have hcv' : (x : Int) / 2 ^ p % 256 = (b : Int) := by rw [← hcv, IntKind.wrap_u8]
      have HB : Hid (UInt8.ofNat b = UInt8.ofNat (x / 256 ^ (m - 1 - k))) := by
        show _ = _
        have e1 : (2 : Nat) ^ p = 256 ^ (m - 1 - k) := by rw [hp, Nat.pow_mul]
        rw [hbb, e1]
        apply UInt8.toNat_inj.1
        simp
      have HP := hide hp
      have HBB := hide hbb
      clear hp hbb
      rw [hpe]
      go_wp2_with (at_builtin; refine wpList_append_byte (by rfl) _ _ (by rfl) B _ got (by rfl) (hob.alloc _) ⟨wr.heap.size, 0, none⟩ b hb256 (by rfl) (one_cell _ _ _) (by omega) (by simp; omega) ?_)
      intro v' w1 hown' hgrow
      have R : OwnB B w1 v' (got ++ [UInt8.ofNat b]) ∧ Below B w w1 := ⟨hown', (hbw.alloc (Nat.le_trans hB hBw) _).trans hgrow⟩
      clear hown' hgrow hob
      go_wp2
      go_roundw
      case rel =>
        refine ⟨k + 1, got ++ [UInt8.ofNat b], by omega, ?_, by simp; omega, R.1, R.2, ?_⟩
        · have := unhide HP
          refine congrArg (Value.int .i64) ?_
          go_light
          omega
        · show _ = _
          rw [be_take x m k hlt, ← List.append_assoc, ← unhide hgot, unhide HB]
      case measure =>
        have := unhide HP
        go_light
        simp [intOf] <;> omega
    · have hke : k = m := by omega
      have hg2 : got = acc ++ be x m := by
        have h1 := unhide hgot
        rw [hke, List.take_of_length_le (by rw [be_length]; omega)] at h1
        exact h1
      clear hgot
      subst hg2
      have HO := hide hob
      clear hob
      go_wp2
      go_ret
      exact ⟨_, rfl, unhide HO, hbw⟩
end Go.Proofs.YtgaddifabjoliaaDoor
