import Derived.Test.YtgaddifabjoliaaRefEnc
import Derived.Lib.BufferRead
namespace Go.Proofs.Ytgaddifabjoliaa
open Go.RowKit

/-- The last place of a byte among the first m letters, or -1. -/
def lastAt (c : UInt8) : Nat → Int
  | 0 => -1
  | m + 1 => if letter m = c then (m : Int) else lastAt c m

theorem lastAt_none (c : UInt8) (h : place c = none) : ∀ m, m ≤ 64 → lastAt c m = -1
  | 0, _ => rfl
  | m + 1, hm => by
    have : ¬ letter m = c := by
      intro e
      have := place_letter m (by omega)
      rw [e, h] at this
      cases this
    simp only [lastAt, if_neg this]
    exact lastAt_none c h m (by omega)

theorem lastAt_some (c : UInt8) (v : Nat) (h : place c = some v) : ∀ m, m ≤ 64 → lastAt c m = if v < m then (v : Int) else -1
  | 0, _ => by simp [lastAt]
  | m + 1, hm => by
    have ih := lastAt_some c v h m (by omega)
    have hv := place_some c v h
    simp only [lastAt]
    by_cases e : letter m = c
    · have : m = v := letter_inj m v (by omega) hv.1 (by rw [e, hv.2])
      rw [if_pos e, if_pos (by omega)]; omega
    · have : m ≠ v := fun e2 => e (by rw [e2]; exact hv.2)
      rw [if_neg e, ih]
      by_cases hlt : v < m
      · rw [if_pos hlt, if_pos (by omega)]
      · rw [if_neg hlt, if_neg (by omega)]

theorem lastAt_ge (c : UInt8) : ∀ m, -1 ≤ lastAt c m ∧ lastAt c m < m
  | 0 => by simp [lastAt]
  | m + 1 => by
    have := lastAt_ge c m
    simp only [lastAt]
    split <;> omega

def ints (l : List Nat) : List Value := l.map fun (x : Nat) => Value.int .i64 (x : Int)

theorem ints_append (a b : List Nat) : ints (a ++ b) = ints a ++ ints b := by simp [ints]
theorem ints_length (a : List Nat) : (ints a).length = a.length := by simp [ints]

theorem Try.infoInt : (Try.prog.info? 3).map (fun i => (i.zero, i.size, i.bytes)) = some (some (.int .i64 0), 1, 8) := by kernel_rfl
theorem Try.infoByte : (Try.prog.info? 5).map (fun i => (i.zero, i.size, i.bytes)) = some (some (.int .u8 0), 1, 1) := by kernel_rfl

theorem owns_drewN {w : World} {B : Nat} {e : TypeId} {v : Value} {n : Nat} {xs : List Value} (q : Nat) (h : w.ownsRow B e 1 v n xs) : (w.drewN q).ownsRow B e 1 v n xs := h

theorem take_bit (u m : Nat) (hm : m < 6) : (bitsN 6 u).take (m + 1) = (bitsN 6 u).take m ++ [u / 2 ^ (5 - m) % 2] := by
  have hcs : m = 0 ∨ m = 1 ∨ m = 2 ∨ m = 3 ∨ m = 4 ∨ m = 5 := by omega
  rcases hcs with rfl | rfl | rfl | rfl | rfl | rfl <;> simp [bitsN]

theorem bit_tmod (u e : Nat) : (((u : Int) / 2 ^ e).tmod 2) = ((u / 2 ^ e % 2 : Nat) : Int) := by
  have h1 : ((u : Int) / 2 ^ e) = ((u / 2 ^ e : Nat) : Int) := by simp
  rw [h1, Int.tmod_eq_emod_of_nonneg (Int.natCast_nonneg _)]
  simp

/-- What an append of one bit leaves. -/
theorem rel_bit {B : Nat} {w wr w1 : World} {v v' : Value} {vs : List Nat} {u m : Nat} {o : Obj} (hm : m < 6) (hB : B ≤ wr.heap.size)
    (hown : wr.ownsRow B 3 1 v (6 * vs.length + m) (ints (bits6 vs ++ (bitsN 6 u).take m))) (hbw : Below B w wr)
    (hown' : w1.ownsRow B 3 1 v' (6 * vs.length + m + 1) (ints (bits6 vs ++ (bitsN 6 u).take m) ++ [.int .i64 (((u : Int) / 2 ^ (5 - m)).tmod 2)]))
    (hgrow : (wr.alloc o).grownBy w1 v.ownBlock) :
    w1.ownsRow B 3 1 v' (6 * vs.length + (m + 1)) (ints (bits6 vs ++ (bitsN 6 u).take (m + 1))) ∧ Below B w w1 := by
  constructor
  · rw [bit_tmod] at hown'
    rw [take_bit u m hm, ← List.append_assoc, ints_append]
    exact hown'
  · exact (hbw.alloc hB o).grown hgrow (by simp; omega) (fun k hk => (hown.lt k hk).1)

theorem all_bits (vs : List Nat) (u : Nat) : bits6 vs ++ (bitsN 6 u).take 6 = bits6 (vs ++ [u]) := by
  rw [bits6_append, List.take_of_length_le (by rw [bitsN_length]; omega)]
  simp [bits6]

theorem pv_eight (L : List Nat) (i : Nat) : pv L i 8 = val [L.getD i 0, L.getD (i + 1) 0, L.getD (i + 2) 0, L.getD (i + 3) 0, L.getD (i + 4) 0, L.getD (i + 5) 0, L.getD (i + 6) 0, L.getD (i + 7) 0] := by
  simp [pv, val]

theorem pack_getD : ∀ m : List Nat, 8 ≤ m.length → pack m = UInt8.ofNat (val [m.getD 0 0, m.getD 1 0, m.getD 2 0, m.getD 3 0, m.getD 4 0, m.getD 5 0, m.getD 6 0, m.getD 7 0]) :: pack (m.drop 8)
  | a :: b :: c :: d :: e :: f :: g :: h :: r, _ => by simp [pack]
  | [], h => by simp at h
  | [_], h => by simp at h
  | [_, _], h => by simp at h
  | [_, _, _], h => by simp at h
  | [_, _, _, _], h => by simp at h
  | [_, _, _, _, _], h => by simp at h
  | [_, _, _, _, _, _], h => by simp at h
  | [_, _, _, _, _, _, _], h => by simp at h

theorem pack_drop (l : List Nat) (i : Nat) (h : i + 8 ≤ l.length) : pack (l.drop i) = UInt8.ofNat (pv l i 8) :: pack (l.drop (i + 8)) := by
  rw [pack_getD (l.drop i) (by simp; omega), pv_eight]
  simp [List.getD_eq_getElem?_getD, List.getElem?_drop, List.drop_drop]

theorem own_ne {w : World} {B B' : Nat} {v u : Value} {n m : Nat} {xs ys : List Value} (h1 : w.ownsRow B 3 1 v n xs) (h2 : w.ownsRow B' 5 1 u m ys) : v.ownBlock = none ∨ v.ownBlock ≠ u.ownBlock := by
  rcases h1.2 with ⟨rfl, _⟩ | ⟨g, cap, cur, rfl, _, hg, _⟩
  · exact Or.inl rfl
  · refine Or.inr ?_
    rcases h2.2 with ⟨rfl, _⟩ | ⟨g', cap', cur', rfl, _, hg', _⟩
    · simp [Value.ownBlock]
    · simp only [Value.ownBlock, ne_eq, Option.some.injEq]
      intro e
      rw [e, hg'] at hg
      simp at hg

/-- What an append of one byte leaves. -/
theorem rel_byte {B : Nat} {w wr w1 : World} {v u v' : Value} {xs : List Value} {acc : List UInt8} {k x : Nat} {o : Obj} (hx : x < 256) (hB : B ≤ wr.heap.size)
    (hbits : wr.ownsRow B 3 1 u k xs) (hown : wr.ownsRow B 5 1 v acc.length (Lib.byteCells acc)) (hbw : Below B w wr)
    (hown' : w1.ownsRow B 5 1 v' (acc.length + 1) (Lib.byteCells acc ++ [.int .u8 (x : Int)]))
    (hgrow : (wr.alloc o).grownBy w1 v.ownBlock) :
    w1.ownsRow B 5 1 v' (acc ++ [UInt8.ofNat x]).length (Lib.byteCells (acc ++ [UInt8.ofNat x])) ∧ w1.ownsRow B 3 1 u k xs ∧ Below B w w1 := by
  have e : ((UInt8.ofNat x).toNat : Nat) = x := by rw [UInt8.toNat_ofNat']; exact Nat.mod_eq_of_lt hx
  refine ⟨?_, ?_, ?_⟩
  · rw [Lib.byteCells_append, List.length_append]
    have : Lib.byteCells [UInt8.ofNat x] = [.int .u8 (x : Int)] := by simp only [Lib.byteCells, List.map_cons, List.map_nil, e]
    rw [this]
    exact hown'
  · exact (hbits.alloc o).kept hgrow (own_ne hbits hown)
  · exact (hbw.alloc hB o).grown hgrow (by simp; omega) (fun k hk => (hown.lt k hk).1)

/-- A row of bytes, as a text. -/
theorem conv_row {B : Nat} {w : World} {v : Value} {acc : List UInt8} (h : w.ownsRow B 5 1 v acc.length (Lib.byteCells acc)) : (convert 28 9 v).run Try.prog w = .ok (.string ⟨acc.toArray⟩) w := by
  rcases h.2 with ⟨rfl, h0⟩ | ⟨g, cap, cur, rfl, _, hg, _, _, _, htk⟩
  · have : acc = [] := List.length_eq_zero_iff.1 h0
    subst this
    exact Lib.run_convert_nil_bytes w 28 9 5 0 Try.underlying28 Try.underlying5 Try.underlying9
  · exact run_convert_bytes_back w 28 9 5 ⟨g, 0, none⟩ cap acc Try.underlying28 Try.underlying5 Try.underlying9 (Lib.bytes_of_row hg (by rw [Nat.mul_one] at htk; exact htk))

theorem refEncode_to (b x : ByteArray) (w : World) (hb : b.size ≤ 8388608) (hx : x.data.toList = enc b.data.toList) :
    Calls Try.prog 8 #[.string b] w fun e w' => e = .returned (.string x) ∧ w' = w := by
  have h := refEncode_any b w hb
  rw [text_eq hx] at h
  exact h

theorem bit_cell {B : Nat} {w : World} {g n cap : Nat} {L : List Nat} (h : w.ownsRow B 3 1 (.slice (some ⟨g, 0, none⟩) n cap) n (ints L)) (k : Nat) (hk : k < L.length) : w.cell? ⟨g, k, none⟩ = some (.int .i64 (L.getD k 0 : Int)) := by
  have := h.cells (g := g) rfl k (.int .i64 (L.getD k 0 : Int)) (by simp [ints, List.getElem?_eq_getElem hk])
  have e : (⟨g, 0, none⟩ : Addr).add k = ⟨g, k, none⟩ := by cases k <;> simp [Addr.add]
  rw [e] at this
  exact this

set_option maxHeartbeats 1000000 in
theorem refDecode_any (s : ByteArray) (w : World) (hs : s.size ≤ 8388608) :
    Calls Try.prog 7 #[.string s] w fun e w' => e = .returned (.tuple #[.string ⟨(outB s.data.toList).toArray⟩, .int .i64 (outE s.data.toList)]) ∧ Below w.heap.size w w' := by
  obtain ⟨i0, hi, hz0, hz1, hz2⟩ := info_parts Try.infoInt
  obtain ⟨j0, hj, hy0, hy1, hy2⟩ := info_parts Try.infoByte
  go_enter Try.func7, Try.ntmps7
  go_wp2
  go_loopw [4, 5] (fun bits i wr => ∃ (n : Nat) (vs : List Nat), n ≤ s.size ∧ i = .int .i64 n ∧ vs.length ≤ n ∧ wr.ownsRow w.heap.size 3 1 bits (6 * vs.length) (ints (bits6 vs)) ∧ Below w.heap.size w wr ∧ Hid (places (s.data.toList.take n) = some vs)) (fun _ i _ => s.size - (intOf i).toNat)
  case atStart => exact ⟨0, [], Nat.zero_le _, rfl, by simp, World.ownsRow_nil w w.heap.size 3 1, Below.refl _ _, rfl⟩
  case round =>
    obtain ⟨n, vs, hn, rfl, hvl, hown, hbw, hpl⟩ := hrel
    by_cases hlt : n < s.size
    · go_wp2
      go_loopw [6, 7] (fun v k wq => ∃ (m q : Nat), m ≤ 64 ∧ k = .int .i64 m ∧ v = .int .i64 (lastAt s[n] m) ∧ wq = wr.drewN q) (fun _ k _ => 64 - (intOf k).toNat)
      case atStart => exact ⟨0, 0, by omega, rfl, rfl, rfl⟩
      case round =>
        obtain ⟨m, q, hm, rfl, rfl, rfl⟩ := hrel
        by_cases hm64 : m < 64
        · have hsx := sixes_at m hm64
          have HSX := hide hsx
          by_cases hc : letter m = s[n]
          · have hq : ((((ByteArray.mk #[65, 66, 67, 68, 69, 70, 71, 72, 73, 74, 75, 76, 77, 78, 79, 80, 81, 82, 83, 84, 85, 86, 87, 88, 89, 90, 97, 98, 99, 100, 101, 102, 103, 104, 105, 106, 107, 108, 109, 110, 111, 112, 113, 114, 115, 116, 117, 118, 119, 120, 121, 122, 48, 49, 50, 51, 52, 53, 54, 55, 56, 57, 45, 95])[m]'hm64).toNat : Int) == (s[n].toNat : Int)) = true := by rw [hsx, hc]; simp
            have HL : Hid (lastAt s[n] (m + 1) = m) := by show _ = _; simp only [lastAt, if_pos hc]
            clear hsx hc
            go_wp2
            go_region
            go_wp2
            go_roundw
            case rel => exact ⟨m + 1, q + 1, by omega, by go_num, by rw [unhide HL], rfl⟩
            case measure => simp [intOf]; omega
          · have hq : ((((ByteArray.mk #[65, 66, 67, 68, 69, 70, 71, 72, 73, 74, 75, 76, 77, 78, 79, 80, 81, 82, 83, 84, 85, 86, 87, 88, 89, 90, 97, 98, 99, 100, 101, 102, 103, 104, 105, 106, 107, 108, 109, 110, 111, 112, 113, 114, 115, 116, 117, 118, 119, 120, 121, 122, 48, 49, 50, 51, 52, 53, 54, 55, 56, 57, 45, 95])[m]'hm64).toNat : Int) == (s[n].toNat : Int)) = false := by
              rw [hsx, beq_eq_false_iff_ne]
              intro e
              exact hc (UInt8.toNat_inj.1 (by omega))
            have HL : Hid (lastAt s[n] (m + 1) = lastAt s[n] m) := by show _ = _; simp only [lastAt, if_neg hc]
            clear hsx hc
            go_wp2
            go_region
            go_wp2
            go_roundw
            case rel => exact ⟨m + 1, q + 1, by omega, by go_num, by rw [unhide HL], rfl⟩
            case measure => simp [intOf]; omega
        · have hme : m = 64 := by omega
          subst hme
          cases hp : place s[n] with
          | none =>
            have hla : lastAt s[n] 64 = -1 := lastAt_none s[n] hp 64 (by omega)
            have hmem : s[n] ∈ s.data.toList := by
              have : s.data.toList[n]'(by simpa using hlt) ∈ s.data.toList := List.getElem_mem _
              exact this
            have HD := hide (outB_none (dec_none _ _ hmem hp))
            rw [hla]
            clear hla hmem hp
            go_wp2
            go_ret2
            rw [(unhide HD).1, (unhide HD).2]
            exact ⟨rfl, below_drewN hbw q⟩
          | some u =>
            have hla : lastAt s[n] 64 = u := by rw [lastAt_some s[n] u hp 64 (by omega), if_pos (place_some _ _ hp).1]
            have hu := (place_some _ _ hp).1
            have HP := hide hp
            rw [hla]
            clear hp hla
            go_wp2
            go_loopw [4, 8] (fun bits k wt => ∃ m : Nat, m ≤ 6 ∧ k = .int .i64 (5 - (m : Int)) ∧ wt.ownsRow w.heap.size 3 1 bits (6 * vs.length + m) (ints (bits6 vs ++ (bitsN 6 u).take m)) ∧ Below w.heap.size w wt) (fun _ k _ => (intOf k + 1).toNat)
            case atStart => exact ⟨0, by omega, rfl, by simpa using owns_drewN q hown, below_drewN hbw q⟩
            case round =>
              clear hown hbw
              obtain ⟨m, hm6, rfl, hown, hbw⟩ := hrel
              by_cases hm : m < 6
              · have hBw := hbw.size
                go_wp2_with (at_builtin; refine wpList_append_own _ rfl _ _ 37 rfl w.heap.size 3 i0 (.int .i64 0) 1 8 Try.underlying37 hi hz0 hz1 hz2 rfl (by decide) _ _ _ rfl (hown.alloc _) ⟨wr.heap.size, 0, none⟩ 1 1 [.int .i64 (((u : Int) / 2 ^ (5 - m)).tmod 2)] rfl rfl ?c1 ?c2 ?c3 ?c4 ?c5 ?_)
                case c1 =>
                  intro j x hj
                  match j, hj with
                  | 0, hj => simp at hj; subst hj; simp [Addr.add]
                case c2 => intro x hx; simp at hx; subst hx; rfl
                case c3 => unfold maxLen; omega
                case c4 => omega
                case c5 => simp; omega
                intro v' w1 hown' hgrow _
                have R := rel_bit hm hBw hown hbw hown' hgrow
                clear hown' hgrow hown
                go_wp2
                go_roundw
                case rel => (repeat apply Exists.intro); exact ⟨⟨m + 1, by omega, by go_num, R.1, R.2⟩, rfl⟩
                case measure => simp [intOf]; omega
              · have hme : m = 6 := by omega
                subst hme
                rw [all_bits, show 6 * vs.length + 6 = 6 * (vs ++ [u]).length by simp; omega] at hown
                have HPL : Hid (places (s.data.toList.take (n + 1)) = some (vs ++ [u])) := by
                  show places _ = _
                  have htk : s.data.toList.take (n + 1) = s.data.toList.take n ++ [s[n]] := by
                    rw [List.take_succ_eq_append_getElem (by simpa using hlt)]; rfl
                  rw [htk]; exact places_snoc _ _ _ _ hpl.out (unhide HP)
                go_wp2
                go_roundw
                case rel => exact ⟨n + 1, vs ++ [u], by omega, by go_num, by simp; omega, hown, hbw, HPL⟩
                case measure => simp [intOf]; omega
    · have hne : n = s.size := by omega
      have hpl' : places s.data.toList = some vs := by
        have := hpl.out
        rwa [hne, List.take_of_length_le (by simp)] at this
      have HP := hide hpl'
      clear hpl hpl' hne
      have hL := bits6_lt vs
      have hLl := bits6_length vs
      generalize hLe : bits6 vs = L at hown hL hLl
      have HL := hide hL
      have HLL := hide hLl
      have HLE := hide hLe
      clear hL hLl hLe
      obtain ⟨ao, cap, hv⟩ : ∃ ao cap, u4 = .slice ao (6 * vs.length) cap := by
        rcases hown.2 with ⟨h1, h2⟩ | ⟨g, cap, cur, h1, _⟩
        · exact ⟨none, 0, by rw [h1, h2]⟩
        · exact ⟨_, _, h1⟩
      subst hv
      go_wp2
      go_loopw [9, 10] (fun b i wr => ∃ (p : Nat) (acc : List UInt8), i = .int .i64 p ∧ p ≤ 6 * vs.length ∧ 8 * acc.length ≤ p ∧ wr.ownsRow w.heap.size 3 1 (.slice ao (6 * vs.length) cap) (6 * vs.length) (ints L) ∧ wr.ownsRow w.heap.size 5 1 b acc.length (Lib.byteCells acc) ∧ Below w.heap.size w wr ∧ Hid (acc ++ pack (L.drop p) = pack L)) (fun _ i _ => 6 * vs.length - (intOf i).toNat)
      case atStart => exact ⟨0, [], rfl, by omega, by simp, hown, World.ownsRow_nil wr w.heap.size 5 1, hbw, rfl⟩
      case round =>
        clear hown hbw
        obtain ⟨p, acc, rfl, hp, hal, hown, hob, hbw, hpk⟩ := hrel
        have hBw := hbw.size
        by_cases h8 : p + 8 ≤ 6 * vs.length
        · obtain ⟨g, hg⟩ : ∃ g, ao = some ⟨g, 0, none⟩ := by
            rcases hown.2 with ⟨_, h2⟩ | ⟨g, cap, cur, h1, _⟩
            · omega
            · simp only [Value.slice.injEq] at h1
              exact ⟨g, h1.1⟩
          subst hg
          go_wp2
          go_loop [11, 12] (fun v k => ∃ m : Nat, m ≤ 8 ∧ k = .int .i64 m ∧ v = .int .i64 (pv L p m : Int)) (fun _ k => 8 - (intOf k).toNat)
          case atStart => exact ⟨0, by omega, rfl, rfl⟩
          case round =>
            obtain ⟨m, hm, rfl, rfl⟩ := hrel
            have hpl := pv_lt L (unhide HL) p m
            have hpm : pv L p m < 256 := Nat.lt_of_lt_of_le hpl (Nat.pow_le_pow_right (n := 2) (by decide) hm)
            have hps : pv L p (m + 1) = 2 * pv L p m + L.getD (p + m) 0 := rfl
            have HPS := hide hps
            generalize hpv : pv L p m = x at hpl hpm HPS
            have HPV := hide hpv
            clear hpv hpl hps
            by_cases hm8 : m < 8
            · have hcell := bit_cell hown (p + m) (by rw [unhide HLL]; omega)
              have hbit : L.getD (p + m) 0 < 2 := by
                rw [List.getD_eq_getElem?_getD, List.getElem?_eq_getElem (by rw [unhide HLL]; omega)]
                exact unhide HL _ (List.getElem_mem _)
              generalize L.getD (p + m) 0 = y at hcell hbit HPS
              go_wp2
              go_round
              case rel => exact ⟨m + 1, by omega, by go_num, by rw [unhide HPS]; go_num⟩
              case measure => simp [intOf]; omega
            · have hme : m = 8 := by omega
              subst hme
              have HPK : Hid (acc ++ [UInt8.ofNat x] ++ pack (L.drop (p + 8)) = pack L) := by
                have h1 := hpk.out
                rw [pack_drop L p (by rw [unhide HLL]; omega), unhide HPV] at h1
                show _ = _
                simpa using h1
              clear HPS hpk
              go_wp2_with (at_builtin; refine wpList_append_own _ rfl _ _ 28 rfl w.heap.size 5 j0 (.int .u8 0) 1 1 Try.underlying28 hj hy0 hy1 hy2 rfl (by decide) _ _ _ rfl (hob.alloc _) ⟨wr.heap.size, 0, none⟩ 1 1 [.int .u8 (x : Int)] rfl rfl ?d1 ?d2 ?d3 ?d4 ?d5 ?_)
              case d2 => rfl
              case d3 => unfold maxLen; omega
              case d4 => omega
              case d5 => omega
              intro v' w1 hown' hgrow _
              have R := rel_byte hpm hBw hown hob hbw hown' hgrow
              clear hown' hgrow hown hob
              go_wp2
              go_roundw
              case rel => exact ⟨p + 8, acc ++ [UInt8.ofNat x], by go_num, by omega, by simp; omega, R.2.1, R.1, R.2.2, HPK⟩
              case measure => simp [intOf]; omega
        · have hpe : acc = pack L := by
            have h1 := hpk.out
            rw [(pack_short _).2 (by rw [List.length_drop, unhide HLL]; omega), List.append_nil] at h1
            exact h1
          have hdec : dec s.data.toList = if enc acc = s.data.toList then some acc else none := by
            unfold dec
            rw [unhide HP]
            simp only [unhide HLE]
            rw [hpe]
          have hcv := conv_row hob
          have hacs : (⟨acc.toArray⟩ : ByteArray).size ≤ 8388608 := by show acc.length ≤ _; omega
          have HAC := hide hacs
          clear hpk hpe hacs
          by_cases he : enc acc = s.data.toList
          · rw [if_pos he] at hdec
            have HD := hide (outB_some hdec)
            have HE := hide he
            clear hdec he
            go_wp2_with fail
            refine (refEncode_to ⟨acc.toArray⟩ s _ (unhide HAC) (unhide HE).symm).mono ?_
            rintro e W1 ⟨rfl, rfl⟩
            go_wp2
            go_ret2
            rw [(unhide HD).1, (unhide HD).2]
            exact ⟨rfl, hbw⟩
          · rw [if_neg he] at hdec
            have HD := hide (outB_none hdec)
            have hq : (!(enc acc == s.toList)) = true := by
              rw [Lib.toList_data]
              simpa using he
            clear hdec he
            go_wp2_with fail
            refine (refEncode_any ⟨acc.toArray⟩ _ (unhide HAC)).mono ?_
            rintro e W1 ⟨rfl, rfl⟩
            go_wp2
            go_ret2
            rw [(unhide HD).1, (unhide HD).2]
            exact ⟨rfl, hbw⟩
end Go.Proofs.Ytgaddifabjoliaa
