import Derived.Test.YtgaddifabjoliaaGreatDoorRfE
import Derived.Test.YtgaddifabjoliaaGreatDoorPlC
namespace Go.Proofs.YtgaddifabjoliaaGreatDoor
open Go.RowKit

set_option maxRecDepth 100000 in
set_option maxHeartbeats 40000000 in
theorem value_list (d : Nat) (r : Nat) (s : ByteArray) (i : Nat) (w : World) (h : Rd w r s i false) (hi : i ≤ s.size) (hs : s.size ≤ 4000) (hd : d + 1 ≤ 8) (m : Nat) (hm : i + blanksAt s i = m) (hl : m < s.size) (hc : s[m] = 91) (z : Int) (hz : z = (8 : Int) - ((d + 1 : Nat) : Int)) (IH : ValueIH d r s) :
    Calls Tryz.prog 14 #[.pointer (some ⟨r, 0, none⟩), .int .i64 z] w (ValSays (d + 1) r s i w) := by
  have hms : m ≤ s.size := by rw [← hm]; exact blanks_le s i hi
  have him : i ≤ m := by omega
  have hb0 : blanksAt s m = 0 := by rw [← hm]; exact skip_idem s i hi
  have HNW := hide (fun q => word3_not q s m hl (Or.inl hc))
  have HIH := hide IH
  have HZZ := hide hz
  have hz0 : (0 : Int) ≤ z := by omega
  have hz8 : z ≤ 8 := by omega
  clear IH hz
  have HL := hide (show skipB (s.data.toList.drop i) = s.data.toList.drop m by rw [← hm]; exact (skip_at s i).symm)
  have HB0 := hide hb0
  have HCH := hide hc
  have hrl := h.cells.2.2
  have hne : w.heap.size ≠ r := by omega
  have hrd1 := (h.later ((Below.refl _ w).alloc (Nat.le_refl _) (.cells #[.int .u8 0, .string ⟨#[]⟩, nilV, nilV] 37)))
  have hrd := hrd1.later ((Below.refl _ _).alloc (Nat.le_refl _) (.cells #[.string ⟨#[110, 117, 108, 108]⟩, .string ⟨#[116, 114, 117, 101]⟩, .string ⟨#[102, 97, 108, 115, 101]⟩] 9))
  have HRD := hide hrd
  have HM := hide hm
  have hbx : boxV w.heap.size 0 ⟨#[]⟩ nilV nilV (w.alloc (.cells #[.int .u8 0, .string ⟨#[]⟩, nilV, nilV] 37)) := by
    show (w.heap.push _)[_]? = _
    exact Array.getElem?_push_size
  have HBX := hide hbx
  obtain ⟨⟨c0, c1, c2⟩, cf, cl⟩ := h.cells
  clear h hrd hrd1 hm hbx hb0 hc
  go_enter Tryz.func14, Tryz.ntmps14
  go_wp2
  clear c0 c1 c2 cf cl
  go_loopw [6] (fun k wr => ∃ (n p : Nat), k = .int .i64 (n : Int) ∧ n ≤ 3 ∧ (p = i ∨ p = m) ∧ (0 < n → p = m) ∧ Hid (Own r w wr ∧ Rd wr r s p false ∧ boxV w.heap.size 0 ⟨#[]⟩ nilV nilV wr ∧ w.heap.size + 1 < wr.heap.size ∧ (∀ q, q < 3 → wr.cell? ⟨w.heap.size + 1, q, none⟩ = some (.string (word3 q)))) ∧ Hid (∀ q, q < n → (word3 q).data.toList.isPrefixOf (s.data.toList.drop m) = false)) (fun k _ => 3 - (intOf k).toNat)
  case atStart =>
    refine ⟨0, i, rfl, by omega, Or.inl rfl, fun h => by omega, ⟨((Own.refl r w).alloc _).alloc _, unhide HRD, (unhide HBX).own ((Own.refl r _).alloc _) hne, by simp, ?_⟩, fun q h => by omega⟩
    intro q hq
    rw [World.cell?_alloc_at _ _ _ _ (by simp)]
    match q, hq with
    | 0, _ => rfl
    | 1, _ => rfl
    | 2, _ => rfl
  case round =>
    obtain ⟨n, p, rfl, hn, hp, hpn, HI, HW⟩ := hrel
    obtain ⟨ho, hr, hbx, hsz, hcw⟩ := unhide HI
    have hszr := ho.size
    by_cases hlt : n < 3
    · have hcell := hcw n hlt
      have hw3 := word3_size n
      have HSE := hide (fun w1 hr => sees_at r s i m (word3 n) w1 p (unhide HM) hi hp hr hs hw3.1 hw3.2)
      have HO := hide ho
      have HR := hide hr
      have HB := hide hbx
      have HC := hide hcw
      cases hpre : (word3 n).data.toList.isPrefixOf (s.data.toList.drop m) with
      | true => rw [unhide HNW n] at hpre; cases hpre
      | false =>
        rw [hpre] at HSE
        have HPRE := hide hpre
        clear ho hr hbx hcw HI hpre
        go_wp2_with (go_at_call 38; refine (unhide HSE _ (unhide HR)).mono ?_; rintro e w1 ⟨rfl, ho, hr⟩; have HO1 := hide ho; have HR1 := hide hr; clear ho hr)
        go_roundw
        case rel =>
          have ho := unhide HO1
          have hs1 := ho.size
          refine ⟨n + 1, m, by go_num, by omega, Or.inr rfl, fun _ => rfl, ⟨(unhide HO).trans ho, unhide HR1, (unhide HB).own ho hne, by omega, fun q hq => (ho.cell _ (by show w.heap.size + 1 < _; omega) (by show w.heap.size + 1 ≠ r; omega)).trans (unhide HC q hq)⟩, fun q hq => ?_⟩
          by_cases e : q = n
          · subst e; exact unhide HPRE
          · exact unhide HW q (by omega)
        case measure => simp [intOf]; omega
    · obtain rfl : n = 3 := by omega
      obtain rfl : m = p := (hpn (by omega)).symm
      have HO := hide ho
      have HR := hide hr
      have HB := hide hbx
      clear ho hr hbx hcw HI HW HRD HBX hpn hp
      have HDM := hide (show s.data.toList.drop m = 91 :: s.data.toList.drop (m + 1) by rw [drop_cons s m hl, unhide HCH])
      have h34 : ∀ h : m < s.size, s[m] ≠ 34 := fun h e => by rw [unhide HCH] at e; cases e
      have hnst : ¬ NumStart s m := fun ⟨h, hh⟩ => by rw [unhide HCH] at hh; rcases hh with e | e <;> cases e
      have HS34 := hide (sees_miss r s m 34 (unhide HB0) hms h34 hs)
      have HS91 := hide (sees_hit r s m 91 (unhide HB0) hl (unhide HCH) hs)
      have HNST := hide hnst
      clear h34 hnst
      go_wp2_with (first | (go_at_call_of 38 (Value.string ⟨#[34]⟩); refine (unhide HS34 _ (unhide HR)).mono ?_; rintro e w1 ⟨rfl, ho, hr⟩; have HO1 := hide ((unhide HO).trans ho); have HR1 := hide hr; have HB1 := hide ((unhide HB).own ho hne); clear ho hr) | (go_at_call 40; refine (number_any r s m _ (unhide HR1) hms hs (unhide HB0)).mono ?_))
      intro e w2 hnum
      obtain ⟨ho2, ⟨hns, rfl, hr2⟩ | ⟨hst, _⟩ | ⟨hst, _⟩⟩ := hnum
      · obtain ⟨o, hoz⟩ : ∃ o, w2.heap.size = o := ⟨_, rfl⟩
        have HRA := hide (hr2.later ((Below.refl _ _).alloc (Nat.le_refl _) (.cells #[.int .u8 0, .string ⟨#[]⟩, nilV, nilV] 37)))
        have HOA := hide (((unhide HO1).trans ho2).alloc (.cells #[.int .u8 0, .string ⟨#[]⟩, nilV, nilV] 37))
        have HBA := hide (((unhide HB1).own ho2 hne).own ((Own.refl r _).alloc (.cells #[.int .u8 0, .string ⟨#[]⟩, nilV, nilV] 37)) hne)
        have hvx : boxV w2.heap.size 0 ⟨#[]⟩ nilV nilV (w2.alloc (.cells #[.int .u8 0, .string ⟨#[]⟩, nilV, nilV] 37)) := by
          show (w2.heap.push _)[_]? = _
          exact Array.getElem?_push_size
        have HVA := hide hvx
        have hwo : w.heap.size < w2.heap.size := Nat.lt_of_lt_of_le (unhide HB1).cells.2.2 ho2.size
        have hor : w2.heap.size ≠ r := by omega
        clear ho2 hr2 hns HB1 HO1 HR1 hvx hoz
        have kd : (z == 8) = false := by rw [beq_eq_false_iff_ne]; have := unhide HZZ; omega
        unfold valV
        go_wp2_with (go_at_call_of 38 (Value.string ⟨#[91]⟩); refine (unhide HS91 _ (unhide HRA)).mono ?_; rintro e w3 ⟨rfl, ho, hr⟩; have HO3 := hide ((unhide HOA).trans ho); have HR3 := hide hr; have HB3 := hide ((unhide HBA).own ho hne); have HV3 := hide ((unhide HVA).own ho hor); obtain ⟨⟨b0, b1, b2, b3⟩, bf, bl⟩ := (unhide HV3).cells; clear ho hr)
        go_wp2_with (go_at_call_of 38 (Value.string ⟨#[93]⟩); refine (sees_any r s (m + 1) false 93 _ ((unhide HR3).apart _ _ hor) (by omega) (fun _ => by omega) hs).mono ?_)
        intro e w4 hsee
        obtain ⟨j4, ov4, rfl, ho4, hr4, hj4, _, hf4⟩ := hsee
        have hbk := (unhide HV3).kind 108
        have HST := hide (show InList d r w2.heap.size m s (listR [91] [93] (valR d) (91 :: s.data.toList.drop (m + 1))) w ov4 [] [] nilV j4 false w4 from by
          refine ⟨((unhide HO3).setNew _ _ (by show w.heap.size ≤ w2.heap.size; omega)).trans ho4, hr4, hj4, ?_, hbk.own ho4 hor, ⟨_, _, _, rfl⟩, fun _ => ⟨⟨fun _ => False, fun _ h => h.elim, trivial, fun _ _ h => h⟩, World.ownsRow_nil _ _ _ _⟩, Nat.zero_le _, fun h => (by cases h), fun _ => ?_⟩
          · exact ((unhide HB3).kept (P := fun k => k = w2.heap.size) ((Kept.refl _ _).setCell _ _ (Or.inl rfl)) (by show ¬ w.heap.size = w2.heap.size; omega)).own ho4 hne
          · rcases hf4 rfl with ⟨h1, h2, h3, h4⟩ | ⟨h1, h2, h3, h4, h5⟩
            · exact ⟨h3, by omega, Or.inl ⟨h1, _, list_empty (valR d) 91 93 _ _ h2, skip_skip _⟩⟩
            · refine ⟨h4, by omega, Or.inr ⟨h1, ?_⟩⟩
              rw [list_some (valR d) 91 93 _ h2, ← whole_start, h3, elems_skip])
        clear HRA HOA HBA HVA HO3 HR3 HB3 HV3 b0 b1 b2 b3 bf bl ho4 hr4 hf4 hbk hj4
        go_wp2
        go_loopw [15] (fun t wr => ∃ (ov : Bool) (xs : List (JT d)) (cs : List (List Value)) (l : Value) (j : Nat) (b : Bool), t = .bool ov ∧ Hid (InList d r w2.heap.size m s (listR [91] [93] (valR d) (91 :: s.data.toList.drop (m + 1))) w ov xs cs l j b wr)) (fun t wr => over t (far r s wr))
        case atStart => exact ⟨ov4, [], [], nilV, j4, false, rfl, unhide HST⟩
        case round =>
          obtain ⟨ov, xs, cs, l, j, b, rfl, HI⟩ := hrel
          obtain ⟨ho, hr, hj, hb, hv, ⟨la, ll, lp, rfl⟩, hrow, hxl, hbt, hbf⟩ := unhide HI
          obtain ⟨⟨c0, c1, c2⟩, cf, cl⟩ := hr.cells
          obtain ⟨⟨b0, b1, b2, b3⟩, bf, bl⟩ := hb.cells
          obtain ⟨⟨v0, v1, v2, v3⟩, vf, vl⟩ := hv.cells
          have hwo' : w.heap.size ≠ w2.heap.size := by omega
          cases b with
          | true =>
            have HZ := hide (show valR (d + 1) (s.data.toList.drop i) = none by rw [val_list d _ _ (by rw [unhide HL, unhide HDM]), hbt rfl])
            have HO := hide ho
            have HR := hide hr
            clear ho hr hb hv hrow hbt hbf HI HST
            cases ov with
            | true =>
              go_wp2
              refine bodyPost_ret (v := valV 108 ⟨#[]⟩ (.slice la ll lp) nilV) (by simp [results, Tryz.results14, go_sem, valV, *]) rfl ?_
              exact val_wrong (j := j) (is4_val _ _ _ _ _ _ _ _) (own4 (unhide HO) _ _ _ _ (Nat.le_refl _)) (rd5 (unhide HR) hne _ _ _ _) hj (unhide HZ)
            | false =>
              go_wp2
              refine bodyPost_ret (v := valV 108 ⟨#[]⟩ (.slice la ll lp) nilV) (by simp [results, Tryz.results14, go_sem, valV, *]) rfl ?_
              exact val_wrong (j := j) (is4_val _ _ _ _ _ _ _ _) (own4 (unhide HO) _ _ _ _ (Nat.le_refl _)) (rd5 (unhide HR) hne _ _ _ _) hj (unhide HZ)
          | false =>
            obtain ⟨hjs, hmj, hcase⟩ := hbf rfl
            cases ov with
            | true =>
              obtain ⟨q, hT, hq⟩ : ∃ q, listR [91] [93] (valR d) (91 :: s.data.toList.drop (m + 1)) = some (xs, q) ∧ skipB q = skipB (s.data.toList.drop j) := by
                rcases hcase with ⟨_, h⟩ | ⟨h, _⟩
                · exact h
                · cases h
              have HZ := hide (show valR (d + 1) (s.data.toList.drop i) = some (arrJ d xs, skipB (s.data.toList.drop j)) by rw [val_list d _ _ (by rw [unhide HL, unhide HDM]), hT, ← hq])
              have HO := hide ho
              have HR := hide hr
              have HROW := hide (hrow rfl)
              clear ho hr hb hv hrow hbt hbf HI HST hcase hT hq
              go_wp2
              refine bodyPost_ret (v := valV 108 ⟨#[]⟩ (.slice la ll lp) nilV) (by simp [results, Tryz.results14, go_sem, valV, *]) rfl ?_
              refine val_fine (j := j) (is4_val _ _ _ _ _ _ _ _) (own4 (unhide HO) _ _ _ _ (Nat.le_refl _)) (rd5 (unhide HR) hne _ _ _ _) hjs hs (by omega) (unhide HZ) ?_
              obtain ⟨⟨F, f1, f2, f3⟩, f4⟩ := unhide HROW
              refine ⟨.slice la ll lp, rfl, ?_⟩
              refine (repItemsX (repX d)).anti (F := fun k => w2.heap.size < k) ((repItemsX (repX d)).stays (w := wr) ⟨by omega, cs, F, fun k hk => (f1 k hk).1.1, f2, owns_anti f4 (fun _ _ => Nat.zero_le _), fun g hg => ⟨(f4.lt g hg).1, f3 g hg⟩⟩ ?_) (fun k hk => Nat.le_trans (Nat.le_of_lt hwo) (Nat.le_of_lt hk))
              have hnF : ¬ (w2.heap.size < w.heap.size) := by omega
              exact (((AboveF.refl _ _).setCell hnF _).setCell hnF _).setCell hnF _ |>.setCell hnF _
            | false =>
              have hT : listR [91] [93] (valR d) (91 :: s.data.toList.drop (m + 1)) = wholeE (valR d) 93 xs (s.data.toList.drop j) := by
                rcases hcase with ⟨h, _⟩ | ⟨_, h⟩
                · cases h
                · exact h
              have HT := hide hT
              have HO := hide ho
              have HR := hide hr
              have HB := hide hb
              have HV := hide hv
              have HROW := hide (hrow rfl)
              have HFAR := hide (far_at hr)
              clear ho hr hb hv hrow hbt hbf HI HST hcase hT
              go_wp2_with (go_at_call 14; refine (value_any (unhide HIH) _ (by have := unhide HZZ; omega) j false _ (unhide HR) (by omega) (fun _ => hjs)).mono ?_)
              intro e w5 hval
              obtain ⟨k5, t5, a5, l5, p5, a5', l5', p5', j5, b5, rfl, ho5, hr5, hj5, hv5s⟩ := hval
              have hrow5 := (unhide HROW).own ho5 (by omega)
              have hv5 := (unhide HV).own ho5 hor
              obtain rfl : ll = xs.length := len_of hrow5.2
              have HROW5 := hide hrow5
              have HV5 := hide hv5
              have HB5 := hide ((unhide HB).own ho5 hne)
              have HO5 := hide ((unhide HO).trans ho5)
              have HR5 := hide hr5
              have HV5S := hide hv5s
              have hs5 := ho5.size
              have hown5 := hide hrow5.2
              clear c0 c1 c2 cf cl b0 b1 b2 b3 bf bl v0 v1 v2 v3 vf vl
              obtain ⟨⟨v0, v1, v2, v3⟩, vf, vl⟩ := hv5.cells
              clear hrow5 hv5 ho5 hr5 hv5s
              have hov : w2.heap.size ≠ w5.heap.size := by omega
              have vl0 : w2.heap.size < wr.heap.size := (unhide HV).cells.2.2
              have hx0 : (0 : Int) ≤ (xs.length : Int) := by omega
              have hx1 : (xs.length : Int) < (xs.length : Int) + 1 := by omega
              have hx2 : xs.length < xs.length + 1 := by omega
              have hx5 : xs.length ≤ 5000 := by omega
              have HPM := hide (fun (gg cap : Nat) (w6 : World) (hap : AppF w2.heap.size (.slice la xs.length lp) xs.length cs.flatten w5 (.int .u8 k5) (.string t5) (.slice a5 l5 p5) (.slice a5' l5' p5') gg cap w6) => put_more hap (unhide HROW5) (fun k h => h.elim) (fun k e => ((unhide HROW).2.lt k e).2) vl0 hs5 (unhide HO5) (unhide HR5) (unhide HB5) (unhide HV5) hwo hrl)
              have HPM2 := hide (fun (gg cap : Nat) (w6 : World) (hap : AppF w2.heap.size (.slice la xs.length lp) xs.length cs.flatten w5 (.int .u8 k5) (.string t5) (.slice a5 l5 p5) (.slice a5' l5' p5') gg cap w6) => put_more' hap (unhide HROW5) (fun k h => h.elim) (fun k e => ((unhide HROW).2.lt k e).2) vl0 hs5 (unhide HO5) (unhide HR5) (unhide HB5) (unhide HV5) hwo hrl)
              go_wp2
              apply key_first
              case h =>
                intro key
                go_region_law
                  ((refine step_more (by rfl) _ _ (by rfl) w2.heap.size (.slice la xs.length lp) xs.length cs.flatten w5 (.int .u8 k5) (.string t5) (.slice a5 l5 p5) (.slice a5' l5' p5') (by rfl) (by rfl) (by rfl) (by rfl) (by rfl) (by rfl) (unhide hown5) hx5 vl vf v2 ?_; intro gg cap w6 hap; have HAP := hide hap; obtain ⟨z1, z2, z3, z4, ngo, ngx, q0, q1, q2, q3, qf, qo, s0, s1, s2, s3, s4⟩ := hap; clear z1 z2 z3 z4))
                all_goals
                  first | with_reducible refine then_world (Put d r w2.heap.size wr.heap.size (fun _ => False) s w w5 108 (.slice la xs.length lp) nilV xs cs [.int .u8 k5, .string t5, .slice a5 l5 p5, .slice a5' l5' p5'] gg cap j5 b5) (unhide HPM gg cap w6 (unhide HAP)) (fun w7 hw7 => ?_) | with_reducible refine then_world (Put d r w2.heap.size wr.heap.size (fun _ => False) s w w5 108 (.slice la xs.length lp) nilV xs cs [.int .u8 k5, .string t5, .slice a5 l5 p5, .slice a5' l5' p5'] gg cap j5 b5) (unhide HPM2 gg cap w6 (unhide HAP)) (fun w7 hw7 => ?_)
                  clear HAP ngo ngx q0 q1 q2 q3 qf qo s0 s1 s2 s3 s4
                  revert gg cap w7 hw7
                  exact unhide key
              case hG =>
                intro gg cap w7 hw7
                have HP := hide hw7
                have HR7 := hide hw7.2.2.1
                clear hw7 v0 v1 v2 v3 vf
                go_wp2_with (go_at_call 38; refine (sees_any r s j5 b5 44 _ (unhide HR7) hj5 (fun e => (unhide HV5S).le e) hs).mono ?_)
                intro e w8 hsee
                obtain ⟨j8, mo, rfl, ho8, hr8, hj8, hs8⟩ := hsee
                have HO8 := hide ho8
                have HR8 := hide hr8
                have HS8 := hide hs8
                clear ho8 hr8 hs8
                cases mo with
                | true =>
                  go_wp2
                  go_roundw
                  case rel =>
                    obtain ⟨x, h1, _⟩ := list_more (unhide HT) hmj hxl (by omega) hor hne (unhide HV5S) (unhide HP) (unhide HO8) (unhide HR8) hj8 (unhide HS8)
                    exact ⟨false, xs ++ [x], _, _, j8, false, rfl, h1⟩
                  case measure =>
                    obtain ⟨x, h1, h2, h3, h4⟩ := list_more (unhide HT) hmj hxl (by omega) hor hne (unhide HV5S) (unhide HP) (unhide HO8) (unhide HR8) hj8 (unhide HS8)
                    show far r s w8 < far r s wr
                    rw [unhide HFAR, far_at h4]
                    omega
                | false =>
                  go_wp2_with (go_at_call 42; refine (must_any r s j8 b5 93 _ (unhide HR8) hj8 (fun e => (unhide HS8).le e) hs).mono ?_)
                  intro e w9 hmus
                  obtain ⟨j9, b9, rfl, ho9, hr9, hj9, hbt9, hbf9⟩ := hmus
                  have HO9 := hide ho9
                  have HR9 := hide hr9
                  have HBT9 := hide hbt9
                  have HBF9 := hide hbf9
                  clear ho9 hr9 hbt9 hbf9
                  go_wp2
                  go_roundw
                  case rel =>
                    obtain ⟨xs', cs', h1⟩ := list_over (unhide HT) hmj hxl (by omega) hor hne (unhide HV5S) (unhide HP) (unhide HO8) (unhide HS8) (unhide HO9) (unhide HR9) hj9 (unhide HBT9) (unhide HBF9)
                    exact ⟨true, xs', cs', _, j9, b9, rfl, h1⟩
                  case measure =>
                    show 0 < far r s wr
                    rw [unhide HFAR]
                    omega
      · exact absurd hst (unhide HNST)
      · exact absurd hst (unhide HNST)
end Go.Proofs.YtgaddifabjoliaaGreatDoor

namespace Go.Proofs.YtgaddifabjoliaaGreatDoor
open Go.RowKit

set_option maxRecDepth 100000 in
set_option maxHeartbeats 40000000 in
theorem value_object (d : Nat) (r : Nat) (s : ByteArray) (i : Nat) (w : World) (h : Rd w r s i false) (hi : i ≤ s.size) (hs : s.size ≤ 4000) (hd : d + 1 ≤ 8) (m : Nat) (hm : i + blanksAt s i = m) (hl : m < s.size) (hc : s[m] = 123) (z : Int) (hz : z = (8 : Int) - ((d + 1 : Nat) : Int)) (IH : ValueIH d r s) :
    Calls Tryz.prog 14 #[.pointer (some ⟨r, 0, none⟩), .int .i64 z] w (ValSays (d + 1) r s i w) := by
  have hms : m ≤ s.size := by rw [← hm]; exact blanks_le s i hi
  have him : i ≤ m := by omega
  have hb0 : blanksAt s m = 0 := by rw [← hm]; exact skip_idem s i hi
  have HNW := hide (fun q => word3_not q s m hl (Or.inr hc))
  have HIH := hide IH
  have HZZ := hide hz
  have hz0 : (0 : Int) ≤ z := by omega
  have hz8 : z ≤ 8 := by omega
  clear IH hz
  have HL := hide (show skipB (s.data.toList.drop i) = s.data.toList.drop m by rw [← hm]; exact (skip_at s i).symm)
  have HB0 := hide hb0
  have HCH := hide hc
  have hrl := h.cells.2.2
  have hne : w.heap.size ≠ r := by omega
  have hrd1 := (h.later ((Below.refl _ w).alloc (Nat.le_refl _) (.cells #[.int .u8 0, .string ⟨#[]⟩, nilV, nilV] 37)))
  have hrd := hrd1.later ((Below.refl _ _).alloc (Nat.le_refl _) (.cells #[.string ⟨#[110, 117, 108, 108]⟩, .string ⟨#[116, 114, 117, 101]⟩, .string ⟨#[102, 97, 108, 115, 101]⟩] 9))
  have HRD := hide hrd
  have HM := hide hm
  have hbx : boxV w.heap.size 0 ⟨#[]⟩ nilV nilV (w.alloc (.cells #[.int .u8 0, .string ⟨#[]⟩, nilV, nilV] 37)) := by
    show (w.heap.push _)[_]? = _
    exact Array.getElem?_push_size
  have HBX := hide hbx
  obtain ⟨⟨c0, c1, c2⟩, cf, cl⟩ := h.cells
  clear h hrd hrd1 hm hbx hb0 hc
  go_enter Tryz.func14, Tryz.ntmps14
  go_wp2
  clear c0 c1 c2 cf cl
  go_loopw [6] (fun k wr => ∃ (n p : Nat), k = .int .i64 (n : Int) ∧ n ≤ 3 ∧ (p = i ∨ p = m) ∧ (0 < n → p = m) ∧ Hid (Own r w wr ∧ Rd wr r s p false ∧ boxV w.heap.size 0 ⟨#[]⟩ nilV nilV wr ∧ w.heap.size + 1 < wr.heap.size ∧ (∀ q, q < 3 → wr.cell? ⟨w.heap.size + 1, q, none⟩ = some (.string (word3 q)))) ∧ Hid (∀ q, q < n → (word3 q).data.toList.isPrefixOf (s.data.toList.drop m) = false)) (fun k _ => 3 - (intOf k).toNat)
  case atStart =>
    refine ⟨0, i, rfl, by omega, Or.inl rfl, fun h => by omega, ⟨((Own.refl r w).alloc _).alloc _, unhide HRD, (unhide HBX).own ((Own.refl r _).alloc _) hne, by simp, ?_⟩, fun q h => by omega⟩
    intro q hq
    rw [World.cell?_alloc_at _ _ _ _ (by simp)]
    match q, hq with
    | 0, _ => rfl
    | 1, _ => rfl
    | 2, _ => rfl
  case round =>
    obtain ⟨n, p, rfl, hn, hp, hpn, HI, HW⟩ := hrel
    obtain ⟨ho, hr, hbx, hsz, hcw⟩ := unhide HI
    have hszr := ho.size
    by_cases hlt : n < 3
    · have hcell := hcw n hlt
      have hw3 := word3_size n
      have HSE := hide (fun w1 hr => sees_at r s i m (word3 n) w1 p (unhide HM) hi hp hr hs hw3.1 hw3.2)
      have HO := hide ho
      have HR := hide hr
      have HB := hide hbx
      have HC := hide hcw
      cases hpre : (word3 n).data.toList.isPrefixOf (s.data.toList.drop m) with
      | true => rw [unhide HNW n] at hpre; cases hpre
      | false =>
        rw [hpre] at HSE
        have HPRE := hide hpre
        clear ho hr hbx hcw HI hpre
        go_wp2_with (go_at_call 38; refine (unhide HSE _ (unhide HR)).mono ?_; rintro e w1 ⟨rfl, ho, hr⟩; have HO1 := hide ho; have HR1 := hide hr; clear ho hr)
        go_roundw
        case rel =>
          have ho := unhide HO1
          have hs1 := ho.size
          refine ⟨n + 1, m, by go_num, by omega, Or.inr rfl, fun _ => rfl, ⟨(unhide HO).trans ho, unhide HR1, (unhide HB).own ho hne, by omega, fun q hq => (ho.cell _ (by show w.heap.size + 1 < _; omega) (by show w.heap.size + 1 ≠ r; omega)).trans (unhide HC q hq)⟩, fun q hq => ?_⟩
          by_cases e : q = n
          · subst e; exact unhide HPRE
          · exact unhide HW q (by omega)
        case measure => simp [intOf]; omega
    · obtain rfl : n = 3 := by omega
      obtain rfl : m = p := (hpn (by omega)).symm
      have HO := hide ho
      have HR := hide hr
      have HB := hide hbx
      clear ho hr hbx hcw HI HW HRD HBX hpn hp
      have HDM := hide (show s.data.toList.drop m = 123 :: s.data.toList.drop (m + 1) by rw [drop_cons s m hl, unhide HCH])
      have h34 : ∀ h : m < s.size, s[m] ≠ 34 := fun h e => by rw [unhide HCH] at e; cases e
      have hnst : ¬ NumStart s m := fun ⟨h, hh⟩ => by rw [unhide HCH] at hh; rcases hh with e | e <;> cases e
      have HS34 := hide (sees_miss r s m 34 (unhide HB0) hms h34 hs)
      have HS91 := hide (sees_miss r s m 91 (unhide HB0) hms (fun h e => by rw [unhide HCH] at e; cases e) hs)
      have HS123 := hide (sees_hit r s m 123 (unhide HB0) hl (unhide HCH) hs)
      have HNST := hide hnst
      clear h34 hnst
      go_wp2_with (first | (go_at_call_of 38 (Value.string ⟨#[34]⟩); refine (unhide HS34 _ (unhide HR)).mono ?_; rintro e w1 ⟨rfl, ho, hr⟩; have HO1 := hide ((unhide HO).trans ho); have HR1 := hide hr; have HB1 := hide ((unhide HB).own ho hne); clear ho hr) | (go_at_call 40; refine (number_any r s m _ (unhide HR1) hms hs (unhide HB0)).mono ?_))
      intro e w2 hnum
      obtain ⟨ho2, ⟨hns, rfl, hr2⟩ | ⟨hst, _⟩ | ⟨hst, _⟩⟩ := hnum
      · obtain ⟨o, hoz⟩ : ∃ o, w2.heap.size = o := ⟨_, rfl⟩
        have HRA := hide (hr2.later ((Below.refl _ _).alloc (Nat.le_refl _) (.cells #[.int .u8 0, .string ⟨#[]⟩, nilV, nilV] 37)))
        have HOA := hide (((unhide HO1).trans ho2).alloc (.cells #[.int .u8 0, .string ⟨#[]⟩, nilV, nilV] 37))
        have HBA := hide (((unhide HB1).own ho2 hne).own ((Own.refl r _).alloc (.cells #[.int .u8 0, .string ⟨#[]⟩, nilV, nilV] 37)) hne)
        have hvx : boxV w2.heap.size 0 ⟨#[]⟩ nilV nilV (w2.alloc (.cells #[.int .u8 0, .string ⟨#[]⟩, nilV, nilV] 37)) := by
          show (w2.heap.push _)[_]? = _
          exact Array.getElem?_push_size
        have HVA := hide hvx
        have hwo : w.heap.size < w2.heap.size := Nat.lt_of_lt_of_le (unhide HB1).cells.2.2 ho2.size
        have hor : w2.heap.size ≠ r := by omega
        clear ho2 hr2 hns HB1 HO1 HR1 hvx hoz
        have kd : (z == 8) = false := by rw [beq_eq_false_iff_ne]; have := unhide HZZ; omega
        unfold valV
        go_wp2_with (first | (go_at_call_of 38 (Value.string ⟨#[91]⟩); refine (unhide HS91 _ (unhide HRA)).mono ?_; rintro e w3 ⟨rfl, ho, hr⟩; have HO3 := hide ((unhide HOA).trans ho); have HR3 := hide hr; have HB3 := hide ((unhide HBA).own ho hne); have HV3 := hide ((unhide HVA).own ho hor); clear ho hr) | (go_at_call_of 38 (Value.string ⟨#[123]⟩); refine (unhide HS123 _ (unhide HR3)).mono ?_; rintro e w3' ⟨rfl, ho, hr⟩; have HO4 := hide ((unhide HO3).trans ho); have HR4 := hide hr; have HB4 := hide ((unhide HB3).own ho hne); have HV4 := hide ((unhide HV3).own ho hor); obtain ⟨⟨b0, b1, b2, b3⟩, bf, bl⟩ := (unhide HV4).cells; clear ho hr))
        go_wp2_with (go_at_call_of 38 (Value.string ⟨#[125]⟩); refine (sees_any r s (m + 1) false 125 _ (((unhide HR4).apart _ _ hor).apart _ _ hor) (by omega) (fun _ => by omega) hs).mono ?_)
        intro e w4 hsee
        obtain ⟨j4, ov4, rfl, ho4, hr4, hj4, _, hf4⟩ := hsee
        have hbk := ((unhide HV4).kind 108).kind 111
        have HST := hide (show InObj d r w2.heap.size m s (listR [123] [125] (memberR quotedR (valR d)) (123 :: s.data.toList.drop (m + 1))) w ov4 [] [] nilV nilV j4 false w4 from by
          refine ⟨(((unhide HO4).setNew _ _ (by show w.heap.size ≤ w2.heap.size; omega)).setNew _ _ (by show w.heap.size ≤ w2.heap.size; omega)).trans ho4, hr4, hj4, ?_, hbk.own ho4 hor, ⟨_, _, _, rfl⟩, ⟨_, _, _, rfl⟩, fun _ => ⟨⟨⟨fun _ => False, fun _ h => h.elim, trivial, fun _ _ h => h⟩, World.ownsRow_nil _ _ _ _⟩, World.ownsRow_nil _ _ _ _, List.nodup_nil⟩, Nat.zero_le _, fun h => (by cases h), fun _ => ?_⟩
          · exact ((unhide HB4).kept (P := fun k => k = w2.heap.size) (((Kept.refl (fun k => k = w2.heap.size) _).setCell ⟨w2.heap.size, 0, none⟩ (.int .u8 108) (Or.inl rfl)).setCell ⟨w2.heap.size, 0, none⟩ (.int .u8 111) (Or.inl rfl)) (by show ¬ w.heap.size = w2.heap.size; omega)).own ho4 hne
          · rcases hf4 rfl with ⟨h1, h2, h3, h4⟩ | ⟨h1, h2, h3, h4, h5⟩
            · exact ⟨h3, by omega, Or.inl ⟨h1, _, list_empty (memberR quotedR (valR d)) 123 125 _ _ h2, skip_skip _⟩⟩
            · refine ⟨h4, by omega, Or.inr ⟨h1, ?_⟩⟩
              rw [list_some (memberR quotedR (valR d)) 123 125 _ h2, ← whole_start, h3, elems_skip_m])
        clear HRA HOA HBA HVA HO3 HR3 HB3 HV3 HO4 HR4 HB4 HV4 b0 b1 b2 b3 bf bl ho4 hr4 hf4 hbk hj4
        go_wp2
        go_loopw [15] (fun t wr => ∃ (ov : Bool) (ms : List (Named (JT d))) (cs : List (List Value)) (l nm : Value) (j : Nat) (b : Bool), t = .bool ov ∧ Hid (InObj d r w2.heap.size m s (listR [123] [125] (memberR quotedR (valR d)) (123 :: s.data.toList.drop (m + 1))) w ov ms cs l nm j b wr)) (fun t wr => over t (far r s wr))
        case atStart => exact ⟨ov4, [], [], nilV, nilV, j4, false, rfl, unhide HST⟩
        case round =>
          obtain ⟨ov, ms, cs, l, nm, j, b, rfl, HI⟩ := hrel
          obtain ⟨ho, hr, hj, hb, hv, ⟨la, ll, lp, rfl⟩, ⟨na, nl, np, rfl⟩, hrow, hxl, hbt, hbf⟩ := unhide HI
          obtain ⟨⟨c0, c1, c2⟩, cf, cl⟩ := hr.cells
          obtain ⟨⟨b0, b1, b2, b3⟩, bf, bl⟩ := hb.cells
          obtain ⟨⟨v0, v1, v2, v3⟩, vf, vl⟩ := hv.cells
          have hwo' : w.heap.size ≠ w2.heap.size := by omega
          cases b with
          | true =>
            have HZ := hide (show valR (d + 1) (s.data.toList.drop i) = none by rw [val_object d _ _ (by rw [unhide HL, unhide HDM])]; exact hbt rfl)
            have HO := hide ho
            have HR := hide hr
            clear ho hr hb hv hrow hbt hbf HI HST
            cases ov with
            | true =>
              go_wp2
              refine bodyPost_ret (v := valV 111 ⟨#[]⟩ (.slice la ll lp) (.slice na nl np)) (by simp [results, Tryz.results14, go_sem, valV, *]) rfl ?_
              exact val_wrong (j := j) (is4_val _ _ _ _ _ _ _ _) (own4 (unhide HO) _ _ _ _ (Nat.le_refl _)) (rd5 (unhide HR) hne _ _ _ _) hj (unhide HZ)
            | false =>
              go_wp2
              refine bodyPost_ret (v := valV 111 ⟨#[]⟩ (.slice la ll lp) (.slice na nl np)) (by simp [results, Tryz.results14, go_sem, valV, *]) rfl ?_
              exact val_wrong (j := j) (is4_val _ _ _ _ _ _ _ _) (own4 (unhide HO) _ _ _ _ (Nat.le_refl _)) (rd5 (unhide HR) hne _ _ _ _) hj (unhide HZ)
          | false =>
            obtain ⟨hjs, hmj, hcase⟩ := hbf rfl
            cases ov with
            | true =>
              obtain ⟨q, hT, hq⟩ : ∃ q, listR [123] [125] (memberR quotedR (valR d)) (123 :: s.data.toList.drop (m + 1)) = some (ms, q) ∧ skipB q = skipB (s.data.toList.drop j) := by
                rcases hcase with ⟨_, h⟩ | ⟨h, _⟩
                · exact h
                · cases h
              have HZ := hide (show valR (d + 1) (s.data.toList.drop i) = some (objJ d (byName ms), skipB (s.data.toList.drop j)) by
                rw [val_object d _ _ (by rw [unhide HL, unhide HDM]), hT, ← hq]
                show (if Once ms then _ else none) = _
                rw [if_pos (hrow rfl).2.2])
              have HO := hide ho
              have HR := hide hr
              have HROW := hide (hrow rfl)
              clear ho hr hb hv hrow hbt hbf HI HST hcase hT hq
              go_wp2
              refine bodyPost_ret (v := valV 111 ⟨#[]⟩ (.slice la ll lp) (.slice na nl np)) (by simp [results, Tryz.results14, go_sem, valV, *]) rfl ?_
              refine val_fine (j := j) (is4_val _ _ _ _ _ _ _ _) (own4 (unhide HO) _ _ _ _ (Nat.le_refl _)) (rd5 (unhide HR) hne _ _ _ _) hjs hs (by omega) (unhide HZ) ?_
              obtain ⟨⟨⟨F, f1, f2, f3⟩, f4⟩, fn, fo⟩ := unhide HROW
              have hnF : ¬ (w2.heap.size < w.heap.size) := by omega
              have hab := ((((AboveF.refl (fun k => w2.heap.size < k) wr).setCell (p := ⟨w.heap.size, 0, none⟩) hnF (.int .u8 111)).setCell (p := ⟨w.heap.size, 1, none⟩) hnF (.string ⟨#[]⟩)).setCell (p := ⟨w.heap.size, 2, none⟩) hnF (.slice la ll lp)).setCell (p := ⟨w.heap.size, 3, none⟩) hnF (.slice na nl np)
              refine ⟨.slice la ll lp, .slice na nl np, ms, rfl, fo, rfl, ?_, ?_⟩
              · exact (repItemsX (repX d)).anti (F := fun k => w2.heap.size < k) ((repItemsX (repX d)).stays (w := wr) ⟨by simp; omega, cs, F, fun k hk => (f1 k hk).1.1, f2, owns_anti f4 (fun _ _ => Nat.zero_le _), fun g hg => ⟨(f4.lt g hg).1, f3 g hg⟩⟩ hab) (fun k hk => Nat.le_trans (Nat.le_of_lt hwo) (Nat.le_of_lt hk))
              · exact repNames.anti (F := fun k => w2.heap.size < k) (repNames.stays (w := wr) ⟨owns_anti fn (fun _ _ => Nat.zero_le _), fun g hg => (fn.lt g hg).1⟩ hab) (fun k hk => Nat.le_trans (Nat.le_of_lt hwo) (Nat.le_of_lt hk))
            | false =>
              have hT : listR [123] [125] (memberR quotedR (valR d)) (123 :: s.data.toList.drop (m + 1)) = wholeE (memberR quotedR (valR d)) 125 ms (s.data.toList.drop j) := by
                rcases hcase with ⟨h, _⟩ | ⟨_, h⟩
                · cases h
                · exact h
              have HT := hide hT
              have HO := hide ho
              have HR := hide hr
              have HB := hide hb
              have HV := hide hv
              have HROW := hide (hrow rfl).1
              have HNM := hide (hrow rfl).2.1
              have HON := hide (hrow rfl).2.2
              have HFAR := hide (far_at hr)
              have vlr := hv.cells.2.2
              have hzw := ho.size
              have hnl : (ms.map Prod.fst).length ≤ 4000 := by rw [List.length_map]; omega
              clear ho hr hb hv hrow hbt hbf HI HST hcase hT
              go_wp2_with (go_at_call 41; refine (member_calls r w2.heap.size s j 111 (.slice la ll lp) (.slice na nl np) (ms.map Prod.fst) (w2.heap.size + 1) _ (unhide HR) hjs hs (unhide HV) hor (unhide HNM) ⟨by omega, by omega, by omega⟩ hnl).mono ?_)
              intro e w3 hmem
              obtain ⟨t, j3, bq, m', rfl, hk3, hr3, hj3, hbx3, hn3, hat3, htl3, hbt3, hbf3⟩ := hmem
              obtain ⟨na3, nl3, np3, rfl⟩ := slice_of hn3
              have hfar : ∀ k, k ≤ w.heap.size → ¬ k = r → ¬ (k = r ∨ k = w2.heap.size ∨ (Value.slice na nl np).ownBlock = some k) := fun k hk hkr h => by
                rcases h with h | h | h
                · exact hkr h
                · omega
                · have := ((unhide HNM).lt k h).1; omega
              have hap0 := owns_apart (unhide HROW).2 (unhide HNM) (by decide)
              have HROW3 := hide ((unhide HROW).named (r := r) hk3 (by omega) hat3 hap0)
              have HO3 := hide (own_kept (unhide HO) hk3 (fun k hk hkr => hfar k (by omega) hkr))
              have HB3 := hide ((unhide HB).kept hk3 (hfar _ (Nat.le_refl _) hne))
              have HR3 := hide hr3
              have HV3 := hide hbx3
              have HN3 := hide hn3
              have HBT3 := hide hbt3
              have HBF3 := hide hbf3
              have hsz3 := hk3.2.2.2.1
              have vl3 := hbx3.cells.2.2
              clear hk3 hr3 hbx3 hn3 hat3 htl3 hbt3 hbf3 hfar hap0 c0 c1 c2 cf cl b0 b1 b2 b3 bf bl v0 v1 v2 v3 vf vl
              go_wp2_with (go_at_call 14; refine (value_any (unhide HIH) _ (by have := unhide HZZ; omega) j3 bq _ (unhide HR3) hj3 (fun e => (unhide HBF3 e).2.2.1)).mono ?_)
              intro e w5 hval
              obtain ⟨k5, t5, a5, l5, p5, a5', l5', p5', j5, b5, rfl, ho5, hr5, hj5, hv5s⟩ := hval
              obtain ⟨xs, hxs⟩ : ∃ xs, ms.map Prod.snd = xs := ⟨_, rfl⟩
              have hrow5 := (unhide HROW3).own ho5 (by omega)
              rw [hxs] at hrow5
              have hx5' : xs.length ≤ 5000 := by rw [← hxs, List.length_map]; omega
              have HXS := hide hxs
              have hv5 := (unhide HV3).own ho5 hor
              obtain rfl : ll = xs.length := len_of hrow5.2
              have hn5 := owns_own (unhide HN3) ho5 (by omega)
              have HN5 := hide hn5
              have HAPT := hide (owns_apart hn5 hrow5.2 (by decide))
              have HPL := hide (show ∀ k, (Value.slice na3 nl3 np3).ownBlock = some k → k < w3.heap.size from fun k e => ((unhide HN3).lt k e).2)
              have HLL := hide (show ∀ k, (Value.slice la xs.length lp).ownBlock = some k → k < w3.heap.size from fun k e => ((unhide HROW3).2.lt k e).2)
              clear hn5 hxs
              have HROW5 := hide hrow5
              have HV5 := hide hv5
              have HB5 := hide ((unhide HB3).own ho5 hne)
              have HO5 := hide ((unhide HO3).trans ho5)
              have HR5 := hide hr5
              have HV5S := hide hv5s
              have hs5 := ho5.size
              have hown5 := hide hrow5.2
              obtain ⟨⟨v0, v1, v2, v3⟩, vf, vl⟩ := hv5.cells
              clear hrow5 hv5 ho5 hr5 hv5s
              have hov : w2.heap.size ≠ w5.heap.size := by omega
              have hx0 : (0 : Int) ≤ (xs.length : Int) := by omega
              have hx1 : (xs.length : Int) < (xs.length : Int) + 1 := by omega
              have hx2 : xs.length < xs.length + 1 := by omega
              have hx5 : xs.length ≤ 5000 := by omega
              have HPM := hide (fun (gg cap : Nat) (w6 : World) (hap : AppF w2.heap.size (.slice la xs.length lp) xs.length cs.flatten w5 (.int .u8 k5) (.string t5) (.slice a5 l5 p5) (.slice a5' l5' p5') gg cap w6) => put_more hap (unhide HROW5) (unhide HPL) (unhide HLL) vl3 hs5 (unhide HO5) (unhide HR5) (unhide HB5) (unhide HV5) hwo hrl)
              have HPM2 := hide (fun (gg cap : Nat) (w6 : World) (hap : AppF w2.heap.size (.slice la xs.length lp) xs.length cs.flatten w5 (.int .u8 k5) (.string t5) (.slice a5 l5 p5) (.slice a5' l5' p5') gg cap w6) => put_more' hap (unhide HROW5) (unhide HPL) (unhide HLL) vl3 hs5 (unhide HO5) (unhide HR5) (unhide HB5) (unhide HV5) hwo hrl)
              go_wp2
              apply key_first
              case h =>
                intro key
                go_region_law
                  ((refine step_more (by rfl) _ _ (by rfl) w2.heap.size (.slice la xs.length lp) xs.length cs.flatten w5 (.int .u8 k5) (.string t5) (.slice a5 l5 p5) (.slice a5' l5' p5') (by rfl) (by rfl) (by rfl) (by rfl) (by rfl) (by rfl) (unhide hown5) hx5 vl vf v2 ?_; intro gg cap w6 hap; have HAP := hide hap; obtain ⟨z1, z2, z3, z4, ngo, ngx, q0, q1, q2, q3, qf, qo, s0, s1, s2, s3, s4⟩ := hap; clear z1 z2 z3 z4))
                all_goals
                  first | with_reducible refine then_world (Put d r w2.heap.size w3.heap.size (fun k => (Value.slice na3 nl3 np3).ownBlock = some k) s w w5 111 (.slice la xs.length lp) (.slice na3 nl3 np3) xs cs [.int .u8 k5, .string t5, .slice a5 l5 p5, .slice a5' l5' p5'] gg cap j5 b5) (unhide HPM gg cap w6 (unhide HAP)) (fun w7 hw7 => ?_) | with_reducible refine then_world (Put d r w2.heap.size w3.heap.size (fun k => (Value.slice na3 nl3 np3).ownBlock = some k) s w w5 111 (.slice la xs.length lp) (.slice na3 nl3 np3) xs cs [.int .u8 k5, .string t5, .slice a5 l5 p5, .slice a5' l5' p5'] gg cap j5 b5) (unhide HPM2 gg cap w6 (unhide HAP)) (fun w7 hw7 => ?_)
                  clear HAP ngo ngx q0 q1 q2 q3 qf qo s0 s1 s2 s3 s4
                  revert gg cap w7 hw7
                  exact unhide key
              case hG =>
                intro gg cap w7 hw7
                have HP := hide hw7
                have HR7 := hide hw7.2.2.1
                clear hw7 v0 v1 v2 v3 vf
                go_wp2_with (go_at_call 38; refine (sees_any r s j5 b5 44 _ (unhide HR7) hj5 (fun e => (unhide HV5S).le e) hs).mono ?_)
                intro e w8 hsee
                obtain ⟨j8, mo, rfl, ho8, hr8, hj8, hs8⟩ := hsee
                have HO8 := hide ho8
                have HR8 := hide hr8
                have HS8 := hide hs8
                clear ho8 hr8 hs8
                cases mo with
                | true =>
                  go_wp2
                  go_roundw
                  case rel =>
                    obtain ⟨x, h1, _⟩ := obj_more (unhide HT) hmj hxl (by omega) hor hne (unhide HON) (unhide HXS) (unhide HBF3) (unhide HV5S) (unhide HP) ⟨_, _, _, rfl⟩ (unhide HN5) (unhide HAPT) (unhide HO8) (unhide HR8) hj8 (unhide HS8)
                    exact ⟨false, ms ++ [(t, x)], _, _, _, j8, false, rfl, h1⟩
                  case measure =>
                    obtain ⟨x, h1, h2, h3, h4⟩ := obj_more (unhide HT) hmj hxl (by omega) hor hne (unhide HON) (unhide HXS) (unhide HBF3) (unhide HV5S) (unhide HP) ⟨_, _, _, rfl⟩ (unhide HN5) (unhide HAPT) (unhide HO8) (unhide HR8) hj8 (unhide HS8)
                    show far r s w8 < far r s wr
                    rw [unhide HFAR, far_at h4]
                    omega
                | false =>
                  go_wp2_with (go_at_call 42; refine (must_any r s j8 b5 125 _ (unhide HR8) hj8 (fun e => (unhide HS8).le e) hs).mono ?_)
                  intro e w9 hmus
                  obtain ⟨j9, b9, rfl, ho9, hr9, hj9, hbt9, hbf9⟩ := hmus
                  have HO9 := hide ho9
                  have HR9 := hide hr9
                  have HBT9 := hide hbt9
                  have HBF9 := hide hbf9
                  clear ho9 hr9 hbt9 hbf9
                  go_wp2
                  go_roundw
                  case rel =>
                    obtain ⟨ms', cs', h1⟩ := obj_over (unhide HT) hmj hxl (by omega) hor hne (unhide HON) (unhide HXS) (unhide HBT3) (unhide HBF3) (unhide HV5S) (unhide HP) ⟨_, _, _, rfl⟩ (unhide HN5) (unhide HAPT) (unhide HO8) (unhide HS8) (unhide HO9) (unhide HR9) hj9 (unhide HBT9) (unhide HBF9)
                    exact ⟨true, ms', cs', _, _, j9, b9, rfl, h1⟩
                  case measure =>
                    show 0 < far r s wr
                    rw [unhide HFAR]
                    omega
      · exact absurd hst (unhide HNST)
      · exact absurd hst (unhide HNST)
end Go.Proofs.YtgaddifabjoliaaGreatDoor

namespace Go.Proofs.YtgaddifabjoliaaGreatDoor
open Go.RowKit

theorem value_calls (r : Nat) (s : ByteArray) (hs : s.size ≤ 4000) : ∀ d, d ≤ 8 → ValueIH d r s
  | 0, _ => by
    intro z hz i w h hi
    subst hz
    exact value_leaf 0 r s i w h hi hs (by omega) (Or.inr rfl)
  | d + 1, hd => by
    intro z hz i w h hi
    by_cases hop : Opens s (i + blanksAt s i)
    · obtain ⟨hl, hc | hc⟩ := hop
      · exact value_list d r s i w h hi hs hd _ rfl hl hc z hz (value_calls r s hs d (by omega))
      · exact value_object d r s i w h hi hs hd _ rfl hl hc z hz (value_calls r s hs d (by omega))
    · subst hz
      exact value_leaf (d + 1) r s i w h hi hs hd (Or.inl hop)

theorem read_bad {l : Bytes} (h : valR 8 l = none) : readF l = none := by unfold readF; rw [h]
theorem read_more {l r : Bytes} {x : JT 8} (h : valR 8 l = some (x, r)) (hr : r ≠ []) : readF l = none := by
  unfold readF
  rw [h]
  cases r with
  | nil => exact absurd rfl hr
  | cons c q => rfl
theorem read_all {l : Bytes} {x : JT 8} (h : valR 8 l = some (x, [])) : readF l = some x := by unfold readF; rw [h]

/-- How a whole text's value stands. -/
def RelTop (lwr : Nat) (w : World) (x : JT 8) (v : List Value) : Prop := (repX 8).rel (From lwr) w x (.agg v.toArray)
theorem RelTop.stays {lwr : Nat} {w w' : World} {x : JT 8} {v : List Value} (h : RelTop lwr w x v) (B : Nat) (hB : B ≤ lwr) (ha : AboveF (fun k => lwr ≤ k ∧ k < w.heap.size) w w') : RelTop B w' x v :=
  (repX 8).anti (F := fun k => lwr ≤ k ∧ k < w.heap.size) ((repX 8).stays ((repX 8).inside h) ha) (fun _ hk => Nat.le_trans hB hk.1)
def TopIs (s : ByteArray) (j : Nat) (b : Bool) (lwr : Nat) (w : World) (v : List Value) : Prop := (b = true → readF s.data.toList = none) ∧ (b = false → j ≤ s.size ∧ (j + blanksAt s j < s.size → readF s.data.toList = none) ∧ (¬ j + blanksAt s j < s.size → ∃ x, readF s.data.toList = some x ∧ RelTop lwr w x v))
def TopSays (r : Nat) (s : ByteArray) (w : World) (e : Ending) (w' : World) : Prop :=
  ∃ (k : Int) (t : ByteArray) (a : Option Addr) (l p : Nat) (a' : Option Addr) (l' p' : Nat) (j : Nat) (b : Bool), e = .returned (.agg #[.int .u8 k, .string t, .slice a l p, .slice a' l' p']) ∧ Own r w w' ∧ Rd w' r s j b ∧ j ≤ 4100 ∧ TopIs s j b w.heap.size w' [.int .u8 k, .string t, .slice a l p, .slice a' l' p']
theorem value_top (r : Nat) (s : ByteArray) (hs : s.size ≤ 4000) (w : World) (h : Rd w r s 0 false) : Calls Tryz.prog 14 #[.pointer (some ⟨r, 0, none⟩), .int .i64 0] w (TopSays r s w) := by
  refine (value_calls r s hs 8 (Nat.le_refl _) 0 rfl 0 w h (Nat.zero_le _)).mono ?_
  rintro e w' ⟨v, j, b, rfl, ⟨k, t, a, l, p, a', l', p', rfl⟩, ho, hr, hj, hbt, hbf⟩
  rw [List.drop_zero] at hbt hbf
  refine ⟨k, t, a, l, p, a', l', p', j, b, rfl, ho, hr, hj, fun e => read_bad (hbt e), fun e => ?_⟩
  obtain ⟨x, hx, hjs, _, hrel⟩ := hbf e
  rw [← skip_at s j] at hx
  refine ⟨hjs, fun hlt => read_more hx ?_, fun hlt => ⟨x, read_all ?_, hrel⟩⟩
  · rw [drop_cons s _ hlt]
    exact List.cons_ne_nil _ _
  · rw [hx, drop_far s _ (by omega)]

/-- What Parse answers. -/
def ParseSays (s : ByteArray) (w : World) (e : Ending) (w' : World) : Prop := Below w.heap.size w w' ∧
  ∃ (k : Int) (t : ByteArray) (a : Option Addr) (l p : Nat) (a' : Option Addr) (l' p' : Nat),
    (readF s.data.toList = none ∧ e = .returned (.tuple #[.agg #[.int .u8 k, .string t, .slice a l p, .slice a' l' p'], .bool false])) ∨
     ∃ x, readF s.data.toList = some x ∧ RelTop w.heap.size w' x [.int .u8 k, .string t, .slice a l p, .slice a' l' p'] ∧ e = .returned (.tuple #[.agg #[.int .u8 k, .string t, .slice a l p, .slice a' l' p'], .bool true])
theorem below4 {W w : World} {B : Nat} {a b c d : Value} (h : Below W.heap.size W w) (hB : W.heap.size ≤ B) :
    Below W.heap.size W ((((w.setCell ⟨B, 0, none⟩ a).setCell ⟨B, 1, none⟩ b).setCell ⟨B, 2, none⟩ c).setCell ⟨B, 3, none⟩ d) :=
  (((h.setCell (p := ⟨B, 0, none⟩) hB a).setCell (p := ⟨B, 1, none⟩) hB b).setCell (p := ⟨B, 2, none⟩) hB c).setCell (p := ⟨B, 3, none⟩) hB d
theorem below_of_own {r : Nat} {a b c : World} (ha : Below a.heap.size a b) (h : Own r b c) (hr : a.heap.size ≤ r) : Below a.heap.size a c :=
  ⟨h.os.trans ha.os, h.tape.trans ha.tape, h.output.trans ha.output, Nat.le_trans ha.size h.size, fun k hk => (h.block k (Nat.lt_of_lt_of_le hk ha.size) (fun e => by have := Option.some.inj e; omega)).trans (ha.block k hk)⟩

set_option maxRecDepth 100000 in
set_option maxHeartbeats 4000000 in
theorem parse_calls (s : ByteArray) (w : World) (hs : s.size ≤ 4000) : Calls Tryz.prog 9 #[.string s] w (ParseSays s w) := by
  have hsi : ¬ ((s.size : Int) > 4000) := by omega
  have hbx : boxV w.heap.size 0 ⟨#[]⟩ nilV nilV (w.alloc (.cells #[.int .u8 0, .string ⟨#[]⟩, nilV, nilV] 37)) := by
    show (w.heap.push _)[_]? = _
    exact Array.getElem?_push_size
  have hrd : Rd ((w.alloc (.cells #[.int .u8 0, .string ⟨#[]⟩, nilV, nilV] 37)).alloc (.cells #[.string s, .int .i64 0, .bool false] 51)) (w.heap.size + 1) s 0 false := by
    unfold Rd
    have := heap_alloc_new (w.alloc (.cells #[.int .u8 0, .string ⟨#[]⟩, nilV, nilV] 37)) (.cells #[.string s, .int .i64 0, .bool false] 51)
    rw [size_one] at this
    exact this
  have HBX := hide (hbx.later ((Below.refl _ _).alloc (Nat.le_refl _) (.cells #[.string s, .int .i64 0, .bool false] 51)))
  have HRD := hide hrd
  have HB0 := hide (show Below w.heap.size w ((w.alloc (.cells #[.int .u8 0, .string ⟨#[]⟩, nilV, nilV] 37)).alloc (.cells #[.string s, .int .i64 0, .bool false] 51)) from up ((Below.refl _ _).alloc (Nat.le_refl _) _) ((Below.refl _ _).alloc (Nat.le_refl _) _))
  have HVC := hide (fun w' h => value_top (w.heap.size + 1) s hs w' h)
  clear hbx hrd
  go_enter Tryz.func9, Tryz.ntmps9
  go_wp2_with (go_at_call 14; refine (unhide HVC _ (unhide HRD)).mono ?_)
  intro e w1 hval
  obtain ⟨k, t, a, l, p, a', l', p', j, b, rfl, ho, hr, hj, htop⟩ := hval
  have hrl := hr.cells.2.2
  have hne1 : w1.heap.size ≠ w.heap.size + 1 := by omega
  have HR1 := hide (hr.later ((Below.refl _ w1).alloc (Nat.le_refl _) (.cells #[.int .u8 k, .string t, .slice a l p, .slice a' l' p'] 37)))
  have HO1 := hide ho
  have hbn : boxV w1.heap.size k t (.slice a l p) (.slice a' l' p') (w1.alloc (.cells #[.int .u8 k, .string t, .slice a l p, .slice a' l' p'] 37)) := by
    show (w1.heap.push _)[_]? = _
    exact Array.getElem?_push_size
  have HBN := hide hbn
  have HBX1 := hide (((unhide HBX).own ho (by omega)).later ((Below.refl _ _).alloc (Nat.le_refl _) (.cells #[.int .u8 k, .string t, .slice a l p, .slice a' l' p'] 37)))
  have HB1 := hide (below_of_own (unhide HB0) ho (by omega))
  have HTOP := hide htop
  have hsz1 := ho.size
  clear hr ho htop hbn
  go_wp2_with (go_at_call 15; refine (blank_any (w.heap.size + 1) s j b _ (unhide HR1) (by omega) hs).mono ?_)
  rintro e w2 ⟨rfl, ho2, hr2⟩
  obtain ⟨jj, hjj⟩ : ∃ jj, j + blanksAt s j = jj := ⟨_, rfl⟩
  rw [hjj] at hr2
  have HJJ := hide hjj
  have HB2 := hide (below_of_own (grow (unhide HB1) (.cells #[.int .u8 k, .string t, .slice a l p, .slice a' l' p'] 37)) ho2 (by omega))
  have HO2 := hide ho2
  obtain ⟨⟨c0, c1, c2⟩, cf, cl⟩ := hr2.cells
  obtain ⟨⟨b0, b1, b2, b3⟩, bf, bl⟩ := ((unhide HBX1).own ho2 (by omega)).cells
  obtain ⟨⟨v0, v1, v2, v3⟩, vf, vl⟩ := ((unhide HBN).own ho2 hne1).cells
  have hwv : w.heap.size ≠ w1.heap.size := by omega
  clear ho2 hr2 hjj HBX HBX1 HBN HR1 HB0 HRD HVC
  cases b with
  | true =>
    go_wp2
    refine bodyPost_ret (v := .tuple #[valV 0 ⟨#[]⟩ nilV nilV, .bool false]) (by simp [results, Tryz.results9, go_sem, valV, *]) rfl ?_
    exact ⟨below4 (unhide HB2) (Nat.le_refl _), _, _, _, _, _, _, _, _, Or.inl ⟨(unhide HTOP).1 rfl, rfl⟩⟩
  | false =>
    by_cases hlt : jj < s.size
    · have hlti : (jj : Int) < (s.size : Int) := by omega
      go_wp2
      refine bodyPost_ret (v := .tuple #[valV 0 ⟨#[]⟩ nilV nilV, .bool false]) (by simp [results, Tryz.results9, go_sem, valV, *]) rfl ?_
      exact ⟨below4 (unhide HB2) (Nat.le_refl _), _, _, _, _, _, _, _, _, Or.inl ⟨((unhide HTOP).2 rfl).2.1 (by rw [unhide HJJ]; exact hlt), rfl⟩⟩
    · have hlti : ¬ (jj : Int) < (s.size : Int) := by omega
      go_wp2
      refine bodyPost_ret (v := .tuple #[valV k t (.slice a l p) (.slice a' l' p'), .bool true]) (by simp [results, Tryz.results9, go_sem, valV, *]) rfl ?_
      obtain ⟨x, hx, hrel⟩ := ((unhide HTOP).2 rfl).2.2 (by rw [unhide HJJ]; exact hlt)
      refine ⟨below4 (unhide HB2) (Nat.le_refl _), k, t, a, l, p, a', l', p', Or.inr ⟨x, hx, hrel.stays w.heap.size (by simp; omega) ?_, rfl⟩⟩
      have ho2 := unhide HO2
      have hnF : ¬ (((w.alloc (.cells #[.int .u8 0, .string ⟨#[]⟩, nilV, nilV] 37)).alloc (.cells #[.string s, .int .i64 0, .bool false] 51)).heap.size ≤ w.heap.size ∧ w.heap.size < w1.heap.size) := fun h => by have := h.1; simp at this; omega
      refine ((((AboveF.trans (b := w2) ⟨by have := ho2.size; simp at this; omega, fun k' hk hlt' => ?_⟩ (AboveF.refl _ _)).setCell (p := ⟨w.heap.size, 0, none⟩) hnF _).setCell (p := ⟨w.heap.size, 1, none⟩) hnF _).setCell (p := ⟨w.heap.size, 2, none⟩) hnF _).setCell (p := ⟨w.heap.size, 3, none⟩) hnF _
      have h1 := hk.1
      simp at h1
      rw [ho2.block k' (by simp; omega) (fun e => by have := Option.some.inj e; omega), Below.heap_alloc _ _ _ hlt']
end Go.Proofs.YtgaddifabjoliaaGreatDoor

namespace Go.Proofs.YtgaddifabjoliaaGreatDoor
open Go.RowKit

theorem form_node {α : Type} (rep : Rep α) (h4 : Fours rep) (f : α → Bytes) (hf : FormX rep f) : FormX (repNodeX rep) (nodeF f) := by
  intro x v F w hx hl
  rcases x with x | xs | ms
  · exact form_leaf x v F w hx hl
  · obtain ⟨l, rfl, hr⟩ := hx
    exact form_items rep h4 f hf xs l F w hr hl
  · obtain ⟨l, m, ms0, rfl, ho, rfl, hr, hn⟩ := hx
    exact form_members rep h4 f hf ms0 l m F w ho hr hn hl
theorem form_x : ∀ d, FormX (repX d) (formF d)
  | 0 => form_leaf
  | d + 1 => form_node (repX d) (fours_x d) (formF d) (form_x d)

theorem form_top (x : JT 8) (v : List Value) (B : Nat) (w : World) (h : RelTop B w x v) (hl : (formF 8 x).length ≤ 200000) :
    Calls Tryz.prog 10 #[.agg v.toArray] w fun e w' => e = .returned (.string ⟨(formF 8 x).toArray⟩) ∧ Below w.heap.size w w' := form_x 8 x _ _ w h hl

set_option maxRecDepth 100000 in
set_option maxHeartbeats 2000000 in
theorem ref_form (s : ByteArray) (w : World) : Calls Tryz.prog 6 #[.string s] w (FormSays s w) := by
  by_cases hs : s.size ≤ 4000
  · have hsi : ¬ ((s.size : Int) > 4000) := by omega
    have HPC := hide (fun w' => parse_calls s w' hs)
    go_enter Tryz.func6, Tryz.ntmps6
    go_wp2_with (go_at_call 9; refine (unhide HPC _).mono ?_)
    intro e w1 hp
    obtain ⟨hb, k, t, a, l, p, a', l', p', ⟨hn, rfl⟩ | ⟨x, hx, hr, rfl⟩⟩ := hp
    · have HB := hide hb
      have HN := hide hn
      clear hb hn
      go_wp2
      go_ret2
      exact ⟨grow (unhide HB) _, Or.inr (Or.inl ⟨hs, unhide HN, rfl⟩)⟩
    · have HB := hide hb
      have HX := hide hx
      have hln := read_short (by rw [Array.length_toList]; exact hs) hx
      have HC := hide (fun o => form_top x _ w.heap.size (w1.alloc o) (hr.stays w.heap.size (Nat.le_refl _) (above_of_below ((Below.refl _ w1).alloc (Nat.le_refl _) o))) (by omega))
      clear hb hx hr
      go_wp2_with (go_at_call 10; refine (unhide HC _).mono ?_; rintro e w2 ⟨rfl, hw2⟩; have HW2 := hide hw2; clear hw2)
      go_ret2
      exact ⟨up (grow (unhide HB) _) (unhide HW2), Or.inr (Or.inr ⟨hs, x, unhide HX, rfl⟩)⟩
  · have hsi : (4000 : Int) < (s.size : Int) := by omega
    go_enter Tryz.func6, Tryz.ntmps6
    go_wp2
    go_ret2
    exact ⟨Below.refl _ _, Or.inl ⟨by omega, rfl⟩⟩

/-! ### A known one -/
def memY : List (Named (JT 7)) := [([98], leafJ 7 (.inr (.inl 1))), ([97], leafJ 7 (.inr (.inr [65, 47])))]
theorem memY_by : byName memY = [([97], leafJ 7 (.inr (.inr [65, 47]))), ([98], leafJ 7 (.inr (.inl 1)))] := by
  refine up_unique ((byName_perm memY).trans (List.Perm.swap _ _ _)) (byName_up' memY (by unfold Once memY; decide)) ?_
  unfold Up
  rw [List.pairwise_cons]
  refine ⟨fun y hy => ?_, List.pairwise_singleton _ _⟩
  rw [List.mem_singleton] at hy
  subst hy
  decide
set_option maxRecDepth 100000 in
theorem knownY_read : readF [123, 32, 34, 98, 34, 58, 32, 49, 44, 32, 34, 97, 34, 58, 32, 34, 92, 117, 48, 48, 52, 49, 92, 47, 34, 32, 125] = some (objJ 7 (byName memY)) := by kernel_rfl
theorem knownY_form : formF 8 (objJ 7 (byName memY)) = [123, 34, 97, 34, 58, 34, 65, 47, 34, 44, 34, 98, 34, 58, 49, 125] := by
  have h1 : Lib.itoa 1 = [49] := by
    rw [show (1 : Int) = ((1 : Nat) : Int) from rfl, Lib.itoa_nonneg, Lib.decDigits_one (by decide)]
    rfl
  rw [memY_by]
  show [123] ++ sep [textF [97] ++ ([58] ++ textF [65, 47]), textF [98] ++ ([58] ++ Lib.itoa 1)] ++ [125] = _
  rw [h1]
  rfl
theorem form_known (w : World) (hL : Laid w) : Calls Tryz.prog 5 #[.string (ByteArray.mk #[123, 32, 34, 98, 34, 58, 32, 49, 44, 32, 34, 97, 34, 58, 32, 34, 92, 117, 48, 48, 52, 49, 92, 47, 34, 32, 125])] w fun e w' => e = .returned (.tuple #[.string (ByteArray.mk #[123, 34, 97, 34, 58, 34, 65, 47, 34, 44, 34, 98, 34, 58, 49, 125]), .int .i64 0]) ∧ Below w.heap.size w w' := by
  refine (code_form _ w hL).mono ?_
  rintro e w' ⟨hb, ⟨h1, _⟩ | ⟨_, hn, _⟩ | ⟨_, z, hz, he⟩⟩
  · exact absurd h1 (by decide)
  · exact absurd (knownY_read.symm.trans hn) (by intro h; cases h)
  · have e1 := Option.some.inj (knownY_read.symm.trans hz)
    subst e1
    refine ⟨?_, hb⟩
    rw [he, knownY_form]

set_option maxRecDepth 100000 in
set_option maxHeartbeats 2000000 in
theorem forms_walk (s : ByteArray) (w : World) (hL : Laid w) : Calls Tryz.prog 3 #[.string s] w fun e w' => e = .returned (.bool true) ∧ Below w.heap.size w w' := by
  obtain ⟨y, er, hy⟩ : ∃ (y : ByteArray) (er : Int), ∀ w e w', FormSays s w e w' → e = .returned (.tuple #[.string y, .int .i64 er]) ∧ Below w.heap.size w w' := by
    by_cases hs : s.size ≤ 4000
    · cases hr : readF s.data.toList with
      | none =>
        refine ⟨⟨#[]⟩, 2, ?_⟩
        rintro w e w' ⟨hb, ⟨h1, _⟩ | ⟨_, _, he⟩ | ⟨_, z, hz, _⟩⟩
        · omega
        · exact ⟨he, hb⟩
        · rw [hr] at hz; cases hz
      | some x =>
        refine ⟨⟨(formF 8 x).toArray⟩, 0, ?_⟩
        rintro w e w' ⟨hb, ⟨h1, _⟩ | ⟨_, hn, _⟩ | ⟨_, z, hz, he⟩⟩
        · omega
        · rw [hr] at hn; cases hn
        · rw [hr] at hz
          have := Option.some.inj hz
          subst this
          exact ⟨he, hb⟩
    · refine ⟨⟨#[]⟩, 1, ?_⟩
      rintro w e w' ⟨hb, ⟨_, he⟩ | ⟨h1, _⟩ | ⟨h1, _⟩⟩
      · exact ⟨he, hb⟩
      · omega
      · omega
  have H1 := hide (fun w' (h : Below w.heap.size w w') => (code_form s w' (hL.later h)).mono (fun e w'' hh => hy w' e w'' hh))
  have H2 := hide (fun w' => (ref_form s w').mono (fun e w'' hh => hy w' e w'' hh))
  have H3 := hide (fun w' (h : Below w.heap.size w w') => form_known w' (hL.later h))
  clear hL hy
  go_enter Tryz.func3, Tryz.ntmps3
  go_wp2_with fail
  refine (unhide H1 w (Below.refl _ _)).mono ?_
  rintro e w1 ⟨rfl, hb1⟩
  go_wp2_with fail
  refine (unhide H2 w1).mono ?_
  rintro e w2 ⟨rfl, hb2⟩
  have hb12 := up hb1 hb2
  clear hb1 hb2
  go_wp2_with fail
  refine (unhide H3 w2 hb12).mono ?_
  rintro e w3 ⟨rfl, hb3⟩
  have hb := up hb12 hb3
  clear hb12 hb3
  go_wp2
  go_ret
  exact ⟨rfl, hb⟩
end Go.Proofs.YtgaddifabjoliaaGreatDoor
