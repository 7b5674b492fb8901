import Derived.Test.YtgaddifabjoliaaGreatDoorRfC
namespace Go.Proofs.YtgaddifabjoliaaGreatDoor
open Go.RowKit

set_option maxRecDepth 100000 in
set_option maxHeartbeats 4000000 in
theorem number_minus (r : Nat) (s : ByteArray) (i : Nat) (w : World) (h : Rd w r s i false) (hi : i ≤ s.size) (hs : s.size ≤ 4000) (f : Nat) (hf : i + blanksAt s i = f) (hfl : f < s.size) (h45 : s[f] = 45) :
    Calls Tryz.prog 40 #[.pointer (some ⟨r, 0, none⟩)] w (NumSays r s f w) := by
  have hfs : f ≤ s.size := by rw [← hf]; exact blanks_le s i hi
  have HL := hide (fun w1 (hb : Below w.heap.size w w1) => h.later hb)
  have HB := hide (fun w1 hr => blank_any r s i false w1 hr (by omega) hs)
  rw [hf] at HB
  have hrl := h.cells.2.2
  have hne : w.heap.size ≠ r := by omega
  have hbx : boxV w.heap.size 0 ⟨#[]⟩ nilV nilV (w.alloc (.cells #[.int .u8 0, .string ⟨#[]⟩, nilV, nilV] 37)) := by
    show (w.heap.push _)[_]? = _
    exact Array.getElem?_push_size
  have HBX := hide hbx
  clear hbx h hf
  have e45 : s[f].toNat = 45 := by rw [h45]; rfl
  have hlt0 : decide ((f : Int) < (s.size : Int)) = true := decide_eq_true (by omega)
  have hfi : (f : Int) < (s.size : Int) := by omega
  have HST := hide (show NumStart s f from ⟨hfl, Or.inl h45⟩)
  have HDC := hide (show s.data.toList.drop f = 45 :: s.data.toList.drop (f + 1) by rw [drop_cons s f hfl, h45])
  clear h45
  go_enter Tryz.func40, Tryz.ntmps40
  go_wp2_with (go_at_call 15; refine (unhide HB _ (unhide HL _ ((Below.refl _ _).alloc (Nat.le_refl _) _))).mono ?_; rintro e w1 ⟨rfl, ho, hr⟩; have HO := hide (((Own.refl r w).alloc _).trans ho); have HR := hide hr; have HX := hide ((unhide HBX).own ho hne); obtain ⟨⟨c0, c1, c2⟩, cf, cl⟩ := hr.cells; clear ho hr)
  go_quiet (fail)
  go_wp2
  clear c0 c1 c2 cf cl HB HL HBX
  go_loopw [6] (fun n wr => ∃ m : Nat, n = .int .i64 (m : Int) ∧ Hid (NumIn r s (f + 1) w.heap.size w m wr)) (fun _ wr => s.size - placeOf r wr)
  case atStart =>
    refine ⟨0, rfl, (f + 1), Nat.le_refl _, by omega, ((unhide HR).drewN _).move (f + 1), ((unhide HO).drewN _).setCell 1 _, (unhide HX).own (((Own.refl r _).drewN _).setCell 1 _) hne, fun k h1 _ h2 => by omega, fun _ => (worth_self s _).symm, fun h => by rw [worth_self] at h; omega, by omega⟩
  case round =>
    obtain ⟨m, rfl, HI⟩ := hrel
    obtain ⟨p, hgp, hps, hr, ho, hb, hA, h1, h2, h3⟩ := unhide HI
    have HRR := hide hr
    have HOO := hide ho
    have HBB := hide hb
    have HA := hide hA
    have HPL := hide hr.place
    obtain ⟨⟨c0, c1, c2⟩, cf, cl⟩ := hr.cells
    obtain ⟨⟨b0, b1, b2, b3⟩, bf, bl⟩ := hb.cells
    clear hr ho hb hA HI HO HR HX
    have H1 := hide h1
    have H2 := hide h2
    clear h1 h2
    by_cases hmore : ∃ h : p < s.size, isDig s[p] = true
    · obtain ⟨hlt, hd⟩ := hmore
      have HD := hide hd
      unfold isDig at hd
      simp only [Bool.and_eq_true, decide_eq_true_eq] at hd
      obtain ⟨d1, d2⟩ := hd
      have k1 : decide ((p : Int) < (s.size : Int)) = true := decide_eq_true (by omega)
      have k2 : decide ((48 : Int) ≤ (s[p].toNat : Int)) = true := decide_eq_true (by omega)
      have k3 : decide ((s[p].toNat : Int) ≤ 57) = true := decide_eq_true (by omega)
      have k4 : (p : Int) < (s.size : Int) := by omega
      by_cases hm : m < 9007199254740992
      · have k5 : decide ((m : Int) < 9007199254740992) = true := decide_eq_true (by omega)
        have k6 : (m : Int) ≤ 9007199254740991 := by omega
        have HM := hide hm
        have H3 := hide h3
        clear hm h3
        go_wp2
        go_quiet (fail)
        go_wp2
        refine wp_world (fun W' => Rd W' r s p false ∧ Own r w W' ∧ boxV w.heap.size 0 ⟨#[]⟩ nilV nilV W') ⟨(unhide HRR).drewN _, (unhide HOO).drewN _, (unhide HBB)⟩ (fun w6 hw6 => ?_)
        obtain ⟨hr6, ho6, hb6⟩ := hw6
        clear c0 c1 c2 cf cl b0 b1 b2 b3 bf bl HRR HOO HBB
        have HRR := hide hr6
        have HOO := hide ho6
        have HBB := hide hb6
        obtain ⟨⟨c0, c1, c2⟩, cf, cl⟩ := hr6.cells
        clear hr6 ho6 hb6
        go_quiet (fail)
        go_wp2
        have hR7 : Rd ((w6.drewN nq).setCell ⟨r, 1, none⟩ (.int .i64 ((p : Int) + 1))) r s (p + 1) false := ((unhide HRR).drewN nq).move (p + 1)
        go_roundw
        case rel =>
          have hm := unhide HM
          refine ⟨m * 10 + (s[p].toNat - 48), ?_, num_more hgp hlt (unhide HD) hR7 (((unhide HOO).drewN nq).setCell 1 _) ((unhide HBB).own ((((Own.refl r _).drewN nq).setCell 1 _)) hne) (unhide HA) (unhide H1) (unhide H2) (unhide H3) (Or.inl ⟨hm, rfl⟩)⟩
          rw [show ((m * 10 + (s[p].toNat - 48) : Nat) : Int) = 10 * (m : Int) + ((s[p].toNat : Int) - 48) by omega]
        case measure => rw [hR7.place, unhide HPL]; omega
      · have k5 : decide ((m : Int) < 9007199254740992) = false := decide_eq_false (by omega)
        have HM := hide hm
        have H3 := hide h3
        clear hm h3
        go_wp2
        go_quiet (fail)
        go_wp2
        have hR7 : Rd ((wr.drewN nq).setCell ⟨r, 1, none⟩ (.int .i64 ((p : Int) + 1))) r s (p + 1) false := ((unhide HRR).drewN nq).move (p + 1)
        go_roundw
        case rel =>
          have hm := unhide HM
          exact ⟨m, rfl, num_more hgp hlt (unhide HD) hR7 (((unhide HOO).drewN nq).setCell 1 _) ((unhide HBB).own ((((Own.refl r _).drewN nq).setCell 1 _)) hne) (unhide HA) (unhide H1) (unhide H2) (unhide H3) (Or.inr ⟨by omega, rfl⟩)⟩
        case measure => rw [hR7.place, unhide HPL]; omega
    · have HE := hide (digits_end s (f + 1) p hgp hps (unhide HA) (fun h => by cases e : isDig s[p] with | false => rfl | true => exact absurd ⟨h, e⟩ hmore))
      have hx3 : decide ((p : Int) < (s.size : Int)) = false ∨ (∃ h : p < s.size, (p : Int) < (s.size : Int) ∧ decide ((p : Int) < (s.size : Int)) = true ∧ (decide ((48 : Int) ≤ (s[p].toNat : Int)) = false ∨ (decide ((48 : Int) ≤ (s[p].toNat : Int)) = true ∧ decide ((s[p].toNat : Int) ≤ 57) = false))) := by
        by_cases hp : p < s.size
        · refine Or.inr ⟨hp, by omega, decide_eq_true (by omega), ?_⟩
          have hnd : ¬ isDig s[p] = true := fun e => hmore ⟨hp, e⟩
          unfold isDig at hnd
          simp only [Bool.and_eq_true, decide_eq_true_eq] at hnd
          by_cases h48 : 48 ≤ s[p].toNat
          · exact Or.inr ⟨decide_eq_true (by omega), decide_eq_false (by omega)⟩
          · exact Or.inl (decide_eq_false (by omega))
        · exact Or.inl (decide_eq_false (by omega))
      have HX3 := hide hx3
      clear hmore hx3
      have hpi : (p : Int) ≤ (s.size : Int) := by omega
      have hfp : (f : Int) ≤ (p : Int) := by omega
      by_cases hpg : p = f + 1
      · have HN := hide (show numberR (s.data.toList.drop f) = none by
          rw [unhide HDC, number_of_minus, unhide HE, if_pos (Or.inl hpg)])
        have kpf : ((p : Int) == (f : Int)) = false := by rw [beq_eq_false_iff_ne]; omega
        have kpg : ((p : Int) == (f : Int) + 1) = true := by rw [beq_iff_eq]; omega
        clear hpg HE
        rcases unhide HX3 with x1 | ⟨hp, x0, x1, x2 | ⟨x2, x3⟩⟩
        · clear HX3
          have y1 : ¬ (p < s.size) := by simpa using x1
          have y2 : decide (p < s.size) = false := decide_eq_false y1
          clear y1
          go_wp2
          go_quiet (fail)
          go_wp2
          go_quiet (fail)
          go_wp2
          refine bodyPost_ret (v := .tuple #[valV 110 (s.extract f p) nilV nilV, .bool true]) (by simp [results, Tryz.results40, go_sem, valV, *]) rfl ?_
          exact ⟨own5 ((unhide HOO).drewN _) _ _ _ _ _ (Nat.le_refl _), Or.inr (Or.inl ⟨unhide HST, unhide HN, _, p, by omega, rfl, rd5 ((((unhide HRR).drewN _)).spoil true) hne _ _ _ _⟩)⟩
        · clear HX3
          go_wp2
          go_quiet (fail)
          go_wp2
          go_quiet (fail)
          go_wp2
          refine bodyPost_ret (v := .tuple #[valV 110 (s.extract f p) nilV nilV, .bool true]) (by simp [results, Tryz.results40, go_sem, valV, *]) rfl ?_
          exact ⟨own5 ((unhide HOO).drewN _) _ _ _ _ _ (Nat.le_refl _), Or.inr (Or.inl ⟨unhide HST, unhide HN, _, p, by omega, rfl, rd5 ((((unhide HRR).drewN _)).spoil true) hne _ _ _ _⟩)⟩
        · clear HX3
          go_wp2
          go_quiet (fail)
          go_wp2
          go_quiet (fail)
          go_wp2
          refine bodyPost_ret (v := .tuple #[valV 110 (s.extract f p) nilV nilV, .bool true]) (by simp [results, Tryz.results40, go_sem, valV, *]) rfl ?_
          exact ⟨own5 ((unhide HOO).drewN _) _ _ _ _ _ (Nat.le_refl _), Or.inr (Or.inl ⟨unhide HST, unhide HN, _, p, by omega, rfl, rd5 ((((unhide HRR).drewN _)).spoil true) hne _ _ _ _⟩)⟩
      have kpf : ((p : Int) == (f : Int)) = false := by rw [beq_eq_false_iff_ne]; omega
      have kpg : ((p : Int) == (f : Int) + 1) = false := by rw [beq_eq_false_iff_ne]; omega
      have KZ := hide (zero_minus s f p (by omega) hps (unhide HDC))
      have hgl : f + 1 < s.size := by omega
      have hgi : (f : Int) + 1 < (s.size : Int) := by omega
      have hgz : (0 : Int) ≤ (f : Int) + 1 := by omega
      have KB := hide (byteN_at s (f + 1) hgl)
      by_cases hz : s[f + 1].toNat = 48
      · by_cases hgt : f + 1 + 1 < p
        · have HN := hide (show numberR (s.data.toList.drop f) = none by
            rw [unhide HDC, number_of_minus, unhide HE, if_pos (Or.inr (Or.inl ⟨hgt, by rw [unhide KB]; exact hz⟩))])
          have kgt : decide ((f : Int) + 1 + 1 < (p : Int)) = true := decide_eq_true (by omega)
          clear hgt hpg HE KZ KB
          rcases unhide HX3 with x1 | ⟨hp, x0, x1, x2 | ⟨x2, x3⟩⟩
          · clear HX3
            have y1 : ¬ (p < s.size) := by simpa using x1
            have y2 : decide (p < s.size) = false := decide_eq_false y1
            clear y1
            go_wp2
            go_quiet (fail)
            go_wp2
            go_quiet (fail)
            go_wp2
            refine bodyPost_ret (v := .tuple #[valV 110 (s.extract f p) nilV nilV, .bool true]) (by simp [results, Tryz.results40, go_sem, valV, *]) rfl ?_
            exact ⟨own5 ((unhide HOO).drewN _) _ _ _ _ _ (Nat.le_refl _), Or.inr (Or.inl ⟨unhide HST, unhide HN, _, p, by omega, rfl, rd5 ((((unhide HRR).drewN _)).spoil true) hne _ _ _ _⟩)⟩
          · clear HX3
            go_wp2
            go_quiet (fail)
            go_wp2
            go_quiet (fail)
            go_wp2
            refine bodyPost_ret (v := .tuple #[valV 110 (s.extract f p) nilV nilV, .bool true]) (by simp [results, Tryz.results40, go_sem, valV, *]) rfl ?_
            exact ⟨own5 ((unhide HOO).drewN _) _ _ _ _ _ (Nat.le_refl _), Or.inr (Or.inl ⟨unhide HST, unhide HN, _, p, by omega, rfl, rd5 ((((unhide HRR).drewN _)).spoil true) hne _ _ _ _⟩)⟩
          · clear HX3
            go_wp2
            go_quiet (fail)
            go_wp2
            go_quiet (fail)
            go_wp2
            refine bodyPost_ret (v := .tuple #[valV 110 (s.extract f p) nilV nilV, .bool true]) (by simp [results, Tryz.results40, go_sem, valV, *]) rfl ?_
            exact ⟨own5 ((unhide HOO).drewN _) _ _ _ _ _ (Nat.le_refl _), Or.inr (Or.inl ⟨unhide HST, unhide HN, _, p, by omega, rfl, rd5 ((((unhide HRR).drewN _)).spoil true) hne _ _ _ _⟩)⟩
        have kgt : decide ((f : Int) + 1 + 1 < (p : Int)) = false := decide_eq_false (by omega)
        have HN := hide (show numberR (s.data.toList.drop f) = none by
          have hw : worth s (f + 1) p = 0 := by
            have := worth_step s (f + 1) (f + 1) (Nat.le_refl _) hgl
            rw [worth_self] at this
            rw [show p = f + 1 + 1 by omega, this, hz]
          rw [unhide HDC, number_of_minus, unhide HE, if_neg (by rw [hw]; omega), hw]
          rfl)
        have kz := unhide KZ
        rw [decide_eq_true (show p = f + 2 ∧ byteN s (f + 1) = 48 from ⟨by omega, by rw [unhide KB]; exact hz⟩)] at kz
        have kz2 : ((s.extract f p).toList == (⟨#[45, 48]⟩ : ByteArray).toList) = true := by rw [show (⟨#[45, 48]⟩ : ByteArray).toList = [45, 48] by rw [ByteArray.toList_eq]]; exact kz
        clear hgt hpg HE KZ KB
        rcases unhide HX3 with x1 | ⟨hp, x0, x1, x2 | ⟨x2, x3⟩⟩
        · clear HX3
          have y1 : ¬ (p < s.size) := by simpa using x1
          have y2 : decide (p < s.size) = false := decide_eq_false y1
          clear y1
          go_wp2
          go_quiet (fail)
          go_wp2
          go_quiet (fail)
          go_wp2
          refine bodyPost_ret (v := .tuple #[valV 110 (s.extract f p) nilV nilV, .bool true]) (by simp [results, Tryz.results40, go_sem, valV, *]) rfl ?_
          exact ⟨own5 ((unhide HOO).drewN _) _ _ _ _ _ (Nat.le_refl _), Or.inr (Or.inl ⟨unhide HST, unhide HN, _, p, by omega, rfl, rd5 ((((unhide HRR).drewN _)).spoil true) hne _ _ _ _⟩)⟩
        · clear HX3
          go_wp2
          go_quiet (fail)
          go_wp2
          go_quiet (fail)
          go_wp2
          refine bodyPost_ret (v := .tuple #[valV 110 (s.extract f p) nilV nilV, .bool true]) (by simp [results, Tryz.results40, go_sem, valV, *]) rfl ?_
          exact ⟨own5 ((unhide HOO).drewN _) _ _ _ _ _ (Nat.le_refl _), Or.inr (Or.inl ⟨unhide HST, unhide HN, _, p, by omega, rfl, rd5 ((((unhide HRR).drewN _)).spoil true) hne _ _ _ _⟩)⟩
        · clear HX3
          go_wp2
          go_quiet (fail)
          go_wp2
          go_quiet (fail)
          go_wp2
          refine bodyPost_ret (v := .tuple #[valV 110 (s.extract f p) nilV nilV, .bool true]) (by simp [results, Tryz.results40, go_sem, valV, *]) rfl ?_
          exact ⟨own5 ((unhide HOO).drewN _) _ _ _ _ _ (Nat.le_refl _), Or.inr (Or.inl ⟨unhide HST, unhide HN, _, p, by omega, rfl, rd5 ((((unhide HRR).drewN _)).spoil true) hne _ _ _ _⟩)⟩
      · have k48 : ((s[f + 1].toNat : Int) == 48) = false := by rw [beq_eq_false_iff_ne]; omega
        by_cases hgt : f + 1 + 1 < p
        · have kz := unhide KZ
          rw [decide_eq_false (show ¬ (p = f + 2 ∧ byteN s (f + 1) = 48) from fun h => hz (by rw [← unhide KB]; exact h.2))] at kz
          have kz2 : ((s.extract f p).toList == (⟨#[45, 48]⟩ : ByteArray).toList) = false := by rw [show (⟨#[45, 48]⟩ : ByteArray).toList = [45, 48] by rw [ByteArray.toList_eq]]; exact kz
          have kgt : decide ((f : Int) + 1 + 1 < (p : Int)) = true := decide_eq_true (by omega)
          by_cases hv : 9007199254740992 ≤ worth s (f + 1) p
          · have HN := hide (show numberR (s.data.toList.drop f) = none by rw [unhide HDC, number_of_minus, unhide HE, if_pos (Or.inr (Or.inr hv))])
            have kn : decide ((9007199254740992 : Int) ≤ (m : Int)) = true := decide_eq_true (by have := unhide H2 hv; omega)
            clear hv hpg HE KZ KB hgt hz
            rcases unhide HX3 with x1 | ⟨hp, x0, x1, x2 | ⟨x2, x3⟩⟩
            · clear HX3
              have y1 : ¬ (p < s.size) := by simpa using x1
              have y2 : decide (p < s.size) = false := decide_eq_false y1
              clear y1
              go_wp2
              go_quiet (fail)
              go_wp2
              go_quiet (fail)
              go_wp2
              refine bodyPost_ret (v := .tuple #[valV 110 (s.extract f p) nilV nilV, .bool true]) (by simp [results, Tryz.results40, go_sem, valV, *]) rfl ?_
              exact ⟨own5 ((unhide HOO).drewN _) _ _ _ _ _ (Nat.le_refl _), Or.inr (Or.inl ⟨unhide HST, unhide HN, _, p, by omega, rfl, rd5 ((((unhide HRR).drewN _)).spoil true) hne _ _ _ _⟩)⟩
            · clear HX3
              go_wp2
              go_quiet (fail)
              go_wp2
              go_quiet (fail)
              go_wp2
              refine bodyPost_ret (v := .tuple #[valV 110 (s.extract f p) nilV nilV, .bool true]) (by simp [results, Tryz.results40, go_sem, valV, *]) rfl ?_
              exact ⟨own5 ((unhide HOO).drewN _) _ _ _ _ _ (Nat.le_refl _), Or.inr (Or.inl ⟨unhide HST, unhide HN, _, p, by omega, rfl, rd5 ((((unhide HRR).drewN _)).spoil true) hne _ _ _ _⟩)⟩
            · clear HX3
              go_wp2
              go_quiet (fail)
              go_wp2
              go_quiet (fail)
              go_wp2
              refine bodyPost_ret (v := .tuple #[valV 110 (s.extract f p) nilV nilV, .bool true]) (by simp [results, Tryz.results40, go_sem, valV, *]) rfl ?_
              exact ⟨own5 ((unhide HOO).drewN _) _ _ _ _ _ (Nat.le_refl _), Or.inr (Or.inl ⟨unhide HST, unhide HN, _, p, by omega, rfl, rd5 ((((unhide HRR).drewN _)).spoil true) hne _ _ _ _⟩)⟩
          · have hmw := unhide H1 (by omega)
            have hdg : digitsR (s.data.toList.drop (f + 1)) = some ((m : Int), s.data.toList.drop p) := by rw [unhide HE, if_neg (by rw [unhide KB]; omega), hmw]
            have hm0 : m ≠ 0 := fun e => hz (by have := (worth_zero s (f + 1) p m (by omega) hps hdg e).2; rw [unhide KB] at this; exact this)
            have HN := hide (show numberR (s.data.toList.drop f) = some (-(m : Int), s.data.toList.drop p) by rw [unhide HDC, number_of_minus, hdg]; simp only; rw [if_neg (by omega)])
            have HT := hide (show s.extract f p = ⟨(Lib.itoa (-(m : Int))).toArray⟩ by rw [Lib.itoa_neg m (by omega)]; exact text_minus s f p m (by omega) hps (unhide HDC) hdg)
            have kn : decide ((9007199254740992 : Int) ≤ (m : Int)) = false := decide_eq_false (by omega)
            clear hv hpg HE KZ KB hmw hdg hgt hz
            rcases unhide HX3 with x1 | ⟨hp, x0, x1, x2 | ⟨x2, x3⟩⟩
            · clear HX3
              have y1 : ¬ (p < s.size) := by simpa using x1
              have y2 : decide (p < s.size) = false := decide_eq_false y1
              clear y1
              go_wp2
              go_quiet (fail)
              go_wp2
              go_quiet (fail)
              go_wp2
              refine bodyPost_ret (v := .tuple #[valV 110 (s.extract f p) nilV nilV, .bool true]) (by simp [results, Tryz.results40, go_sem, valV, *]) rfl ?_
              have HT2 := unhide HT
              rw [HT2]
              exact ⟨own4 ((unhide HOO).drewN _) _ _ _ _ (Nat.le_refl _), Or.inr (Or.inr ⟨unhide HST, _, _, unhide HN, rfl, p, by omega, by omega, rfl, rd5 ((unhide HRR).drewN _) hne _ _ _ _⟩)⟩
            · clear HX3
              go_wp2
              go_quiet (fail)
              go_wp2
              go_quiet (fail)
              go_wp2
              refine bodyPost_ret (v := .tuple #[valV 110 (s.extract f p) nilV nilV, .bool true]) (by simp [results, Tryz.results40, go_sem, valV, *]) rfl ?_
              have HT2 := unhide HT
              rw [HT2]
              exact ⟨own4 ((unhide HOO).drewN _) _ _ _ _ (Nat.le_refl _), Or.inr (Or.inr ⟨unhide HST, _, _, unhide HN, rfl, p, by omega, by omega, rfl, rd5 ((unhide HRR).drewN _) hne _ _ _ _⟩)⟩
            · clear HX3
              go_wp2
              go_quiet (fail)
              go_wp2
              go_quiet (fail)
              go_wp2
              refine bodyPost_ret (v := .tuple #[valV 110 (s.extract f p) nilV nilV, .bool true]) (by simp [results, Tryz.results40, go_sem, valV, *]) rfl ?_
              have HT2 := unhide HT
              rw [HT2]
              exact ⟨own4 ((unhide HOO).drewN _) _ _ _ _ (Nat.le_refl _), Or.inr (Or.inr ⟨unhide HST, _, _, unhide HN, rfl, p, by omega, by omega, rfl, rd5 ((unhide HRR).drewN _) hne _ _ _ _⟩)⟩
        · have kz := unhide KZ
          rw [decide_eq_false (show ¬ (p = f + 2 ∧ byteN s (f + 1) = 48) from fun h => hz (by rw [← unhide KB]; exact h.2))] at kz
          have kz2 : ((s.extract f p).toList == (⟨#[45, 48]⟩ : ByteArray).toList) = false := by rw [show (⟨#[45, 48]⟩ : ByteArray).toList = [45, 48] by rw [ByteArray.toList_eq]]; exact kz
          have kgt : decide ((f : Int) + 1 + 1 < (p : Int)) = false := decide_eq_false (by omega)
          by_cases hv : 9007199254740992 ≤ worth s (f + 1) p
          · have HN := hide (show numberR (s.data.toList.drop f) = none by rw [unhide HDC, number_of_minus, unhide HE, if_pos (Or.inr (Or.inr hv))])
            have kn : decide ((9007199254740992 : Int) ≤ (m : Int)) = true := decide_eq_true (by have := unhide H2 hv; omega)
            clear hv hpg HE KZ KB hgt hz
            rcases unhide HX3 with x1 | ⟨hp, x0, x1, x2 | ⟨x2, x3⟩⟩
            · clear HX3
              have y1 : ¬ (p < s.size) := by simpa using x1
              have y2 : decide (p < s.size) = false := decide_eq_false y1
              clear y1
              go_wp2
              go_quiet (fail)
              go_wp2
              go_quiet (fail)
              go_wp2
              refine bodyPost_ret (v := .tuple #[valV 110 (s.extract f p) nilV nilV, .bool true]) (by simp [results, Tryz.results40, go_sem, valV, *]) rfl ?_
              exact ⟨own5 ((unhide HOO).drewN _) _ _ _ _ _ (Nat.le_refl _), Or.inr (Or.inl ⟨unhide HST, unhide HN, _, p, by omega, rfl, rd5 ((((unhide HRR).drewN _)).spoil true) hne _ _ _ _⟩)⟩
            · clear HX3
              go_wp2
              go_quiet (fail)
              go_wp2
              go_quiet (fail)
              go_wp2
              refine bodyPost_ret (v := .tuple #[valV 110 (s.extract f p) nilV nilV, .bool true]) (by simp [results, Tryz.results40, go_sem, valV, *]) rfl ?_
              exact ⟨own5 ((unhide HOO).drewN _) _ _ _ _ _ (Nat.le_refl _), Or.inr (Or.inl ⟨unhide HST, unhide HN, _, p, by omega, rfl, rd5 ((((unhide HRR).drewN _)).spoil true) hne _ _ _ _⟩)⟩
            · clear HX3
              go_wp2
              go_quiet (fail)
              go_wp2
              go_quiet (fail)
              go_wp2
              refine bodyPost_ret (v := .tuple #[valV 110 (s.extract f p) nilV nilV, .bool true]) (by simp [results, Tryz.results40, go_sem, valV, *]) rfl ?_
              exact ⟨own5 ((unhide HOO).drewN _) _ _ _ _ _ (Nat.le_refl _), Or.inr (Or.inl ⟨unhide HST, unhide HN, _, p, by omega, rfl, rd5 ((((unhide HRR).drewN _)).spoil true) hne _ _ _ _⟩)⟩
          · have hmw := unhide H1 (by omega)
            have hdg : digitsR (s.data.toList.drop (f + 1)) = some ((m : Int), s.data.toList.drop p) := by rw [unhide HE, if_neg (by rw [unhide KB]; omega), hmw]
            have hm0 : m ≠ 0 := fun e => hz (by have := (worth_zero s (f + 1) p m (by omega) hps hdg e).2; rw [unhide KB] at this; exact this)
            have HN := hide (show numberR (s.data.toList.drop f) = some (-(m : Int), s.data.toList.drop p) by rw [unhide HDC, number_of_minus, hdg]; simp only; rw [if_neg (by omega)])
            have HT := hide (show s.extract f p = ⟨(Lib.itoa (-(m : Int))).toArray⟩ by rw [Lib.itoa_neg m (by omega)]; exact text_minus s f p m (by omega) hps (unhide HDC) hdg)
            have kn : decide ((9007199254740992 : Int) ≤ (m : Int)) = false := decide_eq_false (by omega)
            clear hv hpg HE KZ KB hmw hdg hgt hz
            rcases unhide HX3 with x1 | ⟨hp, x0, x1, x2 | ⟨x2, x3⟩⟩
            · clear HX3
              have y1 : ¬ (p < s.size) := by simpa using x1
              have y2 : decide (p < s.size) = false := decide_eq_false y1
              clear y1
              go_wp2
              go_quiet (fail)
              go_wp2
              go_quiet (fail)
              go_wp2
              refine bodyPost_ret (v := .tuple #[valV 110 (s.extract f p) nilV nilV, .bool true]) (by simp [results, Tryz.results40, go_sem, valV, *]) rfl ?_
              have HT2 := unhide HT
              rw [HT2]
              exact ⟨own4 ((unhide HOO).drewN _) _ _ _ _ (Nat.le_refl _), Or.inr (Or.inr ⟨unhide HST, _, _, unhide HN, rfl, p, by omega, by omega, rfl, rd5 ((unhide HRR).drewN _) hne _ _ _ _⟩)⟩
            · clear HX3
              go_wp2
              go_quiet (fail)
              go_wp2
              go_quiet (fail)
              go_wp2
              refine bodyPost_ret (v := .tuple #[valV 110 (s.extract f p) nilV nilV, .bool true]) (by simp [results, Tryz.results40, go_sem, valV, *]) rfl ?_
              have HT2 := unhide HT
              rw [HT2]
              exact ⟨own4 ((unhide HOO).drewN _) _ _ _ _ (Nat.le_refl _), Or.inr (Or.inr ⟨unhide HST, _, _, unhide HN, rfl, p, by omega, by omega, rfl, rd5 ((unhide HRR).drewN _) hne _ _ _ _⟩)⟩
            · clear HX3
              go_wp2
              go_quiet (fail)
              go_wp2
              go_quiet (fail)
              go_wp2
              refine bodyPost_ret (v := .tuple #[valV 110 (s.extract f p) nilV nilV, .bool true]) (by simp [results, Tryz.results40, go_sem, valV, *]) rfl ?_
              have HT2 := unhide HT
              rw [HT2]
              exact ⟨own4 ((unhide HOO).drewN _) _ _ _ _ (Nat.le_refl _), Or.inr (Or.inr ⟨unhide HST, _, _, unhide HN, rfl, p, by omega, by omega, rfl, rd5 ((unhide HRR).drewN _) hne _ _ _ _⟩)⟩
end Go.Proofs.YtgaddifabjoliaaGreatDoor
