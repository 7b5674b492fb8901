import Derived.Test.YtgaddifabjoliaaGreatDoorRfB
namespace Go.Proofs.YtgaddifabjoliaaGreatDoor
open Go.RowKit

/-- The world may be forgotten but for what is said of it. -/
theorem wp_world {c : Code} {Q : Exit → Act → World → Prop} {a : Act} {W : World} (S : World → Prop) (hS : S W) (h : ∀ W', S W' → Code.wp Tryz.prog c Q a W') : Code.wp Tryz.prog c Q a W := h W hS

theorem unit_is (s : ByteArray) (p : Nat) : unitR (s.data.toList.drop p) = if h : p + 1 < s.size then (if s[p] = 92 ∧ s[p + 1] = 117 then fourR (s.data.toList.drop (p + 2)) else none) else none := by
  by_cases h : p + 1 < s.size
  · rw [dif_pos h, drop_cons s p (by omega), drop_cons s (p + 1) h]
    have hpre : ∀ (x y : UInt8) (l : Bytes), ([92, 117] : Bytes).isPrefixOf (x :: y :: l) = (92 == x && 117 == y) := fun x y l => by simp [List.isPrefixOf]
    unfold unitR afterR
    rw [hpre]
    by_cases h1 : s[p] = 92
    · by_cases h2 : s[p + 1] = 117
      · rw [if_pos (show s[p] = 92 ∧ s[p + 1] = 117 from ⟨h1, h2⟩), h1, h2]
        rfl
      · have e : ((117 : UInt8) == s[p + 1]) = false := by simpa using fun e => h2 e.symm
        rw [if_neg (show ¬ (s[p] = 92 ∧ s[p + 1] = 117) from fun hh => h2 hh.2), e, Bool.and_false]
        rfl
    · have e : ((92 : UInt8) == s[p]) = false := by simpa using fun e => h1 e.symm
      rw [if_neg (show ¬ (s[p] = 92 ∧ s[p + 1] = 117) from fun hh => h1 hh.1), e, Bool.false_and]
      rfl
  · rw [dif_neg h]
    by_cases h1 : p < s.size
    · rw [drop_cons s p h1, drop_far s (p + 1) (by omega)]
      unfold unitR afterR
      rw [show ([92, 117] : Bytes).isPrefixOf [s[p]] = false by simp [List.isPrefixOf]]
      rfl
    · rw [drop_far s p (by omega)]
      rfl
theorem four_long {s : ByteArray} {p : Nat} {m : Int} {q : Bytes} (h : fourR (s.data.toList.drop p) = some (m, q)) : p + 4 ≤ s.size ∧ q = s.data.toList.drop (p + 4) ∧ ∃ k : Nat, m = (k : Int) ∧ k < 65536 := by
  obtain ⟨hq, hl, k, hk, hk2⟩ := four_rest h
  rw [List.drop_drop] at hq
  rw [List.length_drop, Array.length_toList] at hl
  have : s.data.size = s.size := rfl
  exact ⟨by omega, hq, k, hk, hk2⟩
theorem pair_none (s : ByteArray) (p n : Nat) (h : s.size < p + 6 ∨ ¬ (∃ h : p + 1 < s.size, s[p] = 92 ∧ s[p + 1] = 117)) : pairE n (s.data.toList.drop p) = none := by
  unfold pairE
  have hu : unitR (s.data.toList.drop p) = none := by
    rw [unit_is]
    split
    · rename_i h1
      split
      · rename_i h2
        rcases h with h | h
        · cases hf : fourR (s.data.toList.drop (p + 2)) with
          | none => rfl
          | some z =>
            have := (four_long (m := z.1) (q := z.2) hf).1
            omega
        · exact absurd ⟨h1, h2⟩ h
      · rfl
    · rfl
  rw [hu]
theorem four_later (s : ByteArray) (i : Nat) (hi : i ≤ 5000) (hs : s.size ≤ 4000) (v : Int) (hv : fourAt s i = v) : ∀ (z : Int), z = (i : Int) → ∀ w, Calls Tryz.prog 145 #[.string s, .int .i64 z] w fun e w' => e = .returned (.int .i64 v) ∧ w' = w := fun z hz w => four_at_is s i hi hs v hv z hz w

set_option maxRecDepth 100000 in
set_option maxHeartbeats 2000000 in
theorem escape_p_short (r : Nat) (s : ByteArray) (i : Nat) (w : World) (h : Rd w r s i false) (hs : s.size ≤ 4000) (hlt : i < s.size) (hc : s[i] = 117) (n : Nat) (q : Bytes) (hf : fourR (s.data.toList.drop (i + 1)) = some ((n : Int), q)) (hn : 55296 ≤ n) (hn2 : n < 56320) (hsh : s.size < i + 11) :
    Calls Tryz.prog 97 #[.pointer (some ⟨r, 0, none⟩)] w (EscSays r s i w) := by
  obtain ⟨hl5, hq, _⟩ := four_long hf
  have hz : escR (s.data.toList.drop i) = pairE n (s.data.toList.drop (i + 5)) := by
    rw [esc_u s i hlt hc]
    unfold unitE
    rw [hf]
    simp only
    rw [if_neg (by omega), if_neg (by omega), hq]
  have hx : s[i].toNat = 117 := by rw [hc]; rfl
  have HF := hide (four_at_is s (i + 1) (by omega) hs (n : Int) (by unfold fourAt; rw [hf]) ((i : Int) + 1) (by omega))
  clear hq
  have HZ := hide hz
  have HR := hide h
  obtain ⟨⟨c0, c1, c2⟩, cf, cl⟩ := h.cells
  have hgi : ¬ ((s.size : Int) ≤ (i : Int)) := by omega
  clear hz h hc hf
  go_enter Tryz.func97, Tryz.ntmps97
  go_wp2
  go_quiet (fail)
  go_wp2
  go_quiet (fail)
  go_wp2
  go_quiet (exact Calls.quiet_of_same (unhide HF _))
  go_wp2
  refine wp_world (fun W' => Rd W' r s (i + 5) false ∧ Own r w W') ⟨(((((unhide HR).drewN _).move (i + 1)).drewN _).move (i + 5)), (((((Own.refl r w).drewN _).setCell 1 _).drewN _).setCell 1 _)⟩ (fun w5 hw5 => ?_)
  obtain ⟨hr5, ho5⟩ := hw5
  clear c0 c1 c2 cf cl HR HF hx hgi
  obtain ⟨p, hp⟩ : ∃ p, i + 5 = p := ⟨_, rfl⟩
  rw [hp] at hr5 HZ
  have HN := hide (pair_none s p n (Or.inl (by omega)))
  have hd : decide ((p : Int) + 6 ≤ (s.size : Int)) = false := decide_eq_false (by omega)
  have hp7 : p ≤ 4000 := by omega
  obtain ⟨v, hv⟩ : ∃ v, fourAt s (p + 2) = v := ⟨_, rfl⟩
  have HF2 := hide (four_later s (p + 2) (by omega) hs v hv)
  clear hv
  have HR := hide hr5
  have HO := hide ho5
  have HP := hide hp
  obtain ⟨⟨c0, c1, c2⟩, cf, cl⟩ := hr5.cells
  clear hr5 ho5
  go_quiet (fail)
  go_wp2
  refine wp_world (fun W' => Rd W' r s p false ∧ Own r w W') ⟨(unhide HR).drewN _, (unhide HO).drewN _⟩ (fun w6 hw6 => ?_)
  obtain ⟨hr6, ho6⟩ := hw6
  clear c0 c1 c2 cf cl HR HO
  have HR := hide hr6
  have HO := hide ho6
  obtain ⟨⟨c0, c1, c2⟩, cf, cl⟩ := hr6.cells
  clear hr6 ho6
  go_quiet (exact Calls.quiet_of_same (unhide HF2 _ (by omega) _))
  go_wp2
  go_ret
  exact esc_bad (j := p) (((unhide HO).drewN _).setCell 2 _) ((unhide HZ).trans (unhide HN)) (by omega) (((unhide HR).drewN _).spoil true)

set_option maxRecDepth 100000 in
set_option maxHeartbeats 2000000 in
theorem escape_p_first (r : Nat) (s : ByteArray) (i : Nat) (w : World) (h : Rd w r s i false) (hs : s.size ≤ 4000) (hlt : i < s.size) (hc : s[i] = 117) (n : Nat) (q : Bytes) (hf : fourR (s.data.toList.drop (i + 1)) = some ((n : Int), q)) (hn : 55296 ≤ n) (hn2 : n < 56320) (hsh : i + 11 ≤ s.size) (h92 : s[i + 5] ≠ 92) :
    Calls Tryz.prog 97 #[.pointer (some ⟨r, 0, none⟩)] w (EscSays r s i w) := by
  obtain ⟨hl5, hq, _⟩ := four_long hf
  have hz : escR (s.data.toList.drop i) = pairE n (s.data.toList.drop (i + 5)) := by
    rw [esc_u s i hlt hc]
    unfold unitE
    rw [hf]
    simp only
    rw [if_neg (by omega), if_neg (by omega), hq]
  have hx : s[i].toNat = 117 := by rw [hc]; rfl
  have HF := hide (four_at_is s (i + 1) (by omega) hs (n : Int) (by unfold fourAt; rw [hf]) ((i : Int) + 1) (by omega))
  clear hq
  have HZ := hide hz
  have HR := hide h
  obtain ⟨⟨c0, c1, c2⟩, cf, cl⟩ := h.cells
  have hgi : ¬ ((s.size : Int) ≤ (i : Int)) := by omega
  clear hz h hc hf
  go_enter Tryz.func97, Tryz.ntmps97
  go_wp2
  go_quiet (fail)
  go_wp2
  go_quiet (fail)
  go_wp2
  go_quiet (exact Calls.quiet_of_same (unhide HF _))
  go_wp2
  refine wp_world (fun W' => Rd W' r s (i + 5) false ∧ Own r w W') ⟨(((((unhide HR).drewN _).move (i + 1)).drewN _).move (i + 5)), (((((Own.refl r w).drewN _).setCell 1 _).drewN _).setCell 1 _)⟩ (fun w5 hw5 => ?_)
  obtain ⟨hr5, ho5⟩ := hw5
  clear c0 c1 c2 cf cl HR HF hx hgi
  obtain ⟨p, hp⟩ : ∃ p, i + 5 = p := ⟨_, rfl⟩
  rw [hp] at hr5 HZ
  have hps : p + 6 ≤ s.size := by omega
  have hpl : p < s.size := by omega
  have hpl1 : p + 1 < s.size := by omega
  have hpl2 : (p : Int) + 1 < (s.size : Int) := by omega
  have hpl3 : (0 : Int) ≤ (p : Int) + 1 := by omega
  have hne : s[p] ≠ 92 := by subst hp; exact h92
  have HN := hide (pair_none s p n (Or.inr (fun ⟨_, a, _⟩ => hne a)))
  have hd : decide ((p : Int) + 6 ≤ (s.size : Int)) = true := decide_eq_true (by omega)
  have hd2 : ((s[p].toNat : Int) == 92) = false := by
    rw [beq_eq_false_iff_ne]
    intro e
    exact hne (UInt8.toNat_inj.1 (show s[p].toNat = 92 by omega))
  have hd3 : ¬ (s[p].toNat = 92) := fun e => hne (UInt8.toNat_inj.1 e)
  have hd4 : decide ((s[p].toNat : Int) = 92) = false := decide_eq_false (by omega)
  clear h92 hne
  have hp7 : p ≤ 4000 := by omega
  obtain ⟨v, hv⟩ : ∃ v, fourAt s (p + 2) = v := ⟨_, rfl⟩
  have HF2 := hide (four_later s (p + 2) (by omega) hs v hv)
  clear hv
  have HR := hide hr5
  have HO := hide ho5
  have HP := hide hp
  obtain ⟨⟨c0, c1, c2⟩, cf, cl⟩ := hr5.cells
  clear hr5 ho5
  go_quiet (fail)
  go_wp2
  refine wp_world (fun W' => Rd W' r s p false ∧ Own r w W') ⟨(unhide HR).drewN _, (unhide HO).drewN _⟩ (fun w6 hw6 => ?_)
  obtain ⟨hr6, ho6⟩ := hw6
  clear c0 c1 c2 cf cl HR HO
  have HR := hide hr6
  have HO := hide ho6
  obtain ⟨⟨c0, c1, c2⟩, cf, cl⟩ := hr6.cells
  clear hr6 ho6
  go_quiet (exact Calls.quiet_of_same (unhide HF2 _ (by omega) _))
  go_wp2
  go_ret
  exact esc_bad (j := p) (((unhide HO).drewN _).setCell 2 _) ((unhide HZ).trans (unhide HN)) (by omega) (((unhide HR).drewN _).spoil true)

set_option maxRecDepth 100000 in
set_option maxHeartbeats 2000000 in
theorem escape_p_second (r : Nat) (s : ByteArray) (i : Nat) (w : World) (h : Rd w r s i false) (hs : s.size ≤ 4000) (hlt : i < s.size) (hc : s[i] = 117) (n : Nat) (q : Bytes) (hf : fourR (s.data.toList.drop (i + 1)) = some ((n : Int), q)) (hn : 55296 ≤ n) (hn2 : n < 56320) (hsh : i + 11 ≤ s.size) (h92 : s[i + 5] = 92) (h117 : s[i + 6] ≠ 117) :
    Calls Tryz.prog 97 #[.pointer (some ⟨r, 0, none⟩)] w (EscSays r s i w) := by
  obtain ⟨hl5, hq, _⟩ := four_long hf
  have hz : escR (s.data.toList.drop i) = pairE n (s.data.toList.drop (i + 5)) := by
    rw [esc_u s i hlt hc]
    unfold unitE
    rw [hf]
    simp only
    rw [if_neg (by omega), if_neg (by omega), hq]
  have hx : s[i].toNat = 117 := by rw [hc]; rfl
  have HF := hide (four_at_is s (i + 1) (by omega) hs (n : Int) (by unfold fourAt; rw [hf]) ((i : Int) + 1) (by omega))
  clear hq
  have HZ := hide hz
  have HR := hide h
  obtain ⟨⟨c0, c1, c2⟩, cf, cl⟩ := h.cells
  have hgi : ¬ ((s.size : Int) ≤ (i : Int)) := by omega
  clear hz h hc hf
  go_enter Tryz.func97, Tryz.ntmps97
  go_wp2
  go_quiet (fail)
  go_wp2
  go_quiet (fail)
  go_wp2
  go_quiet (exact Calls.quiet_of_same (unhide HF _))
  go_wp2
  refine wp_world (fun W' => Rd W' r s (i + 5) false ∧ Own r w W') ⟨(((((unhide HR).drewN _).move (i + 1)).drewN _).move (i + 5)), (((((Own.refl r w).drewN _).setCell 1 _).drewN _).setCell 1 _)⟩ (fun w5 hw5 => ?_)
  obtain ⟨hr5, ho5⟩ := hw5
  clear c0 c1 c2 cf cl HR HF hx hgi
  obtain ⟨p, hp⟩ : ∃ p, i + 5 = p := ⟨_, rfl⟩
  rw [hp] at hr5 HZ
  have hps : p + 6 ≤ s.size := by omega
  have hpl : p < s.size := by omega
  have hpl1 : p + 1 < s.size := by omega
  have hpl2 : (p : Int) + 1 < (s.size : Int) := by omega
  have hpl3 : (0 : Int) ≤ (p : Int) + 1 := by omega
  have he : s[p].toNat = 92 := by subst hp; rw [h92]; rfl
  have hne : s[p + 1] ≠ 117 := by subst hp; exact h117
  have HN := hide (pair_none s p n (Or.inr (fun ⟨_, _, a⟩ => hne a)))
  have hd : decide ((p : Int) + 6 ≤ (s.size : Int)) = true := decide_eq_true (by omega)
  have hd2 : ((s[p + 1].toNat : Int) == 117) = false := by
    rw [beq_eq_false_iff_ne]
    intro e
    exact hne (UInt8.toNat_inj.1 (show s[p + 1].toNat = 117 by omega))
  have hd3 : ¬ (s[p + 1].toNat = 117) := fun e => hne (UInt8.toNat_inj.1 e)
  have hd4 : decide ((s[p + 1].toNat : Int) = 117) = false := decide_eq_false (by omega)
  clear h92 h117 hne
  have hp7 : p ≤ 4000 := by omega
  obtain ⟨v, hv⟩ : ∃ v, fourAt s (p + 2) = v := ⟨_, rfl⟩
  have HF2 := hide (four_later s (p + 2) (by omega) hs v hv)
  clear hv
  have HR := hide hr5
  have HO := hide ho5
  have HP := hide hp
  obtain ⟨⟨c0, c1, c2⟩, cf, cl⟩ := hr5.cells
  clear hr5 ho5
  go_quiet (fail)
  go_wp2
  refine wp_world (fun W' => Rd W' r s p false ∧ Own r w W') ⟨(unhide HR).drewN _, (unhide HO).drewN _⟩ (fun w6 hw6 => ?_)
  obtain ⟨hr6, ho6⟩ := hw6
  clear c0 c1 c2 cf cl HR HO
  have HR := hide hr6
  have HO := hide ho6
  obtain ⟨⟨c0, c1, c2⟩, cf, cl⟩ := hr6.cells
  clear hr6 ho6
  go_quiet (exact Calls.quiet_of_same (unhide HF2 _ (by omega) _))
  go_wp2
  go_ret
  exact esc_bad (j := p) (((unhide HO).drewN _).setCell 2 _) ((unhide HZ).trans (unhide HN)) (by omega) (((unhide HR).drewN _).spoil true)

set_option maxRecDepth 100000 in
set_option maxHeartbeats 2000000 in
theorem escape_p_none (r : Nat) (s : ByteArray) (i : Nat) (w : World) (h : Rd w r s i false) (hs : s.size ≤ 4000) (hlt : i < s.size) (hc : s[i] = 117) (n : Nat) (q : Bytes) (hf : fourR (s.data.toList.drop (i + 1)) = some ((n : Int), q)) (hn : 55296 ≤ n) (hn2 : n < 56320) (hsh : i + 11 ≤ s.size) (h92 : s[i + 5] = 92) (h117 : s[i + 6] = 117) (hm : fourR (s.data.toList.drop (i + 7)) = none) :
    Calls Tryz.prog 97 #[.pointer (some ⟨r, 0, none⟩)] w (EscSays r s i w) := by
  obtain ⟨hl5, hq, _⟩ := four_long hf
  have hz : escR (s.data.toList.drop i) = pairE n (s.data.toList.drop (i + 5)) := by
    rw [esc_u s i hlt hc]
    unfold unitE
    rw [hf]
    simp only
    rw [if_neg (by omega), if_neg (by omega), hq]
  have hx : s[i].toNat = 117 := by rw [hc]; rfl
  have HF := hide (four_at_is s (i + 1) (by omega) hs (n : Int) (by unfold fourAt; rw [hf]) ((i : Int) + 1) (by omega))
  clear hq
  have HZ := hide hz
  have HR := hide h
  obtain ⟨⟨c0, c1, c2⟩, cf, cl⟩ := h.cells
  have hgi : ¬ ((s.size : Int) ≤ (i : Int)) := by omega
  clear hz h hc hf
  go_enter Tryz.func97, Tryz.ntmps97
  go_wp2
  go_quiet (fail)
  go_wp2
  go_quiet (fail)
  go_wp2
  go_quiet (exact Calls.quiet_of_same (unhide HF _))
  go_wp2
  refine wp_world (fun W' => Rd W' r s (i + 5) false ∧ Own r w W') ⟨(((((unhide HR).drewN _).move (i + 1)).drewN _).move (i + 5)), (((((Own.refl r w).drewN _).setCell 1 _).drewN _).setCell 1 _)⟩ (fun w5 hw5 => ?_)
  obtain ⟨hr5, ho5⟩ := hw5
  clear c0 c1 c2 cf cl HR HF hx hgi
  obtain ⟨p, hp⟩ : ∃ p, i + 5 = p := ⟨_, rfl⟩
  rw [hp] at hr5 HZ
  have hps : p + 6 ≤ s.size := by omega
  have hpl : p < s.size := by omega
  have hpl1 : p + 1 < s.size := by omega
  have hpl2 : (p : Int) + 1 < (s.size : Int) := by omega
  have hpl3 : (0 : Int) ≤ (p : Int) + 1 := by omega
  have he : s[p].toNat = 92 := by subst hp; rw [h92]; rfl
  have he2 : s[p + 1].toNat = 117 := by subst hp; rw [h117]; rfl
  have hun : unitR (s.data.toList.drop p) = fourR (s.data.toList.drop (p + 2)) := by
    rw [unit_is, dif_pos (by omega), if_pos ⟨UInt8.toNat_inj.1 he, UInt8.toNat_inj.1 he2⟩]
  have hd : decide ((p : Int) + 6 ≤ (s.size : Int)) = true := decide_eq_true (by omega)
  rw [show i + 7 = p + 2 by omega] at hm
  have HN := hide (show pairE n (s.data.toList.drop p) = none by unfold pairE; rw [hun, hm])
  have HF2 := hide (four_later s (p + 2) (by omega) hs (-1) (by unfold fourAt; rw [hm]))
  clear h92 h117 hm hun
  have HR := hide hr5
  have HO := hide ho5
  have HP := hide hp
  obtain ⟨⟨c0, c1, c2⟩, cf, cl⟩ := hr5.cells
  clear hr5 ho5
  go_quiet (fail)
  go_wp2
  refine wp_world (fun W' => Rd W' r s p false ∧ Own r w W') ⟨(unhide HR).drewN _, (unhide HO).drewN _⟩ (fun w6 hw6 => ?_)
  obtain ⟨hr6, ho6⟩ := hw6
  clear c0 c1 c2 cf cl HR HO
  have HR := hide hr6
  have HO := hide ho6
  obtain ⟨⟨c0, c1, c2⟩, cf, cl⟩ := hr6.cells
  clear hr6 ho6
  go_quiet (exact Calls.quiet_of_same (unhide HF2 _ (by omega) _))
  go_wp2
  go_ret
  exact esc_bad (j := p) (((unhide HO).drewN _).setCell 2 _) ((unhide HZ).trans (unhide HN)) (by omega) (((unhide HR).drewN _).spoil true)

set_option maxRecDepth 100000 in
set_option maxHeartbeats 2000000 in
theorem escape_p_low (r : Nat) (s : ByteArray) (i : Nat) (w : World) (h : Rd w r s i false) (hs : s.size ≤ 4000) (hlt : i < s.size) (hc : s[i] = 117) (n : Nat) (q : Bytes) (hf : fourR (s.data.toList.drop (i + 1)) = some ((n : Int), q)) (hn : 55296 ≤ n) (hn2 : n < 56320) (hsh : i + 11 ≤ s.size) (h92 : s[i + 5] = 92) (h117 : s[i + 6] = 117) (m : Nat) (qm : Bytes) (hm : fourR (s.data.toList.drop (i + 7)) = some ((m : Int), qm)) (hm1 : m < 56320) :
    Calls Tryz.prog 97 #[.pointer (some ⟨r, 0, none⟩)] w (EscSays r s i w) := by
  obtain ⟨hl5, hq, _⟩ := four_long hf
  have hz : escR (s.data.toList.drop i) = pairE n (s.data.toList.drop (i + 5)) := by
    rw [esc_u s i hlt hc]
    unfold unitE
    rw [hf]
    simp only
    rw [if_neg (by omega), if_neg (by omega), hq]
  have hx : s[i].toNat = 117 := by rw [hc]; rfl
  have HF := hide (four_at_is s (i + 1) (by omega) hs (n : Int) (by unfold fourAt; rw [hf]) ((i : Int) + 1) (by omega))
  clear hq
  have HZ := hide hz
  have HR := hide h
  obtain ⟨⟨c0, c1, c2⟩, cf, cl⟩ := h.cells
  have hgi : ¬ ((s.size : Int) ≤ (i : Int)) := by omega
  clear hz h hc hf
  go_enter Tryz.func97, Tryz.ntmps97
  go_wp2
  go_quiet (fail)
  go_wp2
  go_quiet (fail)
  go_wp2
  go_quiet (exact Calls.quiet_of_same (unhide HF _))
  go_wp2
  refine wp_world (fun W' => Rd W' r s (i + 5) false ∧ Own r w W') ⟨(((((unhide HR).drewN _).move (i + 1)).drewN _).move (i + 5)), (((((Own.refl r w).drewN _).setCell 1 _).drewN _).setCell 1 _)⟩ (fun w5 hw5 => ?_)
  obtain ⟨hr5, ho5⟩ := hw5
  clear c0 c1 c2 cf cl HR HF hx hgi
  obtain ⟨p, hp⟩ : ∃ p, i + 5 = p := ⟨_, rfl⟩
  rw [hp] at hr5 HZ
  have hps : p + 6 ≤ s.size := by omega
  have hpl : p < s.size := by omega
  have hpl1 : p + 1 < s.size := by omega
  have hpl2 : (p : Int) + 1 < (s.size : Int) := by omega
  have hpl3 : (0 : Int) ≤ (p : Int) + 1 := by omega
  have he : s[p].toNat = 92 := by subst hp; rw [h92]; rfl
  have he2 : s[p + 1].toNat = 117 := by subst hp; rw [h117]; rfl
  have hun : unitR (s.data.toList.drop p) = fourR (s.data.toList.drop (p + 2)) := by
    rw [unit_is, dif_pos (by omega), if_pos ⟨UInt8.toNat_inj.1 he, UInt8.toNat_inj.1 he2⟩]
  have hd : decide ((p : Int) + 6 ≤ (s.size : Int)) = true := decide_eq_true (by omega)
  rw [show i + 7 = p + 2 by omega] at hm
  have dm1 : decide ((m : Int) < 56320) = true := decide_eq_true (by omega)
  have HN := hide (show pairE n (s.data.toList.drop p) = none by unfold pairE; rw [hun, hm]; simp only; rw [if_pos (by omega)])
  have HF2 := hide (four_later s (p + 2) (by omega) hs (m : Int) (by unfold fourAt; rw [hm]))
  clear h92 h117 hm hun hm1
  have HR := hide hr5
  have HO := hide ho5
  have HP := hide hp
  obtain ⟨⟨c0, c1, c2⟩, cf, cl⟩ := hr5.cells
  clear hr5 ho5
  go_quiet (fail)
  go_wp2
  refine wp_world (fun W' => Rd W' r s p false ∧ Own r w W') ⟨(unhide HR).drewN _, (unhide HO).drewN _⟩ (fun w6 hw6 => ?_)
  obtain ⟨hr6, ho6⟩ := hw6
  clear c0 c1 c2 cf cl HR HO
  have HR := hide hr6
  have HO := hide ho6
  obtain ⟨⟨c0, c1, c2⟩, cf, cl⟩ := hr6.cells
  clear hr6 ho6
  go_quiet (exact Calls.quiet_of_same (unhide HF2 _ (by omega) _))
  go_wp2
  go_ret
  exact esc_bad (j := p) (((unhide HO).drewN _).setCell 2 _) ((unhide HZ).trans (unhide HN)) (by omega) (((unhide HR).drewN _).spoil true)

set_option maxRecDepth 100000 in
set_option maxHeartbeats 2000000 in
theorem escape_p_high (r : Nat) (s : ByteArray) (i : Nat) (w : World) (h : Rd w r s i false) (hs : s.size ≤ 4000) (hlt : i < s.size) (hc : s[i] = 117) (n : Nat) (q : Bytes) (hf : fourR (s.data.toList.drop (i + 1)) = some ((n : Int), q)) (hn : 55296 ≤ n) (hn2 : n < 56320) (hsh : i + 11 ≤ s.size) (h92 : s[i + 5] = 92) (h117 : s[i + 6] = 117) (m : Nat) (qm : Bytes) (hm : fourR (s.data.toList.drop (i + 7)) = some ((m : Int), qm)) (hm1 : 57343 < m) (hm2 : m < 65536) :
    Calls Tryz.prog 97 #[.pointer (some ⟨r, 0, none⟩)] w (EscSays r s i w) := by
  obtain ⟨hl5, hq, _⟩ := four_long hf
  have hz : escR (s.data.toList.drop i) = pairE n (s.data.toList.drop (i + 5)) := by
    rw [esc_u s i hlt hc]
    unfold unitE
    rw [hf]
    simp only
    rw [if_neg (by omega), if_neg (by omega), hq]
  have hx : s[i].toNat = 117 := by rw [hc]; rfl
  have HF := hide (four_at_is s (i + 1) (by omega) hs (n : Int) (by unfold fourAt; rw [hf]) ((i : Int) + 1) (by omega))
  clear hq
  have HZ := hide hz
  have HR := hide h
  obtain ⟨⟨c0, c1, c2⟩, cf, cl⟩ := h.cells
  have hgi : ¬ ((s.size : Int) ≤ (i : Int)) := by omega
  clear hz h hc hf
  go_enter Tryz.func97, Tryz.ntmps97
  go_wp2
  go_quiet (fail)
  go_wp2
  go_quiet (fail)
  go_wp2
  go_quiet (exact Calls.quiet_of_same (unhide HF _))
  go_wp2
  refine wp_world (fun W' => Rd W' r s (i + 5) false ∧ Own r w W') ⟨(((((unhide HR).drewN _).move (i + 1)).drewN _).move (i + 5)), (((((Own.refl r w).drewN _).setCell 1 _).drewN _).setCell 1 _)⟩ (fun w5 hw5 => ?_)
  obtain ⟨hr5, ho5⟩ := hw5
  clear c0 c1 c2 cf cl HR HF hx hgi
  obtain ⟨p, hp⟩ : ∃ p, i + 5 = p := ⟨_, rfl⟩
  rw [hp] at hr5 HZ
  have hps : p + 6 ≤ s.size := by omega
  have hpl : p < s.size := by omega
  have hpl1 : p + 1 < s.size := by omega
  have hpl2 : (p : Int) + 1 < (s.size : Int) := by omega
  have hpl3 : (0 : Int) ≤ (p : Int) + 1 := by omega
  have he : s[p].toNat = 92 := by subst hp; rw [h92]; rfl
  have he2 : s[p + 1].toNat = 117 := by subst hp; rw [h117]; rfl
  have hun : unitR (s.data.toList.drop p) = fourR (s.data.toList.drop (p + 2)) := by
    rw [unit_is, dif_pos (by omega), if_pos ⟨UInt8.toNat_inj.1 he, UInt8.toNat_inj.1 he2⟩]
  have hd : decide ((p : Int) + 6 ≤ (s.size : Int)) = true := decide_eq_true (by omega)
  rw [show i + 7 = p + 2 by omega] at hm
  have dm1 : decide ((m : Int) < 56320) = false := decide_eq_false (by omega)
  have dm2 : decide (57343 < (m : Int)) = true := decide_eq_true (by omega)
  have HN := hide (show pairE n (s.data.toList.drop p) = none by unfold pairE; rw [hun, hm]; simp only; rw [if_pos (by omega)])
  have HF2 := hide (four_later s (p + 2) (by omega) hs (m : Int) (by unfold fourAt; rw [hm]))
  clear h92 h117 hm hun hm1
  have HR := hide hr5
  have HO := hide ho5
  have HP := hide hp
  obtain ⟨⟨c0, c1, c2⟩, cf, cl⟩ := hr5.cells
  clear hr5 ho5
  go_quiet (fail)
  go_wp2
  refine wp_world (fun W' => Rd W' r s p false ∧ Own r w W') ⟨(unhide HR).drewN _, (unhide HO).drewN _⟩ (fun w6 hw6 => ?_)
  obtain ⟨hr6, ho6⟩ := hw6
  clear c0 c1 c2 cf cl HR HO
  have HR := hide hr6
  have HO := hide ho6
  obtain ⟨⟨c0, c1, c2⟩, cf, cl⟩ := hr6.cells
  clear hr6 ho6
  go_quiet (exact Calls.quiet_of_same (unhide HF2 _ (by omega) _))
  go_wp2
  go_ret
  exact esc_bad (j := p) (((unhide HO).drewN _).setCell 2 _) ((unhide HZ).trans (unhide HN)) (by omega) (((unhide HR).drewN _).spoil true)

set_option maxRecDepth 100000 in
set_option maxHeartbeats 2000000 in
theorem escape_p_fine (r : Nat) (s : ByteArray) (i : Nat) (w : World) (h : Rd w r s i false) (hs : s.size ≤ 4000) (hlt : i < s.size) (hc : s[i] = 117) (n : Nat) (q : Bytes) (hf : fourR (s.data.toList.drop (i + 1)) = some ((n : Int), q)) (hn : 55296 ≤ n) (hn2 : n < 56320) (hsh : i + 11 ≤ s.size) (h92 : s[i + 5] = 92) (h117 : s[i + 6] = 117) (m : Nat) (qm : Bytes) (hm : fourR (s.data.toList.drop (i + 7)) = some ((m : Int), qm)) (hm1 : 56320 ≤ m) (hm2 : m ≤ 57343) :
    Calls Tryz.prog 97 #[.pointer (some ⟨r, 0, none⟩)] w (EscSays r s i w) := by
  obtain ⟨hl5, hq, _⟩ := four_long hf
  have hz : escR (s.data.toList.drop i) = pairE n (s.data.toList.drop (i + 5)) := by
    rw [esc_u s i hlt hc]
    unfold unitE
    rw [hf]
    simp only
    rw [if_neg (by omega), if_neg (by omega), hq]
  have hx : s[i].toNat = 117 := by rw [hc]; rfl
  have HF := hide (four_at_is s (i + 1) (by omega) hs (n : Int) (by unfold fourAt; rw [hf]) ((i : Int) + 1) (by omega))
  clear hq
  have HZ := hide hz
  have HR := hide h
  obtain ⟨⟨c0, c1, c2⟩, cf, cl⟩ := h.cells
  have hgi : ¬ ((s.size : Int) ≤ (i : Int)) := by omega
  clear hz h hc hf
  go_enter Tryz.func97, Tryz.ntmps97
  go_wp2
  go_quiet (fail)
  go_wp2
  go_quiet (fail)
  go_wp2
  go_quiet (exact Calls.quiet_of_same (unhide HF _))
  go_wp2
  refine wp_world (fun W' => Rd W' r s (i + 5) false ∧ Own r w W') ⟨(((((unhide HR).drewN _).move (i + 1)).drewN _).move (i + 5)), (((((Own.refl r w).drewN _).setCell 1 _).drewN _).setCell 1 _)⟩ (fun w5 hw5 => ?_)
  obtain ⟨hr5, ho5⟩ := hw5
  clear c0 c1 c2 cf cl HR HF hx hgi
  obtain ⟨p, hp⟩ : ∃ p, i + 5 = p := ⟨_, rfl⟩
  rw [hp] at hr5 HZ
  have hps : p + 6 ≤ s.size := by omega
  have hpl : p < s.size := by omega
  have hpl1 : p + 1 < s.size := by omega
  have hpl2 : (p : Int) + 1 < (s.size : Int) := by omega
  have hpl3 : (0 : Int) ≤ (p : Int) + 1 := by omega
  have he : s[p].toNat = 92 := by subst hp; rw [h92]; rfl
  have he2 : s[p + 1].toNat = 117 := by subst hp; rw [h117]; rfl
  have hun : unitR (s.data.toList.drop p) = fourR (s.data.toList.drop (p + 2)) := by
    rw [unit_is, dif_pos (by omega), if_pos ⟨UInt8.toNat_inj.1 he, UInt8.toNat_inj.1 he2⟩]
  have hd : decide ((p : Int) + 6 ≤ (s.size : Int)) = true := decide_eq_true (by omega)
  rw [show i + 7 = p + 2 by omega] at hm
  have dm1 : decide ((m : Int) < 56320) = false := decide_eq_false (by omega)
  have dm2 : decide (57343 < (m : Int)) = false := decide_eq_false (by omega)
  obtain ⟨hl6, hq6, _⟩ := four_long hm
  obtain ⟨c, hcc⟩ : ∃ c : Nat, c = 65536 + 1024 * (n - 55296) + (m - 56320) := ⟨_, rfl⟩
  have HN := hide (show pairE n (s.data.toList.drop p) = some ((c : Int), s.data.toList.drop (p + 6)) by
    unfold pairE
    rw [hun, hm]
    simp only
    have e : (65536 + 1024 * ((n : Int) - 55296) + ((m : Int) - 56320)) = (c : Int) := by omega
    rw [if_neg (by omega), hq6, e])
  have HF2 := hide (four_later s (p + 2) (by omega) hs (m : Int) (by unfold fourAt; rw [hm]))
  have HU := hide (show ∀ (z : Int), z = (c : Int) → ∀ w, Calls Tryz.prog 146 #[.int .i64 z] w fun e w' => e = .returned (.string ⟨(encL c).toArray⟩) ∧ Below w.heap.size w w' from fun z hz w => by rw [hz]; exact utf_calls c (by omega) w)
  have HCC := hide hcc
  clear h92 h117 hm hun hq6 hl6 hcc
  have HR := hide hr5
  have HO := hide ho5
  have HP := hide hp
  obtain ⟨⟨c0, c1, c2⟩, cf, cl⟩ := hr5.cells
  clear hr5 ho5
  go_quiet (fail)
  go_wp2
  refine wp_world (fun W' => Rd W' r s p false ∧ Own r w W') ⟨(unhide HR).drewN _, (unhide HO).drewN _⟩ (fun w6 hw6 => ?_)
  obtain ⟨hr6, ho6⟩ := hw6
  clear c0 c1 c2 cf cl HR HO
  have HR := hide hr6
  have HO := hide ho6
  obtain ⟨⟨c0, c1, c2⟩, cf, cl⟩ := hr6.cells
  clear hr6 ho6
  go_quiet (exact Calls.quiet_of_same (unhide HF2 _ (by omega) _))
  go_wp2_with (go_at_call 146; refine (unhide HU _ (by have := unhide HCC; omega) _).mono ?_; rintro e w1 ⟨rfl, hb⟩)
  go_ret
  have o1 := (((unhide HO).drewN nq).setCell 1 (.int .i64 ((p : Int) + 6))).below hb
  have o2 : Rd w1 r s (p + 6) false := (((unhide HR).drewN nq).move (p + 6)).later hb
  have o3 : escR (s.data.toList.drop i) = some ((c : Int), s.data.toList.drop (p + 6)) := by rw [unhide HZ]; exact unhide HN
  have o4 : i < p + 6 := by omega
  have fin : EscSays r s i w (.returned (.string ⟨(encL c).toArray⟩)) w1 := ⟨o1, Or.inr ⟨c, _, o3, rfl, p + 6, hps, o4, rfl, o2⟩⟩
  exact fin

theorem escape_calls (r : Nat) (s : ByteArray) (i : Nat) (w : World) (h : Rd w r s i false) (hi : i ≤ s.size) (hs : s.size ≤ 4000) :
    Calls Tryz.prog 97 #[.pointer (some ⟨r, 0, none⟩)] w (EscSays r s i w) := by
  by_cases hlt : i < s.size
  · by_cases k34 : s[i] = 34
    · exact escape_quote r s i w h hs hlt k34
    by_cases k47 : s[i] = 47
    · exact escape_slash r s i w h hs hlt k47
    by_cases k92 : s[i] = 92
    · exact escape_back r s i w h hs hlt k92
    by_cases k98 : s[i] = 98
    · exact escape_b r s i w h hs hlt k98
    by_cases k102 : s[i] = 102
    · exact escape_f r s i w h hs hlt k102
    by_cases k110 : s[i] = 110
    · exact escape_n r s i w h hs hlt k110
    by_cases k114 : s[i] = 114
    · exact escape_r r s i w h hs hlt k114
    by_cases k116 : s[i] = 116
    · exact escape_t r s i w h hs hlt k116
    by_cases k117 : s[i] = 117
    · cases hf : fourR (s.data.toList.drop (i + 1)) with
      | none => exact escape_u_none r s i w h hs hlt k117 hf
      | some z =>
        obtain ⟨n', q⟩ := z
        obtain ⟨hl5, _, n, rfl, hn16⟩ := four_long hf
        by_cases n1 : n < 55296 ∨ 57343 < n
        · exact escape_u_one r s i w h hs hlt k117 n q hf n1
        by_cases n2 : 56320 ≤ n
        · exact escape_u_low r s i w h hs hlt k117 n q hf n2 (by omega)
        by_cases hsh : s.size < i + 11
        · exact escape_p_short r s i w h hs hlt k117 n q hf (by omega) (by omega) hsh
        by_cases h92 : s[i + 5] = 92
        · by_cases h117 : s[i + 6] = 117
          · cases hm : fourR (s.data.toList.drop (i + 7)) with
            | none => exact escape_p_none r s i w h hs hlt k117 n q hf (by omega) (by omega) (by omega) h92 h117 hm
            | some z2 =>
              obtain ⟨m', qm⟩ := z2
              obtain ⟨_, _, m, rfl, hm16⟩ := four_long hm
              by_cases m1 : m < 56320
              · exact escape_p_low r s i w h hs hlt k117 n q hf (by omega) (by omega) (by omega) h92 h117 m qm hm m1
              by_cases m2 : 57343 < m
              · exact escape_p_high r s i w h hs hlt k117 n q hf (by omega) (by omega) (by omega) h92 h117 m qm hm m2 hm16
              exact escape_p_fine r s i w h hs hlt k117 n q hf (by omega) (by omega) (by omega) h92 h117 m qm hm (by omega) (by omega)
          · exact escape_p_second r s i w h hs hlt k117 n q hf (by omega) (by omega) (by omega) h92 h117
        · exact escape_p_first r s i w h hs hlt k117 n q hf (by omega) (by omega) (by omega) h92
    exact escape_other r s i w h hs hlt ⟨k34, k47, k92, k98, k102, k110, k114, k116, k117⟩
  · exact escape_end r s i w h hi hs (by omega)
end Go.Proofs.YtgaddifabjoliaaGreatDoor

namespace Go.Proofs.YtgaddifabjoliaaGreatDoor
open Go.RowKit

def TextSays (r : Nat) (s : ByteArray) (i : Nat) (w : World) (e : Ending) (w' : World) : Prop := Own r w w' ∧
  ((textE (s.data.toList.drop i) = none ∧ e = .returned (.string ⟨#[]⟩) ∧ ∃ j, j ≤ 4100 ∧ Rd w' r s j true) ∨
   ∃ (t q : Bytes), textE (s.data.toList.drop i) = some (t, q) ∧ t.length ≤ 16400 ∧ e = .returned (.string ⟨t.toArray⟩) ∧ ∃ j, j ≤ s.size ∧ i < j ∧ s.data.toList.drop j = q ∧ Rd w' r s j false)

def badOf (r : Nat) (w : World) : Bool := match w.cell? ⟨r, 2, none⟩ with
  | some (.bool b) => b
  | _ => false
theorem Rd.bad {w : World} {r : Nat} {s : ByteArray} {i : Nat} {bad : Bool} (h : Rd w r s i bad) : badOf r w = bad := by
  unfold badOf
  rw [h.cells.1.2.2]
/-- How far a text is from its end. -/
def far (r : Nat) (s : ByteArray) (w : World) : Nat := if badOf r w = true then 0 else s.size + 1 - placeOf r w
theorem far_bad {w : World} {r : Nat} {s : ByteArray} {i : Nat} (h : Rd w r s i true) : far r s w = 0 := by
  unfold far; rw [h.bad]; rfl
theorem far_at {w : World} {r : Nat} {s : ByteArray} {i : Nat} (h : Rd w r s i false) : far r s w = s.size + 1 - i := by
  unfold far; rw [h.bad, h.place]; rfl

theorem bytes_app (a b : Bytes) : (⟨a.toArray⟩ : ByteArray) ++ ⟨b.toArray⟩ = ⟨(a ++ b).toArray⟩ := by
  apply ByteArray.ext
  rw [ByteArray.data_append]
  simp
theorem bytes_cut (s : ByteArray) (j p : Nat) (_hjp : j ≤ p) : s.extract j p = ⟨((s.data.toList.drop j).take (p - j)).toArray⟩ := by
  apply ByteArray.ext
  rw [ByteArray.data_extract]
  apply Array.ext'
  rw [Array.toList_extract, List.extract_eq_take_drop]
theorem encL_le (c : Nat) : (encL c).length ≤ 4 := by
  unfold encL
  repeat' split
  all_goals simp

/-- What is known within a string, from its first place i on. -/
def InText (r : Nat) (s : ByteArray) (i : Nat) (w : World) (acc : Bytes) (wr : World) : Prop := Own r w wr ∧
  ((textE (s.data.toList.drop i) = none ∧ ∃ j, j ≤ 4100 ∧ Rd wr r s j true) ∨
   ∃ j, j ≤ s.size ∧ i ≤ j ∧ Rd wr r s j false ∧ acc.length ≤ 4 * j ∧ textE (s.data.toList.drop i) = (textE (s.data.toList.drop j)).map fun y => (acc ++ y.1, y.2))

theorem in_bad {r : Nat} {s : ByteArray} {i j : Nat} {w wr : World} {acc : Bytes} (ho : Own r w wr) (hr : Rd wr r s j true) (hj : j ≤ 4100) (hz : textE (s.data.toList.drop i) = none) : InText r s i w acc wr := ⟨ho, Or.inl ⟨hz, j, hj, hr⟩⟩
theorem in_fine {r : Nat} {s : ByteArray} {i j : Nat} {w wr : World} {acc : Bytes} (ho : Own r w wr) (hr : Rd wr r s j false) (hj : j ≤ s.size) (hij : i ≤ j) (hl : acc.length ≤ 4 * j) (hz : textE (s.data.toList.drop i) = (textE (s.data.toList.drop j)).map fun y => (acc ++ y.1, y.2)) : InText r s i w acc wr := ⟨ho, Or.inr ⟨j, hj, hij, hr, hl, hz⟩⟩
theorem map_step {x : Option (Bytes × Bytes)} {acc a : Bytes} {z : Option (Bytes × Bytes)} (h : x = z.map fun y => (acc ++ y.1, y.2)) {u : Option (Bytes × Bytes)} (hz : z = u.map fun y => (a ++ y.1, y.2)) : x = u.map fun y => ((acc ++ a) ++ y.1, y.2) := by
  rw [h, hz]
  cases u <;> simp

/-- What may stand at a place within a string. -/
theorem text_split (s : ByteArray) (j : Nat) (hlt : j < s.size) (h32 : 32 ≤ s[j].toNat) :
    (runeN (s.data.toList.drop j) = 0 ∧ textE (s.data.toList.drop j) = none) ∨ (runeN (s.data.toList.drop j) = 1 ∧ s[j] = 34) ∨ (runeN (s.data.toList.drop j) = 1 ∧ s[j] = 92) ∨
    (1 ≤ runeN (s.data.toList.drop j) ∧ j + runeN (s.data.toList.drop j) ≤ s.size ∧ s[j] ≠ 34 ∧ s[j] ≠ 92 ∧ textE (s.data.toList.drop j) = (textE (s.data.toList.drop (j + runeN (s.data.toList.drop j)))).map fun y => ((s.data.toList.drop j).take (runeN (s.data.toList.drop j)) ++ y.1, y.2)) := by
  have one : s[j].toNat < 128 → runeN (s.data.toList.drop j) = 1 := by
    intro h
    rw [runeN_at, byteN_at s j hlt]
    unfold rune4
    rw [if_pos h]
  by_cases h34 : s[j] = 34
  · exact Or.inr (Or.inl ⟨one (by rw [h34]; decide), h34⟩)
  by_cases h92 : s[j] = 92
  · exact Or.inr (Or.inr (Or.inl ⟨one (by rw [h92]; decide), h92⟩))
  have hl : (s.data.toList.drop j).length = s.size - j := by rw [List.length_drop, Array.length_toList]; rfl
  have hdc := drop_cons s j hlt
  have hp := plain_is s[j] (s.data.toList.drop (j + 1)) h32 h34 h92
  have hio := item_other s[j] (s.data.toList.drop (j + 1)) h92
  rw [← hdc] at hp hio
  rcases hp with ⟨h0, hn⟩ | ⟨h1, h2, c, hg, hpl, he⟩
  · refine Or.inl ⟨h0, ?_⟩
    rw [hdc]
    exact text_none _ _ h34 (by rw [← hdc, hio, hn])
  · refine Or.inr (Or.inr (Or.inr ⟨h1, by omega, h34, h92, ?_⟩))
    have := text_step s[j] (s.data.toList.drop (j + 1)) h34 c _ hg (by rw [← hdc, hio]; exact hpl)
    rw [← hdc, he, List.drop_drop] at this
    exact this

set_option maxRecDepth 100000 in
set_option maxHeartbeats 4000000 in
theorem text_calls (r : Nat) (s : ByteArray) (i : Nat) (w : World) (h : Rd w r s i false) (hi : i ≤ s.size) (hs : s.size ≤ 4000) :
    Calls Tryz.prog 39 #[.pointer (some ⟨r, 0, none⟩)] w (TextSays r s i w) := by
  have HR := hide h
  clear h
  go_enter Tryz.func39, Tryz.ntmps39
  go_wp2
  go_loopw [3] (fun out wr => ∃ acc : Bytes, out = .string ⟨acc.toArray⟩ ∧ Hid (InText r s i w acc wr)) (fun _ wr => far r s wr)
  case atStart =>
    refine ⟨[], rfl, in_fine (Own.refl _ _) (unhide HR) hi (Nat.le_refl _) (Nat.zero_le _) ?_⟩
    cases textE (s.data.toList.drop i) <;> simp
  case round =>
    obtain ⟨acc, rfl, HI⟩ := hrel
    obtain ⟨ho, ⟨hz, j, hj, hr⟩ | ⟨j, hj, hij, hr, hl, hz⟩⟩ := unhide HI
    · have HZ := hide hz
      have HO := hide ho
      have HRR := hide hr
      obtain ⟨⟨c0, c1, c2⟩, cf, cl⟩ := hr.cells
      clear hz ho hr
      go_wp2
      go_ret
      exact ⟨unhide HO, Or.inl ⟨unhide HZ, rfl, j, hj, unhide HRR⟩⟩
    · have HZ := hide hz
      have HO := hide ho
      have HRR := hide hr
      have HFAR := hide (far_at hr)
      obtain ⟨⟨c0, c1, c2⟩, cf, cl⟩ := hr.cells
      clear hz ho hr HI
      by_cases hend : s.size ≤ j
      · have hd : decide ((s.size : Int) ≤ (j : Int)) = true := decide_eq_true (by omega)
        have hn : textE (s.data.toList.drop i) = none := by rw [unhide HZ, drop_far s j hend, text_nil]; rfl
        have HN := hide hn
        clear hn
        go_wp2
        go_quiet (fail)
        go_wp2
        go_ret
        exact ⟨((unhide HO).drewN _).setCell 2 _, Or.inl ⟨unhide HN, rfl, j, by omega, ((unhide HRR).drewN _).spoil true⟩⟩
      · have hlt : j < s.size := by omega
        have hli : (j : Int) < (s.size : Int) := by omega
        have hd : decide ((s.size : Int) ≤ (j : Int)) = false := decide_eq_false (by omega)
        have hb8 := UInt8.toNat_lt s[j]
        have HDC := hide (drop_cons s j hlt)
        by_cases h32 : s[j].toNat < 32
        · have hd2 : decide ((s[j].toNat : Int) < 32) = true := decide_eq_true (by omega)
          have hn : textE (s.data.toList.drop i) = none := by
            rw [unhide HZ, unhide HDC, text_none _ _ (by intro e; rw [e] at h32; revert h32; decide) (item_low_none _ _ h32)]
            rfl
          have HN := hide hn
          clear hn
          go_wp2
          go_quiet (fail)
          go_wp2
          go_ret
          exact ⟨((unhide HO).drewN _).setCell 2 _, Or.inl ⟨unhide HN, rfl, j, by omega, ((unhide HRR).drewN _).spoil true⟩⟩
        · have hd2 : decide ((s[j].toNat : Int) < 32) = false := decide_eq_false (by omega)
          have hsp := text_split s j hlt (by omega)
          obtain ⟨n, hn⟩ : ∃ n, runeN (s.data.toList.drop j) = n := ⟨_, rfl⟩
          have HRU := hide (fun w => runeAt_calls s j w hlt hs)
          rw [hn] at HRU hsp
          have HSP := hide hsp
          clear hsp hn
          go_wp2
          go_quiet (fail)
          go_wp2
          go_quiet (fail)
          go_wp2
          refine wp_world (fun W' => Rd W' r s j false ∧ Own r w W') ⟨((unhide HRR).drewN _).drewN _, ((unhide HO).drewN _).drewN _⟩ (fun w6 hw6 => ?_)
          obtain ⟨hr6, ho6⟩ := hw6
          clear c0 c1 c2 cf cl HRR HO
          have HRR := hide hr6
          have HO := hide ho6
          obtain ⟨⟨c0, c1, c2⟩, cf, cl⟩ := hr6.cells
          clear hr6 ho6
          go_quiet (exact Calls.quiet_of_same (unhide HRU _))
          rcases unhide HSP with ⟨rfl, hnone⟩ | ⟨rfl, h34⟩ | ⟨rfl, h92⟩ | ⟨n1, n2, n34, n92, hstep⟩
          · have HN := hide (show textE (s.data.toList.drop i) = none by rw [unhide HZ, hnone]; rfl)
            clear hnone HSP
            go_wp2
            go_ret
            exact ⟨((unhide HO).drewN _).setCell 2 _, Or.inl ⟨unhide HN, rfl, j, by omega, ((unhide HRR).drewN _).spoil true⟩⟩
          · have e34 : s[j].toNat = 34 := by rw [h34]; rfl
            have HN := hide (show textE (s.data.toList.drop i) = some (acc, s.data.toList.drop (j + 1)) by
              rw [unhide HZ, unhide HDC, h34, text_end]
              simp)
            clear h34 HSP
            go_wp2
            go_ret
            exact ⟨((unhide HO).drewN _).setCell 1 _, Or.inr ⟨acc, _, unhide HN, by omega, rfl, j + 1, by omega, by omega, rfl, ((unhide HRR).drewN _).move (j + 1)⟩⟩
          · have e92 : s[j].toNat = 92 := by rw [h92]; rfl
            have HN := hide (show itemR (s.data.toList.drop j) = escR (s.data.toList.drop (j + 1)) by rw [unhide HDC, h92, item_esc])
            have HDD := hide (show s.data.toList.drop j = 92 :: s.data.toList.drop (j + 1) by rw [unhide HDC, h92])
            clear h92 HSP
            go_wp2_with (go_at_call 97; refine (escape_calls r s (j + 1) _ (((unhide HRR).drewN _).move (j + 1)) (by omega) hs).mono ?_)
            intro e w7 hesc
            obtain ⟨ho7, ⟨hz7, rfl, p, hp, hr7⟩ | ⟨c, q, hz7, rfl, p, hp, hjp, hq, hr7⟩⟩ := hesc
            · have HN2 := hide (show textE (s.data.toList.drop i) = none by
                rw [unhide HZ, unhide HDD, text_none _ _ (by decide) (by rw [← unhide HDD, unhide HN, hz7])]
                rfl)
              have HO7 := hide (((((unhide HO).drewN _).setCell 1 _)).trans ho7)
              have HR7 := hide hr7
              clear hz7 ho7 hr7
              go_wp2
              go_roundw
              case rel => exact ⟨acc ++ [], by rw [← bytes_app], in_bad (unhide HO7) (unhide HR7) hp (unhide HN2)⟩
              case measure => rw [far_bad (unhide HR7), unhide HFAR]; omega
            · obtain ⟨c', hcc, hg⟩ := esc_good hz7
              obtain rfl : c = c' := by omega
              have HN2 := hide (show textE (s.data.toList.drop i) = (textE (s.data.toList.drop p)).map fun y => ((acc ++ encL c) ++ y.1, y.2) by
                refine map_step (unhide HZ) ?_
                rw [hq]
                have h1 := unhide HDD
                rw [h1]
                exact text_step 92 _ (by decide) c q hg (by rw [← h1, unhide HN, hz7]))
              have HO7 := hide (((((unhide HO).drewN _).setCell 1 _)).trans ho7)
              have HR7 := hide hr7
              have hel := encL_le c
              clear hz7 ho7 hr7 hcc hg hq
              go_wp2
              go_roundw
              case rel => exact ⟨acc ++ encL c, by rw [← bytes_app], in_fine (unhide HO7) (unhide HR7) hp (by omega) (by rw [List.length_append]; omega) (unhide HN2)⟩
              case measure => rw [far_at (unhide HR7), unhide HFAR]; omega
          · have k34 : ((s[j].toNat : Int) == 34) = false := by
              rw [beq_eq_false_iff_ne]; intro e; exact n34 (UInt8.toNat_inj.1 (show s[j].toNat = 34 by omega))
            have k92 : ((s[j].toNat : Int) == 92) = false := by
              rw [beq_eq_false_iff_ne]; intro e; exact n92 (UInt8.toNat_inj.1 (show s[j].toNat = 92 by omega))
            have k0 : ((n : Int) == 0) = false := by rw [beq_eq_false_iff_ne]; omega
            have HN2 := hide (map_step (unhide HZ) hstep)
            clear n34 n92 hstep HSP
            go_wp2
            refine wp_world (fun W' => Rd W' r s (j + n) false ∧ Own r w W') ⟨((unhide HRR).drewN _).move (j + n), ((unhide HO).drewN _).setCell 1 _⟩ (fun w7 hw7 => ?_)
            obtain ⟨hr7, ho7⟩ := hw7
            obtain ⟨p, hp⟩ : ∃ p, j + n = p := ⟨_, rfl⟩
            rw [hp] at hr7 HN2
            clear c0 c1 c2 cf cl HRR HO
            have HRR := hide hr7
            have HO := hide ho7
            obtain ⟨⟨c0, c1, c2⟩, cf, cl⟩ := hr7.cells
            have hpn : (p : Int) - (n : Int) = (j : Int) := by omega
            have hpl : p ≤ s.size := by omega
            have hjp : j ≤ p := by omega
            have HP := hide hp
            clear hr7 ho7 hp
            go_quiet (fail)
            go_wp2
            go_roundw
            case rel =>
              refine ⟨acc ++ (s.data.toList.drop j).take n, ?_, in_fine ((unhide HO).drewN _) ((unhide HRR).drewN _) hpl (by omega) (by rw [List.length_append, List.length_take]; have := unhide HP; omega) (unhide HN2)⟩
              rw [← bytes_app, bytes_cut s j p hjp, show p - j = n by have := unhide HP; omega]
            case measure => rw [far_at ((unhide HRR).drewN _), unhide HFAR]; have := unhide HP; omega
end Go.Proofs.YtgaddifabjoliaaGreatDoor

namespace Go.Proofs.YtgaddifabjoliaaGreatDoor
open Go.RowKit

theorem one_cut (t : ByteArray) (k : Nat) (h : k < t.size) : t.extract k (k + 1) = ⟨[t[k]].toArray⟩ := by
  rw [bytes_cut t k (k + 1) (by omega), drop_cons t k h, show k + 1 - k = 1 by omega]
  rfl
theorem hex_cut (q : Nat) (h : q < 16) : (⟨#[48, 49, 50, 51, 52, 53, 54, 55, 56, 57, 97, 98, 99, 100, 101, 102]⟩ : ByteArray).extract q (q + 1) = ⟨[hexC q].toArray⟩ := by
  rw [one_cut (⟨#[48, 49, 50, 51, 52, 53, 54, 55, 56, 57, 97, 98, 99, 100, 101, 102]⟩ : ByteArray) q h, hex_tab q h]
theorem byte_next (t : Bytes) (k : Nat) (h : k < t.length) : [34] ++ (t.take (k + 1)).flatMap byteF = ([34] ++ (t.take k).flatMap byteF) ++ byteF t[k] := by
  rw [List.take_succ_eq_append_getElem h, List.flatMap_append, List.append_assoc]
  simp
theorem bytes_ext {a b : Bytes} (h : a = b) : (⟨a.toArray⟩ : ByteArray) = ⟨b.toArray⟩ := by rw [h]

set_option maxRecDepth 100000 in
set_option maxHeartbeats 4000000 in
theorem quoted_calls (t : ByteArray) (w : World) (ht : t.size ≤ 200000) :
    Calls Tryz.prog 16 #[.string t] w fun e w' => e = .returned (.string ⟨(textF t.data.toList).toArray⟩) ∧ ∃ n, w' = w.drewN n := by
  have htl : t.data.toList.length = t.size := by rw [Array.length_toList]; rfl
  go_enter Tryz.func16, Tryz.ntmps16
  go_wp2
  go_loopw [4, 5] (fun out i wr => ∃ k : Nat, k ≤ t.size ∧ i = .int .i64 (k : Int) ∧ out = .string ⟨([34] ++ (t.data.toList.take k).flatMap byteF).toArray⟩ ∧ Hid (∃ n, wr = w.drewN n)) (fun _ i _ => t.size - (intOf i).toNat)
  case atStart => exact ⟨0, by omega, rfl, rfl, 0, rfl⟩
  case round =>
    obtain ⟨k, hk, rfl, rfl, n, rfl⟩ := hrel
    have hal : ([34] ++ (t.data.toList.take k).flatMap byteF).length ≤ 1200010 := by
      have h1 := flat_len (t.data.toList.take k)
      have h2 := List.length_take_le k t.data.toList
      rw [List.length_append, List.length_singleton]
      omega
    by_cases hlt : k < t.size
    · have hb := UInt8.toNat_lt t[k]
      have HNX := hide (byte_next t.data.toList k (by omega))
      have hgt : t.data.toList[k]'(by omega) = t[k] := rfl
      rw [hgt] at HNX
      clear hgt
      generalize [34] ++ (t.data.toList.take k).flatMap byteF = acc at HNX hal ⊢
      by_cases h34 : t[k].toNat = 34 ∨ t[k].toNat = 92
      · have hbf : byteF t[k] = [92, t[k]] := by unfold byteF; rw [if_pos h34]
        have HBF := hide hbf
        clear hbf
        rcases h34 with h34 | h34
        all_goals
          go_wp2
          go_roundw
          case rel => exact ⟨k + 1, by omega, by go_num, by rw [unhide HNX, unhide HBF, one_cut t k hlt]; exact congrArg Value.string (by rw [show (⟨#[92]⟩ : ByteArray) = ⟨([92] : Bytes).toArray⟩ from rfl, bytes_app, bytes_app, List.append_assoc]; rfl), _, rfl⟩
          case measure => simp [intOf]; omega
      · have k34 : ((t[k].toNat : Int) == 34) = false := by rw [beq_eq_false_iff_ne]; omega
        have k92 : ((t[k].toNat : Int) == 92) = false := by rw [beq_eq_false_iff_ne]; omega
        by_cases h32 : t[k].toNat < 32
        · have hbf : byteF t[k] = [92, 117, 48, 48, hexC (t[k].toNat / 16), hexC (t[k].toNat % 16)] := by unfold byteF; rw [if_neg h34, if_pos h32]
          have HBF := hide hbf
          obtain ⟨q, hq⟩ : ∃ q, t[k].toNat / 16 = q := ⟨_, rfl⟩
          obtain ⟨m, hm⟩ : ∃ m, t[k].toNat % 16 = m := ⟨_, rfl⟩
          rw [hq, hm] at HBF
          have dq : (t[k].toNat : Int) / 16 = (q : Int) := by omega
          have dm : (t[k].toNat : Int) % 16 = (m : Int) := by omega
          have bq : q < 2 := by omega
          have bm : m < 16 := by omega
          have k32 : decide ((t[k].toNat : Int) < 32) = true := decide_eq_true (by omega)
          clear hbf hq hm h34
          go_wp2
          go_quiet (fail)
          go_wp2
          go_roundw
          case rel => exact ⟨k + 1, by omega, by go_num, by rw [unhide HNX, unhide HBF, hex_cut q (by omega), hex_cut m bm]; exact congrArg Value.string (by rw [show (⟨#[92, 117, 48, 48]⟩ : ByteArray) = ⟨([92, 117, 48, 48] : Bytes).toArray⟩ from rfl, bytes_app, bytes_app, bytes_app, List.append_assoc, List.append_assoc]; rfl), _, rfl⟩
          case measure => simp [intOf]; omega
        · have hbf : byteF t[k] = [t[k]] := by unfold byteF; rw [if_neg h34, if_neg h32]
          have HBF := hide hbf
          have k32 : decide ((t[k].toNat : Int) < 32) = false := decide_eq_false (by omega)
          clear hbf h34
          go_wp2
          go_roundw
          case rel => exact ⟨k + 1, by omega, by go_num, by rw [unhide HNX, unhide HBF, one_cut t k hlt]; exact congrArg Value.string (by rw [bytes_app]), _, rfl⟩
          case measure => simp [intOf]; omega
    · have hke : k = t.size := by omega
      have hall : t.data.toList.take k = t.data.toList := List.take_of_length_le (by omega)
      rw [hall] at hal ⊢
      clear hall hke
      obtain ⟨acc, hac⟩ : ∃ acc, [34] ++ t.data.toList.flatMap byteF = acc := ⟨_, rfl⟩
      have hacc : textF t.data.toList = acc ++ [34] := by rw [← hac]; rfl
      rw [hac] at hal ⊢
      clear hac
      go_wp2
      go_ret
      refine ⟨?_, _, rfl⟩
      rw [hacc]
      show Ending.returned (.string ((⟨acc.toArray⟩ : ByteArray) ++ ⟨([34] : Bytes).toArray⟩)) = _
      rw [bytes_app]
end Go.Proofs.YtgaddifabjoliaaGreatDoor

namespace Go.Proofs.YtgaddifabjoliaaGreatDoor
open Go.RowKit

/-- A value's struct, as the document's answer has them. -/
def valV (k : Int) (t : ByteArray) (l m : Value) : Value := .agg #[.int .u8 k, .string t, l, m]
abbrev nilV : Value := .slice none 0 0
def boxV (o : Nat) (k : Int) (t : ByteArray) (l m : Value) (w : World) : Prop := w.heap[o]? = some (.cells #[.int .u8 k, .string t, l, m] 37 (0, 0))
theorem boxV.cells {o : Nat} {k : Int} {t : ByteArray} {l m : Value} {w : World} (h : boxV o k t l m w) :
    (w.cell? ⟨o, 0, none⟩ = some (.int .u8 k) ∧ w.cell? ⟨o, 1, none⟩ = some (.string t) ∧ w.cell? ⟨o, 2, none⟩ = some l ∧ w.cell? ⟨o, 3, none⟩ = some m) ∧ (∀ j, w.frozen? ⟨o, j, none⟩ = false) ∧ o < w.heap.size := by
  unfold boxV at h
  exact ⟨⟨by simp [World.cell?, h], by simp [World.cell?, h], by simp [World.cell?, h], by simp [World.cell?, h]⟩, fun j => by simp [World.frozen?, h], (Array.getElem?_eq_some_iff.1 h).1⟩
theorem boxV.own {o : Nat} {k : Int} {t : ByteArray} {l m : Value} {r : Nat} {w w' : World} (h : boxV o k t l m w) (ho : Own r w w') (hr : o ≠ r) : boxV o k t l m w' := by
  have hl := h.cells.2.2
  unfold boxV at *
  rw [ho.block o hl (fun e => hr (Option.some.inj e))]
  exact h
theorem Own.setNew {r : Nat} {a w : World} (h : Own r a w) (p : Addr) (v : Value) (hp : a.heap.size ≤ p.block) : Own r a (w.setCell p v) := by
  refine ⟨h.os, h.tape, h.output, Nat.le_trans h.size (by simp), fun k hk hne => ?_⟩
  rw [← h.block k hk hne]
  exact Below.heap_setCell w p v k (fun e => by omega)
theorem Own.alloc {r : Nat} {a w : World} (h : Own r a w) (o : Obj) : Own r a (w.alloc o) := h.below ((Below.refl _ _).alloc (Nat.le_refl _) _)
theorem Rd.apart {w : World} {r : Nat} {s : ByteArray} {i : Nat} {bad : Bool} (h : Rd w r s i bad) (p : Addr) (v : Value) (hp : p.block ≠ r) : Rd (w.setCell p v) r s i bad := by
  unfold Rd at *
  rw [Below.heap_setCell w p v r (fun e => hp e.symm)]
  exact h

theorem own5 {r : Nat} {a w : World} (h : Own r a w) (c : Value) (v0 v1 v2 v3 : Value) {o : Nat} (ho : a.heap.size ≤ o) : Own r a (((((w.setCell ⟨r, 2, none⟩ c).setCell ⟨o, 0, none⟩ v0).setCell ⟨o, 1, none⟩ v1).setCell ⟨o, 2, none⟩ v2).setCell ⟨o, 3, none⟩ v3) :=
  ((((h.setCell 2 c).setNew _ _ ho).setNew _ _ ho).setNew _ _ ho).setNew _ _ ho
theorem own4 {r : Nat} {a w : World} (h : Own r a w) (v0 v1 v2 v3 : Value) {o : Nat} (ho : a.heap.size ≤ o) : Own r a ((((w.setCell ⟨o, 0, none⟩ v0).setCell ⟨o, 1, none⟩ v1).setCell ⟨o, 2, none⟩ v2).setCell ⟨o, 3, none⟩ v3) :=
  (((h.setNew _ _ ho).setNew _ _ ho).setNew _ _ ho).setNew _ _ ho
theorem rd5 {w : World} {r : Nat} {s : ByteArray} {i : Nat} {bad : Bool} (h : Rd w r s i bad) {o : Nat} (ho : o ≠ r) (v0 v1 v2 v3 : Value) : Rd ((((w.setCell ⟨o, 0, none⟩ v0).setCell ⟨o, 1, none⟩ v1).setCell ⟨o, 2, none⟩ v2).setCell ⟨o, 3, none⟩ v3) r s i bad :=
  (((h.apart _ _ ho).apart _ _ ho).apart _ _ ho).apart _ _ ho

def NumStart (s : ByteArray) (f : Nat) : Prop := ∃ h : f < s.size, s[f] = 45 ∨ isDig s[f] = true
def NumSays (r : Nat) (s : ByteArray) (f : Nat) (w : World) (e : Ending) (w' : World) : Prop := Own r w w' ∧
  ((¬ NumStart s f ∧ e = .returned (.tuple #[valV 0 ⟨#[]⟩ nilV nilV, .bool false]) ∧ Rd w' r s f false) ∨
   (NumStart s f ∧ numberR (s.data.toList.drop f) = none ∧ ∃ (t : ByteArray) (j : Nat), j ≤ 4100 ∧ e = .returned (.tuple #[valV 110 t nilV nilV, .bool true]) ∧ Rd w' r s j true) ∨
   (NumStart s f ∧ ∃ (n : Int) (q : Bytes), numberR (s.data.toList.drop f) = some (n, q) ∧ e = .returned (.tuple #[valV 110 ⟨(Lib.itoa n).toArray⟩ nilV nilV, .bool true]) ∧ ∃ j, j ≤ s.size ∧ f < j ∧ s.data.toList.drop j = q ∧ Rd w' r s j false))

/-- What digits from g to p are worth. -/
def worth (s : ByteArray) (g p : Nat) : Nat := digV ((s.data.toList.drop g).take (p - g)) 0
theorem worth_step (s : ByteArray) (g p : Nat) (hg : g ≤ p) (hp : p < s.size) : worth s g (p + 1) = worth s g p * 10 + (s[p].toNat - 48) := by
  unfold worth
  rw [show p + 1 - g = (p - g) + 1 by omega, List.take_add_one, digV_append, List.getElem?_drop, show g + (p - g) = p by omega, List.getElem?_eq_getElem (by rw [Array.length_toList]; exact hp)]
  rfl
theorem worth_self (s : ByteArray) (g : Nat) : worth s g g = 0 := by
  unfold worth
  rw [Nat.sub_self]
  rfl
theorem dig_end (s : ByteArray) (g p : Nat) (hg : g ≤ p) (hp : p ≤ s.size) (h1 : ∀ k, g ≤ k → (h : k < s.size) → k < p → isDig s[k] = true) (h2 : (h : p < s.size) → isDig s[p] = false) :
    digN (s.data.toList.drop g) = p - g ∧ (s.data.toList.drop g).takeWhile isDig = (s.data.toList.drop g).take (p - g) := by
  have hl : (s.data.toList.drop g).length = s.size - g := by rw [List.length_drop, Array.length_toList]; rfl
  have hn : digN (s.data.toList.drop g) = p - g := by
    unfold digN
    refine takeWhile_p isDig _ (p - g) (by omega) (fun j hj hl' => ?_) (fun hl' => ?_)
    · rw [List.getElem_drop]; exact h1 (g + j) (by omega) (by omega) (by omega)
    · rw [List.getElem_drop]
      have : g + (p - g) = p := by omega
      simp only [this]
      exact h2 (by omega)
  exact ⟨hn, by rw [← take_while, hn]⟩
theorem digits_end (s : ByteArray) (g p : Nat) (hg : g ≤ p) (hp : p ≤ s.size) (h1 : ∀ k, g ≤ k → (h : k < s.size) → k < p → isDig s[k] = true) (h2 : (h : p < s.size) → isDig s[p] = false) :
    digitsR (s.data.toList.drop g) = if p = g ∨ (g + 1 < p ∧ byteN s g = 48) ∨ 9007199254740992 ≤ worth s g p then none else some ((worth s g p : Int), s.data.toList.drop p) := by
  obtain ⟨hn, ht⟩ := dig_end s g p hg hp h1 h2
  rw [digits_says, hn, ht]
  have e0 : ∀ h : g < s.size, ((s.data.toList.drop g)[0]? = some 48 ↔ byteN s g = 48) := by
    intro h
    rw [byteN_at s g h, List.getElem?_drop, Nat.add_zero, List.getElem?_eq_getElem (by rw [Array.length_toList]; exact h)]
    constructor
    · intro e
      have e2 : s[g] = 48 := Option.some.inj e
      rw [e2]; rfl
    · intro e
      have e2 : s[g] = 48 := UInt8.toNat_inj.1 e
      rw [← e2]; rfl
  have ew : digV ((s.data.toList.drop g).take (p - g)) 0 = worth s g p := rfl
  rw [ew, List.drop_drop, show g + (p - g) = p by omega]
  by_cases hpg : p = g
  · rw [if_pos (Or.inl (by omega)), if_pos (Or.inl hpg)]
  · by_cases hz : g + 1 < p ∧ byteN s g = 48
    · rw [if_pos (Or.inr (Or.inl ⟨by omega, (e0 (by omega)).2 hz.2⟩)), if_pos (Or.inr (Or.inl hz))]
    · by_cases hv : 9007199254740992 ≤ worth s g p
      · rw [if_pos (Or.inr (Or.inr hv)), if_pos (Or.inr (Or.inr hv))]
      · rw [if_neg, if_neg]
        · rintro (h | h | h)
          · exact hpg h
          · exact hz h
          · exact hv h
        · rintro (h | h | h)
          · omega
          · exact hz ⟨by omega, (e0 (by omega)).1 h.2⟩
          · exact hv h

theorem number_of_minus (l : Bytes) : numberR (45 :: l) = match digitsR l with
    | none => none
    | some (n, q) => if n = 0 then none else some (-n, q) := by
  unfold numberR
  simp only [oneOfR, changedR, digits_none 45 l rfl, after_one]
  cases digitsR l with
  | none => rfl
  | some z =>
    obtain ⟨n, q⟩ := z
    simp only [negR]
    by_cases h : n = 0
    · rw [if_pos h, if_pos h]
    · rw [if_neg h, if_neg h]

theorem cut_list (s : ByteArray) (f p : Nat) (h : f ≤ p) : (s.extract f p).toList = (s.data.toList.drop f).take (p - f) := by
  rw [ByteArray.toList_eq, bytes_cut s f p h]
theorem text_plain (s : ByteArray) (f p : Nat) (u : Nat) (hfp : f ≤ p) (hp : p ≤ s.size) (h : digitsR (s.data.toList.drop f) = some ((u : Int), s.data.toList.drop p)) : s.extract f p = ⟨(Lib.decDigits u).toArray⟩ := by
  obtain ⟨v, hv, hl, _⟩ := digits_text h
  obtain rfl : u = v := by omega
  have e1 := congrArg List.length hl
  rw [List.length_append, List.length_drop, List.length_drop, Array.length_toList] at e1
  have e2 : s.data.size = s.size := rfl
  rw [bytes_cut s f p hfp, hl, List.take_left' (by omega)]
theorem text_minus (s : ByteArray) (f p : Nat) (u : Nat) (hfp : f + 1 ≤ p) (hp : p ≤ s.size) (h45 : s.data.toList.drop f = 45 :: s.data.toList.drop (f + 1)) (h : digitsR (s.data.toList.drop (f + 1)) = some ((u : Int), s.data.toList.drop p)) : s.extract f p = ⟨(45 :: Lib.decDigits u).toArray⟩ := by
  obtain ⟨v, hv, hl, _⟩ := digits_text h
  obtain rfl : u = v := by omega
  have e1 := congrArg List.length hl
  rw [List.length_append, List.length_drop, List.length_drop, Array.length_toList] at e1
  have e2 : s.data.size = s.size := rfl
  rw [bytes_cut s f p (by omega), h45, hl, show p - f = (p - (f + 1)) + 1 by omega, List.take_succ_cons, List.take_left' (by omega)]
theorem zero_minus (s : ByteArray) (f p : Nat) (hfp : f + 2 ≤ p) (hp : p ≤ s.size) (h45 : s.data.toList.drop f = 45 :: s.data.toList.drop (f + 1)) : ((s.extract f p).toList == [45, 48]) = decide (p = f + 2 ∧ byteN s (f + 1) = 48) := by
  rw [cut_list s f p (by omega), h45, drop_cons s (f + 1) (by omega), byteN_at s (f + 1) (by omega), show p - f = (p - (f + 2)) + 1 + 1 by omega, List.take_succ_cons, List.take_succ_cons]
  by_cases h1 : p = f + 2
  · by_cases h2 : s[f + 1].toNat = 48
    · rw [decide_eq_true ⟨h1, h2⟩, show s[f + 1] = 48 from UInt8.toNat_inj.1 h2, show p - (f + 2) = 0 by omega]
      rfl
    · rw [decide_eq_false (fun h => h2 h.2), beq_eq_false_iff_ne]
      intro e
      have := (List.cons.inj (List.cons.inj e).2).1
      exact h2 (by rw [this]; rfl)
  · rw [decide_eq_false (fun h => h1 h.1), beq_eq_false_iff_ne]
    intro e
    have e3 := congrArg List.length e
    rw [List.length_cons, List.length_cons, List.length_take, List.length_drop, Array.length_toList] at e3
    have e2 : s.data.size = s.size := rfl
    simp only [List.length_cons, List.length_nil] at e3
    omega
theorem zero_plain (s : ByteArray) (f p : Nat) (hfp : f + 1 ≤ p) (hp : p ≤ s.size) (h45 : byteN s f ≠ 45) : ((s.extract f p).toList == [45, 48]) = false := by
  rw [byteN_at s f (by omega)] at h45
  rw [cut_list s f p (by omega), drop_cons s f (by omega), show p - f = (p - (f + 1)) + 1 by omega, List.take_succ_cons, beq_eq_false_iff_ne]
  intro e
  have := (List.cons.inj e).1
  exact h45 (by rw [this]; rfl)
theorem worth_zero (s : ByteArray) (g p : Nat) (u : Nat) (hgp : g ≤ p) (hp : p ≤ s.size) (h : digitsR (s.data.toList.drop g) = some ((u : Int), s.data.toList.drop p)) (hu : u = 0) : p = g + 1 ∧ byteN s g = 48 := by
  subst hu
  obtain ⟨v, hv, hl, _⟩ := digits_text h
  obtain rfl : 0 = v := by omega
  have hz : Lib.decDigits 0 = [48] := by rw [Lib.decDigits, dif_pos (by omega)]; rfl
  rw [hz, List.singleton_append] at hl
  have e1 := congrArg List.length hl
  rw [List.length_cons, List.length_drop, List.length_drop, Array.length_toList] at e1
  have e2 : s.data.size = s.size := rfl
  have hg : g < s.size := by omega
  refine ⟨by omega, ?_⟩
  rw [drop_cons s g hg] at hl
  rw [byteN_at s g hg, (List.cons.inj hl).1]
  rfl
theorem number_of_plain (c : UInt8) (l : Bytes) (h : c ≠ 45) : numberR (c :: l) = digitsR (c :: l) := by
  unfold numberR
  simp only [oneOfR, changedR, after_none 45 digitsR c l h.symm]
  cases digitsR (c :: l) <;> rfl

/-- Within the digits. -/
def NumIn (r : Nat) (s : ByteArray) (g o : Nat) (w : World) (m : Nat) (wr : World) : Prop := ∃ p, g ≤ p ∧ p ≤ s.size ∧ Rd wr r s p false ∧ Own r w wr ∧ boxV o 0 ⟨#[]⟩ nilV nilV wr ∧
  (∀ k, g ≤ k → (h : k < s.size) → k < p → isDig s[k] = true) ∧ (worth s g p < 9007199254740992 → m = worth s g p) ∧ (9007199254740992 ≤ worth s g p → 9007199254740992 ≤ m) ∧ m < 90071992547409930
theorem num_more {r : Nat} {s : ByteArray} {g o : Nat} {w : World} {m m' p : Nat} {w' : World} (hg : g ≤ p) (hp : p < s.size) (hd : isDig s[p] = true) (hR : Rd w' r s (p + 1) false) (hO : Own r w w') (hB : boxV o 0 ⟨#[]⟩ nilV nilV w')
    (hA : ∀ k, g ≤ k → (h : k < s.size) → k < p → isDig s[k] = true) (h1 : worth s g p < 9007199254740992 → m = worth s g p) (h2 : 9007199254740992 ≤ worth s g p → 9007199254740992 ≤ m) (h3 : m < 90071992547409930)
    (hm : (m < 9007199254740992 ∧ m' = m * 10 + (s[p].toNat - 48)) ∨ (9007199254740992 ≤ m ∧ m' = m)) : NumIn r s g o w m' w' := by
  have hst := worth_step s g p hg hp
  have hdd := hd
  unfold isDig at hdd
  simp only [Bool.and_eq_true, decide_eq_true_eq] at hdd
  refine ⟨p + 1, by omega, by omega, hR, hO, hB, ?_, by omega, by omega, by omega⟩
  intro k hk h hkp
  by_cases e : k = p
  · subst e; exact hd
  · exact hA k hk h (by omega)
end Go.Proofs.YtgaddifabjoliaaGreatDoor
