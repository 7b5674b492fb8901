import Derived.Test.YtgaddifabjoliaaGreatDoorPlainR
namespace Go.Proofs.YtgaddifabjoliaaGreatDoor
open Go.RowKit

/-- The variables of errors of strconv are laid. -/
def Errs (w : World) : Prop := (∃ ev, w.cell? ⟨4, 0, none⟩ = some ev ∧ (ev = .nilIface ∨ ∃ te pe, ev = .iface te pe)) ∧ ∃ ev, w.cell? ⟨5, 0, none⟩ = some ev ∧ (ev = .nilIface ∨ ∃ te pe, ev = .iface te pe)

theorem errs_later {w W : World} (h : Errs w) (hW : Below w.heap.size w W) : Errs W := by
  obtain ⟨⟨a, h1, h2⟩, b, h3, h4⟩ := h
  exact ⟨⟨a, (hW.cell (p := ⟨4, 0, none⟩) (World.block_lt_of_cell? w _ h1)).trans h1, h2⟩, b, (hW.cell (p := ⟨5, 0, none⟩) (World.block_lt_of_cell? w _ h3)).trans h3, h4⟩

def intOk (l : Bytes) : Option Int := match Lib.parseIntB 64 l with
  | .ok v => some v
  | _ => none

theorem below_bytesWorld (w : World) (t : ByteArray) : Below w.heap.size w (Lib.bytesWorld w 5 t) := by
  exact ⟨rfl, rfl, rfl, by rw [Lib.bytesWorld_size]; omega, fun k hk => Lib.bytesWorld_at_old w 5 t k hk⟩

theorem parse_any (s : ByteArray) (w : World) (hs : s.size ≤ 4000) (hE : Errs w) :
    Calls Tryz.prog 114 #[.string s, .int .i64 10, .int .i64 64] w fun e w' => Below w.heap.size w w' ∧
      ((∃ v, intOk s.data.toList = some v ∧ e = .returned (.tuple #[.int .i64 v, .nilIface])) ∨
       (intOk s.data.toList = none ∧ ∃ x N t, e = .returned (.tuple #[.int .i64 x, .iface t (.pointer (some ⟨N, 0, none⟩))]))) := by
  obtain ⟨⟨a, h1, h2⟩, b, h3, h4⟩ := hE
  cases hp : Lib.parseIntB 64 s.data.toList with
  | ok v =>
    refine (Tryz.strconv_ParseInt_10_at64_ok s (by omega) v hp w).mono ?_
    rintro e w' ⟨rfl, hw⟩
    refine ⟨?_, Or.inl ⟨v, by simp [intOk, hp], rfl⟩⟩
    rcases hw with rfl | ⟨t, rfl⟩
    · exact Below.refl _ _
    · exact below_bytesWorld w t
  | «syntax» =>
    refine (Tryz.strconv_ParseInt_10_at64_syntax s (by omega) hp a w h1 h2).mono ?_
    rintro e w' ⟨N, rfl, _, _, hb⟩
    exact ⟨hb, Or.inr ⟨by simp [intOk, hp], _, _, _, rfl⟩⟩
  | range =>
    refine (Tryz.strconv_ParseInt_10_at64_range s (by omega) hp b w h3 h4).mono ?_
    rintro e w' ⟨N, rfl, _, _, hb⟩
    exact ⟨hb, Or.inr ⟨by simp [intOk, hp], _, _, _, rfl⟩⟩

def isDig (c : UInt8) : Bool := 48 ≤ c.toNat && c.toNat ≤ 57
def digN (s : Bytes) : Nat := (s.takeWhile isDig).length
def digitsR (s : Bytes) : Option (Int × Bytes) :=
  if 1 < digN s ∧ s[0]? = some 48 then none else
    match intOk (s.take (digN s)) with
    | none => none
    | some n => if 9007199254740992 ≤ n then none else some (n, s.drop (digN s))

theorem shrinks_digits : Shrinks digitsR := by
  intro s x r h
  unfold digitsR at h
  split at h
  · simp at h
  · split at h
    · simp at h
    · split at h
      · simp at h
      · simp at h; obtain ⟨_, rfl⟩ := h; simp

theorem takeWhile_at : ∀ (l : Bytes) (k : Nat), k ≤ l.length → (∀ j (_hj : j < k) (hl : j < l.length), isDig l[j] = true) → (∀ hl : k < l.length, isDig l[k] = false) → (l.takeWhile isDig).length = k
  | [], k, hk, _, _ => by simp at hk; simp [hk]
  | c :: l, 0, _, _, h2 => by
    have := h2 (by simp)
    simp at this
    simp [this]
  | c :: l, k + 1, hk, h1, h2 => by
    have hc := h1 0 (by omega) (by simp)
    simp at hc
    simp only [List.takeWhile_cons, hc, if_true, List.length_cons]
    congr 1
    refine takeWhile_at l k (by simpa using hk) (fun j hj hl => ?_) (fun hl => ?_)
    · have := h1 (j + 1) (by omega) (by simpa using hl)
      simpa using this
    · have := h2 (by simpa using hl)
      simpa using this

theorem dig_stop (s : ByteArray) (k : Nat) (hk : k ≤ s.size) (h1 : ∀ j (_hj : j < k) (hs : j < s.size), isDig (s[j]'hs) = true) (h2 : ∀ h : k < s.size, isDig (s[k]'h) = false) : digN s.data.toList = k := by
  refine takeWhile_at s.data.toList k (by simpa using hk) (fun j hj hl => ?_) (fun hl => ?_)
  · exact h1 j hj (by simpa using hl)
  · exact h2 (by simpa using hl)

theorem fail_i64 (w : World) : Calls Tryz.prog 113 #[] w fun e w' => e = .returned (.tuple #[.int .i64 0, .string ⟨#[]⟩, .bool false]) ∧ w' = w := by
  go_enter Tryz.func113, Tryz.ntmps113
  go_wp2
  go_ret3
  exact ⟨rfl, rfl⟩

theorem parse_none {f : Nat} {args : Array Value} {w : World} (h : Hid (Calls Tryz.prog f args w fun e w' => Below w.heap.size w w' ∧
      ((∃ v, (none : Option Int) = some v ∧ e = .returned (.tuple #[.int .i64 v, .nilIface])) ∨
       ((none : Option Int) = none ∧ ∃ x N t, e = .returned (.tuple #[.int .i64 x, .iface t (.pointer (some ⟨N, 0, none⟩))]))))) :
    Calls Tryz.prog f args w fun e w' => Hid (Below w.heap.size w w') ∧ ∃ x N t, e = .returned (.tuple #[.int .i64 x, .iface t (.pointer (some ⟨N, 0, none⟩))]) := by
  refine (unhide h).mono ?_
  rintro e w' ⟨hb, ⟨v, hv, _⟩ | ⟨_, h⟩⟩
  · cases hv
  · exact ⟨hb, h⟩
theorem parse_some {f : Nat} {args : Array Value} {w : World} {n : Int} (h : Hid (Calls Tryz.prog f args w fun e w' => Below w.heap.size w w' ∧
      ((∃ v, (some n : Option Int) = some v ∧ e = .returned (.tuple #[.int .i64 v, .nilIface])) ∨
       ((some n : Option Int) = none ∧ ∃ x N t, e = .returned (.tuple #[.int .i64 x, .iface t (.pointer (some ⟨N, 0, none⟩))]))))) :
    Calls Tryz.prog f args w fun e w' => Hid (Below w.heap.size w w') ∧ e = .returned (.tuple #[.int .i64 n, .nilIface]) := by
  refine (unhide h).mono ?_
  rintro e w' ⟨hb, ⟨v, hv, he⟩ | ⟨hv, _⟩⟩
  · cases hv; exact ⟨hb, he⟩
  · cases hv

theorem cuts (s : ByteArray) (k : Nat) (hk : k ≤ s.size) (hs : s.size ≤ 4000) : ∃ q r : ByteArray, q.data.toList = s.data.toList.take k ∧ r.data.toList = s.data.toList.drop k ∧ s.extract 0 k = q ∧ s.extract k s.size = r ∧ q.size ≤ 4000 := by
  refine ⟨s.extract 0 k, s.extract k s.size, ?_, ?_, rfl, rfl, ?_⟩
  · rw [ByteArray.data_extract, Array.toList_extract]; simp
  · rw [ByteArray.data_extract, Array.toList_extract]; simp [List.take_of_length_le]
  · simp; omega
theorem first_is (s : ByteArray) (h : s.data.toList[0]? = some 48) : ∃ h0 : 0 < s.size, (s[0]'h0).toNat = 48 := by
  obtain ⟨hl, he⟩ := List.getElem?_eq_some_iff.1 h
  refine ⟨by simpa using hl, ?_⟩
  have : s[0]'(by simpa using hl) = s.data.toList[0] := rfl
  rw [this, he]; rfl
theorem first_no (s : ByteArray) (h0 : 0 < s.size) (h : ¬ s.data.toList[0]? = some 48) : (((s[0]'h0).toNat : Int) == 48) = false := by
  have h1 : s.data.toList[0]? = some (s[0]'h0) := by
    rw [List.getElem?_eq_getElem (by simpa using h0)]; rfl
  rw [h1] at h
  simp only [beq_eq_false_iff_ne, ne_eq]
  intro hc
  apply h
  congr 1
  apply UInt8.toNat.inj
  show _ = 48
  omega

set_option maxHeartbeats 4000000 in
theorem digits_reads (w : World) (hE : Errs w) : Reads 62 #[] repI64 (.int .i64 0) digitsR w := by
  refine ⟨enters_of Tryz.func62 (by kernel_rfl) rfl, shrinks_digits, ?_⟩
  intro W s hW hs
  have hE' := errs_later hE hW
  clear hE
  go_enter Tryz.func62, Tryz.ntmps62
  go_wp2
  go_loop [5] (fun idx => ∃ k : Nat, k ≤ s.size ∧ idx = .int .i64 k ∧ Hid (∀ j (hj : j < k) (hs : j < s.size), isDig (s[j]'hs) = true)) (fun idx => s.size - (intOf idx).toNat)
  case atStart => exact ⟨0, by omega, rfl, fun j hj => absurd hj (Nat.not_lt_zero _)⟩
  case round =>
    obtain ⟨k, hk, rfl, hok⟩ := hrel
    by_cases hlt : k < s.size
    · have hlti : (k : Int) < (s.size : Int) := by omega
      have hstop := dig_stop s k hk hok.out
      cases hd : isDig s[k] with
      | true =>
        have hok' : Hid (∀ j (hj : j < k + 1) (hs : j < s.size), isDig (s[j]'hs) = true) := by
          intro j hj hjs
          by_cases hji : j = k
          · subst hji; exact hd
          · exact hok.out j (by omega) hjs
        have h1 : (48 : Int) ≤ (s[k].toNat : Int) := by simp [isDig] at hd; omega
        have h2 : (s[k].toNat : Int) ≤ 57 := by simp [isDig] at hd; omega
        clear hok hd hstop
        go_wp2
        go_round
        case rel => exact ⟨k + 1, by omega, by go_num, hok'⟩
        case measure => simp [intOf]; omega
      | false =>
        have hkn : digN s.data.toList = k := hstop (fun _ => hd)
        by_cases h1 : (48 : Int) ≤ (s[k].toNat : Int)
        · have h2 : ¬ (s[k].toNat : Int) ≤ 57 := by simp [isDig] at hd; omega
          clear hok hd hstop
          have hki : (k : Int) ≤ (s.size : Int) := by omega
          obtain ⟨q, r, hqt, hr, hex, hex2, hq4⟩ := cuts s k hk hs
          have HEX := hide hex
          have HEX2 := hide hex2
          clear hex hex2
          by_cases hz : 1 < k ∧ s.data.toList[0]? = some 48
          · have hfin : digitsR s.data.toList = none := by unfold digitsR; rw [hkn, if_pos hz]
            have HFI := hide hfin
            obtain ⟨hp0, h0⟩ := first_is s hz.2
            have hk1 : (1 : Int) < (k : Int) := by omega
            clear hfin hz hqt hr
            go_wp2_with (go_at_call 113; refine (fail_i64 _).mono ?_; rintro e w2 ⟨rfl, rfl⟩)
            go_ret3
            exact ⟨Below.refl _ _, Or.inl ⟨unhide HFI, rfl⟩⟩
          · have hn : digitsR s.data.toList = match intOk (s.data.toList.take k) with
              | none => none
              | some n => if 9007199254740992 ≤ n then none else some (n, s.data.toList.drop k) := by unfold digitsR; rw [hkn, if_neg hz]
            have HN := hide hn
            clear hn
            by_cases hk1 : 1 < k
            · have hp0 : 0 < s.size := by omega
              have h0 := first_no s hp0 (fun h => hz ⟨hk1, h⟩)
              have hk2 : (1 : Int) < (k : Int) := by omega
              clear hz hk1
              cases hio : intOk (s.data.toList.take k) with
              | none =>
                have hfin : digitsR s.data.toList = none := by rw [unhide HN, hio]
                have HFI := hide hfin
                have HP := hide (parse_any q W hq4 hE')
                rw [hqt, hio] at HP
                have HP2 := hide (parse_none HP)
                clear hfin hio HP HN hqt hr
                go_wp2_with (first | (go_at_call 114; rw [unhide HEX]; refine (unhide HP2).mono ?_; rintro e w1 ⟨HB, x, N, t, rfl⟩) | (go_at_call 113; refine (fail_i64 _).mono ?_; rintro e w2 ⟨rfl, rfl⟩))
                go_ret3
                exact ⟨unhide HB, Or.inl ⟨unhide HFI, rfl⟩⟩
              | some n =>
                by_cases hbig : (9007199254740992 : Int) ≤ n
                · have hfin : digitsR s.data.toList = none := by rw [unhide HN, hio]; simp [hbig]
                  have HFI := hide hfin
                  have HP := hide (parse_any q W hq4 hE')
                  rw [hqt, hio] at HP
                  have HP2 := hide (parse_some HP)
                  clear hfin hio HP HN hqt hr
                  go_wp2_with (first | (go_at_call 114; rw [unhide HEX]; refine (unhide HP2).mono ?_; rintro e w1 ⟨HB, rfl⟩) | (go_at_call 113; refine (fail_i64 _).mono ?_; rintro e w2 ⟨rfl, rfl⟩))
                  go_ret3
                  exact ⟨unhide HB, Or.inl ⟨unhide HFI, rfl⟩⟩
                · have hfin : digitsR s.data.toList = some (n, r.data.toList) := by rw [unhide HN, hio, hr]; simp [hbig]
                  have HFI := hide hfin
                  have HP := hide (parse_any q W hq4 hE')
                  rw [hqt, hio] at HP
                  have HP2 := hide (parse_some HP)
                  clear hfin hio HP HN hqt hr
                  go_wp2_with (go_at_call 114; rw [unhide HEX]; refine (unhide HP2).mono ?_; rintro e w1 ⟨HB, rfl⟩)
                  go_region
                  all_goals
                    go_wp2
                    go_ret3
                    rw [unhide HEX2]
                    exact ⟨(unhide HB).drew, Or.inr ⟨_, r.data.toList, _, unhide HFI, rfl, rfl⟩⟩
            · have hk2 : ¬ (1 : Int) < (k : Int) := by omega
              clear hz hk1
              cases hio : intOk (s.data.toList.take k) with
              | none =>
                have hfin : digitsR s.data.toList = none := by rw [unhide HN, hio]
                have HFI := hide hfin
                have HP := hide (parse_any q W hq4 hE')
                rw [hqt, hio] at HP
                have HP2 := hide (parse_none HP)
                clear hfin hio HP HN hqt hr
                go_wp2_with (first | (go_at_call 114; rw [unhide HEX]; refine (unhide HP2).mono ?_; rintro e w1 ⟨HB, x, N, t, rfl⟩) | (go_at_call 113; refine (fail_i64 _).mono ?_; rintro e w2 ⟨rfl, rfl⟩))
                go_ret3
                exact ⟨unhide HB, Or.inl ⟨unhide HFI, rfl⟩⟩
              | some n =>
                by_cases hbig : (9007199254740992 : Int) ≤ n
                · have hfin : digitsR s.data.toList = none := by rw [unhide HN, hio]; simp [hbig]
                  have HFI := hide hfin
                  have HP := hide (parse_any q W hq4 hE')
                  rw [hqt, hio] at HP
                  have HP2 := hide (parse_some HP)
                  clear hfin hio HP HN hqt hr
                  go_wp2_with (first | (go_at_call 114; rw [unhide HEX]; refine (unhide HP2).mono ?_; rintro e w1 ⟨HB, rfl⟩) | (go_at_call 113; refine (fail_i64 _).mono ?_; rintro e w2 ⟨rfl, rfl⟩))
                  go_ret3
                  exact ⟨unhide HB, Or.inl ⟨unhide HFI, rfl⟩⟩
                · have hfin : digitsR s.data.toList = some (n, r.data.toList) := by rw [unhide HN, hio, hr]; simp [hbig]
                  have HFI := hide hfin
                  have HP := hide (parse_any q W hq4 hE')
                  rw [hqt, hio] at HP
                  have HP2 := hide (parse_some HP)
                  clear hfin hio HP HN hqt hr
                  go_wp2_with (go_at_call 114; rw [unhide HEX]; refine (unhide HP2).mono ?_; rintro e w1 ⟨HB, rfl⟩)
                  go_region
                  all_goals
                    go_wp2
                    go_ret3
                    rw [unhide HEX2]
                    exact ⟨(unhide HB).drew, Or.inr ⟨_, r.data.toList, _, unhide HFI, rfl, rfl⟩⟩
        · clear hok hd hstop
          have hki : (k : Int) ≤ (s.size : Int) := by omega
          obtain ⟨q, r, hqt, hr, hex, hex2, hq4⟩ := cuts s k hk hs
          have HEX := hide hex
          have HEX2 := hide hex2
          clear hex hex2
          by_cases hz : 1 < k ∧ s.data.toList[0]? = some 48
          · have hfin : digitsR s.data.toList = none := by unfold digitsR; rw [hkn, if_pos hz]
            have HFI := hide hfin
            obtain ⟨hp0, h0⟩ := first_is s hz.2
            have hk1 : (1 : Int) < (k : Int) := by omega
            clear hfin hz hqt hr
            go_wp2_with (go_at_call 113; refine (fail_i64 _).mono ?_; rintro e w2 ⟨rfl, rfl⟩)
            go_ret3
            exact ⟨Below.refl _ _, Or.inl ⟨unhide HFI, rfl⟩⟩
          · have hn : digitsR s.data.toList = match intOk (s.data.toList.take k) with
              | none => none
              | some n => if 9007199254740992 ≤ n then none else some (n, s.data.toList.drop k) := by unfold digitsR; rw [hkn, if_neg hz]
            have HN := hide hn
            clear hn
            by_cases hk1 : 1 < k
            · have hp0 : 0 < s.size := by omega
              have h0 := first_no s hp0 (fun h => hz ⟨hk1, h⟩)
              have hk2 : (1 : Int) < (k : Int) := by omega
              clear hz hk1
              cases hio : intOk (s.data.toList.take k) with
              | none =>
                have hfin : digitsR s.data.toList = none := by rw [unhide HN, hio]
                have HFI := hide hfin
                have HP := hide (parse_any q W hq4 hE')
                rw [hqt, hio] at HP
                have HP2 := hide (parse_none HP)
                clear hfin hio HP HN hqt hr
                go_wp2_with (first | (go_at_call 114; rw [unhide HEX]; refine (unhide HP2).mono ?_; rintro e w1 ⟨HB, x, N, t, rfl⟩) | (go_at_call 113; refine (fail_i64 _).mono ?_; rintro e w2 ⟨rfl, rfl⟩))
                go_ret3
                exact ⟨unhide HB, Or.inl ⟨unhide HFI, rfl⟩⟩
              | some n =>
                by_cases hbig : (9007199254740992 : Int) ≤ n
                · have hfin : digitsR s.data.toList = none := by rw [unhide HN, hio]; simp [hbig]
                  have HFI := hide hfin
                  have HP := hide (parse_any q W hq4 hE')
                  rw [hqt, hio] at HP
                  have HP2 := hide (parse_some HP)
                  clear hfin hio HP HN hqt hr
                  go_wp2_with (first | (go_at_call 114; rw [unhide HEX]; refine (unhide HP2).mono ?_; rintro e w1 ⟨HB, rfl⟩) | (go_at_call 113; refine (fail_i64 _).mono ?_; rintro e w2 ⟨rfl, rfl⟩))
                  go_ret3
                  exact ⟨unhide HB, Or.inl ⟨unhide HFI, rfl⟩⟩
                · have hfin : digitsR s.data.toList = some (n, r.data.toList) := by rw [unhide HN, hio, hr]; simp [hbig]
                  have HFI := hide hfin
                  have HP := hide (parse_any q W hq4 hE')
                  rw [hqt, hio] at HP
                  have HP2 := hide (parse_some HP)
                  clear hfin hio HP HN hqt hr
                  go_wp2_with (go_at_call 114; rw [unhide HEX]; refine (unhide HP2).mono ?_; rintro e w1 ⟨HB, rfl⟩)
                  go_region
                  all_goals
                    go_wp2
                    go_ret3
                    rw [unhide HEX2]
                    exact ⟨(unhide HB).drew, Or.inr ⟨_, r.data.toList, _, unhide HFI, rfl, rfl⟩⟩
            · have hk2 : ¬ (1 : Int) < (k : Int) := by omega
              clear hz hk1
              cases hio : intOk (s.data.toList.take k) with
              | none =>
                have hfin : digitsR s.data.toList = none := by rw [unhide HN, hio]
                have HFI := hide hfin
                have HP := hide (parse_any q W hq4 hE')
                rw [hqt, hio] at HP
                have HP2 := hide (parse_none HP)
                clear hfin hio HP HN hqt hr
                go_wp2_with (first | (go_at_call 114; rw [unhide HEX]; refine (unhide HP2).mono ?_; rintro e w1 ⟨HB, x, N, t, rfl⟩) | (go_at_call 113; refine (fail_i64 _).mono ?_; rintro e w2 ⟨rfl, rfl⟩))
                go_ret3
                exact ⟨unhide HB, Or.inl ⟨unhide HFI, rfl⟩⟩
              | some n =>
                by_cases hbig : (9007199254740992 : Int) ≤ n
                · have hfin : digitsR s.data.toList = none := by rw [unhide HN, hio]; simp [hbig]
                  have HFI := hide hfin
                  have HP := hide (parse_any q W hq4 hE')
                  rw [hqt, hio] at HP
                  have HP2 := hide (parse_some HP)
                  clear hfin hio HP HN hqt hr
                  go_wp2_with (first | (go_at_call 114; rw [unhide HEX]; refine (unhide HP2).mono ?_; rintro e w1 ⟨HB, rfl⟩) | (go_at_call 113; refine (fail_i64 _).mono ?_; rintro e w2 ⟨rfl, rfl⟩))
                  go_ret3
                  exact ⟨unhide HB, Or.inl ⟨unhide HFI, rfl⟩⟩
                · have hfin : digitsR s.data.toList = some (n, r.data.toList) := by rw [unhide HN, hio, hr]; simp [hbig]
                  have HFI := hide hfin
                  have HP := hide (parse_any q W hq4 hE')
                  rw [hqt, hio] at HP
                  have HP2 := hide (parse_some HP)
                  clear hfin hio HP HN hqt hr
                  go_wp2_with (go_at_call 114; rw [unhide HEX]; refine (unhide HP2).mono ?_; rintro e w1 ⟨HB, rfl⟩)
                  go_region
                  all_goals
                    go_wp2
                    go_ret3
                    rw [unhide HEX2]
                    exact ⟨(unhide HB).drew, Or.inr ⟨_, r.data.toList, _, unhide HFI, rfl, rfl⟩⟩
    · have hlti : ¬ (k : Int) < (s.size : Int) := by omega
      have hkn : digN s.data.toList = k := dig_stop s k hk hok.out (fun h => absurd h hlt)
      clear hok
      have hki : (k : Int) ≤ (s.size : Int) := by omega
      obtain ⟨q, r, hqt, hr, hex, hex2, hq4⟩ := cuts s k hk hs
      have HEX := hide hex
      have HEX2 := hide hex2
      clear hex hex2
      by_cases hz : 1 < k ∧ s.data.toList[0]? = some 48
      · have hfin : digitsR s.data.toList = none := by unfold digitsR; rw [hkn, if_pos hz]
        have HFI := hide hfin
        obtain ⟨hp0, h0⟩ := first_is s hz.2
        have hk1 : (1 : Int) < (k : Int) := by omega
        clear hfin hz hqt hr
        go_wp2_with (go_at_call 113; refine (fail_i64 _).mono ?_; rintro e w2 ⟨rfl, rfl⟩)
        go_ret3
        exact ⟨Below.refl _ _, Or.inl ⟨unhide HFI, rfl⟩⟩
      · have hn : digitsR s.data.toList = match intOk (s.data.toList.take k) with
          | none => none
          | some n => if 9007199254740992 ≤ n then none else some (n, s.data.toList.drop k) := by unfold digitsR; rw [hkn, if_neg hz]
        have HN := hide hn
        clear hn
        by_cases hk1 : 1 < k
        · have hp0 : 0 < s.size := by omega
          have h0 := first_no s hp0 (fun h => hz ⟨hk1, h⟩)
          have hk2 : (1 : Int) < (k : Int) := by omega
          clear hz hk1
          cases hio : intOk (s.data.toList.take k) with
          | none =>
            have hfin : digitsR s.data.toList = none := by rw [unhide HN, hio]
            have HFI := hide hfin
            have HP := hide (parse_any q W hq4 hE')
            rw [hqt, hio] at HP
            have HP2 := hide (parse_none HP)
            clear hfin hio HP HN hqt hr
            go_wp2_with (first | (go_at_call 114; rw [unhide HEX]; refine (unhide HP2).mono ?_; rintro e w1 ⟨HB, x, N, t, rfl⟩) | (go_at_call 113; refine (fail_i64 _).mono ?_; rintro e w2 ⟨rfl, rfl⟩))
            go_ret3
            exact ⟨unhide HB, Or.inl ⟨unhide HFI, rfl⟩⟩
          | some n =>
            by_cases hbig : (9007199254740992 : Int) ≤ n
            · have hfin : digitsR s.data.toList = none := by rw [unhide HN, hio]; simp [hbig]
              have HFI := hide hfin
              have HP := hide (parse_any q W hq4 hE')
              rw [hqt, hio] at HP
              have HP2 := hide (parse_some HP)
              clear hfin hio HP HN hqt hr
              go_wp2_with (first | (go_at_call 114; rw [unhide HEX]; refine (unhide HP2).mono ?_; rintro e w1 ⟨HB, rfl⟩) | (go_at_call 113; refine (fail_i64 _).mono ?_; rintro e w2 ⟨rfl, rfl⟩))
              go_ret3
              exact ⟨unhide HB, Or.inl ⟨unhide HFI, rfl⟩⟩
            · have hfin : digitsR s.data.toList = some (n, r.data.toList) := by rw [unhide HN, hio, hr]; simp [hbig]
              have HFI := hide hfin
              have HP := hide (parse_any q W hq4 hE')
              rw [hqt, hio] at HP
              have HP2 := hide (parse_some HP)
              clear hfin hio HP HN hqt hr
              go_wp2_with (go_at_call 114; rw [unhide HEX]; refine (unhide HP2).mono ?_; rintro e w1 ⟨HB, rfl⟩)
              go_region
              all_goals
                go_wp2
                go_ret3
                rw [unhide HEX2]
                exact ⟨(unhide HB).drew, Or.inr ⟨_, r.data.toList, _, unhide HFI, rfl, rfl⟩⟩
        · have hk2 : ¬ (1 : Int) < (k : Int) := by omega
          clear hz hk1
          cases hio : intOk (s.data.toList.take k) with
          | none =>
            have hfin : digitsR s.data.toList = none := by rw [unhide HN, hio]
            have HFI := hide hfin
            have HP := hide (parse_any q W hq4 hE')
            rw [hqt, hio] at HP
            have HP2 := hide (parse_none HP)
            clear hfin hio HP HN hqt hr
            go_wp2_with (first | (go_at_call 114; rw [unhide HEX]; refine (unhide HP2).mono ?_; rintro e w1 ⟨HB, x, N, t, rfl⟩) | (go_at_call 113; refine (fail_i64 _).mono ?_; rintro e w2 ⟨rfl, rfl⟩))
            go_ret3
            exact ⟨unhide HB, Or.inl ⟨unhide HFI, rfl⟩⟩
          | some n =>
            by_cases hbig : (9007199254740992 : Int) ≤ n
            · have hfin : digitsR s.data.toList = none := by rw [unhide HN, hio]; simp [hbig]
              have HFI := hide hfin
              have HP := hide (parse_any q W hq4 hE')
              rw [hqt, hio] at HP
              have HP2 := hide (parse_some HP)
              clear hfin hio HP HN hqt hr
              go_wp2_with (first | (go_at_call 114; rw [unhide HEX]; refine (unhide HP2).mono ?_; rintro e w1 ⟨HB, rfl⟩) | (go_at_call 113; refine (fail_i64 _).mono ?_; rintro e w2 ⟨rfl, rfl⟩))
              go_ret3
              exact ⟨unhide HB, Or.inl ⟨unhide HFI, rfl⟩⟩
            · have hfin : digitsR s.data.toList = some (n, r.data.toList) := by rw [unhide HN, hio, hr]; simp [hbig]
              have HFI := hide hfin
              have HP := hide (parse_any q W hq4 hE')
              rw [hqt, hio] at HP
              have HP2 := hide (parse_some HP)
              clear hfin hio HP HN hqt hr
              go_wp2_with (go_at_call 114; rw [unhide HEX]; refine (unhide HP2).mono ?_; rintro e w1 ⟨HB, rfl⟩)
              go_region
              all_goals
                go_wp2
                go_ret3
                rw [unhide HEX2]
                exact ⟨(unhide HB).drew, Or.inr ⟨_, r.data.toList, _, unhide HFI, rfl, rfl⟩⟩
end Go.Proofs.YtgaddifabjoliaaGreatDoor
