import Derived.Test.YtgaddifabjoliaaGreatDoorPlC
import Derived.Test.YtgaddifabjoliaaGreatDoorCost
import Derived.Deep.Light
namespace Go.Proofs.YtgaddifabjoliaaGreatDoor
open Go.RowKit

theorem pl_data (a b : ByteArray) : (a ++ b).data.toList = a.data.toList ++ b.data.toList := by rw [ByteArray.data_append, Array.toList_append]

theorem form_long (s : ByteArray) (w : World) (hL : Laid w) (h : 4000 < s.size) :
    Calls Tryz.prog 5 #[.string s] w fun e w' => e = .returned (.tuple #[.string ⟨#[]⟩, .int .i64 1]) ∧ Below w.heap.size w w' := by
  refine (code_form s w hL).mono ?_
  rintro e w' ⟨hb, ⟨_, he⟩ | ⟨h1, _⟩ | ⟨h1, _⟩⟩
  · exact ⟨he, hb⟩
  · omega
  · omega
theorem form_none (s : ByteArray) (w : World) (hL : Laid w) (h : s.size ≤ 4000) (hn : readF s.data.toList = none) :
    Calls Tryz.prog 5 #[.string s] w fun e w' => e = .returned (.tuple #[.string ⟨#[]⟩, .int .i64 2]) ∧ Below w.heap.size w w' := by
  refine (code_form s w hL).mono ?_
  rintro e w' ⟨hb, ⟨h1, _⟩ | ⟨_, _, he⟩ | ⟨_, x, hx, _⟩⟩
  · omega
  · exact ⟨he, hb⟩
  · rw [hn] at hx; cases hx
theorem form_some (s y : ByteArray) (x : JT 8) (w : World) (hL : Laid w) (h : s.size ≤ 4000) (hx : readF s.data.toList = some x) (hy : y.data.toList = formF 8 x) :
    Calls Tryz.prog 5 #[.string s] w fun e w' => e = .returned (.tuple #[.string y, .int .i64 0]) ∧ Below w.heap.size w w' := by
  refine (code_form s w hL).mono ?_
  rintro e w' ⟨hb, ⟨h1, _⟩ | ⟨_, hn, _⟩ | ⟨_, z, hz, he⟩⟩
  · omega
  · rw [hn] at hx; cases hx
  · rw [hx] at hz
    have e1 := Option.some.inj hz
    subst e1
    refine ⟨?_, hb⟩
    have e2 : (⟨(formF 8 x).toArray⟩ : ByteArray) = y := by
      rw [← hy]
    rw [he, e2]

theorem twice_none : readF (ByteArray.mk #[123, 34, 97, 34, 58, 49, 44, 34, 97, 34, 58, 50, 125]).data.toList = none := by
  have h := twice_read
  rw [Option.isNone_iff_eq_none] at h
  exact h

theorem brk_take (l : Bytes) (k : Nat) (h : k < l.length) : brk (l.take (k + 1)) = brk (l.take k) + (if l[k] = 91 ∨ l[k] = 123 then 1 else 0) := by
  rw [List.take_succ_eq_append_getElem h, brk_append]
  congr 1
  unfold brk
  rw [List.countP_singleton]
  simp
theorem brk_le (l : Bytes) : brk l ≤ l.length := List.countP_le_length

set_option maxRecDepth 20000 in
set_option maxHeartbeats 4000000 in
theorem plain_walk (s : ByteArray) (w : World) (hL : Laid w) :
    Calls Tryz.prog 4 #[.string s] w fun e w' => e = .returned (.bool true) ∧ Below w.heap.size w w' := by
  have hk1 : readF (ByteArray.mk #[32, 91, 49, 32, 44, 32, 110, 117, 108, 108, 32, 93, 32]).data.toList = some knownX := known_read
  have hk2 : (ByteArray.mk #[91, 49, 44, 110, 117, 108, 108, 93]).data.toList = formF 8 knownX := known_form.symm
  have HK1 := hide hk1
  have HK2 := hide hk2
  clear hk1 hk2
  have hsl : s.data.toList.length = s.size := by simp
  by_cases hA : 4000 < s.size
  · go_enter Tryz.func4, Tryz.ntmps4
    go_wp2_with fail
    refine (form_long s w hL hA).mono ?_
    rintro e w1 ⟨rfl, hb1⟩
    go_wp2_with fail
    refine (form_some _ (ByteArray.mk #[91, 49, 44, 110, 117, 108, 108, 93]) knownX w1 (hL.later hb1) (by decide) (unhide HK1) (unhide HK2)).mono ?_
    rintro e w2 ⟨rfl, hb2⟩
    have hb := hb1.trans (hb2.mono hb1.size)
    clear hb1 hb2
    have iA : (4000 : Int) < (s.size : Int) := by omega
    go_wp2
    go_ret
    exact ⟨rfl, hb⟩
  · cases hR : readF s.data.toList with
    | none =>
      have HR := hide hR
      clear hR
      go_enter Tryz.func4, Tryz.ntmps4
      go_wp2_with fail
      refine (form_none s w hL (by omega) (unhide HR)).mono ?_
      rintro e w1 ⟨rfl, hb1⟩
      go_wp2_with fail
      refine (form_some _ (ByteArray.mk #[91, 49, 44, 110, 117, 108, 108, 93]) knownX w1 (hL.later hb1) (by decide) (unhide HK1) (unhide HK2)).mono ?_
      rintro e w2 ⟨rfl, hb2⟩
      have hb := hb1.trans (hb2.mono hb1.size)
      clear hb1 hb2
      go_wp2
      go_ret
      refine ⟨?_, hb⟩
      show Ending.returned (.bool (!decide ((4000 : Int) < (s.size : Int)))) = _
      rw [decide_eq_false (by omega)]
      rfl
    | some x =>
      have HR := hide hR
      obtain ⟨y, hy⟩ : ∃ y : ByteArray, y.data.toList = formF 8 x := ⟨⟨(formF 8 x).toArray⟩, rfl⟩
      have hyl : y.data.toList.length = y.size := by simp
      have HY := hide hy
      have hag : Hid (readF y.data.toList = some x) := by
        show _ = _
        rw [hy]
        exact form_again _ _ hR
      have hlist := hide (read_list _ _ hR)
      have hround := hide (read_around _ _ hR)
      clear hR hy
      go_enter Tryz.func4, Tryz.ntmps4
      go_wp2_with fail
      refine (form_some s y x w hL (by omega) (unhide HR) (unhide HY)).mono ?_
      rintro e w1 ⟨rfl, hb1⟩
      have hL1 := hL.later hb1
      go_wp2_with fail
      refine (form_some _ (ByteArray.mk #[91, 49, 44, 110, 117, 108, 108, 93]) knownX w1 hL1 (by decide) (unhide HK1) (unhide HK2)).mono ?_
      rintro e w2 ⟨rfl, hb2⟩
      have hb := hb1.trans (hb2.mono hb1.size)
      have hL2 := hL1.later hb2
      clear hb1 hb2 hL1
      by_cases hy4 : 4000 < y.size
      · have iy : (4000 : Int) < (y.size : Int) := by omega
        go_wp2_with fail
        refine (form_long y w2 hL2 hy4).mono ?_
        rintro e w3 ⟨rfl, hb3⟩
        have hb' := hb.trans (hb3.mono hb.size)
        go_wp2
        go_ret
        exact ⟨rfl, hb'⟩
      · have iy : ¬ ((4000 : Int) < (y.size : Int)) := by omega
        go_wp2_with fail
        refine (form_some y y x w2 hL2 (by omega) (unhide hag) (unhide HY)).mono ?_
        rintro e w3 ⟨rfl, hb3⟩
        have hb' := hb.trans (hb3.mono hb.size)
        have hL3 := hL2.later hb3
        clear hb hb3 hL2
        by_cases hs1 : 3980 < s.size
        · have is1 : (3980 : Int) < (s.size : Int) := by omega
          go_wp2
          go_ret
          exact ⟨rfl, hb'⟩
        · have is1 : ¬ ((3980 : Int) < (s.size : Int)) := by omega
          by_cases hy1 : 3970 < y.size
          · have iy1 : (3970 : Int) < (y.size : Int) := by omega
            go_wp2
            go_ret
            exact ⟨rfl, hb'⟩
          · have iy1 : ¬ ((3970 : Int) < (y.size : Int)) := by omega
            have hra : Hid (readF (ByteArray.mk #[10, 9] ++ s ++ ByteArray.mk #[13, 32]).data.toList = some x) := by
              show _ = _
              rw [pl_data, pl_data]
              exact unhide hround
            have hrl : (ByteArray.mk #[91] ++ s ++ ByteArray.mk #[44, 55, 93]).data.toList = 91 :: (s.data.toList ++ [44, 55, 93]) := by
              rw [pl_data, pl_data]
              rfl
            have z1 : (ByteArray.mk #[10, 9] ++ s ++ ByteArray.mk #[13, 32]).size ≤ 4000 := by
              rw [ByteArray.size_append, ByteArray.size_append]
              show 2 + s.size + 2 ≤ 4000
              omega
            have z2 : (ByteArray.mk #[91] ++ s ++ ByteArray.mk #[44, 55, 93]).size ≤ 4000 := by
              rw [ByteArray.size_append, ByteArray.size_append]
              show 1 + s.size + 3 ≤ 4000
              omega
            go_wp2_with fail
            refine (form_some _ y x w3 hL3 z1 (unhide hra) (unhide HY)).mono ?_
            rintro e w4 ⟨rfl, hb4⟩
            have hb'' := hb'.trans (hb4.mono hb'.size)
            have hL4 := hL3.later hb4
            clear hb' hb4 hL3
            rcases unhide hlist with ⟨hln, hdeep⟩ | ⟨z, hlz, hfz⟩
            · have hln' : Hid (readF (ByteArray.mk #[91] ++ s ++ ByteArray.mk #[44, 55, 93]).data.toList = none) := by
                show _ = _
                rw [hrl]
                exact hln
              have hd8 : 8 ≤ brk y.data.toList := by rw [unhide HY]; exact hdeep
              have HD := hide hd8
              clear hln hdeep hd8 hrl hlist
              go_wp2_with fail
              refine (form_none _ w4 hL4 z2 (unhide hln')).mono ?_
              rintro e w5 ⟨rfl, hb5⟩
              have hb5' := hb''.trans (hb5.mono hb''.size)
              have hL5 := hL4.later hb5
              clear hb'' hb5 hL4
              go_wp2_with fail
              refine (form_none (ByteArray.mk #[123, 34, 97, 34, 58, 49, 44, 34, 97, 34, 58, 50, 125]) w5 hL5 (by decide) twice_none).mono ?_
              rintro e w6 ⟨rfl, hb6⟩
              have hbz := hb5'.trans (hb6.mono hb5'.size)
              clear hb5' hb6 hL5
              go_wp2
              go_loopw [15, 16] (fun b k wr => ∃ n : Nat, n ≤ y.size ∧ k = .int .i64 (n : Int) ∧ b = .int .i64 ((brk (y.data.toList.take n) : Nat) : Int) ∧ wr = w6) (fun _ k _ => y.size - (intOf k).toNat)
              case atStart => exact ⟨0, by omega, rfl, rfl, rfl⟩
              case round =>
                obtain ⟨n, hn, rfl, rfl, hwr⟩ := hrel
                subst hwr
                by_cases hlt : n < y.size
                · have hst := brk_take y.data.toList n (by omega)
                  have hbd := brk_le (y.data.toList.take n)
                  rw [List.length_take] at hbd
                  have hgt : y.data.toList[n]'(by omega) = y[n] := by rw [Array.getElem_toList]; rfl
                  rw [hgt] at hst
                  have HST := hide hst
                  clear hst hgt
                  generalize hB : brk (y.data.toList.take n) = B at hbd HST
                  clear hB
                  have iB : (B : Int) ≤ 4000 := by omega
                  by_cases h91 : y[n] = 91
                  · have i91 : ((y[n].toNat : Nat) : Int) = 91 := by rw [h91]; rfl
                    have hnx := unhide HST
                    rw [if_pos (Or.inl h91)] at hnx
                    have HNX := hide hnx
                    clear hnx HST h91
                    go_wp2
                    go_roundw
                    case rel => exact ⟨n + 1, by omega, by go_num, by rw [unhide HNX]; go_num, trivial⟩
                    case measure => (go_light; simp [intOf] <;> omega)
                  · have i91 : y[n].toNat ≠ 91 := fun e => h91 (UInt8.toNat_inj.1 e)
                    by_cases h123 : y[n] = 123
                    · have i123 : ((y[n].toNat : Nat) : Int) = 123 := by rw [h123]; rfl
                      have hnx := unhide HST
                      rw [if_pos (Or.inr h123)] at hnx
                      have HNX := hide hnx
                      clear hnx HST h91 h123
                      go_wp2
                      go_roundw
                      case rel => exact ⟨n + 1, by omega, by go_num, by rw [unhide HNX]; go_num, trivial⟩
                      case measure => (go_light; simp [intOf] <;> omega)
                    · have i123 : y[n].toNat ≠ 123 := fun e => h123 (UInt8.toNat_inj.1 e)
                      have hnx := unhide HST
                      rw [if_neg (fun hh => hh.elim h91 h123)] at hnx
                      have HNX := hide hnx
                      clear hnx HST h91 h123
                      have j91 : (((y[n].toNat : Nat) : Int) == 91) = false := by rw [beq_eq_false_iff_ne]; omega
                      have j123 : (((y[n].toNat : Nat) : Int) == 123) = false := by rw [beq_eq_false_iff_ne]; omega
                      have k91 : ¬ (((y[n].toNat : Nat) : Int) = 91) := by omega
                      clear i91 i123
                      go_wp2
                      go_roundw
                      case rel => exact ⟨n + 1, by omega, by go_num, by rw [unhide HNX, Nat.add_zero], trivial⟩
                      case measure => (go_light; simp [intOf] <;> omega)
                · have hne : n = y.size := by omega
                  have hall : y.data.toList.take n = y.data.toList := List.take_of_length_le (by omega)
                  rw [hall]
                  have i8 : (8 : Int) ≤ ((brk y.data.toList : Nat) : Int) := by have := unhide HD; omega
                  go_wp2
                  go_ret
                  exact ⟨rfl, hbz⟩
            · have hlz' : Hid (readF (ByteArray.mk #[91] ++ s ++ ByteArray.mk #[44, 55, 93]).data.toList = some z) := by
                show _ = _
                rw [hrl]
                exact hlz
              have hyz : Hid ((ByteArray.mk #[91] ++ y ++ ByteArray.mk #[44, 55, 93]).data.toList = formF 8 z) := by
                show _ = _
                rw [pl_data, pl_data, hfz, unhide HY]
              clear hlz hfz hrl hlist
              go_wp2_with fail
              refine (form_some _ (ByteArray.mk #[91] ++ y ++ ByteArray.mk #[44, 55, 93]) z w4 hL4 z2 (unhide hlz') (unhide hyz)).mono ?_
              rintro e w5 ⟨rfl, hb5⟩
              have hb5' := hb''.trans (hb5.mono hb''.size)
              have hL5 := hL4.later hb5
              clear hb'' hb5 hL4
              go_wp2_with fail
              refine (form_none (ByteArray.mk #[123, 34, 97, 34, 58, 49, 44, 34, 97, 34, 58, 50, 125]) w5 hL5 (by decide) twice_none).mono ?_
              rintro e w6 ⟨rfl, hb6⟩
              have hbz := hb5'.trans (hb6.mono hb5'.size)
              clear hb5' hb6 hL5
              go_wp2
              go_loopw [15, 16] (fun b k wr => ∃ n : Nat, n ≤ y.size ∧ k = .int .i64 (n : Int) ∧ b = .int .i64 ((brk (y.data.toList.take n) : Nat) : Int) ∧ wr = w6) (fun _ k _ => y.size - (intOf k).toNat)
              case atStart => exact ⟨0, by omega, rfl, rfl, rfl⟩
              case round =>
                obtain ⟨n, hn, rfl, rfl, hwr⟩ := hrel
                subst hwr
                by_cases hlt : n < y.size
                · have hst := brk_take y.data.toList n (by omega)
                  have hbd := brk_le (y.data.toList.take n)
                  rw [List.length_take] at hbd
                  have hgt : y.data.toList[n]'(by omega) = y[n] := by rw [Array.getElem_toList]; rfl
                  rw [hgt] at hst
                  have HST := hide hst
                  clear hst hgt
                  generalize hB : brk (y.data.toList.take n) = B at hbd HST
                  clear hB
                  have iB : (B : Int) ≤ 4000 := by omega
                  by_cases h91 : y[n] = 91
                  · have i91 : ((y[n].toNat : Nat) : Int) = 91 := by rw [h91]; rfl
                    have hnx := unhide HST
                    rw [if_pos (Or.inl h91)] at hnx
                    have HNX := hide hnx
                    clear hnx HST h91
                    go_wp2
                    go_roundw
                    case rel => exact ⟨n + 1, by omega, by go_num, by rw [unhide HNX]; go_num, trivial⟩
                    case measure => (go_light; simp [intOf] <;> omega)
                  · have i91 : y[n].toNat ≠ 91 := fun e => h91 (UInt8.toNat_inj.1 e)
                    by_cases h123 : y[n] = 123
                    · have i123 : ((y[n].toNat : Nat) : Int) = 123 := by rw [h123]; rfl
                      have hnx := unhide HST
                      rw [if_pos (Or.inr h123)] at hnx
                      have HNX := hide hnx
                      clear hnx HST h91 h123
                      go_wp2
                      go_roundw
                      case rel => exact ⟨n + 1, by omega, by go_num, by rw [unhide HNX]; go_num, trivial⟩
                      case measure => (go_light; simp [intOf] <;> omega)
                    · have i123 : y[n].toNat ≠ 123 := fun e => h123 (UInt8.toNat_inj.1 e)
                      have hnx := unhide HST
                      rw [if_neg (fun hh => hh.elim h91 h123)] at hnx
                      have HNX := hide hnx
                      clear hnx HST h91 h123
                      have j91 : (((y[n].toNat : Nat) : Int) == 91) = false := by rw [beq_eq_false_iff_ne]; omega
                      have j123 : (((y[n].toNat : Nat) : Int) == 123) = false := by rw [beq_eq_false_iff_ne]; omega
                      have k91 : ¬ (((y[n].toNat : Nat) : Int) = 91) := by omega
                      clear i91 i123
                      go_wp2
                      go_roundw
                      case rel => exact ⟨n + 1, by omega, by go_num, by rw [unhide HNX, Nat.add_zero], trivial⟩
                      case measure => (go_light; simp [intOf] <;> omega)
                · have hne : n = y.size := by omega
                  have hall : y.data.toList.take n = y.data.toList := List.take_of_length_le (by omega)
                  rw [hall]
                  go_wp2
                  go_ret
                  exact ⟨rfl, hbz⟩
end Go.Proofs.YtgaddifabjoliaaGreatDoor
