import Derived.Test.YtgaddifabjoliaaDoorRSumH
import Derived.Test.YtgaddifabjoliaaDoorRBlockW
namespace Go.Proofs.YtgaddifabjoliaaDoor
open Go.RowKit

set_option maxRecDepth 20000 in
set_option maxHeartbeats 16000000 in
theorem rsum32 (s : ByteArray) (sv cv : Value) (w : World) (hsv : RowN w sv sq) (hcv : RowN w cv (cu.take 64)) (hs : s.size < 140737488355000) :
    Calls Tryd.prog 15 #[.agg #[.int .i64 32, .int .i64 2, .int .i64 13, .int .i64 22, .int .i64 6, .int .i64 11, .int .i64 25, .int .i64 7, .int .i64 18, .int .i64 3, .int .i64 17, .int .i64 19, .int .i64 10, .int .u64 4294967295], .string s, .agg #[sv, cv]] w fun e w' => e = .returned (.string ⟨(sumF m256 s.data.toList).toArray⟩) ∧ Below w.heap.size w w' := by
  have hcv2 := fun w s => run_bytes_of_string (P := Tryd.prog) w 9 45 5 s Tryd.underlying9 Tryd.underlying45 Tryd.underlying5
  have hrl : s.data.toList.length = s.size := by simp
  go_enter Tryd.func15, Tryd.ntmps15
  go_wp2_with (at_builtin; refine wpList_append_byte (by rfl) _ _ (by rfl) (w.heap.size + 2) _ s.data.toList (by rfl) ?g4 ⟨w.heap.size + 1 + 1 + 1, 0, none⟩ 128 ?g0 (by rfl) ?g6 ?g8 ?g7 ?_)
  case g4 => exact ((ownB_bytes2 ((w.alloc (.cells #[.int .i64 32, .int .i64 2, .int .i64 13, .int .i64 22, .int .i64 6, .int .i64 11, .int .i64 25, .int .i64 7, .int .i64 18, .int .i64 3, .int .i64 17, .int .i64 19, .int .i64 10, .int .u64 4294967295] 42)).alloc (.cells #[sv, cv] 29)) s (w.heap.size + 1 + 1) (by simp)).alloc _).drew
  case g0 => decide
  case g6 => exact fun j u h => one_cell_drew _ _ _ _ (by simp) j u h
  case g8 => rw [hrl]; omega
  case g7 => (simp <;> omega)
  intro v0 w0 hob0 hbw0
  have hb0 : SBase #[.int .i64 32, .int .i64 2, .int .i64 13, .int .i64 22, .int .i64 6, .int .i64 11, .int .i64 25, .int .i64 7, .int .i64 18, .int .i64 3, .int .i64 17, .int .i64 19, .int .i64 10, .int .u64 4294967295] #[sv, cv] w w0 := ((((sbase_start #[.int .i64 32, .int .i64 2, .int .i64 13, .int .i64 22, .int .i64 6, .int .i64 11, .int .i64 25, .int .i64 7, .int .i64 18, .int .i64 3, .int .i64 17, .int .i64 19, .int .i64 10, .int .u64 4294967295] #[sv, cv] w).alloc _).alloc _).go (Below.refl _ _).drew).go hbw0
  clear hbw0 hcv2
  go_wp2
  go_loopw [8] (fun out wr => ∃ (z : Nat) (got : List UInt8), z ≤ zeros m256 (s.size % 64) ∧ got.length = s.size + 1 + z ∧ OwnB (w.heap.size + 2) wr out got ∧ SBase #[.int .i64 32, .int .i64 2, .int .i64 13, .int .i64 22, .int .i64 6, .int .i64 11, .int .i64 25, .int .i64 7, .int .i64 18, .int .i64 3, .int .i64 17, .int .i64 19, .int .i64 10, .int .u64 4294967295] #[sv, cv] w wr ∧ Hid (got = s.data.toList ++ 128 :: List.replicate z 0)) (fun out _ => s.size + 1 + zeros m256 (s.size % 64) - lenOf out)
  case atStart => exact ⟨0, _, Nat.zero_le _, by simp, hob0, hb0, rfl⟩
  case round =>
    obtain ⟨z, got, hz, hgl, hob, hb, hgot⟩ := hrel
    clear hob0 hb0
    obtain ⟨g, cap, rfl, hg⟩ := hob.form
    have y0 := cell_of_row wr w.heap.size 0 _ _ _ hb.m
    simp only [List.getElem?_toArray, List.getElem?_cons_zero] at y0
    have hzz : zeros m256 (s.size % 64) = (64 - (s.size % 64 + 1 + 8) % 64) % 64 := rfl
    have HO := hide hob
    have HB := hide hb
    have hbs := hb.size
    clear hob hb
    by_cases hlt : z < zeros m256 (s.size % 64)
    · have hcond : ¬ ((got.length : Int) % 64 = 56) := by rw [hgl]; rw [hzz] at hlt; omega
      have hbnd : got.length < 140737488355328 := by rw [hzz] at hz; omega
      have HGL := hide hgl
      clear hgl hzz
      go_wp2_with (at_builtin; refine wpList_append_byte (by rfl) _ _ (by rfl) (w.heap.size + 2) _ got (by rfl) ?g4 ⟨wr.heap.size, 0, none⟩ 0 ?g0 (by rfl) ?g6 ?g8 ?g7 ?_)
      case g4 => exact (unhide HO).alloc _
      case g0 => decide
      case g6 => exact one_cell _ _ _
      case g8 => omega
      case g7 => (simp; omega)
      intro v3 w3 hob3 hbw3
      go_wp2
      go_roundw
      case rel =>
        refine ⟨z + 1, _, by omega, ?_, hob3, ((unhide HB).alloc _).go hbw3, ?_⟩
        · have := unhide HGL
          simp; omega
        · show _ = _
          rw [unhide hgot, List.replicate_succ']
          simp
      case measure =>
        have := unhide HGL
        obtain ⟨g3, c3, rfl, _⟩ := hob3.form
        go_light
        simp [lenOf]
        omega
    · have hze : z = zeros m256 (s.size % 64) := by omega
      have hcond : ((got.length : Int) % 64 = 56) := by rw [hgl]; rw [hzz] at hze; omega
      have hbnd : got.length < 140737488355200 := by rw [hzz] at hz; omega
      have hpad : Hid (padF m256 s.data.toList = got ++ tailF m256 s.size) := by
        show _ = _
        rw [pad_eq, unhide hgot, hrl, hze]
        rfl
      clear hgl hzz hze hlt hz hgot
      go_wp2
      go_loopw [8, 9] (fun out i wr => ∃ (j : Nat) (got2 : List UInt8), j ≤ 8 ∧ i = .int .i64 (7 - (j : Int)) ∧ got2.length = got.length + j ∧ OwnB (w.heap.size + 2) wr out got2 ∧ SBase #[.int .i64 32, .int .i64 2, .int .i64 13, .int .i64 22, .int .i64 6, .int .i64 11, .int .i64 25, .int .i64 7, .int .i64 18, .int .i64 3, .int .i64 17, .int .i64 19, .int .i64 10, .int .u64 4294967295] #[sv, cv] w wr ∧ Hid (got2 = got ++ (tailF m256 s.size).take j)) (fun _ i _ => (intOf i + 1).toNat)
      case atStart => exact ⟨0, got, by omega, by go_num, by omega, unhide HO, unhide HB, by show _ = _; simp⟩
      case round =>
        clear HO HB y0 hbs hg
        obtain ⟨j, got2, hj, rfl, hgl2, hob, hb, hgot⟩ := hrel
        obtain ⟨g2, cap2, rfl, hg2⟩ := hob.form
        have hbnd2 : got2.length < 140737488355328 := by omega
        have hbs := hb.size
        have HO := hide hob
        have HB := hide hb
        have HGL := hide hgl2
        clear hob hb hgl2 hcond
        by_cases hlt : j < 8
        · obtain ⟨i, hi⟩ : ∃ i, j + i = 7 := ⟨7 - j, by omega⟩
          have ei : (7 - (j : Int)) = (i : Int) := by omega
          rw [ei]
          have hi2 : i < 8 := by omega
          have hje : j = 7 - i := by omega
          by_cases hi8 : i < 8
          · obtain ⟨b, hbb⟩ : ∃ b : Nat, b = 8 * s.size / 2 ^ (8 * i) % 256 := ⟨_, rfl⟩
            have hb256 : b < 256 := by omega
            have hstep : Hid ((tailF m256 s.size).take (j + 1) = (tailF m256 s.size).take j ++ [UInt8.ofNat b]) := by
              show _ = _
              rw [hje, hbb]
              exact tail_low_32 s.size i (by omega) hi8
            have hcv1 : (8 * (s.size : Int)) / 2 ^ (8 * i) % 256 = (b : Int) := by rw [hbb]; simp
            have hcv2 : IntKind.u8.wrap ((8 * (s.size : Int)) / 2 ^ (8 * i)) = (b : Int) := by rw [IntKind.wrap_u8]; exact hcv1
            have HJ := hide hi
            clear hbb hje hi ei
            go_wp2_with (at_builtin; refine wpList_append_byte (by rfl) _ _ (by rfl) (w.heap.size + 2) _ got2 (by rfl) ?g4 ⟨wr.heap.size, 0, none⟩ b ?g0 (by rfl) ?g6 ?g8 ?g7 ?_)
            case g4 => exact (unhide HO).alloc _
            case g0 => exact hb256
            case g6 => exact one_cell _ _ _
            case g8 => omega
            case g7 => (simp; omega)
            intro v3 w3 hob3 hbw3
            go_wp2
            go_roundw
            case rel =>
              have hi := unhide HJ
              refine ⟨j + 1, _, by omega, ?_, ?_, hob3, ((unhide HB).alloc _).go hbw3, ?_⟩
              · refine congrArg (Value.int .i64) ?_
                go_light
                omega
              · have := unhide HGL
                simp; omega
              · show _ = _
                rw [unhide hstep, unhide hgot, List.append_assoc]
            case measure => (go_light; simp [intOf] <;> omega)
          · first
              | (exfalso; omega)
              | (have hstep : Hid ((tailF m256 s.size).take (j + 1) = (tailF m256 s.size).take j ++ [UInt8.ofNat 0]) := by
                   show _ = _
                   rw [hje]
                   exact tail_high_64 s.size i (by omega) (by omega) (by omega)
                 have HJ := hide hi
                 clear hje hi ei
                 go_wp2_with (at_builtin; refine wpList_append_byte (by rfl) _ _ (by rfl) (w.heap.size + 2) _ got2 (by rfl) ?g4 ⟨wr.heap.size, 0, none⟩ 0 ?g0 (by rfl) ?g6 ?g8 ?g7 ?_)
                 case g4 => exact (unhide HO).alloc _
                 case g0 => decide
                 case g6 => exact one_cell _ _ _
                 case g8 => omega
                 case g7 => (simp; omega)
                 intro v3 w3 hob3 hbw3
                 go_wp2
                 go_roundw
                 case rel =>
                   have hi := unhide HJ
                   refine ⟨j + 1, _, by omega, ?_, ?_, hob3, ((unhide HB).alloc _).go hbw3, ?_⟩
                   · refine congrArg (Value.int .i64) ?_
                     go_light
                     omega
                   · have := unhide HGL
                     simp; omega
                   · show _ = _
                     rw [unhide hstep, unhide hgot, List.append_assoc]
                     (try rfl)
                 case measure => (go_light; simp [intOf] <;> omega))
        · have hje : j = 8 := by omega
          have hpd : Hid (got2 = padF m256 s.data.toList) := by
            show _ = _
            rw [unhide hgot, unhide hpad, hje, List.take_of_length_le (by rw [tail_len_32]; decide)]
          have HB2 := unhide HB
          have hpl := pad_len m256 (by first | exact Or.inl rfl | exact Or.inr rfl) s.data.toList
          rw [← unhide hpd] at hpl
          have hpl' : got2.length % 64 = 0 := hpl
          have em : (7 - (j : Int)) = -1 := by omega
          rw [em]
          clear hpl hgot hpad HGL hlt hj em hje
          obtain ⟨gq, cq, hsq, ltq, cellq⟩ := hsv.form
          rw [show sq.length = 8 from rfl] at hsq
          obtain ⟨gc, cc, hcc, ltc, cellc⟩ := hcv.form
          rw [show (cu.take 64).length = 64 from rfl] at hcc
          subst hsq
          subst hcc
          obtain ⟨B3, hB3⟩ : ∃ n, n = wr.heap.size := ⟨_, rfl⟩
          have hg3 : g2 < B3 := by omega
          have hb3 : w.heap.size + 2 ≤ B3 := by omega
          have hB3' : B3 ≤ wr.heap.size := by omega
          clear hB3
          go_wp2
          go_loopw [11, 12] (fun st i wr => ∃ (k : Nat), k ≤ 8 ∧ i = .int .i64 (k : Int) ∧ OwnN B3 wr st (topL 32 k) ∧ OwnB (w.heap.size + 2) wr (.slice (some ⟨g2, 0, none⟩) got2.length cap2) got2 ∧ SBase #[.int .i64 32, .int .i64 2, .int .i64 13, .int .i64 22, .int .i64 6, .int .i64 11, .int .i64 25, .int .i64 7, .int .i64 18, .int .i64 3, .int .i64 17, .int .i64 19, .int .i64 10, .int .u64 4294967295] #[.slice (some ⟨gq, 0, none⟩) 8 cq, .slice (some ⟨gc, 0, none⟩) 64 cc] w wr ∧ B3 ≤ wr.heap.size) (fun _ i _ => 8 - (intOf i).toNat)
          case atStart => exact ⟨0, by omega, rfl, ownN_nil _ _, unhide HO, HB2, hB3'⟩
          case round =>
            clear HO HB HB2 hbs hg2 hB3'
            obtain ⟨k, hk, rfl, hst, hob, hb, hB3'⟩ := hrel
            obtain ⟨ost, cst, rfl⟩ := hst.form
            have htl := topL_len 32 k hk
            rw [htl]
            have HST : Hid (OwnN B3 wr (.slice ost k cst) (topL 32 k)) := by rw [htl] at hst; exact hst
            have HO := hide hob
            have HB := hide hb
            clear hst hob
            by_cases hlt : k < 8
            · have y0 := cell_of_row wr w.heap.size 0 _ _ _ hb.m
              have y1 := cell_of_row wr (w.heap.size + 1) 0 _ _ _ hb.r
              simp only [List.getElem?_toArray, List.getElem?_cons_zero] at y0 y1
              have y2 := (hb.below.cell (p := ⟨gq, k, none⟩) (show gq < w.heap.size from ltq)).trans (cellq k (show k < 8 from hlt))
              have hr64 := sq_lt k
              have hnew := hide (topL_succ 32 k hlt)
              generalize sq.getD k 0 = r at y2 hr64 hnew
              have hwz : IntKind.i64.wrap 32 = 32 := by rw [IntKind.wrap_i64]; decide
              have R0 : ∀ w', Below B3 wr w' → w'.cell? ⟨w.heap.size, 0, none⟩ = some (.int .i64 32) := fun w' q => (q.cell (by show w.heap.size < B3; omega)).trans y0
              have R1 : ∀ w', Below B3 wr w' → w'.cell? ⟨w.heap.size + 1, 0, none⟩ = some (.slice (some ⟨gq, 0, none⟩) 8 cq) := fun w' q => (q.cell (by show w.heap.size + 1 < B3; omega)).trans y1
              have R2 : ∀ w', Below B3 wr w' → w'.cell? ⟨gq, k, none⟩ = some (.int .u64 (r : Nat)) := fun w' q => (q.cell (by show gq < B3; omega)).trans y2
              have ik : (k : Int) < 8 := by omega
              have ik0 : (0 : Int) ≤ (k : Int) := by omega
              have hval : ((r : Int) / (2 ^ 32 : Nat)) = ((top 32 r : Nat) : Int) := by first | (unfold top; simp; done) | simp
              clear y0 y1 y2 hb
              go_wp2
              go_region_held3 (fun w' => Below B3 wr w')
                (first | exact hwr | exact (Below.refl _ wr).drew | exact ((Below.refl _ wr).drew).alloc hB3' _ | exact ((Below.refl _ wr).alloc hB3' _).drew)
                ((refine step_append_word (by rfl) _ _ (by rfl) B3 _ (topL 32 k) (by rfl) ((unhide HST).alloc _).drew ⟨wr.heap.size, 0, none⟩ (top 32 r) (by rfl) (one_word_drew _ _ _ _ rfl) (by rw [htl]; omega) (by simp; omega) ?_; intro g4 cap4 w4 hown4 hbe4; have hwr : Below B3 wr w4 := (((Below.refl _ wr).alloc hB3' _).drew).trans hbe4))
              go_wp2
              go_roundw
              case rel =>
                refine ⟨k + 1, by omega, by go_num, ?_, ?_, ?_, Nat.le_trans hB3' hwr.size⟩
                · have h4 := hown4
                  rw [unhide hnew]
                  (try rw [show top 64 r = r by simp [top]])
                  first | exact h4 | (rw [htl] at h4; exact h4)
                · exact (unhide HO).below hwr (fun g e => by cases e; exact hg3)
                · exact (unhide HB).go (hwr.mono hb3)
              case measure => (go_light; simp [intOf] <;> omega)
            · have hke : k = 8 := by omega
              subst hke
              rw [show ((8 : Nat) : Int) = 8 from rfl]
              have hrow := (unhide HST).row (by rw [htl]; decide)
              have hfin : RowN wr (.slice ost 8 cst) (blk m256 got2 (start m256) 0).list := by
                have := hrow
                rw [topL_32] at this
                exact this
              have hstok : (start m256).Ok 32 := start_ok_32
              clear hrow HST htl hlt hk hb
              have hbB := hB3'
              go_wp2
              go_loopw [11, 13] (fun st a wr => ∃ (k : Nat), k ≤ got2.length / 64 ∧ a = .int .i64 ((k * 64 : Nat) : Int) ∧ RowN wr st (blk m256 got2 (start m256) k).list ∧ OwnB (w.heap.size + 2) wr (.slice (some ⟨g2, 0, none⟩) got2.length cap2) got2 ∧ SBase #[.int .i64 32, .int .i64 2, .int .i64 13, .int .i64 22, .int .i64 6, .int .i64 11, .int .i64 25, .int .i64 7, .int .i64 18, .int .i64 3, .int .i64 17, .int .i64 19, .int .i64 10, .int .u64 4294967295] #[.slice (some ⟨gq, 0, none⟩) 8 cq, .slice (some ⟨gc, 0, none⟩) 64 cc] w wr) (fun _ a _ => got2.length - (intOf a).toNat)
              case atStart => exact ⟨0, by omega, by simp, hfin, unhide HO, unhide HB⟩
              case round =>
                clear hfin HO HB hB3' hbB
                obtain ⟨k, hk, rfl, hst, hob, hb⟩ := hrel
                obtain ⟨gs, cs, hsv', lts, cells⟩ := hst.form
                rw [show (blk m256 got2 (start m256) k).list.length = 8 from rfl] at hsv'
                subst hsv'
                obtain ⟨a, ha⟩ : ∃ a, a = k * 64 := ⟨_, rfl⟩
                rw [← ha]
                by_cases hlt : a < got2.length
                · have hkn : (k + 1) * 64 ≤ got2.length := by omega
                  have habb : a + 64 ≤ got2.length := by omega
                  obtain ⟨blkL, hblk⟩ : ∃ l, l = (got2.drop (k * 64)).take 64 := ⟨_, rfl⟩
                  have hbl : blkL.length = 64 := by rw [hblk]; exact block_len _ _ _ hkn
                  have hbyte : ∀ j, j < 64 → blkL.getD j 0 = got2.getD (a + j) 0 := fun j hj => by rw [hblk, block_byte _ _ _ _ hj, ha]
                  have hMok : Mok m256 := by first | exact Or.inl rfl | exact Or.inr rfl
                  obtain ⟨ws, hws⟩ : ∃ l, l = sched m256 blkL := ⟨_, rfl⟩
                  have hold : ∀ i, i < 16 → ws.getD i 0 = wK (byteAt blkL (4 * i)) 4 := fun i hi => by rw [hws]; exact sched_old m256 hMok blkL hbl i hi
                  have hnewW : ∀ i, 16 ≤ i → i < 64 → ws.getD i 0 = ext1 m256 ws i := fun i h1 h2 => by rw [hws]; exact sched_new m256 hMok blkL i h1 h2
                  have hwlt : ∀ i, i < 64 → ws.getD i 0 < 4294967296 := fun i hi => by rw [hws]; exact sched_lt m256 hMok blkL hbl i hi
                  have hwlen : ws.length = 80 := by rw [hws]; exact sched_length m256 blkL
                  obtain ⟨wq, hwq⟩ : ∃ wq, wq = wr := ⟨_, rfl⟩
                  subst hwq
                  have HST := hide hst
                  have HO := hide hob
                  have HB := hide hb
                  have HC := hide cells
                  have HW := hide (And.intro hws hblk)
                  have hbs := hb.size
                  have HA := hide ha
                  have HF := hide (And.intro hold (And.intro hnewW (And.intro hwlt hbyte)))
                  clear hst hob hb cells hws hblk ha hold hnewW hwlt hbyte hkn
                  go_wp2
                  go_loopw [14, 15] (fun wv i wr => ∃ (n : Nat), n ≤ 64 ∧ i = .int .i64 (n : Int) ∧ OwnN wq.heap.size wr wv (ws.take n) ∧ Below wq.heap.size wq wr) (fun _ i _ => 64 - (intOf i).toNat)
                  case atStart => exact ⟨0, by omega, rfl, ownN_nil _ _, Below.refl _ _⟩
                  case round =>
                    obtain ⟨n, hn, rfl, hwv, hbq⟩ := hrel
                    have hszq := hbq.size
                    have hb5 := (unhide HB).all hbq
                    have hob5 := (unhide HO).all hbq
                    obtain ⟨ow, cw, rfl⟩ := hwv.form
                    have hnl : (ws.take n).length = n := by rw [List.length_take]; omega
                    rw [hnl]
                    have HWV : Hid (OwnN wq.heap.size wr (.slice ow n cw) (ws.take n)) := by rw [hnl] at hwv; exact hwv
                    clear hwv
                    have y1 := cell_of_row wr (w.heap.size + 1) 1 _ _ _ hb5.r
                    have y13 := cell_of_row wr w.heap.size 13 _ _ _ hb5.m
                    simp only [List.getElem?_toArray, List.getElem?_cons_zero, List.getElem?_cons_succ] at y1 y13
                    by_cases hltn : n < 64
                    · have hsucc := hide (take_succ_getD ws n (by omega))
                      have hwn := (unhide HF).2.2.1 n hltn
                      by_cases h16 : n < 16
                      · obtain ⟨_, _, e1, _, ltb, cellb⟩ := hob5.cells
                        cases e1
                        have hwk := hide ((unhide HF).1 n h16)
                        have hbt := hide (unhide HF).2.2.2
                        have CB := hide cellb
                        clear cellb hob5
                        have i16 : (n : Int) < 16 := by omega
                        go_wp2
                        go_loopw [16, 17] (fun x j wx => ∃ (m : Nat), m ≤ 4 ∧ j = .int .i64 (m : Int) ∧ x = .int .u64 (wK (byteAt blkL (4 * n)) m : Nat) ∧ wx = wr) (fun _ j _ => 4 - (intOf j).toNat)
                        case atStart => exact ⟨0, by omega, rfl, rfl, rfl⟩
                        case round =>
                          obtain ⟨m, hm, rfl, rfl, hwx⟩ := hrel
                          subst hwx
                          by_cases hmt : m < 4
                          · have cb := unhide CB (a + 4 * n + m) (by omega)
                            have eb : got2.getD (a + 4 * n + m) 0 = blkL.getD (4 * n + m) 0 := by rw [unhide hbt _ (by omega)]; congr 1; omega
                            rw [eb] at cb
                            have hb256 := byteAt_lt blkL (4 * n) m
                            have hxl : wK (byteAt blkL (4 * n)) m < 72057594037927936 := by
                              have := wK_lt _ (byteAt_lt blkL (4 * n)) m
                              have h2 : (256 : Nat) ^ m ≤ 256 ^ 7 := Nat.pow_le_pow_right (by decide) (by omega)
                              simp only [Nat.reducePow] at h2
                              omega
                            have hnx : Hid (wK (byteAt blkL (4 * n)) (m + 1) = 256 * wK (byteAt blkL (4 * n)) m + byteAt blkL (4 * n) m) := rfl
                            have eb2 : ((blkL.getD (4 * n + m) 0).toNat : Nat) = byteAt blkL (4 * n) m := rfl
                            rw [eb2] at cb
                            clear eb eb2
                            generalize byteAt blkL (4 * n) m = bb at cb hb256 hnx
                            generalize wK (byteAt blkL (4 * n)) m = xx at hxl hnx ⊢
                            have ia : (a : Int) + 4 * (n : Int) + (m : Int) < (got2.length : Int) := by omega
                            go_wp2
                            go_roundw
                            case rel =>
                              refine ⟨m + 1, by omega, by go_num, ?_, trivial⟩
                              rw [unhide hnx]
                              refine congrArg (Value.int .u64) ?_
                              go_light
                              omega
                            case measure => (go_light; simp [intOf] <;> omega)
                          · have hme : m = 4 := by omega
                            subst hme
                            rw [← unhide hwk]
                            have hand : bits .and .u64 ((ws.getD n 0 : Nat) : Int) 4294967295 = ((ws.getD n 0 : Nat) : Int) := by
                              rw [keep_32 _ (Nat.lt_of_lt_of_le hwn (by decide)), Nat.mod_eq_of_lt hwn]
                            clear hwk hbt CB
                            generalize ws.getD n 0 = xn at hand hsucc hwn
                            go_wp2_with (at_builtin; refine wpList_append_word (by rfl) _ _ (by rfl) wq.heap.size _ (ws.take n) (by rfl) ((unhide HWV).alloc _) ⟨_, 0, none⟩ xn (by rfl) (one_cell _ _ _) (by omega) (by simp; omega) ?_)
                            intro v6 w6 ho6 hg6 hn6
                            have hbe := (((unhide HWV).alloc (.cells #[.int .u64 (xn : Int)] 40)).grow hg6 (Nat.le_refl _) (by simp; omega))
                            go_wp2
                            go_roundw
                            case rel =>
                              refine ⟨n + 1, by omega, by go_num, ?_, (hbq.alloc hszq _).trans hbe⟩
                              rw [unhide hsucc]
                              exact ho6
                            case measure => (go_light; simp [intOf] <;> omega)
                      · obtain ⟨gw, cw', e1, ltw, cellw⟩ := ((unhide HWV).row (by omega)).form
                        rw [hnl] at e1
                        cases e1
                        obtain ⟨k2, hk2⟩ : ∃ k, k = n - 2 := ⟨_, rfl⟩
                        have c2 := cellw k2 (by omega)
                        rw [take_getD ws n k2 (by omega)] at c2
                        have s2 := (unhide HF).2.2.1 k2 (by omega)
                        have m2 : (n : Int) - 2 = (k2 : Int) := by omega
                        have j2 : (k2 : Int) < (n : Int) := by omega
                        have u2 : IntKind.i64.wrap (k2 : Int) = (k2 : Int) := by rw [IntKind.wrap_i64]; omega
                        obtain ⟨k7, hk7⟩ : ∃ k, k = n - 7 := ⟨_, rfl⟩
                        have c7 := cellw k7 (by omega)
                        rw [take_getD ws n k7 (by omega)] at c7
                        have s7 := (unhide HF).2.2.1 k7 (by omega)
                        have m7 : (n : Int) - 7 = (k7 : Int) := by omega
                        have j7 : (k7 : Int) < (n : Int) := by omega
                        have u7 : IntKind.i64.wrap (k7 : Int) = (k7 : Int) := by rw [IntKind.wrap_i64]; omega
                        obtain ⟨k15, hk15⟩ : ∃ k, k = n - 15 := ⟨_, rfl⟩
                        have c15 := cellw k15 (by omega)
                        rw [take_getD ws n k15 (by omega)] at c15
                        have s15 := (unhide HF).2.2.1 k15 (by omega)
                        have m15 : (n : Int) - 15 = (k15 : Int) := by omega
                        have j15 : (k15 : Int) < (n : Int) := by omega
                        have u15 : IntKind.i64.wrap (k15 : Int) = (k15 : Int) := by rw [IntKind.wrap_i64]; omega
                        obtain ⟨k16, hk16⟩ : ∃ k, k = n - 16 := ⟨_, rfl⟩
                        have c16 := cellw k16 (by omega)
                        rw [take_getD ws n k16 (by omega)] at c16
                        have s16 := (unhide HF).2.2.1 k16 (by omega)
                        have m16 : (n : Int) - 16 = (k16 : Int) := by omega
                        have j16 : (k16 : Int) < (n : Int) := by omega
                        have u16 : IntKind.i64.wrap (k16 : Int) = (k16 : Int) := by rw [IntKind.wrap_i64]; omega
                        have cm0 := cell_of_row wr w.heap.size 0 _ _ _ hb5.m
                        have cm1 := cell_of_row wr w.heap.size 1 _ _ _ hb5.m
                        have cm2 := cell_of_row wr w.heap.size 2 _ _ _ hb5.m
                        have cm3 := cell_of_row wr w.heap.size 3 _ _ _ hb5.m
                        have cm4 := cell_of_row wr w.heap.size 4 _ _ _ hb5.m
                        have cm5 := cell_of_row wr w.heap.size 5 _ _ _ hb5.m
                        have cm6 := cell_of_row wr w.heap.size 6 _ _ _ hb5.m
                        have cm7 := cell_of_row wr w.heap.size 7 _ _ _ hb5.m
                        have cm8 := cell_of_row wr w.heap.size 8 _ _ _ hb5.m
                        have cm9 := cell_of_row wr w.heap.size 9 _ _ _ hb5.m
                        have cm10 := cell_of_row wr w.heap.size 10 _ _ _ hb5.m
                        have cm11 := cell_of_row wr w.heap.size 11 _ _ _ hb5.m
                        have cm12 := cell_of_row wr w.heap.size 12 _ _ _ hb5.m
                        have cm13 := cell_of_row wr w.heap.size 13 _ _ _ hb5.m
                        simp only [List.getElem?_toArray, List.getElem?_cons_zero, List.getElem?_cons_succ] at cm0 cm1 cm2 cm3 cm4 cm5 cm6 cm7 cm8 cm9 cm10 cm11 cm12 cm13
                        have hx : Hid (ws.getD n 0 = (low 32 (17, 19, 10) (ws.getD k2 0) + ws.getD k7 0 + low 32 (7, 18, 3) (ws.getD k15 0) + ws.getD k16 0) % 4294967296) := by
                          show _ = _
                          rw [(unhide HF).2.1 n (by omega) hltn, hk2, hk7, hk15, hk16]
                          rfl
                        generalize ws.getD k2 0 = v2 at c2 s2 hx
                        generalize ws.getD k7 0 = v7 at c7 s7 hx
                        generalize ws.getD k15 0 = v15 at c15 s15 hx
                        generalize ws.getD k16 0 = v16 at c16 s16 hx
                        clear hk2 hk7 hk15 hk16 cellw
                        have Q0 : ∀ w', Below wr.heap.size wr w' → w'.cell? ⟨w.heap.size, 0, none⟩ = some (.int .i64 32) := fun w' q => (q.cell (by show w.heap.size < wr.heap.size; omega)).trans cm0
                        have Q1 : ∀ w', Below wr.heap.size wr w' → w'.cell? ⟨w.heap.size, 1, none⟩ = some (.int .i64 2) := fun w' q => (q.cell (by show w.heap.size < wr.heap.size; omega)).trans cm1
                        have Q2 : ∀ w', Below wr.heap.size wr w' → w'.cell? ⟨w.heap.size, 2, none⟩ = some (.int .i64 13) := fun w' q => (q.cell (by show w.heap.size < wr.heap.size; omega)).trans cm2
                        have Q3 : ∀ w', Below wr.heap.size wr w' → w'.cell? ⟨w.heap.size, 3, none⟩ = some (.int .i64 22) := fun w' q => (q.cell (by show w.heap.size < wr.heap.size; omega)).trans cm3
                        have Q4 : ∀ w', Below wr.heap.size wr w' → w'.cell? ⟨w.heap.size, 4, none⟩ = some (.int .i64 6) := fun w' q => (q.cell (by show w.heap.size < wr.heap.size; omega)).trans cm4
                        have Q5 : ∀ w', Below wr.heap.size wr w' → w'.cell? ⟨w.heap.size, 5, none⟩ = some (.int .i64 11) := fun w' q => (q.cell (by show w.heap.size < wr.heap.size; omega)).trans cm5
                        have Q6 : ∀ w', Below wr.heap.size wr w' → w'.cell? ⟨w.heap.size, 6, none⟩ = some (.int .i64 25) := fun w' q => (q.cell (by show w.heap.size < wr.heap.size; omega)).trans cm6
                        have Q7 : ∀ w', Below wr.heap.size wr w' → w'.cell? ⟨w.heap.size, 7, none⟩ = some (.int .i64 7) := fun w' q => (q.cell (by show w.heap.size < wr.heap.size; omega)).trans cm7
                        have Q8 : ∀ w', Below wr.heap.size wr w' → w'.cell? ⟨w.heap.size, 8, none⟩ = some (.int .i64 18) := fun w' q => (q.cell (by show w.heap.size < wr.heap.size; omega)).trans cm8
                        have Q9 : ∀ w', Below wr.heap.size wr w' → w'.cell? ⟨w.heap.size, 9, none⟩ = some (.int .i64 3) := fun w' q => (q.cell (by show w.heap.size < wr.heap.size; omega)).trans cm9
                        have Q10 : ∀ w', Below wr.heap.size wr w' → w'.cell? ⟨w.heap.size, 10, none⟩ = some (.int .i64 17) := fun w' q => (q.cell (by show w.heap.size < wr.heap.size; omega)).trans cm10
                        have Q11 : ∀ w', Below wr.heap.size wr w' → w'.cell? ⟨w.heap.size, 11, none⟩ = some (.int .i64 19) := fun w' q => (q.cell (by show w.heap.size < wr.heap.size; omega)).trans cm11
                        have Q12 : ∀ w', Below wr.heap.size wr w' → w'.cell? ⟨w.heap.size, 12, none⟩ = some (.int .i64 10) := fun w' q => (q.cell (by show w.heap.size < wr.heap.size; omega)).trans cm12
                        have Q13 : ∀ w', Below wr.heap.size wr w' → w'.cell? ⟨w.heap.size, 13, none⟩ = some (.int .u64 4294967295) := fun w' q => (q.cell (by show w.heap.size < wr.heap.size; omega)).trans cm13
                        have P2 : ∀ w', Below wr.heap.size wr w' → w'.cell? ⟨gw, k2, none⟩ = some (.int .u64 (v2 : Nat)) := fun w' q => (q.cell (by show gw < wr.heap.size; omega)).trans c2
                        have P7 : ∀ w', Below wr.heap.size wr w' → w'.cell? ⟨gw, k7, none⟩ = some (.int .u64 (v7 : Nat)) := fun w' q => (q.cell (by show gw < wr.heap.size; omega)).trans c7
                        have P15 : ∀ w', Below wr.heap.size wr w' → w'.cell? ⟨gw, k15, none⟩ = some (.int .u64 (v15 : Nat)) := fun w' q => (q.cell (by show gw < wr.heap.size; omega)).trans c15
                        have P16 : ∀ w', Below wr.heap.size wr w' → w'.cell? ⟨gw, k16, none⟩ = some (.int .u64 (v16 : Nat)) := fun w' q => (q.cell (by show gw < wr.heap.size; omega)).trans c16
                        clear cm0 cm1 cm2 cm3 cm4 cm5 cm6 cm7 cm8 cm9 cm10 cm11 cm12 cm13 c2 c7 c15 c16 hob5
                        obtain ⟨X, hX⟩ : ∃ X : Nat, X = (low 32 (17, 19, 10) v2 + v7 + low 32 (7, 18, 3) v15 + v16) % 18446744073709551616 := ⟨_, rfl⟩
                        have HX := hide hX
                        have hX64 : X < 18446744073709551616 := by rw [hX]; exact Nat.mod_lt _ (by decide)
                        clear hX
                        have i16 : ¬ ((n : Int) < 16) := by omega
                        go_upto_region 31 with fail
                        go_cut [16] (fun x wx => x = .int .u64 (X : Nat) ∧ Below wr.heap.size wr wx)
                        case first =>
                          go_region_held3 (fun w' => Below wr.heap.size wr w')
                            (first | exact hwr | exact (Below.refl _ wr).drew)
                            ((go_at_call 25; refine (rmixlow32 _ _ _ (by decide) (by assumption)).mono ?_; rintro e1 w1 ⟨rfl, hb1⟩; first | (have hwr : Below wr.heap.size wr w1 := (Below.refl _ wr).drew.trans hb1) | (have hwr : Below wr.heap.size wr w1 := hwr.trans (hb1.mono hwr.size))))
                          all_goals
                            go_wp2_with fail
                            go_meet
                            case rel =>
                              refine ⟨?_, hwr⟩
                              refine congrArg (Value.int .u64) ?_
                              rw [unhide HX]
                              go_light
                              have t3 : tLow32 3 = (17, 19, 10) := rfl
                              have t2 : tLow32 2 = (7, 18, 3) := rfl
                              simp only [wraps_64, t3, t2]
                              omega
                        case rest =>
                          obtain ⟨rfl, hbc⟩ := hcut
                          clear Q0 Q1 Q2 Q3 Q4 Q5 Q6 Q7 Q8 Q9 Q10 Q11 Q12 Q13 P2 P7 P15 P16 m2 j2 u2 m7 j7 u7 m15 j15 u15 m16 j16 u16
                          have z13 := (hbc.cell (p := ⟨w.heap.size, 13, none⟩) (show w.heap.size < wr.heap.size by omega)).trans y13
                          have hxe := unhide hx
                          have hand : bits .and .u64 (X : Int) 4294967295 = ((ws.getD n 0 : Nat) : Int) := by
                            rw [keep_32 _ hX64, hxe, unhide HX]
                            omega
                          clear hxe hx HX
                          have hwv7 := (unhide HWV).all hbc
                          have hszc := hbc.size
                          have HWV7 := hide hwv7
                          clear hwv7
                          generalize ws.getD n 0 = xn at hand hsucc hwn
                          go_wp2_with (at_builtin; refine wpList_append_word (by rfl) _ _ (by rfl) wq.heap.size _ (ws.take n) (by rfl) ((unhide HWV7).alloc _) ⟨_, 0, none⟩ xn (by rfl) (one_cell _ _ _) (by omega) (by simp; omega) ?_)
                          intro v6 w6 ho6 hg6 hn6
                          have hbe := (((unhide HWV7).alloc (.cells #[.int .u64 (xn : Int)] 40)).grow hg6 (Nat.le_refl _) (by simp; omega))
                          go_wp2
                          go_roundw
                          case rel =>
                            refine ⟨n + 1, by omega, by go_num, ?_, ((hbq.trans (hbc.mono hszq)).alloc (by omega) _).trans hbe⟩
                            rw [unhide hsucc]
                            exact ho6
                          case measure => (go_light; simp [intOf] <;> omega)
                    · have hne : n = 64 := by omega
                      have hwrow := (unhide HWV).row (by omega)
                      rw [hne] at hwrow
                      have hwl : ∀ j, (ws.take 64).getD j 0 < 4294967296 := fun j => by
                        by_cases hj : j < 64
                        · rw [take_getD _ _ _ hj]; exact (unhide HF).2.2.1 j hj
                        · rw [getD_past _ _ (by rw [List.length_take]; omega)]; decide
                      have hwlen2 : (ws.take 64).length = 64 := by rw [List.length_take]; omega
                      have hok : (blk m256 got2 (start m256) k).Ok 32 := blk_ok (M := m256) hstok got2 k
                      have hst5 := (unhide HST).all hbq
                      have hcv5 := hcv.all hb5.below
                      have cm0 := cell_of_row wr w.heap.size 0 _ _ _ hb5.m
                      have cm1 := cell_of_row wr w.heap.size 1 _ _ _ hb5.m
                      have cm2 := cell_of_row wr w.heap.size 2 _ _ _ hb5.m
                      have cm3 := cell_of_row wr w.heap.size 3 _ _ _ hb5.m
                      have cm4 := cell_of_row wr w.heap.size 4 _ _ _ hb5.m
                      have cm5 := cell_of_row wr w.heap.size 5 _ _ _ hb5.m
                      have cm6 := cell_of_row wr w.heap.size 6 _ _ _ hb5.m
                      have cm7 := cell_of_row wr w.heap.size 7 _ _ _ hb5.m
                      have cm8 := cell_of_row wr w.heap.size 8 _ _ _ hb5.m
                      have cm9 := cell_of_row wr w.heap.size 9 _ _ _ hb5.m
                      have cm10 := cell_of_row wr w.heap.size 10 _ _ _ hb5.m
                      have cm11 := cell_of_row wr w.heap.size 11 _ _ _ hb5.m
                      have cm12 := cell_of_row wr w.heap.size 12 _ _ _ hb5.m
                      have cm13 := cell_of_row wr w.heap.size 13 _ _ _ hb5.m
                      have cr0 := cell_of_row wr (w.heap.size + 1) 0 _ _ _ hb5.r
                      simp only [List.getElem?_toArray, List.getElem?_cons_zero, List.getElem?_cons_succ] at cm0 cm1 cm2 cm3 cm4 cm5 cm6 cm7 cm8 cm9 cm10 cm11 cm12 cm13 cr0
                      have HR1 := hide hwrow
                      have HR2 := hide hst5
                      have HR3 := hide hcv5
                      clear hwrow hst5 hcv5 hob5
                      rw [hne]
                      go_wp2_with fail
                      refine (rblock32 (blk m256 got2 (start m256) k) (ws.take 64) _ _ _ _ wr hok (unhide HR2) (unhide HR1) hwlen2 hwl (unhide HR3)).mono ?_
                      rintro e7 w7 ⟨v7, rfl, hown7, hbe7⟩
                      have hnext : RowN w7 v7 (blk m256 got2 (start m256) (k + 1)).list := by
                        have h7 := hown7.row (show 0 < 8 by decide)
                        have e := mix_take m256 (blk m256 got2 (start m256) k) ws
                        rw [show m256.rounds = 64 from rfl] at e
                        rw [e, (unhide HW).1, (unhide HW).2] at h7
                        exact h7
                      have hbq7 : Below wq.heap.size wq w7 := hbq.trans (hbe7.mono hszq)
                      have HN := hide hnext
                      clear cm0 cm1 cm2 cm3 cm4 cm5 cm6 cm7 cm8 cm9 cm10 cm11 cm12 cm13 cr0 hnext hown7
                      have ha := unhide HA
                      have hal : a < 140737488355328 := by omega
                      go_wp2
                      go_roundw
                      case rel =>
                        refine ⟨k + 1, by omega, ?_, unhide HN, (unhide HO).all hbq7, (unhide HB).all hbq7⟩
                        refine congrArg (Value.int .i64) ?_
                        go_light
                        omega
                      case measure => (go_light; simp [intOf] <;> omega)
                · have hke : k = got2.length / 64 := by omega
                  have hfin : Hid (sumF m256 s.data.toList = outN 4 (blk m256 got2 (start m256) k).list 8) := by
                    show _ = _
                    rw [← ref_eq m256 (by first | exact Or.inl rfl | exact Or.inr rfl), refF, ← unhide hpd, hke, outN_eight]
                    rfl
                  have hok : (blk m256 got2 (start m256) k).Ok 32 := blk_ok (M := m256) hstok got2 k
                  have hgl2 : (got2.length : Int) ≤ (a : Int) := by omega
                  have hbw := hb.below
                  generalize blk m256 got2 (start m256) k = fin at hst cells hfin hok
                  clear hob hb ha hke hk
                  go_wp2
                  obtain ⟨B7, hB7⟩ : ∃ n, n = wr.heap.size := ⟨_, rfl⟩
                  have hgs7 : gs < B7 := by omega
                  have hB7' : B7 ≤ wr.heap.size := by omega
                  have hwB7 : w.heap.size ≤ B7 := by rw [hB7]; exact hbw.size
                  clear hB7
                  go_loopw [18, 19] (fun out i wr => ∃ (n : Nat), n ≤ 8 ∧ i = .int .i64 (n : Int) ∧ OwnY B7 wr out (outN 4 fin.list n) ∧ RowN wr (.slice (some ⟨gs, 0, none⟩) 8 cs) fin.list ∧ Below w.heap.size w wr ∧ B7 ≤ wr.heap.size) (fun _ i _ => 8 - (intOf i).toNat)
                  case atStart => exact ⟨0, by omega, rfl, ownY_nil _ _, hst, hbw, hB7'⟩
                  case round =>
                    clear hst hbw hB7' cells
                    obtain ⟨n, hn, rfl, ho, hst, hbw, hB7'⟩ := hrel
                    obtain ⟨oo, co, rfl⟩ := ho.form
                    have hol := outN_length 4 fin.list n
                    by_cases hlt8 : n < 8
                    · obtain ⟨x, hx⟩ : ∃ x, x = fin.list.getD n 0 := ⟨_, rfl⟩
                      have hout : Hid (outN 4 fin.list (n + 1) = outN 4 fin.list n ++ be x 4) := by show _ = _; rw [hx]; rfl
                      have hx64 : x < 18446744073709551616 := by rw [hx]; exact Nat.lt_of_lt_of_le (ok_lt hok n) (by decide)
                      have HXX := hide hx
                      have in8 : (n : Int) < 8 := by omega
                      clear hx
                      go_wp2
                      go_loopw [18, 20] (fun out i wr => ∃ (j : Nat), j ≤ 4 ∧ i = .int .i64 (3 - (j : Int)) ∧ OwnY B7 wr out (outN 4 fin.list n ++ (be x 4).take j) ∧ RowN wr (.slice (some ⟨gs, 0, none⟩) 8 cs) fin.list ∧ Below w.heap.size w wr ∧ B7 ≤ wr.heap.size) (fun _ i _ => (intOf i + 1).toNat)
                      case atStart => exact ⟨0, by omega, by go_num, by simpa using ho, hst, hbw, hB7'⟩
                      case round =>
                        clear ho hst hbw hB7'
                        obtain ⟨j, hj, rfl, ho, hst, hbw, hB7'⟩ := hrel
                        obtain ⟨_, _, e1, ltg, cells⟩ := hst.form
                        rw [show fin.list.length = 8 from rfl] at e1
                        cases e1
                        have hlen : (outN 4 fin.list n ++ (be x 4).take j).length = 4 * n + j := by
                          rw [List.length_append, hol, List.length_take, be_len]
                          omega
                        obtain ⟨o8, c8, rfl⟩ := ho.form
                        have HO8 := hide ho
                        clear ho
                        by_cases hjt : j < 4
                        · obtain ⟨i, hi⟩ : ∃ i, j + i = 3 := ⟨3 - j, by omega⟩
                          have ei : (3 - (j : Int)) = (i : Int) := by omega
                          rw [ei]
                          have hi8 : i < 4 := by omega
                          have cx := cells n (show n < 8 from hlt8)
                          rw [← unhide HXX] at cx
                          obtain ⟨b, hbb⟩ : ∃ b : Nat, b = x / 2 ^ (8 * i) % 256 := ⟨_, rfl⟩
                          have hb256 : b < 256 := by omega
                          have hcv1 : (x : Int) / 2 ^ (8 * i) % 256 = (b : Int) := by rw [hbb]; simp
                          have hcv2 : IntKind.u8.wrap ((x : Int) / 2 ^ (8 * i)) = (b : Int) := by rw [IntKind.wrap_u8]; exact hcv1
                          have hstep : Hid ((be x 4).take (j + 1) = (be x 4).take j ++ [UInt8.ofNat b]) := by
                            show _ = _
                            rw [be_take x 4 j hjt, hbb, ofNat_mod, Nat.pow_mul, show 4 - 1 - j = i by omega]
                          have HI := hide hi
                          clear hbb ei hi cells
                          go_wp2_with (at_builtin; refine wpList_append_y (by rfl) _ _ (by rfl) B7 _ (outN 4 fin.list n ++ (be x 4).take j) (by rfl) ((unhide HO8).all ((Below.refl _ _).alloc (Nat.le_refl _) _)) ⟨_, 0, none⟩ b hb256 (by rfl) (one_cell _ _ _) (by omega) (by simp; omega) ?_)
                          intro v9 w9 ho9 hbe9
                          have hb9 : Below B7 wr w9 := ((Below.refl _ _).alloc hB7' _).trans hbe9
                          go_wp2
                          go_roundw
                          case rel =>
                            have hi := unhide HI
                            refine ⟨j + 1, by omega, ?_, ?_, ?_, ?_, Nat.le_trans hB7' hb9.size⟩
                            · refine congrArg (Value.int .i64) ?_
                              go_light
                              omega
                            · rw [unhide hstep]
                              exact ho9
                            · exact hst.below hb9 (fun g e => by cases e; exact hgs7)
                            · exact hbw.trans (hb9.mono hwB7)
                          case measure => (go_light; simp [intOf] <;> omega)
                        · have hje : j = 4 := by omega
                          have ho8 := unhide HO8
                          have em : (3 - (j : Int)) = -1 := by omega
                          rw [em]
                          have hnow : Hid (OwnY B7 wr (.slice o8 (outN 4 fin.list n ++ (be x 4).take j).length c8) (outN 4 fin.list (n + 1))) := by
                            show OwnY _ _ _ _
                            rw [unhide hout]
                            have h8 := ho8
                            rw [hje, List.take_of_length_le (by rw [be_len]; exact Nat.le_refl _)] at h8
                            rw [hje, List.take_of_length_le (by rw [be_len]; exact Nat.le_refl _)]
                            exact h8
                          clear ho8 HO8 hje em hjt hj
                          rw [hlen] at hnow ⊢
                          go_wp2
                          go_roundw
                          case rel => exact ⟨n + 1, by omega, by go_num, unhide hnow, hst, hbw, hB7'⟩
                          case measure => (go_light; simp [intOf] <;> omega)
                    · have hn8 : n = 8 := by omega
                      subst hn8
                      have hob := ho.ownB (by rw [hol]; decide)
                      have htx := hob.text
                      rw [hol] at htx ⊢
                      clear ho hob hst
                      go_wp2
                      go_ret
                      refine ⟨?_, hbw⟩
                      rw [unhide hfin]
                      rfl
end Go.Proofs.YtgaddifabjoliaaDoor
