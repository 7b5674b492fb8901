import Derived.Test.YtgaddifabjoliaaGreatDoorLists
namespace Go.Proofs.YtgaddifabjoliaaGreatDoor
open Go.RowKit

def mapR {α β : Type} (f : α → β) (R : Bytes → Option (α × Bytes)) (s : Bytes) : Option (β × Bytes) := (R s).map fun y => (f y.1, y.2)
def simpleR : Bytes → Option (Leaf × Bytes) := oneOfR [wordR [110, 117, 108, 108] (.inl none), wordR [116, 114, 117, 101] (.inl (some true)), wordR [102, 97, 108, 115, 101] (.inl (some false)), changedR numberR (fun n => some (.inr (.inl n))), changedR quotedR (fun t => some (.inr (.inr t)))]
def arrayR {α : Type} (R : Bytes → Option (α × Bytes)) : Bytes → Option (Node α × Bytes) := changedR (listR [91] [93] R) (fun xs => some (.inr (.inl xs)))
def objectR {α : Type} (R : Bytes → Option (α × Bytes)) : Bytes → Option (Node α × Bytes) := changedR (listR [123] [125] (memberR quotedR R)) objF
def nodeR {α : Type} (R : Bytes → Option (α × Bytes)) : Bytes → Option (Node α × Bytes) := oneOfR [mapR Sum.inl simpleR, arrayR R, objectR R]
/-- Values, so many brackets deep. -/
def valR : (d : Nat) → Bytes → Option (JT d × Bytes)
  | 0 => paddedR simpleR
  | d + 1 => paddedR (nodeR (valR d))

theorem Reads.map {α β : Type} {g : Nat} {lb : Array Value} {rep : Rep α} {rep' : Rep β} {z : Value} {R : Bytes → Option (α × Bytes)} {w : World} (f : α → β) (h : Reads g lb rep z R w) (hr : ∀ x F w v, rep.rel F w x v → rep'.rel F w (f x) v) : Reads g lb rep' z (mapR f R) w := by
  refine ⟨h.1, ?_, fun W s hW hs => (h.2.2 W s hW hs).mono ?_⟩
  · intro s x r e
    unfold mapR at e
    cases hR : R s with
    | none => rw [hR] at e; simp at e
    | some y => rw [hR] at e; simp at e; obtain ⟨_, rfl⟩ := e; exact h.2.1 s y.1 y.2 hR
  rintro e w' ⟨hb, ⟨hn, he⟩ | ⟨x, r, v, hn, hv, he⟩⟩
  · exact ⟨hb, Or.inl ⟨by unfold mapR; rw [hn]; rfl, he⟩⟩
  · exact ⟨hb, Or.inr ⟨f x, r, v, by unfold mapR; rw [hn]; rfl, hr _ _ _ _ hv, he⟩⟩

theorem simple_one (w : World) (l0 l1 l2 l3 l4 : Array Value) (h0 : Reads 58 l0 repLeaf (.agg #[.int .i64 0, .int .i64 0, .string ⟨#[]⟩, .slice none 0 0, .slice none 0 0]) (wordR [110, 117, 108, 108] (.inl none)) w) (h1 : Reads 58 l1 repLeaf (.agg #[.int .i64 0, .int .i64 0, .string ⟨#[]⟩, .slice none 0 0, .slice none 0 0]) (wordR [116, 114, 117, 101] (.inl (some true))) w) (h2 : Reads 58 l2 repLeaf (.agg #[.int .i64 0, .int .i64 0, .string ⟨#[]⟩, .slice none 0 0, .slice none 0 0]) (wordR [102, 97, 108, 115, 101] (.inl (some false))) w) (h3 : Reads 60 l3 repLeaf (.agg #[.int .i64 0, .int .i64 0, .string ⟨#[]⟩, .slice none 0 0, .slice none 0 0]) (changedR numberR (fun n => some (.inr (.inl n)))) w) (h4 : Reads 66 l4 repLeaf (.agg #[.int .i64 0, .int .i64 0, .string ⟨#[]⟩, .slice none 0 0, .slice none 0 0]) (changedR quotedR (fun t => some (.inr (.inr t)))) w) :
    Calls Tryz.prog 18 #[.slice (some ⟨w.heap.size, 0, none⟩) 5 5] (w.alloc (.cells #[.func (.func 58) #[] l0, .func (.func 58) #[] l1, .func (.func 58) #[] l2, .func (.func 60) #[] l3, .func (.func 66) #[] l4] 42))
      fun e w' => Below w.heap.size w w' ∧ ∃ lb, e = .returned (.func (.func 56) #[] lb) ∧ Reads 56 lb repLeaf (.agg #[.int .i64 0, .int .i64 0, .string ⟨#[]⟩, .slice none 0 0, .slice none 0 0]) simpleR w' := by
  have hc := choices_alloc (w := w) (T := 42) (rep := repLeaf) (z := (.agg #[.int .i64 0, .int .i64 0, .string ⟨#[]⟩, .slice none 0 0, .slice none 0 0])) (cs := [(58, l0, wordR [110, 117, 108, 108] (.inl none)), (58, l1, wordR [116, 114, 117, 101] (.inl (some true))), (58, l2, wordR [102, 97, 108, 115, 101] (.inl (some false))), (60, l3, changedR numberR (fun n => some (.inr (.inl n)))), (66, l4, changedR quotedR (fun t => some (.inr (.inr t))))]) (by
    intro c hc
    simp only [List.mem_cons, List.not_mem_nil, or_false] at hc
    rcases hc with rfl | rfl | rfl | rfl | rfl
    · exact h0
    · exact h1
    · exact h2
    · exact h3
    · exact h4)
  refine (oneOf_value repLeaf fives_leaf w.heap.size 0 5 _ _ (by simp) hc).mono ?_
  rintro e w' ⟨hb, lb, he, hr⟩
  exact ⟨up ((Below.refl _ w).alloc (Nat.le_refl _) _) hb, lb, he, hr⟩

theorem node_one {α : Type} (rep : Rep α) (R : Bytes → Option (α × Bytes)) (w : World) (l0 l1 l2 : Array Value) (h0 : Reads 56 l0 repLeaf (.agg #[.int .i64 0, .int .i64 0, .string ⟨#[]⟩, .slice none 0 0, .slice none 0 0]) simpleR w) (h1 : Reads 69 l1 (repNode rep) (.agg #[.int .i64 0, .int .i64 0, .string ⟨#[]⟩, .slice none 0 0, .slice none 0 0]) (arrayR R) w) (h2 : Reads 78 l2 (repNode rep) (.agg #[.int .i64 0, .int .i64 0, .string ⟨#[]⟩, .slice none 0 0, .slice none 0 0]) (objectR R) w) :
    Calls Tryz.prog 18 #[.slice (some ⟨w.heap.size, 0, none⟩) 3 3] (w.alloc (.cells #[.func (.func 56) #[] l0, .func (.func 69) #[] l1, .func (.func 78) #[] l2] 42))
      fun e w' => Below w.heap.size w w' ∧ ∃ lb, e = .returned (.func (.func 56) #[] lb) ∧ Reads 56 lb (repNode rep) (.agg #[.int .i64 0, .int .i64 0, .string ⟨#[]⟩, .slice none 0 0, .slice none 0 0]) (nodeR R) w' := by
  have hc := choices_alloc (w := w) (T := 42) (rep := repNode rep) (z := (.agg #[.int .i64 0, .int .i64 0, .string ⟨#[]⟩, .slice none 0 0, .slice none 0 0])) (cs := [(56, l0, mapR Sum.inl simpleR), (69, l1, arrayR R), (78, l2, objectR R)]) (by
    intro c hc
    simp only [List.mem_cons, List.not_mem_nil, or_false] at hc
    rcases hc with rfl | rfl | rfl
    · exact h0.map Sum.inl (fun _ _ _ _ h => h)
    · exact h1
    · exact h2)
  refine (oneOf_value (repNode rep) (fives_node rep) w.heap.size 0 3 _ _ (by simp) hc).mono ?_
  rintro e w' ⟨hb, lb, he, hr⟩
  exact ⟨up ((Below.refl _ w).alloc (Nat.le_refl _) _) hb, lb, he, hr⟩

set_option maxHeartbeats 2000000 in
theorem document_gives (w : World) (hT : Lib.Utf8Tabs 2 3 w) (hE : Errs w) : Calls Tryz.prog 11 #[] w fun e w' => Below w.heap.size w w' ∧ ∃ l, e = .returned (.func (.func 67) #[] l) ∧ Reads 67 l (repV 8) (.agg #[.int .i64 0, .int .i64 0, .string ⟨#[]⟩, .slice none 0 0, .slice none 0 0]) (valR 8) w' := by
  have hmf := mf
  have HT := hide hT
  have HE := hide hE
  clear hT hE
  go_enter Tryz.func11, Tryz.ntmps11
  go_wp2_with (go_at_call 17; refine (gave (quoted_gives _ (unhide HT))).mono ?_)
  intro e w0 hgave
  obtain ⟨b, l0, rfl, hr⟩ := hgave
  have B0 := hide b
  have HR0 := hide hr
  have T0 := hide b
  clear b hr
  go_wp2_with (go_at_call 19; refine (gave (word_value repLeaf _ (.inl none) 0 _ (fun _ _ => ⟨rfl, trivial⟩))).mono ?_)
  intro e w1 hgave
  obtain ⟨b, l1, rfl, hr⟩ := hgave
  have B1 := hide b
  have HR1 := hide hr
  have T1 := hide (up (unhide T0) b)
  clear b hr
  go_wp2_with (go_at_call 19; refine (gave (word_value repLeaf _ (.inl (some true)) 2 _ (fun _ _ => ⟨rfl, trivial⟩))).mono ?_)
  intro e w2 hgave
  obtain ⟨b, l2, rfl, hr⟩ := hgave
  have B2 := hide b
  have HR2 := hide hr
  have T2 := hide (up (unhide T1) b)
  clear b hr
  go_wp2_with (go_at_call 19; refine (gave (word_value repLeaf _ (.inl (some false)) 1 _ (fun _ _ => ⟨rfl, trivial⟩))).mono ?_)
  intro e w3 hgave
  obtain ⟨b, l3, rfl, hr⟩ := hgave
  have B3 := hide b
  have HR3 := hide hr
  have T3 := hide (up (unhide T2) b)
  clear b hr
  go_wp2_with (go_at_call 21; refine (gave (number_gives _ (errs_later (unhide HE) (unhide T3)))).mono ?_)
  intro e w4 hgave
  obtain ⟨b, l4, rfl, hr⟩ := hgave
  have B4 := hide b
  have HR4 := hide hr
  have T4 := hide (up (unhide T3) b)
  clear b hr
  go_wp2_with (go_at_call 20; refine (gave (changed_int64_value repNum repLeaf fives_leaf fivesU_leaf _ _ l4 #[] _ _ _ (unhide HR4) (numberValue_makes _))).mono ?_)
  intro e w5 hgave
  obtain ⟨b, l5, rfl, hr⟩ := hgave
  have B5 := hide b
  have HR5 := hide hr
  have T5 := hide (up (unhide T4) b)
  have HQ := hide ((((((unhide HR0).later (unhide B1)).later (unhide B2)).later (unhide B3)).later (unhide B4)).later b)
  clear b hr
  go_wp2_with (go_at_call 23; refine (gave (changed_text_value repText repLeaf fives_leaf fivesU_leaf _ _ l0 #[] _ _ _ (unhide HQ) (textValue_makes _))).mono ?_)
  intro e w6 hgave
  obtain ⟨b, l6, rfl, hr⟩ := hgave
  have B6 := hide b
  have HR6 := hide hr
  have T6 := hide (up (unhide T5) b)
  clear b hr
  go_wp2_with (go_at_call 18; refine (gave2 (simple_one w6 l1 l2 l3 l5 l6 ((((((unhide HR1).later (unhide B2)).later (unhide B3)).later (unhide B4)).later (unhide B5)).later (unhide B6)) (((((unhide HR2).later (unhide B3)).later (unhide B4)).later (unhide B5)).later (unhide B6)) ((((unhide HR3).later (unhide B4)).later (unhide B5)).later (unhide B6)) ((unhide HR5).later (unhide B6)) (unhide HR6))).mono ?_)
  intro e w7 hgave
  obtain ⟨b, l7, rfl, hr⟩ := hgave
  have B7 := hide b
  have HR7 := hide hr
  have T7 := hide (up (unhide T6) b)
  clear b hr
  go_wp2_with (go_at_call 25; refine (gave (padded_value repLeaf fives_leaf _ l7 _ _ (unhide HR7))).mono ?_)
  intro e w8 hgave
  obtain ⟨b, l8, rfl, hr⟩ := hgave
  have B8 := hide b
  have HR8 := hide hr
  have T8 := hide (up (unhide T7) b)
  have HQ8 := hide ((((unhide HQ).later (unhide B6)).later (unhide B7)).later b)
  have HS8 := hide ((unhide HR7).later b)
  clear b hr
  clear B0 B1 B2 B3 B4 B5 B6 B7 B8 T0 T1 T2 T3 T4 T5 T6 T7 HR0 HR1 HR2 HR3 HR4 HR5 HR6 HR7 HQ
  go_wp2
  go_loopw [3, 21] (fun v idx wr => ∃ (d : Nat) (l : Array Value), d ≤ 8 ∧ idx = .int .i64 d ∧ v = .func (.func 67) #[] l ∧ Hid (Below w8.heap.size w8 wr) ∧ Hid (Reads 67 l (repV d) (.agg #[.int .i64 0, .int .i64 0, .string ⟨#[]⟩, .slice none 0 0, .slice none 0 0]) (valR d) wr)) (fun _ idx _ => 8 - (intOf idx).toNat)
  case atStart => exact ⟨0, l8, by omega, rfl, rfl, Below.refl _ _, unhide HR8⟩
  case round =>
    obtain ⟨d, lv, hd, rfl, rfl, HB, HV⟩ := hrel
    by_cases hlt : d < 8
    · have hlti : (d : Int) < 8 := by omega
      go_wp2_with (go_at_call 27; refine (gave (list_value_gives (repV d) (fives_v d) ⟨#[91]⟩ ⟨#[93]⟩ _ lv _ _ (unhide HV))).mono ?_)
      intro e w9 hgave
      obtain ⟨b, l9, rfl, hr⟩ := hgave
      have B9 := hide b
      have HR9 := hide hr
      have T9 := hide (up (unhide HB) b)
      clear b hr
      go_wp2_with (go_at_call 26; refine (gave (changed_values_value (repItems (repV d)) (repNode (repV d)) (fives_node _) (fivesU_node _) _ _ l9 #[] _ _ _ (unhide HR9) (arrayValue_makes (repV d) _))).mono ?_)
      intro e w10 hgave
      obtain ⟨b, l10, rfl, hr⟩ := hgave
      have B10 := hide b
      have HR10 := hide hr
      have T10 := hide (up (unhide T9) b)
      have HV10 := hide (((unhide HV).later (unhide B9)).later b)
      clear b hr
      go_wp2_with (go_at_call 31; refine (gave (member_gives (repV d) (fives_v d) _ _ l0 lv _ _ _ ((unhide HQ8).later (unhide T10)) (unhide HV10))).mono ?_)
      intro e w11 hgave
      obtain ⟨b, l11, rfl, hr⟩ := hgave
      have B11 := hide b
      have HR11 := hide hr
      have T11 := hide (up (unhide T10) b)
      clear b hr
      go_wp2_with (go_at_call 30; refine (gave (list_member_gives (repM (repV d)) (sixes_m _) ⟨#[123]⟩ ⟨#[125]⟩ _ l11 _ _ (unhide HR11))).mono ?_)
      intro e w12 hgave
      obtain ⟨b, l12, rfl, hr⟩ := hgave
      have B12 := hide b
      have HR12 := hide hr
      have T12 := hide (up (unhide T11) b)
      clear b hr
      go_wp2_with (go_at_call 29; refine (gave (changed_members_value (repMembers (repV d)) (repNode (repV d)) (fives_node _) (fivesU_node _) _ _ l12 #[] _ _ _ (unhide HR12) (objectValue_makes (repV d) _))).mono ?_)
      intro e w13 hgave
      obtain ⟨b, l13, rfl, hr⟩ := hgave
      have B13 := hide b
      have HR13 := hide hr
      have T13 := hide (up (unhide T12) b)
      have HA13 := hide ((((unhide HR10).later (unhide B11)).later (unhide B12)).later b)
      clear b hr
      go_wp2_with (go_at_call 18; refine (gave2 (node_one (repV d) (valR d) w13 l7 l10 l13 ((unhide HS8).later (unhide T13)) (unhide HA13) (unhide HR13))).mono ?_)
      intro e w14 hgave
      obtain ⟨b, l14, rfl, hr⟩ := hgave
      have B14 := hide b
      have HR14 := hide hr
      have T14 := hide (up (unhide T13) b)
      clear b hr
      go_wp2_with (go_at_call 25; refine (gave (padded_value (repNode (repV d)) (fives_node _) _ l14 _ _ (unhide HR14))).mono ?_)
      intro e w15 hgave
      obtain ⟨b, l15, rfl, hr⟩ := hgave
      have B15 := hide b
      have HR15 := hide hr
      have T15 := hide (up (unhide T14) b)
      clear b hr
      go_wp2
      go_roundw
      case rel => exact ⟨d + 1, l15, by omega, by go_num, rfl, unhide T15, unhide HR15⟩
      case measure => simp [intOf]; omega
    · have hd8 : d = 8 := by omega
      subst hd8
      go_wp2
      go_ret
      exact ⟨up (unhide T8) (unhide HB), lv, rfl, unhide HV⟩
end Go.Proofs.YtgaddifabjoliaaGreatDoor
