import Derived.Test.YtgaddifabjoliaaGreatDoorKitB
namespace Go.Proofs.YtgaddifabjoliaaGreatDoor
open Go.RowKit

set_option maxHeartbeats 400000 in
theorem after_rune_reads {α : Type} (rep : Rep α) (text : ByteArray) (g : Nat) (lb : Array Value) (R : Bytes → Option (α × Bytes)) (b c : Nat) (w : World) (hb : w.cell? ⟨b, 0, none⟩ = some (.string text)) (hc : w.cell? ⟨c, 0, none⟩ = some (.func (.func g) #[] lb)) (hR : Reads g lb rep (.int .i32 0) R w) :
    Reads 98 #[.pointer (some ⟨b, 0, none⟩), .pointer (some ⟨c, 0, none⟩)] rep (.int .i32 0) (afterR text.data.toList R) w := by
  refine ⟨enters_of Tryz.func98 (by kernel_rfl) rfl, shrinks_after _ hR.2.1, ?_⟩
  intro W s hW hs
  have hb' := (hW.cell (p := ⟨b, 0, none⟩) (World.block_lt_of_cell? w _ hb)).trans hb
  have hc' := (hW.cell (p := ⟨c, 0, none⟩) (World.block_lt_of_cell? w _ hc)).trans hc
  have HR := hide hR
  have HW := hide hW
  have eg : ∀ args w, (callFunc g args).run Tryz.prog w = .ok (.enter g args) w := hR.1
  clear hb hc hW hR
  cases hp : text.data.toList.isPrefixOf s.data.toList with
  | true =>
    obtain ⟨r, hr⟩ : ∃ r : ByteArray, r.data.toList = s.data.toList.drop text.data.toList.length := ⟨⟨(s.data.toList.drop text.data.toList.length).toArray⟩, rfl⟩
    have hrs : r.size ≤ 4000 := by
      rw [text_size hr, List.length_drop]
      have := text_size (rfl : s.data.toList = s.data.toList)
      omega
    have he : afterR text.data.toList R s.data.toList = R r.data.toList := by unfold afterR; rw [if_pos hp, hr]
    have HE := hide he
    have HP := hide hp
    have HRR := hide hr
    clear hp hr he
    go_enter Tryz.func98, Tryz.ntmps98
    go_wp2_with (go_at_call 59; refine (cutPrefix_hit s text r _ (unhide HP) (unhide HRR)).mono ?_)
    rintro e w1 ⟨rfl, rfl⟩
    go_wp2_with (go_at_fn g; refine ((unhide HR).2.2 _ r (unhide HW) hrs).mono ?_)
    intro e w1 hgot
    obtain ⟨b1, hgot⟩ := hgot
    rcases hgot with ⟨hn, rfl⟩ | ⟨x, q, v, hn, hrep, rfl⟩
    · have HN := hide hn
      clear hn
      go_wp2
      go_ret3
      exact ⟨b1, Or.inl ⟨by rw [unhide HE, unhide HN], rfl⟩⟩
    · have HN := hide hn
      clear hn
      go_wp2
      go_ret3
      exact ⟨b1, Or.inr ⟨x, q, v, by rw [unhide HE, unhide HN], hrep, rfl⟩⟩
  | false =>
    have HP := hide hp
    clear hp
    go_enter Tryz.func98, Tryz.ntmps98
    go_wp2_with (go_at_call 59; refine (cutPrefix_miss s text _ (unhide HP)).mono ?_)
    rintro e w1 ⟨rfl, rfl⟩
    go_wp2_with (go_at_call 99; refine (fail_rune _).mono ?_)
    rintro e w2 ⟨rfl, rfl⟩
    go_wp2
    go_ret3
    refine ⟨Below.refl _ _, Or.inl ⟨?_, rfl⟩⟩
    unfold afterR
    rw [if_neg (by simp [unhide HP])]

set_option maxHeartbeats 400000 in
theorem after_rune {α : Type} (rep : Rep α) (text : ByteArray) (g : Nat) (lb : Array Value) (R : Bytes → Option (α × Bytes)) (w : World) (hR : Reads g lb rep (.int .i32 0) R w) :
    Calls Tryz.prog 43 #[.string text, .func (.func g) #[] lb] w fun e w' => Below w.heap.size w w' ∧ ∃ l, e = .returned (.func (.func 98) #[] l) ∧ Reads 98 l rep (.int .i32 0) (afterR text.data.toList R) w' := by
  have hmf := mf
  have HR := hide hR
  clear hR
  go_enter Tryz.func43, Tryz.ntmps43
  go_wp2
  go_ret
  have hbel := ((Below.refl _ w).alloc (Nat.le_refl _) (.cells #[.string text] 9)).alloc (by simp) (.cells #[.func (.func g) #[] lb] 96)
  exact ⟨hbel, _, rfl, after_rune_reads rep text g lb R _ _ _ (by simp) (by simp) ((unhide HR).later hbel)⟩

set_option maxHeartbeats 400000 in
theorem after_int64_reads {α : Type} (rep : Rep α) (text : ByteArray) (g : Nat) (lb : Array Value) (R : Bytes → Option (α × Bytes)) (b c : Nat) (w : World) (hb : w.cell? ⟨b, 0, none⟩ = some (.string text)) (hc : w.cell? ⟨c, 0, none⟩ = some (.func (.func g) #[] lb)) (hR : Reads g lb rep (.int .i64 0) R w) :
    Reads 116 #[.pointer (some ⟨b, 0, none⟩), .pointer (some ⟨c, 0, none⟩)] rep (.int .i64 0) (afterR text.data.toList R) w := by
  refine ⟨enters_of Tryz.func116 (by kernel_rfl) rfl, shrinks_after _ hR.2.1, ?_⟩
  intro W s hW hs
  have hb' := (hW.cell (p := ⟨b, 0, none⟩) (World.block_lt_of_cell? w _ hb)).trans hb
  have hc' := (hW.cell (p := ⟨c, 0, none⟩) (World.block_lt_of_cell? w _ hc)).trans hc
  have HR := hide hR
  have HW := hide hW
  have eg : ∀ args w, (callFunc g args).run Tryz.prog w = .ok (.enter g args) w := hR.1
  clear hb hc hW hR
  cases hp : text.data.toList.isPrefixOf s.data.toList with
  | true =>
    obtain ⟨r, hr⟩ : ∃ r : ByteArray, r.data.toList = s.data.toList.drop text.data.toList.length := ⟨⟨(s.data.toList.drop text.data.toList.length).toArray⟩, rfl⟩
    have hrs : r.size ≤ 4000 := by
      rw [text_size hr, List.length_drop]
      have := text_size (rfl : s.data.toList = s.data.toList)
      omega
    have he : afterR text.data.toList R s.data.toList = R r.data.toList := by unfold afterR; rw [if_pos hp, hr]
    have HE := hide he
    have HP := hide hp
    have HRR := hide hr
    clear hp hr he
    go_enter Tryz.func116, Tryz.ntmps116
    go_wp2_with (go_at_call 59; refine (cutPrefix_hit s text r _ (unhide HP) (unhide HRR)).mono ?_)
    rintro e w1 ⟨rfl, rfl⟩
    go_wp2_with (go_at_fn g; refine ((unhide HR).2.2 _ r (unhide HW) hrs).mono ?_)
    intro e w1 hgot
    obtain ⟨b1, hgot⟩ := hgot
    rcases hgot with ⟨hn, rfl⟩ | ⟨x, q, v, hn, hrep, rfl⟩
    · have HN := hide hn
      clear hn
      go_wp2
      go_ret3
      exact ⟨b1, Or.inl ⟨by rw [unhide HE, unhide HN], rfl⟩⟩
    · have HN := hide hn
      clear hn
      go_wp2
      go_ret3
      exact ⟨b1, Or.inr ⟨x, q, v, by rw [unhide HE, unhide HN], hrep, rfl⟩⟩
  | false =>
    have HP := hide hp
    clear hp
    go_enter Tryz.func116, Tryz.ntmps116
    go_wp2_with (go_at_call 59; refine (cutPrefix_miss s text _ (unhide HP)).mono ?_)
    rintro e w1 ⟨rfl, rfl⟩
    go_wp2_with (go_at_call 113; refine (fail_int64 _).mono ?_)
    rintro e w2 ⟨rfl, rfl⟩
    go_wp2
    go_ret3
    refine ⟨Below.refl _ _, Or.inl ⟨?_, rfl⟩⟩
    unfold afterR
    rw [if_neg (by simp [unhide HP])]

set_option maxHeartbeats 400000 in
theorem after_int64 {α : Type} (rep : Rep α) (text : ByteArray) (g : Nat) (lb : Array Value) (R : Bytes → Option (α × Bytes)) (w : World) (hR : Reads g lb rep (.int .i64 0) R w) :
    Calls Tryz.prog 64 #[.string text, .func (.func g) #[] lb] w fun e w' => Below w.heap.size w w' ∧ ∃ l, e = .returned (.func (.func 116) #[] l) ∧ Reads 116 l rep (.int .i64 0) (afterR text.data.toList R) w' := by
  have hmf := mf
  have HR := hide hR
  clear hR
  go_enter Tryz.func64, Tryz.ntmps64
  go_wp2
  go_ret
  have hbel := ((Below.refl _ w).alloc (Nat.le_refl _) (.cells #[.string text] 9)).alloc (by simp) (.cells #[.func (.func g) #[] lb] 61)
  exact ⟨hbel, _, rfl, after_int64_reads rep text g lb R _ _ _ (by simp) (by simp) ((unhide HR).later hbel)⟩

set_option maxHeartbeats 400000 in
theorem after_runes_reads {α : Type} (rep : Rep α) (text : ByteArray) (g : Nat) (lb : Array Value) (R : Bytes → Option (α × Bytes)) (b c : Nat) (w : World) (hb : w.cell? ⟨b, 0, none⟩ = some (.string text)) (hc : w.cell? ⟨c, 0, none⟩ = some (.func (.func g) #[] lb)) (hR : Reads g lb rep (.slice none 0 0) R w) :
    Reads 105 #[.pointer (some ⟨b, 0, none⟩), .pointer (some ⟨c, 0, none⟩)] rep (.slice none 0 0) (afterR text.data.toList R) w := by
  refine ⟨enters_of Tryz.func105 (by kernel_rfl) rfl, shrinks_after _ hR.2.1, ?_⟩
  intro W s hW hs
  have hb' := (hW.cell (p := ⟨b, 0, none⟩) (World.block_lt_of_cell? w _ hb)).trans hb
  have hc' := (hW.cell (p := ⟨c, 0, none⟩) (World.block_lt_of_cell? w _ hc)).trans hc
  have HR := hide hR
  have HW := hide hW
  have eg : ∀ args w, (callFunc g args).run Tryz.prog w = .ok (.enter g args) w := hR.1
  clear hb hc hW hR
  cases hp : text.data.toList.isPrefixOf s.data.toList with
  | true =>
    obtain ⟨r, hr⟩ : ∃ r : ByteArray, r.data.toList = s.data.toList.drop text.data.toList.length := ⟨⟨(s.data.toList.drop text.data.toList.length).toArray⟩, rfl⟩
    have hrs : r.size ≤ 4000 := by
      rw [text_size hr, List.length_drop]
      have := text_size (rfl : s.data.toList = s.data.toList)
      omega
    have he : afterR text.data.toList R s.data.toList = R r.data.toList := by unfold afterR; rw [if_pos hp, hr]
    have HE := hide he
    have HP := hide hp
    have HRR := hide hr
    clear hp hr he
    go_enter Tryz.func105, Tryz.ntmps105
    go_wp2_with (go_at_call 59; refine (cutPrefix_hit s text r _ (unhide HP) (unhide HRR)).mono ?_)
    rintro e w1 ⟨rfl, rfl⟩
    go_wp2_with (go_at_fn g; refine ((unhide HR).2.2 _ r (unhide HW) hrs).mono ?_)
    intro e w1 hgot
    obtain ⟨b1, hgot⟩ := hgot
    rcases hgot with ⟨hn, rfl⟩ | ⟨x, q, v, hn, hrep, rfl⟩
    · have HN := hide hn
      clear hn
      go_wp2
      go_ret3
      exact ⟨b1, Or.inl ⟨by rw [unhide HE, unhide HN], rfl⟩⟩
    · have HN := hide hn
      clear hn
      go_wp2
      go_ret3
      exact ⟨b1, Or.inr ⟨x, q, v, by rw [unhide HE, unhide HN], hrep, rfl⟩⟩
  | false =>
    have HP := hide hp
    clear hp
    go_enter Tryz.func105, Tryz.ntmps105
    go_wp2_with (go_at_call 59; refine (cutPrefix_miss s text _ (unhide HP)).mono ?_)
    rintro e w1 ⟨rfl, rfl⟩
    go_wp2_with (go_at_call 106; refine (fail_runes _).mono ?_)
    rintro e w2 ⟨rfl, rfl⟩
    go_wp2
    go_ret3
    refine ⟨Below.refl _ _, Or.inl ⟨?_, rfl⟩⟩
    unfold afterR
    rw [if_neg (by simp [unhide HP])]

set_option maxHeartbeats 400000 in
theorem after_runes {α : Type} (rep : Rep α) (text : ByteArray) (g : Nat) (lb : Array Value) (R : Bytes → Option (α × Bytes)) (w : World) (hR : Reads g lb rep (.slice none 0 0) R w) :
    Calls Tryz.prog 50 #[.string text, .func (.func g) #[] lb] w fun e w' => Below w.heap.size w w' ∧ ∃ l, e = .returned (.func (.func 105) #[] l) ∧ Reads 105 l rep (.slice none 0 0) (afterR text.data.toList R) w' := by
  have hmf := mf
  have HR := hide hR
  clear hR
  go_enter Tryz.func50, Tryz.ntmps50
  go_wp2
  go_ret
  have hbel := ((Below.refl _ w).alloc (Nat.le_refl _) (.cells #[.string text] 9)).alloc (by simp) (.cells #[.func (.func g) #[] lb] 105)
  exact ⟨hbel, _, rfl, after_runes_reads rep text g lb R _ _ _ (by simp) (by simp) ((unhide HR).later hbel)⟩

set_option maxHeartbeats 400000 in
theorem after_values_reads {α : Type} (rep : Rep α) (text : ByteArray) (g : Nat) (lb : Array Value) (R : Bytes → Option (α × Bytes)) (b c : Nat) (w : World) (hb : w.cell? ⟨b, 0, none⟩ = some (.string text)) (hc : w.cell? ⟨c, 0, none⟩ = some (.func (.func g) #[] lb)) (hR : Reads g lb rep (.slice none 0 0) R w) :
    Reads 124 #[.pointer (some ⟨b, 0, none⟩), .pointer (some ⟨c, 0, none⟩)] rep (.slice none 0 0) (afterR text.data.toList R) w := by
  refine ⟨enters_of Tryz.func124 (by kernel_rfl) rfl, shrinks_after _ hR.2.1, ?_⟩
  intro W s hW hs
  have hb' := (hW.cell (p := ⟨b, 0, none⟩) (World.block_lt_of_cell? w _ hb)).trans hb
  have hc' := (hW.cell (p := ⟨c, 0, none⟩) (World.block_lt_of_cell? w _ hc)).trans hc
  have HR := hide hR
  have HW := hide hW
  have eg : ∀ args w, (callFunc g args).run Tryz.prog w = .ok (.enter g args) w := hR.1
  clear hb hc hW hR
  cases hp : text.data.toList.isPrefixOf s.data.toList with
  | true =>
    obtain ⟨r, hr⟩ : ∃ r : ByteArray, r.data.toList = s.data.toList.drop text.data.toList.length := ⟨⟨(s.data.toList.drop text.data.toList.length).toArray⟩, rfl⟩
    have hrs : r.size ≤ 4000 := by
      rw [text_size hr, List.length_drop]
      have := text_size (rfl : s.data.toList = s.data.toList)
      omega
    have he : afterR text.data.toList R s.data.toList = R r.data.toList := by unfold afterR; rw [if_pos hp, hr]
    have HE := hide he
    have HP := hide hp
    have HRR := hide hr
    clear hp hr he
    go_enter Tryz.func124, Tryz.ntmps124
    go_wp2_with (go_at_call 59; refine (cutPrefix_hit s text r _ (unhide HP) (unhide HRR)).mono ?_)
    rintro e w1 ⟨rfl, rfl⟩
    go_wp2_with (go_at_fn g; refine ((unhide HR).2.2 _ r (unhide HW) hrs).mono ?_)
    intro e w1 hgot
    obtain ⟨b1, hgot⟩ := hgot
    rcases hgot with ⟨hn, rfl⟩ | ⟨x, q, v, hn, hrep, rfl⟩
    · have HN := hide hn
      clear hn
      go_wp2
      go_ret3
      exact ⟨b1, Or.inl ⟨by rw [unhide HE, unhide HN], rfl⟩⟩
    · have HN := hide hn
      clear hn
      go_wp2
      go_ret3
      exact ⟨b1, Or.inr ⟨x, q, v, by rw [unhide HE, unhide HN], hrep, rfl⟩⟩
  | false =>
    have HP := hide hp
    clear hp
    go_enter Tryz.func124, Tryz.ntmps124
    go_wp2_with (go_at_call 59; refine (cutPrefix_miss s text _ (unhide HP)).mono ?_)
    rintro e w1 ⟨rfl, rfl⟩
    go_wp2_with (go_at_call 119; refine (fail_values _).mono ?_)
    rintro e w2 ⟨rfl, rfl⟩
    go_wp2
    go_ret3
    refine ⟨Below.refl _ _, Or.inl ⟨?_, rfl⟩⟩
    unfold afterR
    rw [if_neg (by simp [unhide HP])]

set_option maxHeartbeats 400000 in
theorem after_values {α : Type} (rep : Rep α) (text : ByteArray) (g : Nat) (lb : Array Value) (R : Bytes → Option (α × Bytes)) (w : World) (hR : Reads g lb rep (.slice none 0 0) R w) :
    Calls Tryz.prog 76 #[.string text, .func (.func g) #[] lb] w fun e w' => Below w.heap.size w w' ∧ ∃ l, e = .returned (.func (.func 124) #[] l) ∧ Reads 124 l rep (.slice none 0 0) (afterR text.data.toList R) w' := by
  have hmf := mf
  have HR := hide hR
  clear hR
  go_enter Tryz.func76, Tryz.ntmps76
  go_wp2
  go_ret
  have hbel := ((Below.refl _ w).alloc (Nat.le_refl _) (.cells #[.string text] 9)).alloc (by simp) (.cells #[.func (.func g) #[] lb] 69)
  exact ⟨hbel, _, rfl, after_values_reads rep text g lb R _ _ _ (by simp) (by simp) ((unhide HR).later hbel)⟩

set_option maxHeartbeats 400000 in
theorem after_members_reads {α : Type} (rep : Rep α) (text : ByteArray) (g : Nat) (lb : Array Value) (R : Bytes → Option (α × Bytes)) (b c : Nat) (w : World) (hb : w.cell? ⟨b, 0, none⟩ = some (.string text)) (hc : w.cell? ⟨c, 0, none⟩ = some (.func (.func g) #[] lb)) (hR : Reads g lb rep (.slice none 0 0) R w) :
    Reads 133 #[.pointer (some ⟨b, 0, none⟩), .pointer (some ⟨c, 0, none⟩)] rep (.slice none 0 0) (afterR text.data.toList R) w := by
  refine ⟨enters_of Tryz.func133 (by kernel_rfl) rfl, shrinks_after _ hR.2.1, ?_⟩
  intro W s hW hs
  have hb' := (hW.cell (p := ⟨b, 0, none⟩) (World.block_lt_of_cell? w _ hb)).trans hb
  have hc' := (hW.cell (p := ⟨c, 0, none⟩) (World.block_lt_of_cell? w _ hc)).trans hc
  have HR := hide hR
  have HW := hide hW
  have eg : ∀ args w, (callFunc g args).run Tryz.prog w = .ok (.enter g args) w := hR.1
  clear hb hc hW hR
  cases hp : text.data.toList.isPrefixOf s.data.toList with
  | true =>
    obtain ⟨r, hr⟩ : ∃ r : ByteArray, r.data.toList = s.data.toList.drop text.data.toList.length := ⟨⟨(s.data.toList.drop text.data.toList.length).toArray⟩, rfl⟩
    have hrs : r.size ≤ 4000 := by
      rw [text_size hr, List.length_drop]
      have := text_size (rfl : s.data.toList = s.data.toList)
      omega
    have he : afterR text.data.toList R s.data.toList = R r.data.toList := by unfold afterR; rw [if_pos hp, hr]
    have HE := hide he
    have HP := hide hp
    have HRR := hide hr
    clear hp hr he
    go_enter Tryz.func133, Tryz.ntmps133
    go_wp2_with (go_at_call 59; refine (cutPrefix_hit s text r _ (unhide HP) (unhide HRR)).mono ?_)
    rintro e w1 ⟨rfl, rfl⟩
    go_wp2_with (go_at_fn g; refine ((unhide HR).2.2 _ r (unhide HW) hrs).mono ?_)
    intro e w1 hgot
    obtain ⟨b1, hgot⟩ := hgot
    rcases hgot with ⟨hn, rfl⟩ | ⟨x, q, v, hn, hrep, rfl⟩
    · have HN := hide hn
      clear hn
      go_wp2
      go_ret3
      exact ⟨b1, Or.inl ⟨by rw [unhide HE, unhide HN], rfl⟩⟩
    · have HN := hide hn
      clear hn
      go_wp2
      go_ret3
      exact ⟨b1, Or.inr ⟨x, q, v, by rw [unhide HE, unhide HN], hrep, rfl⟩⟩
  | false =>
    have HP := hide hp
    clear hp
    go_enter Tryz.func133, Tryz.ntmps133
    go_wp2_with (go_at_call 59; refine (cutPrefix_miss s text _ (unhide HP)).mono ?_)
    rintro e w1 ⟨rfl, rfl⟩
    go_wp2_with (go_at_call 127; refine (fail_members _).mono ?_)
    rintro e w2 ⟨rfl, rfl⟩
    go_wp2
    go_ret3
    refine ⟨Below.refl _ _, Or.inl ⟨?_, rfl⟩⟩
    unfold afterR
    rw [if_neg (by simp [unhide HP])]

set_option maxHeartbeats 400000 in
theorem after_members {α : Type} (rep : Rep α) (text : ByteArray) (g : Nat) (lb : Array Value) (R : Bytes → Option (α × Bytes)) (w : World) (hR : Reads g lb rep (.slice none 0 0) R w) :
    Calls Tryz.prog 85 #[.string text, .func (.func g) #[] lb] w fun e w' => Below w.heap.size w w' ∧ ∃ l, e = .returned (.func (.func 133) #[] l) ∧ Reads 133 l rep (.slice none 0 0) (afterR text.data.toList R) w' := by
  have hmf := mf
  have HR := hide hR
  clear hR
  go_enter Tryz.func85, Tryz.ntmps85
  go_wp2
  go_ret
  have hbel := ((Below.refl _ w).alloc (Nat.le_refl _) (.cells #[.string text] 9)).alloc (by simp) (.cells #[.func (.func g) #[] lb] 74)
  exact ⟨hbel, _, rfl, after_members_reads rep text g lb R _ _ _ (by simp) (by simp) ((unhide HR).later hbel)⟩

end Go.Proofs.YtgaddifabjoliaaGreatDoor
