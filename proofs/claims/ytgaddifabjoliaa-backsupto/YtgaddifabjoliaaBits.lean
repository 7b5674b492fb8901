namespace Go.Proofs.Ytgaddifabjoliaa

def bitsN : Nat → Nat → List Nat
  | 0, _ => []
  | k + 1, v => v / 2 ^ k % 2 :: bitsN k v

def val (l : List Nat) : Nat := l.foldl (fun v b => 2 * v + b) 0

def alpha : List UInt8 := [65, 66, 67, 68, 69, 70, 71, 72, 73, 74, 75, 76, 77, 78, 79, 80, 81, 82, 83, 84, 85, 86, 87, 88, 89, 90, 97, 98, 99, 100, 101, 102, 103, 104, 105, 106, 107, 108, 109, 110, 111, 112, 113, 114, 115, 116, 117, 118, 119, 120, 121, 122, 48, 49, 50, 51, 52, 53, 54, 55, 56, 57, 45, 95]

def letter (v : Nat) : UInt8 := alpha.getD v 0

def bits8 (l : List UInt8) : List Nat := l.flatMap fun c => bitsN 8 c.toNat
def bits6 (l : List Nat) : List Nat := l.flatMap fun v => bitsN 6 v

def emit : List Nat → List UInt8
  | a :: b :: c :: d :: e :: f :: r => letter (val [a, b, c, d, e, f]) :: emit r
  | [] => []
  | [a] => [letter (val [a, 0, 0, 0, 0, 0])]
  | [a, b] => [letter (val [a, b, 0, 0, 0, 0])]
  | [a, b, c] => [letter (val [a, b, c, 0, 0, 0])]
  | [a, b, c, d] => [letter (val [a, b, c, d, 0, 0])]
  | [a, b, c, d, e] => [letter (val [a, b, c, d, e, 0])]

def pack : List Nat → List UInt8
  | a :: b :: c :: d :: e :: f :: g :: h :: r => UInt8.ofNat (val [a, b, c, d, e, f, g, h]) :: pack r
  | _ => []

def left : List Nat → List Nat
  | _ :: _ :: _ :: _ :: _ :: _ :: _ :: _ :: r => left r
  | l => l

def enc (b : List UInt8) : List UInt8 := emit (bits8 b)

/-- The first place of a byte among the letters, or none. -/
def place (c : UInt8) : Option Nat := alpha.findIdx? (· == c)

def places : List UInt8 → Option (List Nat)
  | [] => some []
  | c :: s => match place c, places s with
    | some v, some vs => some (v :: vs)
    | _, _ => none

/-- The document's reading: bytes whose base64 it is. -/
def dec (s : List UInt8) : Option (List UInt8) :=
  match places s with
  | none => none
  | some vs => if enc (pack (bits6 vs)) = s then some (pack (bits6 vs)) else none

/-! bits and numbers -/
theorem bitsN_length (k v : Nat) : (bitsN k v).length = k := by
  induction k with
  | zero => rfl
  | succ k ih => simp [bitsN, ih]

theorem bitsN_lt (k v : Nat) : ∀ x ∈ bitsN k v, x < 2 := by
  induction k with
  | zero => simp [bitsN]
  | succ k ih => intro x hx; simp [bitsN] at hx; rcases hx with h | h
                 · omega
                 · exact ih x h

theorem bits8_cons (c : UInt8) (l : List UInt8) : bits8 (c :: l) = bitsN 8 c.toNat ++ bits8 l := rfl
theorem bits6_cons (c : Nat) (l : List Nat) : bits6 (c :: l) = bitsN 6 c ++ bits6 l := rfl
theorem bits8_append (a b : List UInt8) : bits8 (a ++ b) = bits8 a ++ bits8 b := by simp [bits8]
theorem bits8_length (l : List UInt8) : (bits8 l).length = 8 * l.length := by
  induction l with
  | nil => rfl
  | cons c l ih => rw [bits8_cons, List.length_append, bitsN_length, ih, List.length_cons]; omega
theorem bits6_length (l : List Nat) : (bits6 l).length = 6 * l.length := by
  induction l with
  | nil => rfl
  | cons c l ih => rw [bits6_cons, List.length_append, bitsN_length, ih, List.length_cons]; omega
theorem bits8_lt (l : List UInt8) : ∀ x ∈ bits8 l, x < 2 := by
  intro x hx; simp only [bits8, List.mem_flatMap] at hx; obtain ⟨c, _, h⟩ := hx; exact bitsN_lt _ _ x h
theorem bits6_lt (l : List Nat) : ∀ x ∈ bits6 l, x < 2 := by
  intro x hx; simp only [bits6, List.mem_flatMap] at hx; obtain ⟨c, _, h⟩ := hx; exact bitsN_lt _ _ x h

theorem bitsN_8 (v : Nat) : bitsN 8 v = [v / 128 % 2, v / 64 % 2, v / 32 % 2, v / 16 % 2, v / 8 % 2, v / 4 % 2, v / 2 % 2, v % 2] := by
  simp [bitsN]
theorem bitsN_6 (v : Nat) : bitsN 6 v = [v / 32 % 2, v / 16 % 2, v / 8 % 2, v / 4 % 2, v / 2 % 2, v % 2] := by
  simp [bitsN]

theorem val_8 (v : Nat) (h : v < 256) : val (bitsN 8 v) = v := by
  rw [bitsN_8]; simp only [val, List.foldl]; omega
theorem val_6 (v : Nat) (h : v < 64) : val (bitsN 6 v) = v := by
  rw [bitsN_6]; simp only [val, List.foldl]; omega

/-- A number of k bits more. -/
theorem bitsN_join (a k h x : Nat) (hx : x < 2 ^ k) : bitsN (a + k) (h * 2 ^ k + x) = bitsN a h ++ bitsN k x := by
  have low : ∀ j, j ≤ k → bitsN j (h * 2 ^ k + x) = bitsN j x := by
    intro j
    induction j with
    | zero => intro _; rfl
    | succ j ih =>
      intro hj
      simp only [bitsN]
      rw [ih (by omega)]
      congr 1
      obtain ⟨d, rfl⟩ : ∃ d, k = j + 1 + d := ⟨k - (j + 1), by omega⟩
      have e : h * 2 ^ (j + 1 + d) = 2 ^ j * (2 * (h * 2 ^ d)) := by
        rw [Nat.pow_add, Nat.pow_succ]
        simp [Nat.mul_comm, Nat.mul_left_comm, Nat.mul_assoc]
      rw [e, Nat.mul_add_div (Nat.two_pow_pos j)]
      omega
  induction a with
  | zero => simpa [bitsN] using low k (Nat.le_refl _)
  | succ a ih =>
    rw [show a + 1 + k = (a + k) + 1 by omega]
    simp only [bitsN, List.cons_append]
    rw [ih]
    congr 1
    have : (h * 2 ^ k + x) / 2 ^ (a + k) = h / 2 ^ a := by
      rw [Nat.add_comm a k, Nat.pow_add, ← Nat.div_div_eq_div_mul, Nat.mul_comm h, Nat.mul_add_div (Nat.two_pow_pos k), Nat.div_eq_of_lt hx]
      rfl
    rw [this]

theorem bitsN_split (a k v : Nat) : bitsN (a + k) v = bitsN a (v / 2 ^ k) ++ bitsN k (v % 2 ^ k) := by
  have := bitsN_join a k (v / 2 ^ k) (v % 2 ^ k) (Nat.mod_lt _ (Nat.two_pow_pos k))
  rwa [Nat.div_add_mod' v (2 ^ k)] at this

/-! letters -/
theorem letter_injF : ∀ a : Fin 64, ∀ b : Fin 64, letter a.val = letter b.val → a = b := by decide +kernel
theorem letter_inj (a b : Nat) (ha : a < 64) (hb : b < 64) (h : letter a = letter b) : a = b :=
  congrArg Fin.val (letter_injF ⟨a, ha⟩ ⟨b, hb⟩ h)
theorem place_letter : ∀ v, v < 64 → place (letter v) = some v := by decide +kernel
theorem place_some : ∀ c : UInt8, ∀ v, place c = some v → v < 64 ∧ letter v = c := by
  intro c v h
  unfold place at h
  rw [List.findIdx?_eq_some_iff_getElem] at h
  obtain ⟨h1, h2, _⟩ := h
  have h3 : v < 64 := h1
  refine ⟨h3, ?_⟩
  unfold letter
  rw [List.getD_eq_getElem?_getD, List.getElem?_eq_getElem h1]
  simpa using h2

theorem places_some : ∀ (s : List UInt8) (vs : List Nat), places s = some vs → (∀ v ∈ vs, v < 64) ∧ vs.map letter = s
  | [], vs, h => by simp [places] at h; subst h; simp
  | c :: s, vs, h => by
    unfold places at h
    cases h1 : place c with
    | none => rw [h1] at h; simp at h
    | some v =>
      cases h2 : places s with
      | none => rw [h1, h2] at h; simp at h
      | some us =>
        rw [h1, h2] at h
        simp at h
        subst h
        have := place_some c v h1
        have ih := places_some s us h2
        simp only [List.mem_cons, forall_eq_or_imp, List.map_cons]
        exact ⟨⟨this.1, ih.1⟩, by rw [this.2, ih.2]⟩

theorem places_map : ∀ (vs : List Nat), (∀ v ∈ vs, v < 64) → places (vs.map letter) = some vs
  | [], _ => rfl
  | v :: vs, h => by
    simp only [List.map_cons, places]
    rw [place_letter v (h v (by simp)), places_map vs (fun u hu => h u (by simp [hu]))]

/-! emit -/
theorem emit_six (v : Nat) (hv : v < 64) (r : List Nat) : emit (bitsN 6 v ++ r) = letter v :: emit r := by
  have := val_6 v hv
  rw [bitsN_6] at this ⊢
  simp only [List.cons_append, List.nil_append, emit]
  rw [this]

theorem emit_bits6 : ∀ (vs : List Nat), (∀ v ∈ vs, v < 64) → emit (bits6 vs) = vs.map letter
  | [], _ => rfl
  | v :: vs, h => by
    rw [bits6_cons, emit_six v (h v (by simp)), emit_bits6 vs (fun u hu => h u (by simp [hu]))]; rfl

theorem emit_length : ∀ l : List Nat, (emit l).length = (l.length + 5) / 6
  | a :: b :: c :: d :: e :: f :: r => by
    simp only [emit, List.length_cons, emit_length r]; omega
  | [] => rfl
  | [_] => by simp [emit]
  | [_, _] => by simp [emit]
  | [_, _, _] => by simp [emit]
  | [_, _, _, _] => by simp [emit]
  | [_, _, _, _, _] => by simp [emit]

theorem enc_length (b : List UInt8) : (enc b).length = (8 * b.length + 5) / 6 := by
  unfold enc; rw [emit_length, bits8_length]

/-- The next letter, from whatever place on. -/
theorem emit_getD : ∀ m : List Nat, 0 < m.length → emit m = letter (val [m.getD 0 0, m.getD 1 0, m.getD 2 0, m.getD 3 0, m.getD 4 0, m.getD 5 0]) :: emit (m.drop 6)
  | a :: b :: c :: d :: e :: f :: r, _ => by simp [emit]
  | [], h => by simp at h
  | [_], _ => by simp [emit]
  | [_, _], _ => by simp [emit]
  | [_, _, _], _ => by simp [emit]
  | [_, _, _, _], _ => by simp [emit]
  | [_, _, _, _, _], _ => by simp [emit]

theorem emit_drop (l : List Nat) (i : Nat) (h : i < l.length) :
    emit (l.drop i) = letter (val [l.getD i 0, l.getD (i + 1) 0, l.getD (i + 2) 0, l.getD (i + 3) 0, l.getD (i + 4) 0, l.getD (i + 5) 0]) :: emit (l.drop (i + 6)) := by
  rw [emit_getD (l.drop i) (by simp; omega)]
  simp [List.getD_eq_getElem?_getD, List.getElem?_drop, List.drop_drop]

/-- What is filled up, if it is noughts, turns nothing; and only then. -/
theorem emit_pad : ∀ (A r : List Nat), (∀ x ∈ A, x < 2) → (∀ x ∈ r, x < 2) → r.length < 6 → (A.length + r.length) % 6 = 0 → (emit A = emit (A ++ r) ↔ val r = 0)
  | a :: b :: c :: d :: e :: f :: A, r, hA, hr, h6, hm => by
    simp only [List.cons_append, emit, List.cons.injEq, true_and]
    refine emit_pad A r (fun x hx => hA x (by simp [hx])) hr h6 ?_
    simp only [List.length_cons] at hm; omega
  | [], r, _, _, h6, hm => by
    have : r.length = 0 := by simp at hm; omega
    have : r = [] := List.length_eq_zero_iff.1 this
    subst this; simp [val]
  | [a], r, hA, hr, h6, hm => by
    have : r.length = 5 := by simp at hm; omega
    match r, this with
    | [p, q, s, t, u], _ =>
      simp at hA hr
      simp only [List.cons_append, List.nil_append, emit, List.cons.injEq, and_true, val, List.foldl]
      constructor
      · intro h; have := letter_inj _ _ (by omega) (by omega) h; omega
      · intro h; congr 1; omega
  | [a, b], r, hA, hr, h6, hm => by
    have : r.length = 4 := by simp at hm; omega
    match r, this with
    | [p, q, s, t], _ =>
      simp at hA hr
      simp only [List.cons_append, List.nil_append, emit, List.cons.injEq, and_true, val, List.foldl]
      constructor
      · intro h; have := letter_inj _ _ (by omega) (by omega) h; omega
      · intro h; congr 1; omega
  | [a, b, c], r, hA, hr, h6, hm => by
    have : r.length = 3 := by simp at hm; omega
    match r, this with
    | [p, q, s], _ =>
      simp at hA hr
      simp only [List.cons_append, List.nil_append, emit, List.cons.injEq, and_true, val, List.foldl]
      constructor
      · intro h; have := letter_inj _ _ (by omega) (by omega) h; omega
      · intro h; congr 1; omega
  | [a, b, c, d], r, hA, hr, h6, hm => by
    have : r.length = 2 := by simp at hm; omega
    match r, this with
    | [p, q], _ =>
      simp at hA hr
      simp only [List.cons_append, List.nil_append, emit, List.cons.injEq, and_true, val, List.foldl]
      constructor
      · intro h; have := letter_inj _ _ (by omega) (by omega) h; omega
      · intro h; congr 1; omega
  | [a, b, c, d, e], r, hA, hr, h6, hm => by
    have : r.length = 1 := by simp at hm; omega
    match r, this with
    | [p], _ =>
      simp at hA hr
      simp only [List.cons_append, List.nil_append, emit, List.cons.injEq, and_true, val, List.foldl]
      constructor
      · intro h; have := letter_inj _ _ (by omega) (by omega) h; omega
      · intro h; congr 1; omega

/-! pack -/
theorem pack_eight (v : Nat) (hv : v < 256) (r : List Nat) : pack (bitsN 8 v ++ r) = UInt8.ofNat v :: pack r := by
  have := val_8 v hv
  rw [bitsN_8] at this ⊢
  simp only [List.cons_append, List.nil_append, pack]
  rw [this]
theorem left_eight (v : Nat) (r : List Nat) : left (bitsN 8 v ++ r) = left r := by
  rw [bitsN_8]
  simp only [List.cons_append, List.nil_append, left]

theorem pack_bits8 : ∀ b : List UInt8, pack (bits8 b) = b
  | [] => rfl
  | c :: b => by
    rw [bits8_cons, pack_eight _ (UInt8.toNat_lt c), pack_bits8 b]; simp
theorem left_bits8 : ∀ b : List UInt8, left (bits8 b) = []
  | [] => rfl
  | c :: b => by rw [bits8_cons, left_eight, left_bits8 b]

theorem bits8_pack : ∀ l : List Nat, (∀ x ∈ l, x < 2) → bits8 (pack l) ++ left l = l
  | a :: b :: c :: d :: e :: f :: g :: h :: r, hl => by
    have ih := bits8_pack r (fun x hx => hl x (by simp [hx]))
    simp only [List.mem_cons, forall_eq_or_imp] at hl
    obtain ⟨h1, h2, h3, h4, h5, h6, h7, h8, _⟩ := hl
    simp only [pack, left, bits8_cons, List.append_assoc, ih]
    have e : (UInt8.ofNat (val [a, b, c, d, e, f, g, h])).toNat = val [a, b, c, d, e, f, g, h] := by
      simp only [val, List.foldl, UInt8.toNat_ofNat']
      omega
    rw [e, bitsN_8]
    simp only [val, List.foldl, List.cons_append, List.nil_append, List.cons.injEq, and_true]
    omega
  | [], _ => rfl
  | [_], _ => rfl
  | [_, _], _ => rfl
  | [_, _, _], _ => rfl
  | [_, _, _, _], _ => rfl
  | [_, _, _, _, _], _ => rfl
  | [_, _, _, _, _, _], _ => rfl
  | [_, _, _, _, _, _, _], _ => rfl

theorem left_short : ∀ l : List Nat, (left l).length < 8 ∧ (left l).length % 8 = l.length % 8 ∧ (∀ x ∈ left l, x ∈ l)
  | a :: b :: c :: d :: e :: f :: g :: h :: r => by
    have ih := left_short r
    refine ⟨ih.1, ?_, fun x hx => by have := ih.2.2 x hx; simp [this]⟩
    simp only [left, List.length_cons]; omega
  | [] => by simp [left]
  | [_] => by simp [left]
  | [_, _] => by simp [left]
  | [_, _, _] => by simp [left]
  | [_, _, _, _] => by simp [left]
  | [_, _, _, _, _] => by simp [left]
  | [_, _, _, _, _, _] => by simp [left]
  | [_, _, _, _, _, _, _] => by simp [left]

/-- What is left over decides. -/
theorem enc_pack (vs : List Nat) (hv : ∀ v ∈ vs, v < 64) :
    enc (pack (bits6 vs)) = vs.map letter ↔ ((left (bits6 vs)).length ≠ 6 ∧ val (left (bits6 vs)) = 0) := by
  have hb := bits8_pack (bits6 vs) (bits6_lt vs)
  have hl := left_short (bits6 vs)
  have hlen := congrArg List.length hb
  rw [List.length_append, bits6_length] at hlen
  rw [bits6_length] at hl
  have he := emit_bits6 vs hv
  unfold enc
  by_cases h6 : (left (bits6 vs)).length = 6
  · constructor
    · intro h
      have h' := congrArg List.length h
      rw [emit_length, List.length_map] at h'
      omega
    · intro h; exact absurd h6 h.1
  · have hp := emit_pad (bits8 (pack (bits6 vs))) (left (bits6 vs)) (bits8_lt _) (fun x hx => bits6_lt vs x (hl.2.2 x hx)) (by omega) (by omega)
    rw [hb, he] at hp
    rw [hp]
    exact ⟨fun h => ⟨h6, h⟩, fun h => h.2⟩

/-! what follows -/
theorem emit_sixes : ∀ l : List Nat, (∀ x ∈ l, x < 2) → ∃ vs : List Nat, (∀ v ∈ vs, v < 64) ∧ emit l = vs.map letter
  | a :: b :: c :: d :: e :: f :: r, h => by
    obtain ⟨vs, h1, h2⟩ := emit_sixes r (fun x hx => h x (by simp [hx]))
    simp only [List.mem_cons, forall_eq_or_imp] at h
    obtain ⟨_, _, _, _, _, _, _⟩ := h
    refine ⟨val [a, b, c, d, e, f] :: vs, ?_, by simp [emit, h2]⟩
    simp only [List.mem_cons, forall_eq_or_imp]
    refine ⟨?_, h1⟩
    simp only [val, List.foldl]; omega
  | [], _ => ⟨[], by simp, rfl⟩
  | [a], h => ⟨[val [a, 0, 0, 0, 0, 0]], by simp at h; simp only [List.mem_singleton, forall_eq, val, List.foldl]; omega, rfl⟩
  | [a, b], h => ⟨[val [a, b, 0, 0, 0, 0]], by simp at h; simp only [List.mem_singleton, forall_eq, val, List.foldl]; omega, rfl⟩
  | [a, b, c], h => ⟨[val [a, b, c, 0, 0, 0]], by simp at h; simp only [List.mem_singleton, forall_eq, val, List.foldl]; omega, rfl⟩
  | [a, b, c, d], h => ⟨[val [a, b, c, d, 0, 0]], by simp at h; simp only [List.mem_singleton, forall_eq, val, List.foldl]; omega, rfl⟩
  | [a, b, c, d, e], h => ⟨[val [a, b, c, d, e, 0]], by simp at h; simp only [List.mem_singleton, forall_eq, val, List.foldl]; omega, rfl⟩

theorem pack_short (r : List Nat) : pack r = [] ↔ r.length < 8 := by
  match r with
  | [] => simp [pack]
  | [_] => simp [pack]
  | [_, _] => simp [pack]
  | [_, _, _] => simp [pack]
  | [_, _, _, _] => simp [pack]
  | [_, _, _, _, _] => simp [pack]
  | [_, _, _, _, _, _] => simp [pack]
  | [_, _, _, _, _, _, _] => simp [pack]
  | a :: b :: c :: d :: e :: f :: g :: h :: r => simp [pack]

theorem pack_append : ∀ (b : List UInt8) (r : List Nat), pack (bits8 b ++ r) = b ++ pack r
  | [], r => by simp [bits8]
  | c :: b, r => by
    rw [bits8_cons, List.append_assoc, pack_eight _ (UInt8.toNat_lt c), pack_append b r]; simp

/-- The letters' bits are the bytes' bits and fewer than six noughts. -/
theorem emit_bits : ∀ (l : List Nat), (∀ x ∈ l, x < 2) → ∃ vs n, (∀ v ∈ vs, v < 64) ∧ emit l = vs.map letter ∧ n < 6 ∧ bits6 vs = l ++ List.replicate n 0
  | a :: b :: c :: d :: e :: f :: r, h => by
    obtain ⟨vs, n, h1, h2, h3, h4⟩ := emit_bits r (fun x hx => h x (by simp [hx]))
    simp only [List.mem_cons, forall_eq_or_imp] at h
    obtain ⟨_, _, _, _, _, _, _⟩ := h
    refine ⟨val [a, b, c, d, e, f] :: vs, n, ?_, by simp [emit, h2], h3, ?_⟩
    · simp only [List.mem_cons, forall_eq_or_imp]
      refine ⟨?_, h1⟩
      simp only [val, List.foldl]; omega
    · rw [bits6_cons, h4, bitsN_6]
      simp only [val, List.foldl, List.cons_append, List.nil_append, List.cons.injEq, and_true]
      omega
  | [], _ => ⟨[], 0, by simp, rfl, by omega, rfl⟩
  | [a], h => ⟨[val [a, 0, 0, 0, 0, 0]], 5, by simp at h; simp only [List.mem_singleton, forall_eq, val, List.foldl]; omega, rfl, by omega, by simp at h; simp [bits6, bitsN_6, val, List.replicate]; omega⟩
  | [a, b], h => ⟨[val [a, b, 0, 0, 0, 0]], 4, by simp at h; simp only [List.mem_singleton, forall_eq, val, List.foldl]; omega, rfl, by omega, by simp at h; simp [bits6, bitsN_6, val, List.replicate]; omega⟩
  | [a, b, c], h => ⟨[val [a, b, c, 0, 0, 0]], 3, by simp at h; simp only [List.mem_singleton, forall_eq, val, List.foldl]; omega, rfl, by omega, by simp at h; simp [bits6, bitsN_6, val, List.replicate]; omega⟩
  | [a, b, c, d], h => ⟨[val [a, b, c, d, 0, 0]], 2, by simp at h; simp only [List.mem_singleton, forall_eq, val, List.foldl]; omega, rfl, by omega, by simp at h; simp [bits6, bitsN_6, val, List.replicate]; omega⟩
  | [a, b, c, d, e], h => ⟨[val [a, b, c, d, e, 0]], 1, by simp at h; simp only [List.mem_singleton, forall_eq, val, List.foldl]; omega, rfl, by omega, by simp at h; simp [bits6, bitsN_6, val, List.replicate]; omega⟩

/-- What is written is read back. -/
theorem dec_enc (b : List UInt8) : dec (enc b) = some b := by
  obtain ⟨vs, n, h1, h2, h3, h4⟩ := emit_bits (bits8 b) (bits8_lt b)
  have hp : pack (bits6 vs) = b := by
    rw [h4, pack_append, (pack_short _).2 (by simp; omega), List.append_nil]
  unfold dec
  have hq : places (enc b) = some vs := by unfold enc; rw [h2]; exact places_map vs h1
  rw [hq]
  simp only [hp, if_pos]

/-- What is read is the only one that is read so. -/
theorem enc_dec (s z : List UInt8) (h : dec s = some z) : enc z = s := by
  unfold dec at h
  split at h
  · simp at h
  · split at h
    · simp at h; subst h; assumption
    · simp at h

theorem enc_abc (b : List UInt8) : enc (97 :: 98 :: 99 :: b) = 89 :: 87 :: 74 :: 106 :: enc b := by
  unfold enc
  rw [bits8_cons, bits8_cons, bits8_cons]
  simp only [bitsN_8]
  simp only [List.cons_append, List.nil_append, emit]
  rfl

theorem places_bad : ∀ (s : List UInt8), places (s ++ [61]) = none
  | [] => by decide +kernel
  | c :: s => by
    simp only [List.cons_append, places]
    rw [places_bad s]
    split
    · contradiction
    · rfl

theorem dec_bad (s : List UInt8) : dec (s ++ [61]) = none := by
  unfold dec; rw [places_bad]

theorem dec_Zg : dec [90, 103] = some [102] := by decide +kernel

end Go.Proofs.Ytgaddifabjoliaa
