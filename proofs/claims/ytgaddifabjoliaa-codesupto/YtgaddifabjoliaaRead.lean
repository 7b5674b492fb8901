import Derived.Test.YtgaddifabjoliaaBits
import Derived.Lib.Bytealg
namespace Go.Proofs.Ytgaddifabjoliaa

/-- The two answers of a reading: bytes and number. -/
def outB (s : List UInt8) : List UInt8 := (dec s).getD []
def outE (s : List UInt8) : Nat := if (dec s).isSome then 0 else 2

theorem val_bitsN : ∀ (c h : Nat), h < 2 ^ c → val (bitsN c h) = h := by
  have gen : ∀ (c h a : Nat), h < 2 ^ c → (bitsN c h).foldl (fun v b => 2 * v + b) a = a * 2 ^ c + h := by
    intro c
    induction c with
    | zero => intro h a hh; simp at hh; subst hh; simp [bitsN]
    | succ c ih =>
      intro h a hh
      have e : bitsN (1 + c) h = bitsN 1 (h / 2 ^ c) ++ bitsN c (h % 2 ^ c) := bitsN_split 1 c h
      rw [Nat.add_comm c 1, e, List.foldl_append, ih _ _ (Nat.mod_lt _ (Nat.two_pow_pos c))]
      have hq : h / 2 ^ c < 2 := by
        rw [Nat.div_lt_iff_lt_mul (Nat.two_pow_pos c)]
        rw [Nat.pow_succ] at hh; omega
      have hm := Nat.div_add_mod h (2 ^ c)
      simp only [bitsN, List.foldl, Nat.pow_zero, Nat.div_one]
      rw [Nat.mod_eq_of_lt hq, Nat.pow_add, Nat.add_mul]
      rw [Nat.mul_comm (2 ^ c) (h / 2 ^ c)] at hm
      have : 2 * a * 2 ^ c = a * (2 ^ 1 * 2 ^ c) := by simp [Nat.mul_comm, Nat.mul_assoc]
      omega
  intro c h hh
  have := gen c h 0 hh
  rw [Nat.zero_mul, Nat.zero_add] at this
  exact this

theorem left_append : ∀ (b : List UInt8) (r : List Nat), left (bits8 b ++ r) = left r
  | [], r => by simp [bits8]
  | c :: b, r => by rw [bits8_cons, List.append_assoc, left_eight, left_append b r]

theorem left_of_short (r : List Nat) (h : r.length < 8) : left r = r := by
  match r, h with
  | [], _ => rfl
  | [_], _ => rfl
  | [_, _], _ => rfl
  | [_, _, _], _ => rfl
  | [_, _, _, _], _ => rfl
  | [_, _, _, _, _], _ => rfl
  | [_, _, _, _, _, _], _ => rfl
  | [_, _, _, _, _, _, _], _ => rfl
  | _ :: _ :: _ :: _ :: _ :: _ :: _ :: _ :: r, h => simp at h; omega

theorem places_snoc : ∀ (s : List UInt8) (c : UInt8) (vs : List Nat) (v : Nat), places s = some vs → place c = some v → places (s ++ [c]) = some (vs ++ [v])
  | [], c, vs, v, h, hc => by
    simp [places] at h; subst h; simp [places, hc]
  | x :: s, c, vs, v, h, hc => by
    unfold places at h
    cases h1 : place x with
    | none => rw [h1] at h; simp at h
    | some u =>
      cases h2 : places s with
      | none => rw [h1, h2] at h; simp at h
      | some us =>
        rw [h1, h2] at h
        simp at h
        subst h
        have ih := places_snoc s c us v h2 hc
        simp only [List.cons_append, places, h1, ih]

theorem places_none : ∀ (s : List UInt8) (c : UInt8), c ∈ s → place c = none → places s = none
  | [], _, h, _ => by simp at h
  | x :: s, c, h, hc => by
    simp only [List.mem_cons] at h
    unfold places
    rcases h with rfl | h
    · rw [hc]
    · rw [places_none s c h hc]
      cases place x <;> rfl

theorem bits6_append (a b : List Nat) : bits6 (a ++ b) = bits6 a ++ bits6 b := by simp [bits6]

theorem dec_none (s : List UInt8) (c : UInt8) (h : c ∈ s) (hc : place c = none) : dec s = none := by
  unfold dec; rw [places_none s c h hc]

/-- What stands at the end of the reading. -/
theorem dec_end (s acc : List UInt8) (vs : List Nat) (c h : Nat) (hp : places s = some vs) (hb : bits6 vs = bits8 acc ++ bitsN c h) (hc : c < 8) (hh : h < 2 ^ c) :
    dec s = if c ≠ 6 ∧ h = 0 then some acc else none := by
  have hs := places_some s vs hp
  have hpk : pack (bits6 vs) = acc := by
    rw [hb, pack_append, (pack_short _).2 (by rw [bitsN_length]; omega), List.append_nil]
  have hl : left (bits6 vs) = bitsN c h := by rw [hb, left_append, left_of_short _ (by rw [bitsN_length]; omega)]
  have he := enc_pack vs hs.1
  rw [hl, bitsN_length, val_bitsN c h hh, hs.2, hpk] at he
  unfold dec
  rw [hp]
  simp only [hpk]
  by_cases hx : c ≠ 6 ∧ h = 0
  · rw [if_pos hx, if_pos (he.2 hx)]
  · rw [if_neg hx, if_neg (fun h' => hx (he.1 h'))]

theorem dec_step (c n : Nat) (acc : List UInt8) (hn : n < 2 ^ (8 + c)) : bits8 (acc ++ [UInt8.ofNat (n / 2 ^ c)]) ++ bitsN c (n % 2 ^ c) = bits8 acc ++ bitsN (8 + c) n := by
  have : n / 2 ^ c < 256 := by
    rw [Nat.div_lt_iff_lt_mul (Nat.two_pow_pos c)]
    rw [Nat.pow_add] at hn
    exact hn
  rw [bits8_append, bits8_cons, bitsN_split 8 c n]
  have e : (UInt8.ofNat (n / 2 ^ c)).toNat = n / 2 ^ c := by rw [UInt8.toNat_ofNat']; exact Nat.mod_eq_of_lt this
  rw [e]
  simp [bits8]

theorem index_of (l : List UInt8) (c : UInt8) : Lib.indexByte l c = match l.findIdx? (· == c) with | some v => (v : Int) | none => -1 := by
  induction l with
  | nil => rfl
  | cons x l ih =>
    unfold Lib.indexByte
    rw [List.findIdx?_cons, ih]
    by_cases h : x == c
    · simp [h]
    · simp only [h, Bool.false_eq_true, if_false]
      cases l.findIdx? (· == c) with
      | none => simp
      | some v =>
        simp only [Option.map_some]
        have : ¬ ((v : Int) == -1) = true := by simp
        rw [if_neg this]
        simp

theorem index_some (c : UInt8) (v : Nat) (h : place c = some v) : Lib.indexByte alpha c = (v : Int) := by
  rw [index_of]; unfold place at h; rw [h]
theorem index_none (c : UInt8) (h : place c = none) : Lib.indexByte alpha c = -1 := by
  rw [index_of]; unfold place at h; rw [h]

theorem outB_some {s b : List UInt8} (h : dec s = some b) : outB s = b ∧ outE s = 0 := by unfold outB outE; rw [h]; exact ⟨rfl, rfl⟩
theorem outB_none {s : List UInt8} (h : dec s = none) : outB s = [] ∧ outE s = 2 := by unfold outB outE; rw [h]; exact ⟨rfl, rfl⟩

end Go.Proofs.Ytgaddifabjoliaa
