import Derived.Test.YtgaddifabjoliaaGreatDoorReadJ
import Derived.Lib.OthersKept
import Derived.Lib.BufferKept
namespace Go.Proofs.YtgaddifabjoliaaGreatDoor
open Go.RowKit

theorem builder_later {T e : TypeId} {B b : Nat} {p : Value} {bs : List Value} {W W' : World} (h : Lib.BuilderAtF T e B b p bs W) (hb : Below W.heap.size W W') : Lib.BuilderAtF T e B b p bs W' := by
  obtain ⟨h1, v, h2, h3, h4⟩ := h
  refine ⟨h1, v, by rw [hb.block b (Array.getElem?_eq_some_iff.1 h2).1]; exact h2, ⟨h3.1, ?_⟩, h4⟩
  rcases h3.2 with h5 | ⟨g, cap, cur, fz, h5, h6, h7, h8⟩
  · exact Or.inl h5
  · exact Or.inr ⟨g, cap, cur, fz, h5, h6, by rw [hb.block g (Array.getElem?_eq_some_iff.1 h7).1]; exact h7, h8⟩
theorem isBuilder_later {T e : TypeId} {B b : Nat} {bs : List Value} {W W' : World} (h : Lib.IsBuilderF T e B b bs W) (hb : Below W.heap.size W W') : Lib.IsBuilderF T e B b bs W' :=
  h.elim (fun x => .inl (builder_later x hb)) (fun x => .inr (builder_later x hb))

/-- What a write onto a builder leaves. -/
def Wr (B b : Nat) (acc add : Bytes) (w w' : World) : Prop := Lib.IsBuilderF 47 5 B b (Lib.byteCells (acc ++ add)) w' ∧ Below B w w' ∧ Lib.OthersKept 5 (some b) w w'

theorem Wr.trans {B b : Nat} {acc x y : Bytes} {w w1 w2 : World} (h : Wr B b acc x w w1) (k : Wr B b (acc ++ x) y w1 w2) : Wr B b acc (x ++ y) w w2 :=
  ⟨by rw [← List.append_assoc]; exact k.1, h.2.1.trans k.2.1, h.2.2.trans k.2.2⟩
theorem Wr.start {B b : Nat} {acc : Bytes} {w : World} (h : Lib.IsBuilderF 47 5 B b (Lib.byteCells acc) w) : Wr B b acc [] w w :=
  ⟨by rw [List.append_nil]; exact h, Below.refl _ _, Lib.OthersKept.refl _ _ _⟩
theorem Wr.grow {B b : Nat} {acc x : Bytes} {w w1 w2 : World} (h : Wr B b acc x w w1) (hb : Below w1.heap.size w1 w2) (hB : B ≤ w1.heap.size) : Wr B b acc x w w2 :=
  ⟨isBuilder_later h.1 hb, h.2.1.trans (hb.mono hB), h.2.2.below hb⟩
theorem Wr.lt {B b : Nat} {acc x : Bytes} {w w1 : World} (h : Wr B b acc x w w1) (hB : B ≤ w.heap.size) : B ≤ w1.heap.size := Nat.le_trans hB h.2.1.size

theorem writeByte (B b : Nat) (acc : Bytes) (c : UInt8) (w : World) (h : Lib.IsBuilderF 47 5 B b (Lib.byteCells acc) w) (hl : acc.length + 1 ≤ 140737488355328) (hB : B ≤ w.heap.size) :
    Calls Tryz.prog 95 #[.pointer (some ⟨b, 0, none⟩), .int .u8 (c.toNat : Int)] w fun e w' => e = .returned .nilIface ∧ Wr B b acc [c] w w' := by
  refine (Tryz.Builder_WriteByte_k B b _ _ w h (by rw [Lib.byteCells_length]; exact hl) hB).mono ?_
  rintro e w' ⟨he, h1, h2, h3⟩
  refine ⟨he, Or.inr ?_, h2, h3⟩
  rw [Lib.byteCells_append]
  exact h1
theorem writeString (B b : Nat) (acc : Bytes) (s : ByteArray) (w : World) (h : Lib.IsBuilderF 47 5 B b (Lib.byteCells acc) w) (hl : acc.length + s.size ≤ 140737488355328) (hB : B ≤ w.heap.size) :
    Calls Tryz.prog 33 #[.pointer (some ⟨b, 0, none⟩), .string s] w fun e w' => e = .returned (.tuple #[.int .i64 s.size, .nilIface]) ∧ Wr B b acc s.data.toList w w' := by
  refine (Tryz.Builder_WriteString_k B b _ s w h (by rw [Lib.byteCells_length]; exact hl) hB).mono ?_
  rintro e w' ⟨he, h1, h2, h3⟩
  refine ⟨he, Or.inr ?_, h2, h3⟩
  rw [Lib.byteCells_append]
  exact h1

def hexC (n : Nat) : UInt8 := if n < 10 then UInt8.ofNat (48 + n) else UInt8.ofNat (87 + n)
/-- A byte of a text, written. -/
def byteF (c : UInt8) : Bytes := if c.toNat = 34 ∨ c.toNat = 92 then [92, c] else if c.toNat < 32 then [92, 117, 48, 48, hexC (c.toNat / 16), hexC (c.toNat % 16)] else [c]
def textF (t : Bytes) : Bytes := [34] ++ t.flatMap byteF ++ [34]

theorem byteF_len (c : UInt8) : (byteF c).length ≤ 6 := by
  unfold byteF
  split
  · simp
  · split <;> simp
theorem flat_len : ∀ t : Bytes, (t.flatMap byteF).length ≤ 6 * t.length
  | [] => by simp
  | c :: t => by
    have := flat_len t
    have := byteF_len c
    simp only [List.flatMap_cons, List.length_append, List.length_cons]
    omega
theorem textF_len (t : Bytes) : (textF t).length ≤ 6 * t.length + 2 := by
  have := flat_len t
  simp only [textF, List.length_append, List.length_cons, List.length_nil]; omega

theorem and15 (n : Nat) (h : n < 32) : bits .and .u8 (n : Int) 15 = ((n % 16 : Nat) : Int) := by
  match n, h with
  | 0, _ | 1, _ | 2, _ | 3, _ | 4, _ | 5, _ | 6, _ | 7, _ | 8, _ | 9, _ | 10, _ | 11, _ | 12, _ | 13, _ | 14, _ | 15, _ | 16, _ | 17, _ | 18, _ | 19, _ | 20, _ | 21, _ | 22, _ | 23, _ | 24, _ | 25, _ | 26, _ | 27, _ | 28, _ | 29, _ | 30, _ | 31, _ => decide
  | n + 32, h => omega
theorem hex_tab (k : Nat) (h : k < 16) : (⟨#[48, 49, 50, 51, 52, 53, 54, 55, 56, 57, 97, 98, 99, 100, 101, 102]⟩ : ByteArray)[k]'h = hexC k := by
  match k, h with
  | 0, _ | 1, _ | 2, _ | 3, _ | 4, _ | 5, _ | 6, _ | 7, _ | 8, _ | 9, _ | 10, _ | 11, _ | 12, _ | 13, _ | 14, _ | 15, _ => rfl
  | k + 16, h => omega

set_option maxHeartbeats 2000000 in
theorem writeText_calls (B b : Nat) (acc : Bytes) (t : ByteArray) (w : World) (h : Lib.IsBuilderF 47 5 B b (Lib.byteCells acc) w) (hl : acc.length + 6 * t.size + 2 ≤ 140737488355328) (hB : B ≤ w.heap.size) :
    Calls Tryz.prog 35 #[.pointer (some ⟨b, 0, none⟩), .string t] w fun e w' => e = .returned (.tuple #[]) ∧ Wr B b acc (textF t.data.toList) w w' := by
  have HI := hide h
  clear h
  go_enter Tryz.func35, Tryz.ntmps35
  go_wp2_with (go_at_call 95; refine (writeByte B b acc 34 _ (unhide HI) (by omega) hB).mono ?_; rintro e w1 ⟨rfl, hw1⟩; have HW1 := hide hw1; clear hw1)
  go_loopw [10] (fun idx wr => ∃ i : Nat, i ≤ t.size ∧ idx = .int .i64 i ∧ Hid (Wr B b acc ([34] ++ (t.data.toList.take i).flatMap byteF) w wr)) (fun idx _ => t.size - (intOf idx).toNat)
  case atStart => exact ⟨0, by omega, rfl, unhide HW1⟩
  case round =>
    obtain ⟨i, hi, rfl, HW⟩ := hrel
    have hlen : (acc ++ ([34] ++ (t.data.toList.take i).flatMap byteF)).length ≤ acc.length + 6 * i + 1 := by
      have := flat_len (t.data.toList.take i)
      have h2 : (t.data.toList.take i).length ≤ i := by simp; omega
      simp only [List.length_append, List.length_cons, List.length_nil]
      omega
    have hBr := (unhide HW).lt hB
    obtain ⟨A, hA⟩ : ∃ A, acc ++ ([34] ++ (t.data.toList.take i).flatMap byteF) = A := ⟨_, rfl⟩
    have hI := (unhide HW).1
    rw [hA] at hI hlen
    have HIA := hide hI
    have HA := hide hA
    clear hI hA
    by_cases hlt : i < t.size
    · have hlti : (i : Int) < (t.size : Int) := by omega
      have hstep : (t.data.toList.take (i + 1)).flatMap byteF = (t.data.toList.take i).flatMap byteF ++ byteF t[i] := by
        rw [List.take_add_one, List.flatMap_append, List.getElem?_eq_getElem (by simpa using hlt)]
        simp
        rfl
      have HST := hide hstep
      clear hstep
      have hl7 : A.length + 7 ≤ 140737488355328 := by omega
      have hnext : ∀ w2, Wr B b A (byteF t[i]) wr w2 → Wr B b acc ([34] ++ (t.data.toList.take (i + 1)).flatMap byteF) w w2 := by
        intro w2 h2
        rw [unhide HST, ← List.append_assoc]
        exact (unhide HW).trans (by rw [unhide HA]; exact h2)
      have HNX := hide hnext
      clear hnext HST HW HA hlen
      by_cases hq : t[i].toNat = 34 ∨ t[i].toNat = 92
      · have hbf : byteF t[i] = [92] ++ [t[i]] := by unfold byteF; rw [if_pos hq]; rfl
        have HBF := hide hbf
        rcases hq with hq | hq
        · have hc : t[i] = 34 := UInt8.toNat.inj hq
          have HCC := hide hc
          clear hbf hc
          go_wp2_with (go_at_call 95; refine (writeByte B b A 92 _ (unhide HIA) (by omega) hBr).mono ?_)
          rintro e w2 ⟨rfl, hw2⟩
          have HW2 := hide hw2
          have hB2 := hw2.lt hBr
          clear hw2
          go_wp2_with (go_at_call 95; refine (writeByte B b (A ++ [92]) 34 _ (unhide HW2).1 (by simp; omega) hB2).mono ?_; rintro e w3 ⟨rfl, hw3⟩; have HW3 := hide hw3; clear hw3)
          go_roundw
          case rel => exact ⟨i + 1, by omega, by go_num, unhide HNX _ (by rw [unhide HBF, unhide HCC]; exact (unhide HW2).trans (unhide HW3))⟩
          case measure => simp [intOf]; omega
        · have hc : t[i] = 92 := UInt8.toNat.inj hq
          have HCC := hide hc
          clear hbf hc
          go_wp2_with (go_at_call 95; refine (writeByte B b A 92 _ (unhide HIA) (by omega) hBr).mono ?_)
          rintro e w2 ⟨rfl, hw2⟩
          have HW2 := hide hw2
          have hB2 := hw2.lt hBr
          clear hw2
          go_wp2_with (go_at_call 95; refine (writeByte B b (A ++ [92]) 92 _ (unhide HW2).1 (by simp; omega) hB2).mono ?_; rintro e w3 ⟨rfl, hw3⟩; have HW3 := hide hw3; clear hw3)
          go_roundw
          case rel => exact ⟨i + 1, by omega, by go_num, unhide HNX _ (by rw [unhide HBF, unhide HCC]; exact (unhide HW2).trans (unhide HW3))⟩
          case measure => simp [intOf]; omega
      · by_cases h32 : t[i].toNat < 32
        · have g1 : ((t[i].toNat : Int) == 34) = false := by simp; omega
          have g2 : ((t[i].toNat : Int) == 92) = false := by simp; omega
          have g3 : decide ((t[i].toNat : Int) < 32) = true := by simp; omega
          have hand : bits .and .u8 (t[i].toNat : Int) 15 = ((t[i].toNat % 16 : Nat) : Int) := and15 _ h32
          have hbf : byteF t[i] = ([92, 117, 48, 48] ++ [hexC (t[i].toNat / 16)]) ++ [hexC (t[i].toNat % 16)] := by unfold byteF; rw [if_neg hq, if_pos h32]; rfl
          have HBF := hide hbf
          have hx1 := hex_tab (t[i].toNat / 16) (by omega)
          have hx2 := hex_tab (t[i].toNat % 16) (by omega)
          have HX1 := hide hx1
          have HX2 := hide hx2
          clear hq hbf hx1 hx2
          go_wp2_with (go_at_call 33; refine (writeString B b A ⟨#[92, 117, 48, 48]⟩ _ (unhide HIA) (by show A.length + 4 ≤ _; omega) hBr).mono ?_; rintro e w2 ⟨rfl, hw2⟩; have HW2 := hide hw2; have hB2 := hw2.lt hBr; clear hw2)
          rw [unhide HX1]
          refine (writeByte B b (A ++ [92, 117, 48, 48]) (hexC (t[i].toNat / 16)) _ (unhide HW2).1 (by simp; omega) hB2).mono ?_
          rintro e w3 ⟨rfl, hw3⟩
          have HW3 := hide ((unhide HW2).trans hw3)
          have hB3 := hw3.lt hB2
          clear hw3
          go_wp2_with (go_at_call 95; rw [unhide HX2]; refine (writeByte B b (A ++ ([92, 117, 48, 48] ++ [hexC (t[i].toNat / 16)])) (hexC (t[i].toNat % 16)) _ (unhide HW3).1 (by simp; omega) hB3).mono ?_; rintro e w4 ⟨rfl, hw4⟩; have HW4 := hide ((unhide HW3).trans hw4); clear hw4)
          go_roundw
          case rel => exact ⟨i + 1, by omega, by go_num, unhide HNX _ (by rw [unhide HBF]; exact unhide HW4)⟩
          case measure => simp [intOf]; omega
        · have hbf : byteF t[i] = [t[i]] := by unfold byteF; rw [if_neg hq, if_neg h32]
          have HBF := hide hbf
          have g1 : ((t[i].toNat : Int) == 34) = false := by simp; omega
          have g2 : ((t[i].toNat : Int) == 92) = false := by simp; omega
          have g3 : decide ((t[i].toNat : Int) < 32) = false := by simp; omega
          clear hq h32 hbf
          go_wp2_with (go_at_call 95; go_loud (refine (writeByte B b A t[i] _ (unhide HIA) (by omega) hBr).mono ?_; rintro e w2 ⟨rfl, hw2⟩; have HW2 := hide hw2; clear hw2))
          go_roundw
          case rel => exact ⟨i + 1, by omega, by go_num, unhide HNX _ (by rw [unhide HBF]; exact unhide HW2)⟩
          case measure => simp [intOf]; omega
    · have hie : i = t.size := by omega
      subst hie
      have hl1 : A.length + 1 ≤ 140737488355328 := by omega
      have hfin : ∀ w2, Wr B b A [34] wr w2 → Wr B b acc (textF t.data.toList) w w2 := by
        intro w2 h2
        have e : textF t.data.toList = ([34] ++ (t.data.toList.take t.size).flatMap byteF) ++ [34] := by
          rw [List.take_of_length_le (by simp)]; rfl
        rw [e]
        exact (unhide HW).trans (by rw [unhide HA]; exact h2)
      have HFI := hide hfin
      clear hfin HW HA hlen
      go_wp2_with (go_at_call 95; refine (writeByte B b A 34 _ (unhide HIA) hl1 hBr).mono ?_; rintro e w2 ⟨rfl, hw2⟩; have HW2 := hide hw2; clear hw2)
      go_end0
      exact ⟨rfl, unhide HFI _ (unhide HW2)⟩
end Go.Proofs.YtgaddifabjoliaaGreatDoor
