import Derived.Test.YtgaddifabjoliaaDoorSched
import Derived.Deep.Light
namespace Go.Proofs.YtgaddifabjoliaaDoor
open Go.RowKit

def hexA : List UInt8 := [48, 49, 50, 51, 52, 53, 54, 55, 56, 57, 97, 98, 99, 100, 101, 102]
def hexd (n : Nat) : UInt8 := hexA.getD n 0
def hexF : List UInt8 → List UInt8
  | [] => []
  | b :: l => hexd (b.toNat / 16) :: hexd (b.toNat % 16) :: hexF l
theorem hexF_append (a b : List UInt8) : hexF (a ++ b) = hexF a ++ hexF b := by
  induction a with
  | nil => rfl
  | cons x a ih => simp [hexF, ih]
theorem hexF_length (l : List UInt8) : (hexF l).length = 2 * l.length := by
  induction l with
  | nil => rfl
  | cons x a ih => simp [hexF, ih]; omega

theorem hex_cut (p : Nat) (hp : p < 16) : ((ByteArray.mk #[48, 49, 50, 51, 52, 53, 54, 55, 56, 57, 97, 98, 99, 100, 101, 102]).extract p (p + 1)) = ⟨#[hexd p]⟩ := by
  have : ∀ p : Fin 16, ((ByteArray.mk #[48, 49, 50, 51, 52, 53, 54, 55, 56, 57, 97, 98, 99, 100, 101, 102]).extract p.val (p.val + 1)) = ⟨#[hexd p.val]⟩ := by decide +kernel
  exact this ⟨p, hp⟩

set_option maxHeartbeats 1000000 in
theorem hex_any (s : ByteArray) (w : World) (hs : s.size < 2 ^ 40) :
    Calls Tryd.prog 12 #[.string s] w fun e w' => e = .returned (.string ⟨(hexF s.data.toList).toArray⟩) ∧ Below w.heap.size w w' := by
  go_enter Tryd.func12, Tryd.ntmps12
  go_wp2
  go_loopw [4, 5] (fun out i wr => ∃ (k : Nat) (got : ByteArray), k ≤ s.size ∧ i = .int .i64 (k : Int) ∧ out = .string got ∧ got.size = 2 * k ∧ Hid (got = ⟨(hexF (s.data.toList.take k)).toArray⟩) ∧ Below w.heap.size w wr) (fun _ i _ => s.size - (intOf i).toNat)
  case atStart => exact ⟨0, _, by omega, rfl, rfl, rfl, rfl, Below.refl _ _⟩
  case round =>
    obtain ⟨k, got, hk, rfl, rfl, hgl, hgot, hb⟩ := hrel
    by_cases hlt : k < s.size
    · have hx := UInt8.toNat_lt s[k]
      have hts : s.data.toList.take (k + 1) = s.data.toList.take k ++ [s[k]] := by
        rw [List.take_succ_eq_append_getElem (by simpa using hlt)]; rfl
      have HTS := hide hts
      clear hts
      have c1 := hex_cut (s[k].toNat / 16) (by omega)
      have c2 := hex_cut (s[k].toNat % 16) (by omega)
      go_wp2
      go_quiet (fail)
      go_wp2
      go_roundw
      case rel =>
        refine ⟨k + 1, _, by omega, by go_num, rfl, ?_, ?_, below_drewN hb _⟩
        · go_light
          simp [ByteArray.size_append, hgl]
          have e1 : (ByteArray.mk #[hexd (s[k].toNat / 16)]).size = 1 := rfl
          have e2 : (ByteArray.mk #[hexd (s[k].toNat % 16)]).size = 1 := rfl
          omega
        · show _ = _
          rw [unhide HTS, hexF_append, unhide hgot]
          apply ByteArray.ext
          simp [ByteArray.data_append, hexF]
      case measure => (go_light; simp [intOf]; omega)
    · have hke : k = s.size := by omega
      have hg2 := unhide hgot
      rw [hke, List.take_of_length_le (by simp)] at hg2
      have HG := hide hg2
      clear hg2 hgot hgl
      go_wp2
      go_ret
      rw [← unhide HG]
      exact ⟨rfl, hb⟩
end Go.Proofs.YtgaddifabjoliaaDoor
