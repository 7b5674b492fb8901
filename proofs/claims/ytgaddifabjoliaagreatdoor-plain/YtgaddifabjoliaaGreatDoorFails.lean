import Derived.Test.YtgaddifabjoliaaGreatDoorOneOf
import Derived.Test.YtgaddifabjoliaaGreatDoorBlank
namespace Go.Proofs.YtgaddifabjoliaaGreatDoor
open Go.RowKit

theorem cells_three (w : World) (x y z : Value) (T U V : TypeId) :
    (((w.alloc (.cells #[x] T)).alloc (.cells #[y] U)).alloc (.cells #[z] V)).cell? ⟨w.heap.size, 0, none⟩ = some x ∧
    (((w.alloc (.cells #[x] T)).alloc (.cells #[y] U)).alloc (.cells #[z] V)).cell? ⟨w.heap.size + 1, 0, none⟩ = some y ∧
    (((w.alloc (.cells #[x] T)).alloc (.cells #[y] U)).alloc (.cells #[z] V)).cell? ⟨w.heap.size + 1 + 1, 0, none⟩ = some z := by
  refine ⟨?_, ?_, ?_⟩
  · rw [World.cell?_alloc_past _ _ _ (by simp; omega)]
    simp
  · rw [World.cell?_alloc_past _ _ _ (by simp)]
    simp
  · rw [World.cell?_alloc_at _ _ _ _ (by simp)]
    rfl

theorem mf : ∀ (fn : Fn) (first cap : Array Value) (w : World), (Instr.makeFunc fn first cap).run Tryz.prog w = .ok (.func fn first cap) w := fun _ _ _ _ => rfl

theorem fail_int64 (w : World) : Calls Tryz.prog 113 #[] w fun e w' => e = .returned (.tuple #[.int .i64 0, .string ⟨#[]⟩, .bool false]) ∧ w' = w := by
  go_enter Tryz.func113, Tryz.ntmps113
  go_wp2
  go_ret3
  exact ⟨rfl, rfl⟩

theorem fail_text (w : World) : Calls Tryz.prog 104 #[] w fun e w' => e = .returned (.tuple #[.string ⟨#[]⟩, .string ⟨#[]⟩, .bool false]) ∧ w' = w := by
  go_enter Tryz.func104, Tryz.ntmps104
  go_wp2
  go_ret3
  exact ⟨rfl, rfl⟩

theorem fail_runes (w : World) : Calls Tryz.prog 106 #[] w fun e w' => e = .returned (.tuple #[.slice none 0 0, .string ⟨#[]⟩, .bool false]) ∧ w' = w := by
  go_enter Tryz.func106, Tryz.ntmps106
  go_wp2
  go_ret3
  exact ⟨rfl, rfl⟩

theorem fail_values (w : World) : Calls Tryz.prog 119 #[] w fun e w' => e = .returned (.tuple #[.slice none 0 0, .string ⟨#[]⟩, .bool false]) ∧ w' = w := by
  go_enter Tryz.func119, Tryz.ntmps119
  go_wp2
  go_ret3
  exact ⟨rfl, rfl⟩

theorem fail_members (w : World) : Calls Tryz.prog 127 #[] w fun e w' => e = .returned (.tuple #[.slice none 0 0, .string ⟨#[]⟩, .bool false]) ∧ w' = w := by
  go_enter Tryz.func127, Tryz.ntmps127
  go_wp2
  go_ret3
  exact ⟨rfl, rfl⟩

end Go.Proofs.YtgaddifabjoliaaGreatDoor
