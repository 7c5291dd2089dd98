/-
  Contracts of a wheel: Base and Looked.
-/
import Derived.Test.YtllohpojajijjaaGreatDoorWact
set_option linter.unusedVariables false
set_option linter.unusedSimpArgs false
namespace Go.Proofs.YtllohpojajijjaaGreatDoor
open Go.RowKit
variable {Q B G R P b : Nat} {s k : Int} {l : List T}
theorem Wh.cellB {w : World} (q : Wh w Q B G R P b s k l) : w.cell? ⟨Q, 3, none⟩ = some (.int .u64 s) := by
  obtain ⟨⟨ls, r, F, q1, q2⟩, q3⟩ := q
  exact q1.cell rfl
theorem base_any (w : World) (q : Wh w Q B G R P b s k l) :
    Calls Tryz.prog 10 #[.pointer (some ⟨Q, 0, none⟩)] w fun e w' => e = .returned (.int .u64 s) ∧ Bel w w' := by
  have c3 := q.cellB
  clear q
  go_enter Tryz.func10, Tryz.ntmps10
  go_wp2
  go_ret
  exact ⟨rfl, Bel.refl _⟩
theorem Wh.cellK {w : World} (q : Wh w Q B G R P b s k l) : w.cell? ⟨Q, 8, none⟩ = some (.int .i64 k) := by
  obtain ⟨⟨ls, r, F, q1, q2⟩, q3⟩ := q
  exact q1.cell rfl
theorem looked_any (w : World) (q : Wh w Q B G R P b s k l) :
    Calls Tryz.prog 11 #[.pointer (some ⟨Q, 0, none⟩)] w fun e w' => e = .returned (.int .i64 k) ∧ Bel w w' := by
  have c3 := q.cellK
  clear q
  go_enter Tryz.func11, Tryz.ntmps11
  go_wp2
  go_ret
  exact ⟨rfl, Bel.refl _⟩
