/-
  What the claims' frames share: bits that came in by value, numbers in a slice that came in, the library's table as its text lays it.
-/
import Derived.Test.YthgiknkglnagbaaDoorWorks
import Derived.ProofKit
import Derived.OpenShut
import Derived.Below
import Derived.Carry
import Derived.LaidMore
import Derived.Stop.Joined
import Derived.Lib.LaidTab
namespace Go.Proofs.YthgiknkglnagbaaDoor
open Go.ChangeShapes Go.WideShapes Go.ChangeAt Go.RowKit

theorem own : ownKnob Tryd.prog.godebug = none := by kernel_rfl
theorem laidOut : laidOutB Tryd.prog = true := by kernel_rfl
theorem cells24 : Tryd.prog.cellsOf 24 = 4 := by kernel_rfl
theorem cells22 : Tryd.prog.cellsOf 22 = 1 := by kernel_rfl
theorem cells3 : Tryd.prog.cellsOf 3 = 1 := by kernel_rfl
theorem cells5 : Tryd.prog.cellsOf 5 = 1 := by kernel_rfl
theorem cells49 : Tryd.prog.cellsOf 49 = 64 := by kernel_rfl
theorem gTab : Tryd.prog.globalNamed "math/bits.deBruijn64tab" = some 0 := by kernel_rfl
theorem tTab : (Tryd.prog.globals[0]?).map (·.type) = some 49 := by kernel_rfl
/-- The one variable that is listed, and what it holds. -/
abbrev laid1 : List (String × DataW Unit) := [("math/bits.deBruijn64tab", Rows.laid_math_bits_deBruijn64tab)]

/-- The door's own heap meets the condition. -/
theorem door_met (os : Os) (args : Array Value) : laidMetH Tryd.prog laid1 ((World.doorLaid Tryd.prog 14 os).forCall (fun _ _ => 0) ⟨#[], args, []⟩).memory :=
  laidMetH_of_parts3 (fuel := 8) (laidMet_of_run' 8 (by kernel_rfl) (by kernel_rfl)) (by kernel_rfl) (by kernel_rfl)
/-- What the condition gives: the table. -/
theorem tab_of_laid {W : World} (h : laidMetH Tryd.prog laid1 W) : Tab W := by
  rw [MakeChecks.laidMetH_plain _ _ _ (by kernel_rfl)] at h
  have h' : laidMet Tryd.prog (("math/bits.deBruijn64tab", Lib.tabData .u8 (Lib.deBruijn64tab.map fun n : Nat => (n : Int))) :: []) W := h
  have hT := Lib.tabIs_of_head gTab tTab Tryd.underlying49 Tryd.underlying5 cells5 cells49 h'
  intro j hj
  have hc := hT.cell gTab j (by simpa [Lib.deBruijn64tab] using hj)
  rw [hc]
  have hl : j < Lib.deBruijn64tab.length := by simpa [Lib.deBruijn64tab] using hj
  simp [List.getD, hl]
/-- Bits by value, opened. -/
theorem open_bits {H : Type} {enc : TypeId × Value → H} {w : World} {base : Nat} {spare : Nat → Bool} {held : Bool} {r : Reach} {b0 : Nat} {v : Value} {d : DataW H} {p : List MemPlace}
    (hv : Value.okWide Tryd.prog w r b0 24 v) (h : DataW.Trod enc Tryd.prog w base spare held 24 v d p) :
    ∃ B : Nat → Nat, Wd B ∧ v = .agg #[.int .u64 (B 0), .int .u64 (B 1), .int .u64 (B 2), .int .u64 (B 3)] := by
  simp only [Value.okWide, Tryd.underlying24] at hv
  obtain ⟨cs, rfl, hsz, _⟩ := hv
  obtain ⟨fuel, hf⟩ := h
  obtain ⟨xs, m, rfl, _, hl, hn, hel⟩ := DataW.trod_array Tryd.underlying24 hf
  obtain ⟨l⟩ := cs
  rw [cells24] at hsz
  have hl4 : l.length = 4 := by simpa using hsz
  have at_ : ∀ i, i < 4 → ∃ x : Nat, x < 18446744073709551616 ∧ l[i]? = some (.int .u64 x) := by
    intro i hi
    have he := hel i hi
    rw [cells22] at he
    have hx : i < xs.length := by omega
    rw [List.getElem?_eq_getElem hx] at he
    obtain ⟨z, e1, _, wz⟩ := DataW.trod_int Tryd.underlying22 he
    have b := bounds_u64 wz
    refine ⟨z.toNat, by omega, ?_⟩
    have hz : ((z.toNat : Nat) : Int) = z := by omega
    rw [hz]
    have := congrArg (·[0]?) e1
    simpa [Value.cells, List.getElem?_take, List.getElem?_drop] using this
  obtain ⟨x0, w0, h0⟩ := at_ 0 (by omega)
  obtain ⟨x1, w1, h1⟩ := at_ 1 (by omega)
  obtain ⟨x2, w2, h2⟩ := at_ 2 (by omega)
  obtain ⟨x3, w3, h3⟩ := at_ 3 (by omega)
  refine ⟨w4 x0 x1 x2 x3, w4_wd w0 w1 w2 w3, ?_⟩
  match l, hl4, h0, h1, h2, h3 with
  | [a, b, c, d], _, h0, h1, h2, h3 =>
    simp at h0 h1 h2 h3
    subst h0 h1 h2 h3
    rfl
end Go.Proofs.YthgiknkglnagbaaDoor
