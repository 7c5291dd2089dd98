/-
  What came in, opened: a list of ticks.
-/
import Derived.Test.YtdoceldofkaapaaGreatDoorXak
import Derived.Test.YtdoceldofkaapaaGreatDoorLawH
set_option linter.unusedVariables false
set_option linter.unusedSimpArgs false
namespace Go.Proofs.YtdoceldofkaapaaGreatDoor
open Go.ChangeShapes Go.WideShapes Go.ChangeAt Go.RowKit Go.Deep
set_option maxRecDepth 100000 in
theorem ticks_of {H : Type} {enc : TypeId × Value → H} {w : World} {a : Option Addr} {len cap : Nat} {d : DataW H} {p : List MemPlace}
    (h : DataW.Trod enc Tryz.prog w 0 (fun _ => true) true 81 (.slice a len cap) d p) : len ≤ cap ∧ ∃ l : List Int, l.length = len ∧ (∀ u ∈ l, Tk u) ∧ Lies nof w a (encU l) := by
  obtain ⟨fuel, hf⟩ := h
  rcases open_slice Tryz.underlying81 hf with ⟨hcs, _⟩ | ⟨x, l, c, m, n, D, Pl, hcs, _, hl, _, hm, _, hi⟩
  · simp [Value.cells] at hcs
    obtain ⟨rfl, rfl, rfl⟩ := hcs
    exact ⟨Nat.le_refl _, [], rfl, (fun u hu => by simp at hu), .inl rfl⟩
  simp [Value.cells] at hcs
  obtain ⟨rfl, rfl, rfl⟩ := hcs
  have hle : len ≤ m := by rw [hm]; split <;> omega
  obtain ⟨l9, hl2, hl4, hl3⟩ := lies_of (w := w) (x := x) (len := len) (fun x : Int => [.int .u64 x]) Tk 1 (by decide) (fun _ => rfl) (fun i hil => by
    obtain ⟨cs', hc, ht⟩ := hi i (by omega)
    rw [cells23] at hc
    obtain ⟨_, hl', hat⟩ := World.cells?_some hc
    match cs', hl' with
    | [c0], _ =>
      obtain ⟨A, e0, _, hA⟩ := DataW.trod_int Tryz.underlying22 ht
      simp at e0
      subst e0
      refine ⟨A, bounds_u64 hA, fun j hj => ?_⟩
      have k := hat j hj
      rw [add_add] at k
      exact k)
  exact ⟨hl, l9, hl2, hl4, hl3⟩
end Go.Proofs.YtdoceldofkaapaaGreatDoor
