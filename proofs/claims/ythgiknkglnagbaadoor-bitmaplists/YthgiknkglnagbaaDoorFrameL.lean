/-
  Numbers in a slice that came in, opened.
-/
import Derived.Test.YthgiknkglnagbaaDoorFrame
import Derived.Deep.Slices
namespace Go.Proofs.YthgiknkglnagbaaDoor
open Go.ChangeShapes Go.WideShapes Go.ChangeAt Go.RowKit

theorem ints_of {H : Type} {enc : TypeId × Value → H} {w : World} {a : Option Addr} {len cap : Nat} {d : DataW H} {p : List MemPlace}
    (h : DataW.Trod enc Tryd.prog w 0 (fun _ => true) true 30 (.slice a len cap) d p) : ∃ L : Nat → Int, Ints w a len L := by
  obtain ⟨fuel, hf⟩ := h
  rcases open_ints Tryd.underlying30 Tryd.underlying3 cells3 hf with ⟨hcs, _⟩ | ⟨x, l, c, zs, hcs, _, hlc, _, hzl, _, hcell, _⟩
  · simp [Value.cells] at hcs
    exact ⟨fun _ => 0, .inl hcs.2.1⟩
  · simp [Value.cells] at hcs
    obtain ⟨rfl, rfl, rfl⟩ := hcs
    by_cases h0 : len = 0
    · exact ⟨fun _ => 0, .inl h0⟩
    · obtain ⟨b, off, spot⟩ := x
      simp only [if_true] at hzl
      have hs : spot = none := by
        have := hcell 0 (by omega)
        simpa [Addr.add] using World.cell?_spot this
      subst hs
      refine ⟨fun i => zs.getD i 0, .inr ⟨b, off, rfl, fun i hi => ?_⟩⟩
      have := hcell i (by omega)
      by_cases hi0 : i = 0
      · subst hi0
        simpa [Addr.add] using this
      · simpa [Addr.add, hi0] using this
end Go.Proofs.YthgiknkglnagbaaDoor
