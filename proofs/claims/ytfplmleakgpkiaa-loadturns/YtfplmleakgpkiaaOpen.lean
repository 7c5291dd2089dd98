/-
  What came in, opened: a list of notes, a note by value, bytes.
-/
import Derived.Test.YtfplmleakgpkiaaFrame
import Derived.WalkKit
import Derived.ProofKit
import Derived.OpenShut
import Derived.Below
import Derived.Carry
import Derived.Deep.Slices
import Derived.Deep.Strs
import Derived.Lib.SmallJoins
set_option linter.unusedVariables false
set_option linter.unusedSimpArgs false
namespace Go.Proofs.Ytfplmleakgpkiaa
open Go.ChangeShapes Go.WideShapes Go.ChangeAt Go.RowKit Go.Deep Go.Joins

theorem own : ownKnob Try.prog.godebug = none := by kernel_rfl
theorem laidOut : laidOutB Try.prog = true := by kernel_rfl
theorem cells29 : Try.prog.cellsOf 29 = 3 := by kernel_rfl
theorem cells22 : Try.prog.cellsOf 22 = 1 := by kernel_rfl
theorem cells3 : Try.prog.cellsOf 3 = 1 := by kernel_rfl
theorem cells5 : Try.prog.cellsOf 5 = 1 := by kernel_rfl
theorem note_cells {H : Type} {enc : TypeId × Value → H} {w : World} {base : Nat} {spare : Nat → Bool} {held : Bool} {n : Nat} {a : Addr} {cs : List Value} {y : DataW H × List MemPlace}
    (hc : w.cells? base a 3 = some cs) (h : DataW.trod enc Try.prog w base spare held n 29 cs = some y) :
    ∃ t : T, w.cell? a = some (.int .i64 t.a) ∧ w.cell? (a.add 1) = some (.int .i64 t.b) ∧ w.cell? (a.add 2) = some (.int .i64 t.c) := by
  obtain ⟨_, hl, hat⟩ := World.cells?_some hc
  obtain ⟨y0, y1, y2, m, _, _, h0, h1, h2⟩ := trod_struct3 Try.underlying29 h
  match cs, hl with
  | [c0, c1, c2], _ =>
    obtain ⟨A, e0, _, _⟩ := DataW.trod_int Try.underlying3 h0
    obtain ⟨S, e1, _, _⟩ := DataW.trod_int Try.underlying3 h1
    obtain ⟨P, e2, _, _⟩ := DataW.trod_int Try.underlying3 h2
    simp [cells3] at e0 e1 e2
    subst e0 e1 e2
    have k0 := hat 0 (by omega)
    have k1 := hat 1 (by omega)
    have k2 := hat 2 (by omega)
    refine ⟨⟨A, S, P⟩, ?_, ?_, ?_⟩
    · simpa [Addr.add] using k0
    · simpa using k1
    · simpa using k2
theorem getD_range {α : Type} (f : Nat → α) (d : α) (n i : Nat) (h : i < n) : ((List.range n).map f).getD i d = f i := by
  simp [List.getD_eq_getElem?_getD, h]
theorem has_of_trod {H : Type} {enc : TypeId × Value → H} {w : World} {base : Nat} {spare : Nat → Bool} {held : Bool} {fuel : Nat} {cs : List Value} {y : DataW H × List MemPlace}
    (h : DataW.trod enc Try.prog w base spare held fuel 22 cs = some y) : ∃ a len cap, cs = [.slice a len cap] ∧ len ≤ cap ∧ ∃ l : List T, l.length = len ∧ Has nof w a l := by
  rcases open_slice Try.underlying22 h with ⟨rfl, _⟩ | ⟨x, len, cap, m, n, D, Pl, rfl, _, hl, _, hm, _, hi⟩
  · exact ⟨none, 0, 0, rfl, Nat.le_refl _, [], rfl, .inl rfl⟩
  refine ⟨some x, len, cap, rfl, hl, ?_⟩
  have hle : len ≤ m := by rw [hm]; split <;> omega
  have key : ∀ i, i < len → ∃ t : T, w.cell? (x.add (i * 3)) = some (.int .i64 t.a) ∧ w.cell? (x.add (i * 3 + 1)) = some (.int .i64 t.b) ∧ w.cell? (x.add (i * 3 + 2)) = some (.int .i64 t.c) := by
    intro i hil
    obtain ⟨cs', hc, ht⟩ := hi i (by omega)
    rw [cells29] at hc
    obtain ⟨t, k0, k1, k2⟩ := note_cells hc ht
    rw [add_add] at k1 k2
    exact ⟨t, k0, k1, k2⟩
  obtain ⟨f, hf⟩ := choose_lt key
  refine ⟨(List.range len).map f, by simp, ?_⟩
  by_cases h0 : len = 0
  · subst h0; exact .inl rfl
  obtain ⟨b, off, spot⟩ := x
  have hspot : spot = none := by
    have k := (hf 0 (by omega)).1
    simpa [Addr.add] using World.cell?_spot k
  subst hspot
  refine .inr ⟨b, off, rfl, fun e => e, fun i hi' => ?_⟩
  have hi2 : i < len := by simpa using hi'
  rw [getD_range f default len i hi2]
  have k := hf i hi2
  rw [add_plain, add_plain, add_plain] at k
  exact k
theorem notes_of {H : Type} {enc : TypeId × Value → H} {w : World} {a : Option Addr} {len cap : Nat} {d : DataW H} {p : List MemPlace}
    (h : DataW.Trod enc Try.prog w 0 (fun _ => true) true 22 (.slice a len cap) d p) : len ≤ cap ∧ ∃ l : List T, l.length = len ∧ Has nof w a l := by
  obtain ⟨fuel, hf⟩ := h
  obtain ⟨a', len', cap', e, h1, h2⟩ := has_of_trod hf
  simp [Value.cells] at e
  obtain ⟨rfl, rfl, rfl⟩ := e
  exact ⟨h1, h2⟩
/-- A note by value, opened. -/
theorem open_note {H : Type} {enc : TypeId × Value → H} {w : World} {base : Nat} {spare : Nat → Bool} {held : Bool} {r : Reach} {b0 : Nat} {v : Value} {d : DataW H} {p : List MemPlace}
    (hv : Value.okWide Try.prog w r b0 29 v) (h : DataW.Trod enc Try.prog w base spare held 29 v d p) :
    ∃ t : T, v = .agg #[.int .i64 t.a, .int .i64 t.b, .int .i64 t.c] := by
  obtain ⟨c0, c1, c2, y0, y1, y2, m, rfl, rfl, rfl, hy0, hy1, hy2⟩ := open_agg3 Try.underlying29 (by kernel_rfl) cells29 hv h
  obtain ⟨a, e0, rfl, wa⟩ := DataW.trod_int Try.underlying3 hy0
  obtain ⟨s, e1, rfl, ws⟩ := DataW.trod_int Try.underlying3 hy1
  obtain ⟨q, e2, rfl, wq⟩ := DataW.trod_int Try.underlying3 hy2
  simp at e0 e1 e2
  subst e0 e1 e2
  exact ⟨⟨a, s, q⟩, rfl⟩
/-- A slice of bytes that came in. -/
def IsBytes (w : World) (b : Option Addr) (m : Nat) : Prop := m = 0 ∨ ∃ g off, b = some ⟨g, off, none⟩ ∧ ∀ i, i < m → ∃ x : Int, 0 ≤ x ∧ x ≤ 255 ∧ w.cell? ⟨g, off + i, none⟩ = some (.int .u8 x)
theorem bytes_of {H : Type} {enc : TypeId × Value → H} {w : World} {a : Option Addr} {len cap : Nat} {d : DataW H} {p : List MemPlace}
    (h : DataW.Trod enc Try.prog w 0 (fun _ => true) true 44 (.slice a len cap) d p) : IsBytes w a len := by
  obtain ⟨fuel, hf⟩ := h
  rcases open_slice1 Try.underlying44 cells5 hf with ⟨hcs, _⟩ | ⟨x, l, c, m, n, V, D, Pl, hcs, _, hl, _, hm, _, hi⟩
  · simp [Value.cells] at hcs
    exact .inl hcs.2.1
  simp [Value.cells] at hcs
  obtain ⟨rfl, rfl, rfl⟩ := hcs
  have key : ∀ i, i < len → ∃ y : Int, 0 ≤ y ∧ y ≤ 255 ∧ w.cell? (x.add i) = some (.int .u8 y) := by
    intro i hil
    obtain ⟨h1, h2⟩ := hi i (by simp at hm; omega)
    obtain ⟨y, e, _, hw⟩ := DataW.trod_int Try.underlying5 h2
    simp at e
    have hr : 0 ≤ y ∧ y ≤ 255 := by
      have hw2 := hw
      have e1 : IntKind.u8.min = 0 := rfl
      have e2 : IntKind.u8.max = 255 := rfl
      simp [Lit.wf] at hw2
      omega
    exact ⟨y, hr.1, hr.2, by rw [h1, e]⟩
  by_cases h0 : len = 0
  · exact .inl h0
  obtain ⟨b, off, spot⟩ := x
  have hspot : spot = none := by
    obtain ⟨y, _, _, k⟩ := key 0 (by omega)
    simpa [Addr.add] using World.cell?_spot k
  subst hspot
  refine .inr ⟨b, off, rfl, fun i hi' => ?_⟩
  obtain ⟨y, h1, h2, k⟩ := key i hi'
  rw [add_plain] at k
  exact ⟨y, h1, h2, k⟩
/-- How long the data of a list of notes is. -/
theorem notes_len {H : Type} {enc : TypeId × Value → H} {w : World} {a : Option Addr} {len cap : Nat} {d : DataW H} {p : List MemPlace}
    (h : DataW.Trod enc Try.prog w 0 (fun _ => true) true 22 (.slice a len cap) d p) : len = 0 ∨ ∃ elems spare, d = .slice elems spare ∧ elems.length = len := by
  obtain ⟨fuel, hf⟩ := h
  rcases open_slice Try.underlying22 hf with ⟨hcs, hd⟩ | ⟨x, l, c, m, n, D, Pl, hcs, hx, hl, hq, hm, hr, hi⟩
  · simp [Value.cells] at hcs
    exact .inl hcs.2.1
  · simp [Value.cells] at hcs
    obtain ⟨rfl, rfl, rfl⟩ := hcs
    injection hr with h1 h2
    exact .inr ⟨_, _, h1, by simp⟩
end Go.Proofs.Ytfplmleakgpkiaa
