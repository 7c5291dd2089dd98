/-
  What came in, opened: a list of acts.
-/
import Derived.Test.YtdeiknfaehpheaaFrame
import Derived.WalkKit
import Derived.ProofKit
import Derived.OpenShut
import Derived.Below
import Derived.Carry
import Derived.Deep.Slices
import Derived.Deep.Strs
import Derived.Lib.SmallJoins
namespace Go.Proofs.Ytdeiknfaehpheaa
open Go.ChangeShapes Go.WideShapes Go.ChangeAt Go.RowKit Go.Deep Go.Joins

theorem own : ownKnob Try.prog.godebug = none := by kernel_rfl
theorem laidOut : laidOutB Try.prog = true := by kernel_rfl
theorem cells33 : Try.prog.cellsOf 33 = 3 := by kernel_rfl
theorem cells3 : Try.prog.cellsOf 3 = 1 := by kernel_rfl
theorem getD_range {α : Type} (f : Nat → α) (n i : Nat) (h : i < n) : ((List.range n).map f)[i]? = some (f i) := by simp [h]
theorem ac_cells {H : Type} {enc : TypeId × Value → H} {w : World} {base : Nat} {spare : Nat → Bool} {held : Bool} {n : Nat} {c0 c1 c2 : Value} {y : DataW H × List MemPlace}
    (h : DataW.trod enc Try.prog w base spare held n 33 [c0, c1, c2] = some y) : ∃ t : Ac, c0 = .int .i64 t.k ∧ c1 = .int .i64 t.a ∧ c2 = .int .i64 t.b := by
  obtain ⟨y0, y1, y2, m, _, _, h0, h1, h2⟩ := trod_struct3 Try.underlying33 h
  obtain ⟨A, e0, _, _⟩ := DataW.trod_int Try.underlying3 h0
  obtain ⟨B, e1, _, _⟩ := DataW.trod_int Try.underlying3 h1
  obtain ⟨C, e2, _, _⟩ := DataW.trod_int Try.underlying3 h2
  simp [cells3] at e0 e1 e2
  exact ⟨⟨A, B, C⟩, e0, e1, e2⟩
/-- A slice whose elements are read by a law lies there. -/
theorem lies_of {α : Type} [Inhabited α] {w : World} (f : α → List Value) (s : Nat) (hs : 0 < s) (hf : ∀ a, (f a).length = s) {x : Addr} {len : Nat}
    (key : ∀ i, i < len → ∃ t : α, ∀ j, j < s → w.cell? (x.add (i * s + j)) = (f t)[j]?) : ∃ l : List α, l.length = len ∧ Lies nof w (some x) (l.flatMap f) := by
  obtain ⟨g, hg⟩ := choose_lt key
  refine ⟨(List.range len).map g, by simp, ?_⟩
  by_cases h0 : len = 0
  · subst h0; exact .inl rfl
  obtain ⟨b, off, spot⟩ := x
  have hspot : spot = none := by
    have k := hg 0 (by omega) 0 hs
    have hlt : 0 < (f (g 0)).length := by rw [hf]; exact hs
    rw [List.getElem?_eq_getElem hlt] at k
    simpa [Addr.add] using World.cell?_spot k
  subst hspot
  refine .inr ⟨b, off, rfl, fun e => e, fun j u hu => ?_⟩
  have hlen : (((List.range len).map g).flatMap f).length = len * s := by
    have : ∀ l : List α, (l.flatMap f).length = l.length * s := fun l => by
      induction l with
      | nil => simp
      | cons y r ih => rw [List.flatMap_cons, List.length_append, ih, hf, List.length_cons, Nat.add_mul]; omega
    rw [this]
    simp
  have hj : j < len * s := by rw [← hlen]; exact (List.getElem?_eq_some_iff.1 hu).1
  have hi : j / s < len := Nat.div_lt_of_lt_mul (by rw [Nat.mul_comm]; exact hj)
  have hjs : j % s < s := Nat.mod_lt _ hs
  have ej : j / s * s + j % s = j := by rw [Nat.mul_comm]; exact Nat.div_add_mod j s
  have k := hg (j / s) hi (j % s) hjs
  have k2 := flat_get f s hf ((List.range len).map g) (j / s) (j % s) (g (j / s)) (getD_range g len _ hi) hjs
  rw [ej] at k k2
  rw [add_plain] at k
  rw [k, ← k2]
  exact hu
theorem acts_of {H : Type} {enc : TypeId × Value → H} {w : World} {a : Option Addr} {len cap : Nat} {d : DataW H} {p : List MemPlace}
    (h : DataW.Trod enc Try.prog w 0 (fun _ => true) true 22 (.slice a len cap) d p) : len ≤ cap ∧ ∃ l : List Ac, l.length = len ∧ Lies nof w a (encA l) := by
  obtain ⟨fuel, hf⟩ := h
  rcases open_slice Try.underlying22 hf with ⟨hcs, _⟩ | ⟨x, l, c, m, n, D, Pl, hcs, _, hl, _, hm, _, hi⟩
  · simp [Value.cells] at hcs
    obtain ⟨rfl, rfl, rfl⟩ := hcs
    exact ⟨Nat.le_refl _, [], rfl, .inl rfl⟩
  simp [Value.cells] at hcs
  obtain ⟨rfl, rfl, rfl⟩ := hcs
  have hle : len ≤ m := by rw [hm]; split <;> omega
  refine ⟨hl, lies_of (fun a : Ac => [.int .i64 a.k, .int .i64 a.a, .int .i64 a.b]) 3 (by decide) (fun _ => rfl) (fun i hil => ?_)⟩
  obtain ⟨cs', hc, ht⟩ := hi i (by omega)
  rw [cells33] at hc
  obtain ⟨_, hl', hat⟩ := World.cells?_some hc
  match cs', hl' with
  | [c0, c1, c2], _ =>
    obtain ⟨t, rfl, rfl, rfl⟩ := ac_cells ht
    refine ⟨t, fun j hj => ?_⟩
    have k := hat j hj
    rw [add_add] at k
    exact k
end Go.Proofs.Ytdeiknfaehpheaa
