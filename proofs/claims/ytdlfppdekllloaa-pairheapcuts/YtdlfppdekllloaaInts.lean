/-
  A law's slice of integers, and what it is outside.
-/
import Derived.Test.YtdlfppdekllloaaOpen
set_option linter.unusedVariables false
set_option linter.unusedSimpArgs false
namespace Go.Proofs.Ytdlfppdekllloaa
open Go.ChangeShapes Go.WideShapes Go.ChangeAt Go.RowKit Go.Deep
def encZ (l : List Int) : List Value := l.flatMap fun x => [.int .i64 x]
theorem encZ_len : ∀ l : List Int, (encZ l).length = l.length
  | [] => rfl
  | x :: r => by have := encZ_len r; unfold encZ at this ⊢; rw [List.flatMap_cons, List.length_append, this]; simp; omega
theorem encZ_get (l : List Int) (i : Nat) (x : Int) (h : l[i]? = some x) : (encZ l)[i]? = some (.int .i64 x) := by
  have := flat_get (fun x : Int => [.int .i64 x]) 1 (fun _ => rfl) l i 0 x h (by omega)
  unfold encZ
  simpa using this
theorem row_z {w : World} {b off : Nat} {l : List Int} (h : RowG w b off (encZ l)) {i : Nat} {x : Int} (hx : l[i]? = some x) : w.cell? ⟨b, off + i, none⟩ = some (.int .i64 x) := h _ _ (encZ_get l i x hx)
theorem lies_z {f : Nat → Prop} {w : World} {p : Option Addr} {l : List Int} (h : Lies f w p (encZ l)) {i : Nat} (hi : i < l.length) : ∃ b off, p = some ⟨b, off, none⟩ ∧ ¬ f b ∧ RowG w b off (encZ l) :=
  h.row (fun e => by have := encZ_len l; rw [e] at this; simp at this; omega)
set_option maxRecDepth 100000 in
theorem ints_of {H : Type} {enc : TypeId × Value → H} {w : World} {a : Option Addr} {len cap : Nat} {d : DataW H} {p : List MemPlace}
    (h : DataW.Trod enc Try.prog w 0 (fun _ => true) true 60 (.slice a len cap) d p) : len ≤ cap ∧ ∃ l : List Int, l.length = len ∧ Lies nof w a (encZ l) := by
  obtain ⟨fuel, hf⟩ := h
  rcases open_slice Try.underlying60 hf with ⟨hcs, _⟩ | ⟨x, l, c, m, n, D, Pl, hcs, _, hl, _, hm, _, hi⟩
  · simp [Value.cells] at hcs
    obtain ⟨rfl, rfl, rfl⟩ := hcs
    exact ⟨Nat.le_refl _, [], rfl, .inl rfl⟩
  simp [Value.cells] at hcs
  obtain ⟨rfl, rfl, rfl⟩ := hcs
  have hle : len ≤ m := by rw [hm]; split <;> omega
  obtain ⟨l, hl2, _, hl3⟩ := lies_of (w := w) (x := x) (len := len) (fun x : Int => [.int .i64 x]) (fun _ => True) 1 (by decide) (fun _ => rfl) (fun i hil => by
    obtain ⟨cs', hc, ht⟩ := hi i (by omega)
    rw [cells3] at hc
    obtain ⟨_, hl', hat⟩ := World.cells?_some hc
    match cs', hl' with
    | [c0], _ =>
      obtain ⟨A, e0, _, _⟩ := DataW.trod_int Try.underlying3 ht
      simp at e0
      subst e0
      refine ⟨A, trivial, fun j hj => ?_⟩
      have k := hat j hj
      rw [add_add] at k
      exact k)
  exact ⟨hl, l, hl2, hl3⟩
end Go.Proofs.Ytdlfppdekllloaa
