/-
  Acts, what they tell and what comes of them, over a plain list; how acts lie in cells; boxes of five cells.
-/
import Derived.Test.YtdlfppdekllloaaActs
import Derived.Test.YtdlfppdekllloaaSame
set_option linter.unusedVariables false
set_option linter.unusedSimpArgs false
namespace Go.Proofs.Ytdlfppdekllloaa
open Go.RowKit
/-- An act. -/
structure Ak where
  k : Int
  t : T
  now : Int
instance : Inhabited Ak := ⟨⟨0, default, 0⟩⟩
/-- What an act tells, and what comes of it. -/
def stE (P : Nat) (l : List T) (a : Ak) : Int := if a.k = 0 then insE P l a.t else if a.k = 1 then canE P l a.t.p else if a.k = 2 then canE P l a.t.p else 0
def stT (l : List T) (a : Ak) : T := if a.k = 1 then (fnd l a.t.p).getD default else default
def stD (l : List T) (a : Ak) : List T := if a.k = 3 then due l a.now true else []
def stL (P : Nat) (l : List T) (a : Ak) : List T := if a.k = 0 then insL P l a.t else if a.k = 1 then wo l a.t.p else if a.k = 2 then movL P l a.t else if a.k = 3 then due l a.now false else l
/-- As values. -/
abbrev akV (k : Int) (t : T) (now : Int) : Value := .agg #[.int .i64 k, .int .u64 t.a, .int .u64 t.s, .int .i64 t.p, .int .u64 now]
abbrev tdV (er : Int) (t : T) (p : Option Addr) (n c : Nat) : Value := .agg #[.int .i64 er, .int .u64 t.a, .int .u64 t.s, .int .i64 t.p, .slice p n c]
theorem box5 {w : World} {T : Nat} {a b c d e : Value} {t : TypeId} (h : w.heap[T]? = some (.cells #[a, b, c, d, e] t (0, 0))) :
    (w.cell? ⟨T, 0, none⟩ = some a ∧ w.cell? ⟨T, 1, none⟩ = some b ∧ w.cell? ⟨T, 2, none⟩ = some c ∧ w.cell? ⟨T, 3, none⟩ = some d ∧ w.cell? ⟨T, 4, none⟩ = some e) ∧ (w.frozen? ⟨T, 0, none⟩ = false ∧ w.frozen? ⟨T, 1, none⟩ = false ∧ w.frozen? ⟨T, 2, none⟩ = false ∧ w.frozen? ⟨T, 3, none⟩ = false ∧ w.frozen? ⟨T, 4, none⟩ = false) := by
  refine ⟨⟨?_, ?_, ?_, ?_, ?_⟩, frozen_of_row w T _ _ t h, frozen_of_row w T _ _ t h, frozen_of_row w T _ _ t h, frozen_of_row w T _ _ t h, frozen_of_row w T _ _ t h⟩ <;> (rw [cell_of_row w T _ _ t (0, 0) h]; rfl)
abbrev sto5 (w : World) (T : Nat) (a b c d e : Value) : World := ((((w.setCell ⟨T, 0, none⟩ a).setCell ⟨T, 1, none⟩ b).setCell ⟨T, 2, none⟩ c).setCell ⟨T, 3, none⟩ d).setCell ⟨T, 4, none⟩ e
theorem offs5 (w : World) (T : Nat) (a b c d e : Value) : Off (fun k => k = T) w (sto5 w T a b c d e) :=
  Off.setCell (p := ⟨T, 4, none⟩) (Off.setCell (p := ⟨T, 3, none⟩) (off3 w T a b c) (.inl rfl) d) (.inl rfl) e
theorem two_new (w : World) (a b : Array Value) (ta tb : TypeId) : ∃ W, (w.alloc (.cells a ta)).alloc (.cells b tb) = W ∧ Bel w W ∧ W.heap.size = w.heap.size + 1 + 1 ∧ W.heap[w.heap.size]? = some (.cells a ta (0, 0)) ∧ W.heap[w.heap.size + 1]? = some (.cells b tb (0, 0)) := by
  refine ⟨_, rfl, ((Bel.refl w).alloc _ _).alloc _ _, by simp, ?_, ?_⟩
  · rw [Below.heap_alloc _ _ _ (by simp), heap_alloc_new]
  · have := heap_alloc_new (w.alloc (.cells a ta)) (.cells b tb)
    simpa using this
def encK (l : List Ak) : List Value := l.flatMap fun a => [.int .i64 a.k, .int .u64 a.t.a, .int .u64 a.t.s, .int .i64 a.t.p, .int .u64 a.now]
theorem encK_len : ∀ l : List Ak, (encK l).length = l.length * 5
  | [] => rfl
  | x :: r => by have := encK_len r; unfold encK at this ⊢; rw [List.flatMap_cons, List.length_append, this]; simp; omega
theorem encK_get (l : List Ak) (i : Nat) (x : Ak) (h : l[i]? = some x) : (encK l)[i * 5]? = some (.int .i64 x.k) ∧ (encK l)[i * 5 + 1]? = some (.int .u64 x.t.a) ∧ (encK l)[i * 5 + 2]? = some (.int .u64 x.t.s) ∧ (encK l)[i * 5 + 3]? = some (.int .i64 x.t.p) ∧ (encK l)[i * 5 + 4]? = some (.int .u64 x.now) :=
  ⟨flat_get _ 5 (fun _ => rfl) l i 0 x h (by omega), flat_get _ 5 (fun _ => rfl) l i 1 x h (by omega), flat_get _ 5 (fun _ => rfl) l i 2 x h (by omega), flat_get _ 5 (fun _ => rfl) l i 3 x h (by omega), flat_get _ 5 (fun _ => rfl) l i 4 x h (by omega)⟩
theorem row_ak {w : World} {b off : Nat} {l : List Ak} (h : RowG w b off (encK l)) {i : Nat} {x : Ak} (hx : l[i]? = some x) : w.cell? ⟨b, off + i * 5, none⟩ = some (.int .i64 x.k) ∧ w.cell? ⟨b, off + i * 5 + 1, none⟩ = some (.int .u64 x.t.a) ∧ w.cell? ⟨b, off + i * 5 + 2, none⟩ = some (.int .u64 x.t.s) ∧ w.cell? ⟨b, off + i * 5 + 3, none⟩ = some (.int .i64 x.t.p) ∧ w.cell? ⟨b, off + i * 5 + 4, none⟩ = some (.int .u64 x.now) :=
  ⟨h _ _ (encK_get l i x hx).1, h _ _ (encK_get l i x hx).2.1, h _ _ (encK_get l i x hx).2.2.1, h _ _ (encK_get l i x hx).2.2.2.1, h _ _ (encK_get l i x hx).2.2.2.2⟩
theorem lies_ak {f : Nat → Prop} {w : World} {p : Option Addr} {l : List Ak} (h : Lies f w p (encK l)) {i : Nat} (hi : i < l.length) : ∃ b off, p = some ⟨b, off, none⟩ ∧ ¬ f b ∧ RowG w b off (encK l) :=
  h.row (fun e => by have := encK_len l; rw [e] at this; simp at this; omega)
end Go.Proofs.Ytdlfppdekllloaa
