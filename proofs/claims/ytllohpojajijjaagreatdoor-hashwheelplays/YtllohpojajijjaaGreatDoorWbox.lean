/-
  What a Min's rounds keep.
-/
import Derived.Test.YtllohpojajijjaaGreatDoorWiv
import Derived.Test.YtllohpojajijjaaGreatDoorWmi
import Derived.Deep.Cut
import Derived.Stop.RegionWithIn
import Derived.Sort.CutIn
import Derived.Sort.QuietIn
set_option linter.unusedVariables false
set_option linter.unusedSimpArgs false
namespace Go.Proofs.YtllohpojajijjaaGreatDoor
open Go.RowKit Go.Shelf
attribute [local go_sem] Oper.semAt_some
/-- The boxes of a Min: that of the queue, that of its answer, and those of the first one so far. -/
structure Sb (w : World) (Q bq b2 D1 D2 : Nat) (x : T) (z : Bool) (W : World) : Prop where
  cq : W.heap[bq]? = some (.cells #[.pointer (some ⟨Q, 0, none⟩)] 25 (0, 0))
  c2 : W.heap[b2]? = some (.cells #[.int .u64 0, .int .u64 0, .int .i64 0] 37 (0, 0))
  d1 : W.heap[D1]? = some (.cells #[.int .u64 x.a, .int .u64 x.s, .int .i64 x.p] 37 (0, 0))
  d2 : W.heap[D2]? = some (.cells #[.bool z] 4 (0, 0))
  ge : w.heap.size ≤ bq ∧ w.heap.size ≤ b2 ∧ w.heap.size ≤ D1 ∧ w.heap.size ≤ D2
  ne : ¬ b2 = D1
  bel : Bel w W
section
variable {w : World} {Q bq b2 D1 D2 : Nat} {x : T} {z : Bool} {W W' : World}
theorem Sb.keep {f : Nat → Prop} (h : Sb w Q bq b2 D1 D2 x z W) (o : Off f W W') (hf : ∀ i, f i → w.heap.size ≤ i ∧ ∀ c t, ¬ W.heap[i]? = some (.cells c t (0, 0))) : Sb w Q bq b2 D1 D2 x z W' := by
  have st : ∀ {i : Nat} {c : Array Value} {t : TypeId}, W.heap[i]? = some (.cells c t (0, 0)) → W'.heap[i]? = some (.cells c t (0, 0)) := fun e => (o.block _ (Array.getElem?_eq_some_iff.1 e).1 (fun hi => (hf _ hi).2 _ _ e)).trans e
  exact ⟨st h.cq, st h.c2, st h.d1, st h.d2, h.ge, h.ne, o.bel h.bel (fun i e => (hf i e).1)⟩
theorem Sb.le (h : Sb w Q bq b2 D1 D2 x z W) (o : Bel W W') : Sb w Q bq b2 D1 D2 x z W' := h.keep o (fun _ e => e.elim)
theorem Sb.own (h : Sb w Q bq b2 D1 D2 x z W) {row : Option Nat} (hg : W.grownBy W' row) (hr : ∀ r, row = some r → w.heap.size ≤ r ∧ ∃ o : Obj, W.heap[r]? = some o ∧ o.isCells = false) : Sb w Q bq b2 D1 D2 x z W' := by
  have o : Off (fun k => row = some k) W W' := Off.grown (Off.refl _ W) hg (fun k e => .inl e)
  refine h.keep o (fun i e => ?_)
  obtain ⟨h1, ob, h2, h3⟩ := hr i e
  refine ⟨h1, fun c t e2 => ?_⟩
  rw [h2] at e2
  cases e2
  cases h3
/-- The first one so far is another one. -/
theorem Sb.turn (h : Sb w Q bq b2 D1 D2 x z W) (y : T) (u : Bool) : Sb w Q bq b2 D1 D2 y u ((((W.setCell ⟨D1, 0, none⟩ (.int .u64 y.a)).setCell ⟨D1, 1, none⟩ (.int .u64 y.s)).setCell ⟨D1, 2, none⟩ (.int .i64 y.p)).setCell ⟨D2, 0, none⟩ (.bool u)) := by
  obtain ⟨g1, g2, g3, g4⟩ := h.ge
  have lt : ∀ {i : Nat} {c : Array Value} {t : TypeId}, W.heap[i]? = some (.cells c t (0, 0)) → i < W.heap.size := fun e => (Array.getElem?_eq_some_iff.1 e).1
  have o1 := off3 W D1 (.int .u64 y.a) (.int .u64 y.s) (.int .i64 y.p)
  have s1 := box3_set (x' := .int .u64 y.a) (y' := .int .u64 y.s) (z' := .int .i64 y.p) h.d1
  generalize ((W.setCell ⟨D1, 0, none⟩ (.int .u64 y.a)).setCell ⟨D1, 1, none⟩ (.int .u64 y.s)).setCell ⟨D1, 2, none⟩ (.int .i64 y.p) = V at *
  have n1 : bq ≠ D1 := ty_ne h.cq h.d1 (by decide)
  have n2 : D2 ≠ D1 := ty_ne h.d2 h.d1 (by decide)
  have n3 : bq ≠ D2 := ty_ne h.cq h.d2 (by decide)
  have n4 : b2 ≠ D2 := ty_ne h.c2 h.d2 (by decide)
  have o2 : Off (fun k => k = D2) V (V.setCell ⟨D2, 0, none⟩ (.bool u)) := Off.setCell (Off.refl (fun k => k = D2) V) (p := ⟨D2, 0, none⟩) (.inl rfl) _
  have d2V := (o1.block D2 (lt h.d2) n2).trans h.d2
  refine ⟨(o2.block bq (by have := o1.size; have := lt h.cq; omega) n3).trans ((o1.block bq (lt h.cq) n1).trans h.cq), (o2.block b2 (by have := o1.size; have := lt h.c2; omega) n4).trans ((o1.block b2 (lt h.c2) h.ne).trans h.c2), (o2.block D1 (by have := o1.size; have := lt h.d1; omega) (fun e => n2 e.symm)).trans s1, ?_, h.ge, h.ne, o2.bel (o1.bel h.bel (fun i e => by subst e; exact g3)) (fun i e => by subst e; exact g4)⟩
  exact heap_setCell_same _ _ 0 _ 4 _ d2V
theorem Sb.turnO (h : Sb w Q bq b2 D1 D2 x z W) (y : T) (u : Bool) : Off (fun i => i = D1 ∨ i = D2) W ((((W.setCell ⟨D1, 0, none⟩ (.int .u64 y.a)).setCell ⟨D1, 1, none⟩ (.int .u64 y.s)).setCell ⟨D1, 2, none⟩ (.int .i64 y.p)).setCell ⟨D2, 0, none⟩ (.bool u)) :=
  Off.setCell (p := ⟨D2, 0, none⟩) ((off3 W D1 _ _ _).mono (fun _ _ e => .inl e)) (.inl (.inr rfl)) _
theorem keeps_of {f : Nat → Prop} (o : Off f W W') (hf : ∀ i, f i → ∃ c t, W.heap[i]? = some (.cells c t (0, 0))) (Bz : Nat) : KeepsFrom Bz W W' := by
  refine ⟨o.size, fun i ob hi e hc => (o.block i (Array.getElem?_eq_some_iff.1 e).1 (fun e2 => ?_)).trans e⟩
  obtain ⟨c, t, h2⟩ := hf i e2
  rw [h2] at e
  cases e
  cases hc
/-- What a Min's rounds keep. -/
structure Iw (w : World) (Q S : Nat) (s : Int) (l : List T) (bq b2 D1 D2 Bq Bn n : Nat) (ys pre : List Nat) (W : World) : Prop where
  pf : pre <+: ys
  st : ∃ m, Mi S s l pre m ∧ Sb w Q bq b2 D1 D2 (m.getD default) m.isSome W
  bx : W.heap[Bq]? = some (.cells #[.pointer (some ⟨Q, 0, none⟩)] 25 (0, 0))
  bm : W.heap[Bn]? = some (.cells #[.int .i64 (n : Nat)] 3 (0, 0))
  gb : w.heap.size ≤ Bq ∧ w.heap.size ≤ Bn
theorem Iw.own {S : Nat} {s : Int} {l : List T} {Bq Bn n : Nat} {ys pre : List Nat} (h : Iw w Q S s l bq b2 D1 D2 Bq Bn n ys pre W) {row : Option Nat} (hg : W.grownBy W' row) (hr : ∀ r, row = some r → w.heap.size ≤ r ∧ ∃ o : Obj, W.heap[r]? = some o ∧ o.isCells = false) : Iw w Q S s l bq b2 D1 D2 Bq Bn n ys pre W' := by
  have o : Off (fun k => row = some k) W W' := Off.grown (Off.refl _ W) hg (fun k e => .inl e)
  have st : ∀ {i : Nat} {c : Array Value} {t : TypeId}, W.heap[i]? = some (.cells c t (0, 0)) → W'.heap[i]? = some (.cells c t (0, 0)) := fun {i c t} e => (o.block i (Array.getElem?_eq_some_iff.1 e).1 (fun hi => by
    obtain ⟨_, ob, h2, h3⟩ := hr i hi
    rw [h2] at e
    cases e
    cases h3)).trans e
  obtain ⟨m, h1, h2⟩ := h.st
  exact ⟨h.pf, ⟨m, h1, h2.own hg hr⟩, st h.bx, st h.bm, h.gb⟩
theorem Iw.step {S : Nat} {s : Int} {l : List T} {Bq Bn n x' : Nat} {ys pre : List Nat} {y : T} (h : Iw w Q S s l bq b2 D1 D2 Bq Bn n ys pre W) (hx : pre ++ [x'] <+: ys) (hm : Mi S s l (pre ++ [x']) (some y)) (hs : Sb w Q bq b2 D1 D2 y true W') (o : Off (fun i => i = D1 ∨ i = D2) W W') (Bz : Nat) :
    KeepsFrom Bz W W' ∧ Iw w Q S s l bq b2 D1 D2 Bq Bn n ys (pre ++ [x']) W' := by
  obtain ⟨m, h1, h2⟩ := h.st
  have st : ∀ {i : Nat} {c : Array Value} {t : TypeId}, W.heap[i]? = some (.cells c t (0, 0)) → t ≠ 37 → t ≠ 4 → W'.heap[i]? = some (.cells c t (0, 0)) := fun {i c t} e n1 n2 => (o.block i (Array.getElem?_eq_some_iff.1 e).1 (fun hi => by
    rcases hi with hi | hi
    · exact ty_ne e h2.d1 n1 hi
    · exact ty_ne e h2.d2 n2 hi)).trans e
  refine ⟨keeps_of o (fun i e => ?_) Bz, hx, ⟨some y, hm, hs⟩, st h.bx (by decide) (by decide), st h.bm (by decide) (by decide), h.gb⟩
  rcases e with rfl | rfl
  · exact ⟨_, _, h2.d1⟩
  · exact ⟨_, _, h2.d2⟩
end
theorem mn_ready {P S : Nat} {s : Int} {ls : Ls} {r : Nat → T} {l : List T} (hi : Is P (S + 1) (lof S s) ls r l) (h0 : 4 ≤ S) {m : T} (h : mn ((ls S).map r) = some m) : l.head? = some m := by
  have hne : ls S ≠ [] := fun e => by rw [e] at h; cases h
  obtain ⟨m', h1, h2⟩ := ready_some hi h0 hne
  rw [h] at h1
  cases h1
  exact h2
theorem mn_noready {S : Nat} {ls : Ls} {r : Nat → T} (h : mn ((ls S).map r) = none) : ls S = [] := by
  cases e : ls S with
  | nil => rfl
  | cons y q => rw [e, List.map_cons, mn_cons] at h; cases h
end Go.Proofs.YtllohpojajijjaaGreatDoor
