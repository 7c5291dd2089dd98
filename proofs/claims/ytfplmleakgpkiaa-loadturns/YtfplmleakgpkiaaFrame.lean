/-
  What is known of memory: what lies outside a footprint stays; fifteen numbers lie in a block; a row of notes; a slice of its own.
-/
import Derived.Test.YtfplmleakgpkiaaMath
import Derived.Test.YtfplmleakgpkiaaRows
import Derived.WalkKit
import Derived.WalkSpells
import Derived.WalkLawsBesides
import Derived.Lib.Hide
import Derived.RowKit3
import Derived.Deep.RegionHeld3
import Derived.Deep.AppendLies
import Derived.Laws.AppendOwnNone
import Derived.Laws.OwnMore
import Derived.Laws.LoneSync
import Derived.Below
import Derived.Outline
import Derived.Deep.MidRow
set_option linter.unusedVariables false
set_option linter.unusedSimpArgs false
namespace Go.Proofs.Ytfplmleakgpkiaa
open Go.RowKit

/-- The later world is the earlier one with new blocks behind it, and nothing outside f has turned. -/
structure Off (f : Nat → Prop) (w w' : World) : Prop where
  os : w'.os = w.os
  tape : w'.tape = w.tape
  output : w'.output = w.output
  size : w.heap.size ≤ w'.heap.size
  block : ∀ k, k < w.heap.size → ¬ f k → w'.heap[k]? = w.heap[k]?
def nof : Nat → Prop := fun _ => False
/-- Nothing has turned. -/
def Bel (w w' : World) : Prop := Off nof w w'
theorem Off.refl (f : Nat → Prop) (w : World) : Off f w w := ⟨rfl, rfl, rfl, Nat.le_refl _, fun _ _ _ => rfl⟩
theorem Off.trans {f g : Nat → Prop} {a b c : World} (h : Off f a b) (k : Off g b c) (hg : ∀ i, g i → f i ∨ a.heap.size ≤ i) : Off f a c :=
  ⟨k.os.trans h.os, k.tape.trans h.tape, k.output.trans h.output, Nat.le_trans h.size k.size, fun i hi hf =>
    (k.block i (Nat.lt_of_lt_of_le hi h.size) (fun e => by rcases hg i e with e | e; exact hf e; omega)).trans (h.block i hi hf)⟩
theorem Off.mono {f g : Nat → Prop} {a b : World} (h : Off f a b) (hg : ∀ i, i < a.heap.size → f i → g i) : Off g a b :=
  ⟨h.os, h.tape, h.output, h.size, fun i hi hf => h.block i hi fun e => hf (hg i hi e)⟩
theorem Off.alloc {f : Nat → Prop} {a w : World} (h : Off f a w) (c : Array Value) (t : TypeId) : Off f a (w.alloc (.cells c t)) :=
  h.trans (g := nof) ⟨rfl, rfl, rfl, by simp, fun k hk _ => Below.heap_alloc _ _ _ hk⟩ (fun _ e => e.elim)
theorem Off.drew {f : Nat → Prop} {a w : World} (h : Off f a w) : Off f a w.drew := ⟨h.os, h.tape, h.output, h.size, h.block⟩
theorem Off.drewN {f : Nat → Prop} {a w : World} (h : Off f a w) (n : Nat) : Off f a (w.drewN n) := ⟨h.os, h.tape, h.output, h.size, h.block⟩
theorem Off.setCell {f : Nat → Prop} {a w : World} (h : Off f a w) {p : Addr} (hp : f p.block ∨ a.heap.size ≤ p.block) (v : Value) : Off f a (w.setCell p v) :=
  h.trans (g := fun k => k = p.block) ⟨rfl, rfl, rfl, by simp [World.setCell], fun k _ hk => Below.heap_setCell _ _ _ _ hk⟩ (fun i e => by rw [e]; exact hp)
theorem Off.grown {f : Nat → Prop} {a w w' : World} {row : Option Nat} (h : Off f a w) (hg : w.grownBy w' row) (hr : ∀ k, row = some k → f k ∨ a.heap.size ≤ k) : Off f a w' :=
  h.trans (g := fun k => row = some k) ⟨hg.os, hg.tape, hg.output, hg.size, fun k hk hn => hg.block k hk (fun e => hn e.symm)⟩ hr
theorem Off.cell {f : Nat → Prop} {a b : World} (h : Off f a b) {p : Addr} {v : Value} (hf : ¬ f p.block) (hc : a.cell? p = some v) : b.cell? p = some v :=
  (World.cell?_of_block (h.block p.block (World.block_lt_of_cell? a _ hc) hf)).trans hc
theorem Off.froz {f : Nat → Prop} {a b : World} (h : Off f a b) {p : Addr} {v : Value} (hf : ¬ f p.block) (hc : a.cell? p = some v) (hz : a.frozen? p = false) : b.frozen? p = false :=
  (World.frozen?_of_block (h.block p.block (World.block_lt_of_cell? a _ hc) hf)).trans hz
theorem Bel.refl (w : World) : Bel w w := Off.refl _ w
theorem Bel.alloc {a w : World} (h : Bel a w) (c : Array Value) (t : TypeId) : Bel a (w.alloc (.cells c t)) := Off.alloc h c t
theorem Bel.drew {a w : World} (h : Bel a w) : Bel a w.drew := Off.drew h
theorem Bel.drewN {a w : World} (h : Bel a w) (n : Nat) : Bel a (w.drewN n) := Off.drewN h n
theorem Bel.setCell {a w : World} (h : Bel a w) {p : Addr} (hp : a.heap.size ≤ p.block) (v : Value) : Bel a (w.setCell p v) := Off.setCell h (.inr hp) v
theorem Bel.trans {a b c : World} (h : Bel a b) (k : Bel b c) : Bel a c := Off.trans h k (fun _ e => e.elim)
theorem Bel.size {a b : World} (h : Bel a b) : a.heap.size ≤ b.heap.size := Off.size h
theorem Bel.cell {a b : World} (h : Bel a b) {p : Addr} {v : Value} (hc : a.cell? p = some v) : b.cell? p = some v := Off.cell h (fun e => e) hc
theorem Bel.froz {a b : World} (h : Bel a b) {p : Addr} {v : Value} (hc : a.cell? p = some v) (hf : a.frozen? p = false) : b.frozen? p = false := Off.froz h (fun e => e) hc hf
theorem Bel.heap {a b : World} (h : Bel a b) {k : Nat} {o : Obj} (ho : a.heap[k]? = some o) : b.heap[k]? = some o :=
  (Off.block h k (Array.getElem?_eq_some_iff.1 ho).1 (fun e => e)).trans ho
theorem Bel.off {a b : World} (h : Bel a b) (f : Nat → Prop) : Off f a b := Off.mono h (fun _ _ e => e.elim)
/-- What turned is all newer. -/
theorem Off.bel {f : Nat → Prop} {a w w' : World} (h : Off f w w') (ha : Bel a w) (hf : ∀ i, f i → a.heap.size ≤ i) : Bel a w' := Off.trans ha h (fun i e => .inr (hf i e))
theorem Bel.below {a b : World} (h : Bel a b) : Below a.heap.size a b := ⟨Off.os h, Off.tape h, Off.output h, Off.size h, fun k hk => Off.block h k hk (fun e => e)⟩

theorem ret_int {k : IntKind} {x y : Int} (h : x = y) : Ending.returned (.int k x) = .returned (.int k y) := by rw [h]
theorem ret_bool {x y : Bool} (h : x = y) : Ending.returned (.bool x) = .returned (.bool y) := by rw [h]
theorem i64_in (x : Int) (h0 : -9223372036854775808 ≤ x) (h1 : x < 9223372036854775808) : IntKind.i64.wrap x = x := by rw [IntKind.wrap_i64]; omega


/-- Fifteen numbers lie in a block. -/
def Nums (w : World) (p : Nat) (f : Nat → Int) : Prop := ∀ j, j < 15 → w.cell? ⟨p, j, none⟩ = some (.int .i64 (f j)) ∧ w.frozen? ⟨p, j, none⟩ = false
def upd (f : Nat → Int) (j : Nat) (y : Int) : Nat → Int := fun i => if i = j then y else f i
theorem upd_same (f : Nat → Int) (j : Nat) (y : Int) : upd f j y j = y := if_pos rfl
theorem upd_other (f : Nat → Int) (j : Nat) (y : Int) (i : Nat) (h : ¬ i = j) : upd f j y i = f i := if_neg h
/-- Only this block. -/
def only (p : Nat) : Nat → Prop := fun k => k = p
theorem Nums.off {g : Nat → Prop} {w w' : World} {p : Nat} {f : Nat → Int} (h : Nums w p f) (k : Off g w w') (hg : ¬ g p) : Nums w' p f :=
  fun j hj => ⟨k.cell hg (h j hj).1, k.froz hg (h j hj).1 (h j hj).2⟩
theorem Nums.bel {w w' : World} {p : Nat} {f : Nat → Int} (h : Nums w p f) (k : Bel w w') : Nums w' p f := h.off k (fun e => e)
theorem Nums.lt {w : World} {p : Nat} {f : Nat → Int} (h : Nums w p f) : p < w.heap.size := World.block_lt_of_cell? w ⟨p, 0, none⟩ (h 0 (by decide)).1
theorem Nums.same {w : World} {p : Nat} {f g : Nat → Int} (h : Nums w p f) (k : ∀ j, j < 15 → f j = g j) : Nums w p g := fun j hj => by rw [← k j hj]; exact h j hj
theorem Nums.set {w : World} {p : Nat} {f : Nat → Int} (h : Nums w p f) {j : Nat} (hj : j < 15) (y : Int) : Nums (w.setCell ⟨p, j, none⟩ (.int .i64 y)) p (upd f j y) := by
  intro i hi
  refine ⟨?_, (World.frozen?_setCell _ _ _ _).trans (h i hi).2⟩
  by_cases e : i = j
  · subst e
    rw [World.cell?_setCell_same _ _ _ (h i hi).1, upd_same]
  · rw [World.cell?_setCell_other _ _ _ _ (by intro h; simp only [Addr.mk.injEq] at h; omega), (h i hi).1, upd_other _ _ _ _ e]
theorem Off.set1 (w : World) (p j : Nat) (v : Value) : Off (only p) w (w.setCell ⟨p, j, none⟩ v) := Off.setCell (Off.refl (only p) w) (p := ⟨p, j, none⟩) (.inl rfl) v

/-- A note, as a value. -/
abbrev tv (t : T) : Value := .agg #[.int .i64 t.a, .int .i64 t.b, .int .i64 t.c]
/-- A note's three cells. -/
def enc (t : T) : List Value := [.int .i64 t.a, .int .i64 t.b, .int .i64 t.c]
def encs (l : List T) : List Value := l.flatMap enc
theorem encs_append (l m : List T) : encs (l ++ m) = encs l ++ encs m := by unfold encs; rw [List.flatMap_append]
theorem encs_nil : encs [] = [] := rfl
theorem encs_one (t : T) : encs [t] = [.int .i64 t.a, .int .i64 t.b, .int .i64 t.c] := rfl
theorem encs_len : ∀ l : List T, (encs l).length = l.length * 3
  | [] => rfl
  | x :: r => by
    have := encs_len r
    show (enc x ++ encs r).length = _
    rw [List.length_append, this]
    simp [enc]; omega
theorem encs_get : ∀ (l : List T) (i : Nat), i < l.length →
    (encs l)[i * 3]? = some (.int .i64 (l.getD i default).a) ∧ (encs l)[i * 3 + 1]? = some (.int .i64 (l.getD i default).b) ∧ (encs l)[i * 3 + 2]? = some (.int .i64 (l.getD i default).c)
  | [], i, h => by simp at h
  | x :: r, 0, h => ⟨rfl, rfl, rfl⟩
  | x :: r, i + 1, h => by
    have ih := encs_get r i (by simpa using h)
    have e : encs (x :: r) = enc x ++ encs r := rfl
    have q : ∀ j, (encs (x :: r))[(i + 1) * 3 + j]? = (encs r)[i * 3 + j]? := fun j => by
      rw [e, List.getElem?_append_right (by simp [enc]; omega)]
      congr 1
      simp [enc]; omega
    have q0 := q 0
    simp only [Nat.add_zero] at q0
    rw [q0, q 1, q 2]
    simpa using ih
theorem encs_one' (l : List T) : ∀ u ∈ encs l, u.oneCell' = true := by
  intro u hu
  unfold encs at hu
  rw [List.mem_flatMap] at hu
  obtain ⟨x, _, hx⟩ := hu
  simp [enc] at hx
  rcases hx with rfl | rfl | rfl <;> rfl
theorem encs_set : ∀ (l : List T) (j : Nat) (x : T), j < l.length →
    encs (l.set j x) = (((encs l).set (j * 3) (.int .i64 x.a)).set (j * 3 + 1) (.int .i64 x.b)).set (j * 3 + 2) (.int .i64 x.c)
  | [], j, x, h => by simp at h
  | y :: r, 0, x, _ => rfl
  | y :: r, j + 1, x, h => by
    have ih := encs_set r j x (by simpa using h)
    have e : ∀ z s, encs (z :: s) = enc z ++ encs s := fun _ _ => rfl
    have el : (enc y).length = 3 := rfl
    rw [List.set_cons_succ, e, ih, e]
    rw [show (j + 1) * 3 = (enc y).length + j * 3 by rw [el]; omega]
    rw [List.set_append_right _ _ (by omega), Nat.add_sub_cancel_left, Nat.add_assoc, List.set_append_right _ _ (by omega), Nat.add_sub_cancel_left, Nat.add_assoc, List.set_append_right _ _ (by omega), Nat.add_sub_cancel_left]

/-- A row of notes lies at a place of a block. -/
def Row (w : World) (b off : Nat) (l : List T) : Prop := ∀ i, i < l.length →
  w.cell? ⟨b, off + i * 3, none⟩ = some (.int .i64 (l.getD i default).a) ∧ w.cell? ⟨b, off + i * 3 + 1, none⟩ = some (.int .i64 (l.getD i default).b) ∧ w.cell? ⟨b, off + i * 3 + 2, none⟩ = some (.int .i64 (l.getD i default).c)
/-- What a slice's address tells: the notes lie there, outside f; of no notes nothing is known of it. -/
def Has (f : Nat → Prop) (w : World) (p : Option Addr) (l : List T) : Prop := l = [] ∨ ∃ b off, p = some ⟨b, off, none⟩ ∧ ¬ f b ∧ Row w b off l
theorem Row.off {f : Nat → Prop} {w w' : World} {b off : Nat} {l : List T} (h : Row w b off l) (hf : ¬ f b) (k : Off f w w') : Row w' b off l :=
  fun i hi => ⟨k.cell hf (h i hi).1, k.cell hf (h i hi).2.1, k.cell hf (h i hi).2.2⟩
theorem Has.off {f g : Nat → Prop} {w w' : World} {p : Option Addr} {l : List T} (h : Has f w p l) (k : Off g w w') (hg : ∀ i, g i → f i) : Has f w' p l := by
  rcases h with h | ⟨b, off, e, hf, h⟩
  · exact .inl h
  · exact .inr ⟨b, off, e, hf, h.off (fun e => hf (hg b e)) k⟩
theorem Has.bel {f : Nat → Prop} {w w' : World} {p : Option Addr} {l : List T} (h : Has f w p l) (k : Bel w w') : Has f w' p l := h.off k (fun _ e => e.elim)
theorem Row.lt {w : World} {b off : Nat} {l : List T} (h : Row w b off l) (h0 : l ≠ []) : b < w.heap.size := by
  have hl : 0 < l.length := List.length_pos_iff.2 h0
  exact World.block_lt_of_cell? w ⟨b, off + 0 * 3, none⟩ (h 0 hl).1
/-- A wider or a narrower footprint, over what was there. -/
theorem Has.mono {f g : Nat → Prop} {w : World} {p : Option Addr} {l : List T} (h : Has f w p l) (k : ∀ b, b < w.heap.size → g b → f b) : Has g w p l := by
  rcases h with h | ⟨b, off, e, hf, h⟩
  · exact .inl h
  · by_cases h0 : l = []
    · exact .inl h0
    · exact .inr ⟨b, off, e, fun e => hf (k b (h.lt h0) e), h⟩
theorem Has.any {f : Nat → Prop} {w : World} {p : Option Addr} {l : List T} (h : Has f w p l) : Has nof w p l := h.mono (fun _ _ e => e.elim)
theorem Has.row {f : Nat → Prop} {w : World} {p : Option Addr} {l : List T} (h : Has f w p l) (h0 : 0 < l.length) : ∃ b off, p = some ⟨b, off, none⟩ ∧ ¬ f b ∧ Row w b off l := by
  rcases h with rfl | h
  · simp at h0
  · exact h
theorem getD_take (l : List T) (c i : Nat) (h : i < c) : (l.take c).getD i default = l.getD i default := by
  simp [List.getD_eq_getElem?_getD, h]
theorem getD_drop (l : List T) (c i : Nat) : (l.drop c).getD i default = l.getD (c + i) default := by
  simp [List.getD_eq_getElem?_getD, List.getElem?_drop]
theorem Row.take {w : World} {b off : Nat} {l : List T} (h : Row w b off l) (c : Nat) : Row w b off (l.take c) := by
  intro i hi
  have hi' : i < c ∧ i < l.length := by simp at hi; omega
  rw [getD_take l c i hi'.1]
  exact h i hi'.2
theorem Row.drop {w : World} {b off : Nat} {l : List T} (h : Row w b off l) (c : Nat) : Row w b (off + c * 3) (l.drop c) := by
  intro i hi
  have hi' : c + i < l.length := by simp at hi; omega
  rw [getD_drop l c i]
  have k := h (c + i) hi'
  rw [show off + (c + i) * 3 = off + c * 3 + i * 3 by omega] at k
  exact k
theorem Has.take {f : Nat → Prop} {w : World} {p : Option Addr} {l : List T} (h : Has f w p l) (c : Nat) : Has f w p (l.take c) := by
  rcases h with rfl | ⟨b, off, e, hf, h⟩
  · exact .inl (by simp)
  · exact .inr ⟨b, off, e, hf, h.take c⟩
theorem addr_add (b off j : Nat) : (⟨b, off, none⟩ : Addr).add j = ⟨b, off + j, none⟩ := by unfold Addr.add; split <;> simp_all
theorem Has.drop {f : Nat → Prop} {w : World} {p : Option Addr} {l : List T} (h : Has f w p l) (c : Nat) : Has f w (p.map (·.add (c * 3))) (l.drop c) := by
  rcases h with rfl | ⟨b, off, rfl, hf, h⟩
  · exact .inl (by simp)
  · exact .inr ⟨b, off + c * 3, by rw [Option.map_some, addr_add], hf, h.drop c⟩
theorem Has.cut {f : Nat → Prop} {w : World} {p : Option Addr} {l : List T} {n cap : Nat} (h : Has f w p l) (hn : l.length = n) (hc : n ≤ cap) (c : Nat) : Has f w (if cap = c then p else p.map (·.add (c * 3))) (l.drop c) := by
  by_cases e : cap = c
  · rw [if_pos e]; exact .inl (List.drop_eq_nil_of_le (by omega))
  · rw [if_neg e]; exact h.drop c
theorem row_news {w : World} {b off : Nat} {l : List T} (h : Row w b off l) : ∀ j u, (encs l)[j]? = some u → w.cell? ((⟨b, off, none⟩ : Addr).add j) = some u := by
  intro j u hu
  have hj : j < l.length * 3 := by rw [← encs_len]; exact (List.getElem?_eq_some_iff.1 hu).1
  rw [addr_add]
  have hi : j / 3 < l.length := by omega
  have hr := h (j / 3) hi
  have hg := encs_get l (j / 3) hi
  rcases (show j = j / 3 * 3 ∨ j = j / 3 * 3 + 1 ∨ j = j / 3 * 3 + 2 by omega) with e | e | e
  · rw [← e] at hr hg; rw [hr.1]; rw [hg.1] at hu; exact hu
  · have e' : off + j / 3 * 3 + 1 = off + j := by omega
    rw [e'] at hr; rw [← e] at hg; rw [hr.2.1]; rw [hg.2.1] at hu; exact hu
  · have e' : off + j / 3 * 3 + 2 = off + j := by omega
    rw [e'] at hr; rw [← e] at hg; rw [hr.2.2]; rw [hg.2.2] at hu; exact hu
/-- A slice of the call's own, of these notes; its block is new since base. -/
def Own (w : World) (base : Nat) (v : Value) (l : List T) : Prop := w.ownsRow base 29 3 v l.length (encs l)
theorem Own.slice {w : World} {base : Nat} {v : Value} {l : List T} (h : Own w base v l) (f : Nat → Prop) (hf : ∀ k, v.ownBlock = some k → ¬ f k) :
    ∃ p cap, v = .slice p l.length cap ∧ l.length ≤ cap ∧ cap ≤ maxLen ∧ Has f w p l := by
  rcases h.2 with ⟨rfl, h0⟩ | ⟨g, cap, cur, rfl, hb, hg, hc, hm, hs, ht⟩
  · have : l = [] := List.eq_nil_of_length_eq_zero h0
    subst this
    exact ⟨none, 0, rfl, by simp, by simp, .inl rfl⟩
  · refine ⟨_, cap, rfl, hc, hm, .inr ⟨g, 0, rfl, hf g rfl, fun i hi => ?_⟩⟩
    have hown : w.ownsRow base 29 3 (.slice (some ⟨g, 0, none⟩) l.length cap) l.length (encs l) := h
    have hg := encs_get l i hi
    simp only [Nat.zero_add]
    refine ⟨?_, ?_, ?_⟩
    · rw [hown.cellAt _ (by omega)]; exact hg.1
    · rw [hown.cellAt _ (by omega)]; exact hg.2.1
    · rw [hown.cellAt _ (by omega)]; exact hg.2.2
theorem Own.off {f : Nat → Prop} {w w' : World} {base : Nat} {v : Value} {l : List T} (h : Own w base v l) (k : Off f w w') (hf : ∀ i, v.ownBlock = some i → ¬ f i) : Own w' base v l := by
  refine ⟨h.1, ?_⟩
  rcases h.2 with hn | ⟨g, cap, cur, rfl, hbb, hgg, rest⟩
  · exact .inl hn
  · refine .inr ⟨g, cap, cur, rfl, hbb, ?_, rest⟩
    rw [k.block g (Array.getElem?_eq_some_iff.1 hgg).1 (hf g rfl)]
    exact hgg
theorem Own.bel {w w' : World} {base : Nat} {v : Value} {l : List T} (h : Own w base v l) (hb : Bel w w') : Own w' base v l := h.off hb (fun _ _ e => e)
theorem Own.nil (w : World) (base : Nat) : Own w base (.slice none 0 0) [] := World.ownsRow_nil w base 29 3
theorem Own.empty (w : World) (base : Nat) (hb : base ≤ w.heap.size) : Own (w.alloc (.cells #[] 29)) base (.slice (some ⟨w.heap.size, 0, none⟩) 0 0) [] :=
  World.ownsRow_made w #[] 0 hb (by simp) (by simp)
/-- Behind an append to a slice of the call's own nothing that lay below has turned. -/
theorem Own.grown {f : Nat → Prop} {W w w1 : World} {base : Nat} {v : Value} {l : List T} (hB : Off f W w) (h : Own w base v l) (hb : W.heap.size ≤ base) (hg : w.grownBy w1 v.ownBlock) : Off f W w1 :=
  hB.grown hg fun k hk => .inr (Nat.le_trans hb (h.lt k hk).1)
theorem Own.cells3 {w : World} {base g n c : Nat} {cur : List T} (h : Own w base (.slice (some ⟨g, 0, none⟩) n c) cur) (hn : cur.length = n) {i : Nat} (hi : i < n) {x : T} (hx : cur.getD i default = x) :
    w.cell? ⟨g, i * 3, none⟩ = some (.int .i64 x.a) ∧ w.cell? ⟨g, i * 3 + 1, none⟩ = some (.int .i64 x.b) ∧ w.cell? ⟨g, i * 3 + 2, none⟩ = some (.int .i64 x.c) := by
  subst hn
  have hown : w.ownsRow base 29 3 (.slice (some ⟨g, 0, none⟩) cur.length c) cur.length (encs cur) := h
  have hg := encs_get cur i hi
  rw [hx] at hg
  refine ⟨?_, ?_, ?_⟩
  · rw [hown.cellAt _ (by omega)]; exact hg.1
  · rw [hown.cellAt _ (by omega)]; exact hg.2.1
  · rw [hown.cellAt _ (by omega)]; exact hg.2.2
theorem has_one (w : World) (t : T) : Has nof (w.alloc (.cells #[.int .i64 t.a, .int .i64 t.b, .int .i64 t.c] 29)) (some ⟨w.heap.size, 0, none⟩) [t] := by
  refine .inr ⟨_, _, rfl, fun e => e, fun i hi => ?_⟩
  obtain rfl : i = 0 := by simp at hi; exact hi
  simp [go_sem]

theorem info29 : (Try.prog.info? 29).map (fun i => (i.zero, i.size, i.bytes)) = some (some (.agg #[.int .i64 0, .int .i64 0, .int .i64 0]), 3, 24) := by kernel_rfl
theorem info29s : (Try.prog.info? 29).map (·.size) = some 3 := by kernel_rfl
/-- append(out, xs...), out of the call's own, xs whatever slice of notes. -/
theorem append_any (w : World) (ty : TypeId) (base : Nat) (v : Value) (l : List T) (hown : Own w base v l) (p : Option Addr) (m c : Nat) (xs : List T) (hm : xs.length = m) (hx : Has nof w p xs)
    (h63 : (l.length + m) * 24 ≤ 140737488355328) (hbase : base ≤ w.heap.size) :
    ∃ v' w', (Builtin.append_ #[22, 22] ty #[v, .slice p m c]).run Try.prog w = .ok v' w' ∧ Own w' base v' (l ++ xs) ∧ w.grownBy w' v.ownBlock ∧ (v' = .slice none 0 0 ↔ v = .slice none 0 0 ∧ m = 0) := by
  obtain ⟨i0, hi, hz0, hz1, hz2⟩ := info_parts info29
  subst hm
  have key : ∀ ad : Addr, (∀ j u, (encs xs)[j]? = some u → w.cell? (ad.add j) = some u) →
      ∃ v' w', (Builtin.append_ #[22, 22] ty #[v, .slice (some ad) xs.length c]).run Try.prog w = .ok v' w' ∧ Own w' base v' (l ++ xs) ∧ w.grownBy w' v.ownBlock ∧ (v' = .slice none 0 0 ↔ v = .slice none 0 0 ∧ xs.length = 0) := by
    intro ad hn
    obtain ⟨v', w', h1, h2, h3, h4⟩ := run_append_own (P := Try.prog) w base 22 ty 29 i0 _ 3 24 Try.underlying22 hi hz0 hz1 hz2 rfl (by decide) v l.length (encs l) hown ad xs.length c (encs xs) (encs_len xs) hn (encs_one' xs) (by unfold maxLen; omega) (by omega) hbase
    refine ⟨v', w', h1, ?_, h3, h4⟩
    unfold Own
    rw [List.length_append, encs_append]
    exact h2
  rcases hx with rfl | ⟨b, off, rfl, _, hr⟩
  · cases p with
    | none =>
      refine ⟨v, w, ?_, by simpa using hown, World.grownBy.refl _ _, by simp⟩
      exact run_append_owned_none (P := Try.prog) w base 22 ty 29 i0 3 Try.underlying22 hi v l.length (encs l) hown
    | some ad => exact key ad (by simp [encs_nil])
  · exact key _ (row_news hr)
theorem wpList_append_any {w : World} {ops : Array Oper} {rest : List Oper} {o : Oper} {a : Act} {Q : Exit → Act → World → Prop} (hgd : o.guard = none) (s x : Operand)
    (ho : o.op = .call { callee := .builtin .append, args := #[s, x], argTypes := #[22, 22] })
    (base : Nat) (v : Value) (l : List T) (hs : a.eval s = v) (hown : Own w base v l) (p : Option Addr) (m c : Nat) (xs : List T) (hx : a.eval x = .slice p m c) (hm : xs.length = m) (hHas : Has nof w p xs)
    (h63 : (l.length + m) * 24 ≤ 140737488355328) (hbase : base ≤ w.heap.size)
    (h : ∀ v' w', Own w' base v' (l ++ xs) → w.grownBy w' v.ownBlock → (v' = .slice none 0 0 ↔ v = .slice none 0 0 ∧ m = 0) → wpList Try.prog ops Q rest (a.put o.dst v') w') : wpList Try.prog ops Q (o :: rest) a w :=
  wpList_plain hgd fun K hK => by
    obtain ⟨v', w', hr, h2, h3, h4⟩ := append_any w o.type base v l hown p m c xs hm hHas h63 hbase
    unfold Oper.wp execOp
    simp only [ho, resolve, invoke, builtin, Sem.run_bind, Sem.run_pure, Result.andThen_ok, List.map_toArray, List.map_cons, List.map_nil, hs, hx, hr]
    exact hK _ _ (h v' w' h2 h3 h4)
/-- 'row[j] = t', the row of the call's own. -/
theorem wpList_store_own {ops : Array Oper} {rest : List Oper} {op : Oper} {a : Act} {w : World} {Q : Exit → Act → World → Prop} (hgd : op.guard = none) (x y : Operand) (ho : op.op = .store 29 x y)
    (g j n c base : Nat) (t : T) (cur : List T) (hx : a.eval x = .pointer (some ⟨g, j * 3, none⟩)) (hy : a.eval y = .agg #[.int .i64 t.a, .int .i64 t.b, .int .i64 t.c])
    (hown : Own w base (.slice (some ⟨g, 0, none⟩) n c) cur) (hn : cur.length = n) (hj : j < n)
    (h : ∀ w', Own w' base (.slice (some ⟨g, 0, none⟩) n c) (cur.set j t) → w.grownBy w' (some g) → wpList Try.prog ops Q rest (a.put op.dst undef) w') : wpList Try.prog ops Q (op :: rest) a w := by
  subst hn
  have h0 : w.ownsRow base 29 3 (.slice (some ⟨g, 0, none⟩) cur.length c) cur.length (encs cur) := hown
  have there : w.there g (j * 3) 3 := fun i hi => by
    have hg := encs_get cur j hj
    refine ⟨?_, h0.frozenAt _⟩
    rw [h0.cellAt _ (by omega)]
    have hlt : j * 3 + i < (encs cur).length := by rw [encs_len]; omega
    rw [List.getElem?_eq_getElem hlt]
    rfl
  refine wpList_store_mid hgd 29 x y ho g (j * 3) _ hx hy there info29s (all_oneCell_toArray (encs_one' [t])) (h _ ?_ ?_)
  · have h1 := (h0.stored (j * 3) (.int .i64 t.a)).1
    have h2 := (h1.stored (j * 3 + 1) (.int .i64 t.b)).1
    have h3 := (h2.stored (j * 3 + 2) (.int .i64 t.c)).1
    rw [← encs_set cur j t hj] at h3
    unfold Own
    rw [List.length_set]
    exact h3
  · refine ⟨rfl, rfl, rfl, ?_, fun k _ hk => ?_⟩
    · simp [World.setCells, World.setCell]
    · have hne : k ≠ g := fun e => hk (by rw [e])
      show ((((w.setCell ⟨g, j * 3, none⟩ _).setCell ⟨g, j * 3 + 1, none⟩ _).setCell ⟨g, j * 3 + 2, none⟩ _)).heap[k]? = _
      rw [Below.heap_setCell _ _ _ _ hne, Below.heap_setCell _ _ _ _ hne, Below.heap_setCell _ _ _ _ hne]
theorem swap_perm (l : List T) (j k : Nat) (hj : j < l.length) (hk : k < l.length) : ((l.set j (l.getD k default)).set k (l.getD j default)).Perm l := by
  have e := Array.swap_perm (xs := l.toArray) (i := j) (j := k) (by simpa using hj) (by simpa using hk)
  have e2 := e.toList
  have ej : l.getD j default = l[j] := by simp [List.getD_eq_getElem?_getD, List.getElem?_eq_getElem hj]
  have ek : l.getD k default = l[k] := by simp [List.getD_eq_getElem?_getD, List.getElem?_eq_getElem hk]
  rw [ej, ek]
  simpa [Array.swap] using e2
end Go.Proofs.Ytfplmleakgpkiaa
