/-
  What is known of memory: what lies outside a footprint stays, cells lie in a row, a slice of its own, a slab.
-/
import Derived.Test.YtlohpccfanmiiaaRows
import Derived.WalkKit
import Derived.WalkSpells
import Derived.WalkLawsBesides
import Derived.Lib.Hide
import Derived.RowKit3
import Derived.Deep.RegionHeld3
import Derived.Deep.AppendLies
import Derived.Laws.AppendOwnNone
import Derived.Laws.OwnMore
import Derived.Below
import Derived.Outline
import Derived.Laws.EntriesVeiled
namespace Go.Proofs.Ytlohpccfanmiiaa
open Go.RowKit

/-- A handle. -/
structure Hd where
  p : Int
  g : Int
deriving DecidableEq, Inhabited
/-- An act. -/
structure Ac where
  k : Int
  n : Int
  h : Hd
deriving DecidableEq, Inhabited
/-- A place. -/
structure Pl where
  u : Int
  al : Bool
deriving DecidableEq, Inhabited
/-- A slab. -/
structure St where
  pl : Int
  gn : Int
  tk : List Pl
  fr : List Int

/-- The later world is the earlier one with new blocks behind it, and nothing outside f has turned. -/
structure Off (f : Nat → Prop) (w w' : World) : Prop where
  os : w'.os = w.os
  tape : w'.tape = w.tape
  output : w'.output = w.output
  size : w.heap.size ≤ w'.heap.size
  block : ∀ k, k < w.heap.size → ¬ f k → w'.heap[k]? = w.heap[k]?
def nof : Nat → Prop := fun _ => False
/-- Nothing has turned. -/
def Bel (w w' : World) : Prop := Off nof w w'
theorem Off.refl (f : Nat → Prop) (w : World) : Off f w w := ⟨rfl, rfl, rfl, Nat.le_refl _, fun _ _ _ => rfl⟩
theorem Off.trans {f g : Nat → Prop} {a b c : World} (h : Off f a b) (k : Off g b c) (hg : ∀ i, g i → f i ∨ a.heap.size ≤ i) : Off f a c :=
  ⟨k.os.trans h.os, k.tape.trans h.tape, k.output.trans h.output, Nat.le_trans h.size k.size, fun i hi hf =>
    (k.block i (Nat.lt_of_lt_of_le hi h.size) (fun e => by rcases hg i e with e | e; exact hf e; omega)).trans (h.block i hi hf)⟩
theorem Off.mono {f g : Nat → Prop} {a b : World} (h : Off f a b) (hg : ∀ i, i < a.heap.size → f i → g i) : Off g a b :=
  ⟨h.os, h.tape, h.output, h.size, fun i hi hf => h.block i hi fun e => hf (hg i hi e)⟩
theorem Off.alloc {f : Nat → Prop} {a w : World} (h : Off f a w) (c : Array Value) (t : TypeId) : Off f a (w.alloc (.cells c t)) :=
  h.trans (g := nof) ⟨rfl, rfl, rfl, by simp, fun k hk _ => Below.heap_alloc _ _ _ hk⟩ (fun _ e => e.elim)
theorem Off.drew {f : Nat → Prop} {a w : World} (h : Off f a w) : Off f a w.drew := ⟨h.os, h.tape, h.output, h.size, h.block⟩
theorem Off.drewN {f : Nat → Prop} {a w : World} (h : Off f a w) (n : Nat) : Off f a (w.drewN n) := ⟨h.os, h.tape, h.output, h.size, h.block⟩
theorem Off.setCell {f : Nat → Prop} {a w : World} (h : Off f a w) {p : Addr} (hp : f p.block ∨ a.heap.size ≤ p.block) (v : Value) : Off f a (w.setCell p v) :=
  h.trans (g := fun k => k = p.block) ⟨rfl, rfl, rfl, by simp [World.setCell], fun k _ hk => Below.heap_setCell _ _ _ _ hk⟩ (fun i e => by rw [e]; exact hp)
theorem Off.grown {f : Nat → Prop} {a w w' : World} {row : Option Nat} (h : Off f a w) (hg : w.grownBy w' row) (hr : ∀ k, row = some k → f k ∨ a.heap.size ≤ k) : Off f a w' :=
  h.trans (g := fun k => row = some k) ⟨hg.os, hg.tape, hg.output, hg.size, fun k hk hn => hg.block k hk (fun e => hn e.symm)⟩ hr
theorem Off.cell {f : Nat → Prop} {a b : World} (h : Off f a b) {p : Addr} {v : Value} (hf : ¬ f p.block) (hc : a.cell? p = some v) : b.cell? p = some v :=
  (World.cell?_of_block (h.block p.block (World.block_lt_of_cell? a _ hc) hf)).trans hc
theorem Off.froz {f : Nat → Prop} {a b : World} (h : Off f a b) {p : Addr} {v : Value} (hf : ¬ f p.block) (hc : a.cell? p = some v) (hz : a.frozen? p = false) : b.frozen? p = false :=
  (World.frozen?_of_block (h.block p.block (World.block_lt_of_cell? a _ hc) hf)).trans hz
theorem Bel.refl (w : World) : Bel w w := Off.refl _ w
theorem Bel.alloc {a w : World} (h : Bel a w) (c : Array Value) (t : TypeId) : Bel a (w.alloc (.cells c t)) := Off.alloc h c t
theorem Bel.drew {a w : World} (h : Bel a w) : Bel a w.drew := Off.drew h
theorem Bel.drewN {a w : World} (h : Bel a w) (n : Nat) : Bel a (w.drewN n) := Off.drewN h n
theorem Bel.setCell {a w : World} (h : Bel a w) {p : Addr} (hp : a.heap.size ≤ p.block) (v : Value) : Bel a (w.setCell p v) := Off.setCell h (.inr hp) v
theorem Bel.trans {a b c : World} (h : Bel a b) (k : Bel b c) : Bel a c := Off.trans h k (fun _ e => e.elim)
theorem Bel.size {a b : World} (h : Bel a b) : a.heap.size ≤ b.heap.size := Off.size h
theorem Bel.cell {a b : World} (h : Bel a b) {p : Addr} {v : Value} (hc : a.cell? p = some v) : b.cell? p = some v := Off.cell h (fun e => e) hc
theorem Bel.froz {a b : World} (h : Bel a b) {p : Addr} {v : Value} (hc : a.cell? p = some v) (hf : a.frozen? p = false) : b.frozen? p = false := Off.froz h (fun e => e) hc hf
theorem Bel.heap {a b : World} (h : Bel a b) {k : Nat} {o : Obj} (ho : a.heap[k]? = some o) : b.heap[k]? = some o :=
  (Off.block h k (Array.getElem?_eq_some_iff.1 ho).1 (fun e => e)).trans ho
theorem Bel.off {a b : World} (h : Bel a b) (f : Nat → Prop) : Off f a b := Off.mono h (fun _ _ e => e.elim)
/-- What turned is all newer. -/
theorem Off.bel {f : Nat → Prop} {a w w' : World} (h : Off f w w') (ha : Bel a w) (hf : ∀ i, f i → a.heap.size ≤ i) : Bel a w' := Off.trans ha h (fun i e => .inr (hf i e))
theorem Bel.below {a b : World} (h : Bel a b) : Below a.heap.size a b := ⟨Off.os h, Off.tape h, Off.output h, Off.size h, fun k hk => Off.block h k hk (fun e => e)⟩

theorem ret_int {k : IntKind} {x y : Int} (h : x = y) : Ending.returned (.int k x) = .returned (.int k y) := by rw [h]
theorem ret_bool {x y : Bool} (h : x = y) : Ending.returned (.bool x) = .returned (.bool y) := by rw [h]
theorem i64_in (x : Int) (h0 : -9223372036854775808 ≤ x) (h1 : x < 9223372036854775808) : IntKind.i64.wrap x = x := by rw [IntKind.wrap_i64]; omega

/-- A handle, as a value. -/
abbrev hv (h : Hd) : Value := .agg #[.int .i64 h.p, .int .i64 h.g]
theorem Hd.eq_iff (x y : Hd) : x = y ↔ x.p = y.p ∧ x.g = y.g := by cases x; cases y; simp
theorem eql_no (x y : Hd) (h : ¬ x = y) (w : World) : (binOp .eql 38 (.agg #[.int .i64 x.p, .int .i64 x.g]) (.agg #[.int .i64 y.p, .int .i64 y.g])).run Try.prog w = .ok (.bool false) w := by
  rw [Hd.eq_iff] at h
  by_cases ha : x.p = y.p
  · have hp : x.g ≠ y.g := fun e => h ⟨ha, e⟩
    simp [go_sem, ha, hp]
  · simp [go_sem, ha]
theorem eql_yes (x y : Hd) (h : x = y) (w : World) : (binOp .eql 38 (.agg #[.int .i64 x.p, .int .i64 x.g]) (.agg #[.int .i64 y.p, .int .i64 y.g])).run Try.prog w = .ok (.bool true) w := by
  subst h
  simp [go_sem]
theorem eql_dec (x y : Hd) (w : World) : (binOp .eql 38 (.agg #[.int .i64 x.p, .int .i64 x.g]) (.agg #[.int .i64 y.p, .int .i64 y.g])).run Try.prog w = .ok (.bool (decide (x = y))) w := by
  by_cases h : x = y
  · rw [decide_eq_true h]; exact eql_yes x y h w
  · rw [decide_eq_false h]; exact eql_no x y h w
theorem neq_dec (x y : Hd) (w : World) : (binOp .neq 38 (.agg #[.int .i64 x.p, .int .i64 x.g]) (.agg #[.int .i64 y.p, .int .i64 y.g])).run Try.prog w = .ok (.bool (!decide (x = y))) w := by
  by_cases h : x = y
  · subst h
    simp [go_sem]
  · rw [decide_eq_false h]
    rw [Hd.eq_iff] at h
    by_cases ha : x.p = y.p
    · have hp : x.g ≠ y.g := fun e => h ⟨ha, e⟩
      simp [go_sem, ha, hp]
    · simp [go_sem, ha]

/-- How each kind of list lies in cells. -/
def encI (l : List Int) : List Value := l.map (.int .i64 ·)
def encH (l : List Hd) : List Value := l.flatMap fun h => [.int .i64 h.p, .int .i64 h.g]
def encP (l : List Pl) : List Value := l.flatMap fun h => [.int .i64 h.u, .bool h.al]
def encA (l : List Ac) : List Value := l.flatMap fun a => [.int .i64 a.k, .int .i64 a.n, .int .i64 a.h.p, .int .i64 a.h.g]
theorem encI_append (l m : List Int) : encI (l ++ m) = encI l ++ encI m := by unfold encI; rw [List.map_append]
theorem encH_append (l m : List Hd) : encH (l ++ m) = encH l ++ encH m := by unfold encH; rw [List.flatMap_append]
theorem encP_append (l m : List Pl) : encP (l ++ m) = encP l ++ encP m := by unfold encP; rw [List.flatMap_append]
theorem encI_len (l : List Int) : (encI l).length = l.length * 1 := by unfold encI; simp
theorem encH_len : ∀ l : List Hd, (encH l).length = l.length * 2
  | [] => rfl
  | x :: r => by have := encH_len r; unfold encH at this ⊢; rw [List.flatMap_cons, List.length_append, this]; simp; omega
theorem encP_len : ∀ l : List Pl, (encP l).length = l.length * 2
  | [] => rfl
  | x :: r => by have := encP_len r; unfold encP at this ⊢; rw [List.flatMap_cons, List.length_append, this]; simp; omega
theorem encA_len : ∀ l : List Ac, (encA l).length = l.length * 4
  | [] => rfl
  | x :: r => by have := encA_len r; unfold encA at this ⊢; rw [List.flatMap_cons, List.length_append, this]; simp; omega
theorem encI_get (l : List Int) (i : Nat) (x : Int) (h : l[i]? = some x) : (encI l)[i]? = some (.int .i64 x) := by unfold encI; simp [h]
theorem flat_get {α : Type} (f : α → List Value) (s : Nat) (hs : ∀ a, (f a).length = s) : ∀ (l : List α) (i j : Nat) (x : α), l[i]? = some x → j < s → (l.flatMap f)[i * s + j]? = (f x)[j]?
  | [], i, j, x, h, _ => by simp at h
  | y :: r, 0, j, x, h, hj => by
    simp at h
    subst h
    rw [List.flatMap_cons, List.getElem?_append_left (by rw [hs]; omega)]
    congr 1
    omega
  | y :: r, i + 1, j, x, h, hj => by
    have ih := flat_get f s hs r i j x (by simpa using h) hj
    rw [List.flatMap_cons, List.getElem?_append_right (by rw [hs, Nat.add_mul]; omega), ← ih]
    congr 1
    rw [hs, Nat.add_mul]
    omega
theorem encH_get (l : List Hd) (i : Nat) (x : Hd) (h : l[i]? = some x) : (encH l)[i * 2]? = some (.int .i64 x.p) ∧ (encH l)[i * 2 + 1]? = some (.int .i64 x.g) :=
  ⟨flat_get _ 2 (fun _ => rfl) l i 0 x h (by omega), flat_get _ 2 (fun _ => rfl) l i 1 x h (by omega)⟩
theorem encP_get (l : List Pl) (i : Nat) (x : Pl) (h : l[i]? = some x) : (encP l)[i * 2]? = some (.int .i64 x.u) ∧ (encP l)[i * 2 + 1]? = some (.bool x.al) :=
  ⟨flat_get _ 2 (fun _ => rfl) l i 0 x h (by omega), flat_get _ 2 (fun _ => rfl) l i 1 x h (by omega)⟩
theorem encA_get (l : List Ac) (i : Nat) (x : Ac) (h : l[i]? = some x) : (encA l)[i * 4]? = some (.int .i64 x.k) ∧ (encA l)[i * 4 + 1]? = some (.int .i64 x.n) ∧ (encA l)[i * 4 + 2]? = some (.int .i64 x.h.p) ∧ (encA l)[i * 4 + 3]? = some (.int .i64 x.h.g) :=
  ⟨flat_get _ 4 (fun _ => rfl) l i 0 x h (by omega), flat_get _ 4 (fun _ => rfl) l i 1 x h (by omega), flat_get _ 4 (fun _ => rfl) l i 2 x h (by omega), flat_get _ 4 (fun _ => rfl) l i 3 x h (by omega)⟩
theorem encI_one (l : List Int) : ∀ u ∈ encI l, u.oneCell' = true := by
  intro u hu
  unfold encI at hu
  rw [List.mem_map] at hu
  obtain ⟨x, _, rfl⟩ := hu
  rfl
theorem encH_one (l : List Hd) : ∀ u ∈ encH l, u.oneCell' = true := by
  intro u hu
  unfold encH at hu
  rw [List.mem_flatMap] at hu
  obtain ⟨x, _, hx⟩ := hu
  simp at hx
  rcases hx with rfl | rfl <;> rfl
theorem encP_one (l : List Pl) : ∀ u ∈ encP l, u.oneCell' = true := by
  intro u hu
  unfold encP at hu
  rw [List.mem_flatMap] at hu
  obtain ⟨x, _, hx⟩ := hu
  simp at hx
  rcases hx with rfl | rfl <;> rfl
theorem encI_set (l : List Int) (i : Nat) (x : Int) : encI (l.set i x) = (encI l).set i (.int .i64 x) := by unfold encI; rw [List.map_set]
theorem encP_set : ∀ (l : List Pl) (j : Nat) (x : Pl), j < l.length → encP (l.set j x) = ((encP l).set (j * 2) (.int .i64 x.u)).set (j * 2 + 1) (.bool x.al)
  | [], j, x, h => by simp at h
  | y :: r, 0, x, _ => rfl
  | y :: r, j + 1, x, h => by
    have ih := encP_set r j x (by simpa using h)
    have e : ∀ z s, encP (z :: s) = [.int .i64 z.u, .bool z.al] ++ encP s := fun _ _ => rfl
    rw [List.set_cons_succ, e, ih, e]
    rw [show (j + 1) * 2 = ([Value.int .i64 y.u, .bool y.al]).length + j * 2 by simp; omega]
    rw [List.set_append_right _ _ (by omega), Nat.add_sub_cancel_left, Nat.add_assoc, List.set_append_right _ _ (by omega), Nat.add_sub_cancel_left]

/-- Cells lie in a row. -/
def RowG (w : World) (b off : Nat) (cs : List Value) : Prop := ∀ j u, cs[j]? = some u → w.cell? ⟨b, off + j, none⟩ = some u
/-- What a slice's address tells: the cells lie there, outside f; of no cells nothing is known of it. -/
def Lies (f : Nat → Prop) (w : World) (p : Option Addr) (cs : List Value) : Prop := cs = [] ∨ ∃ b off, p = some ⟨b, off, none⟩ ∧ ¬ f b ∧ RowG w b off cs
theorem RowG.off {f : Nat → Prop} {w w' : World} {b off : Nat} {cs : List Value} (h : RowG w b off cs) (hf : ¬ f b) (k : Off f w w') : RowG w' b off cs := fun j u hu => k.cell hf (h j u hu)
theorem Lies.bel {f : Nat → Prop} {w w' : World} {p : Option Addr} {cs : List Value} (h : Lies f w p cs) (k : Bel w w') : Lies f w' p cs := by
  rcases h with h | ⟨b, off, e, hf, h⟩
  · exact .inl h
  · exact .inr ⟨b, off, e, hf, h.off (fun e => e) k⟩
theorem RowG.lt {w : World} {b off : Nat} {cs : List Value} (h : RowG w b off cs) (h0 : cs ≠ []) : b < w.heap.size := by
  cases cs with
  | nil => exact absurd rfl h0
  | cons u r => exact World.block_lt_of_cell? w ⟨b, off + 0, none⟩ (h 0 u rfl)
/-- From one footprint to the next. -/
def Steps (f : Nat → Prop) (w : World) (f' : Nat → Prop) (w' : World) : Prop := Off f w w' ∧ ∀ k, f' k → f k ∨ w.heap.size ≤ k
theorem Steps.refl (f : Nat → Prop) (w : World) : Steps f w f w := ⟨Off.refl f w, fun _ h => .inl h⟩
theorem Steps.trans {f g i : Nat → Prop} {a b c : World} (h : Steps f a g b) (k : Steps g b i c) : Steps f a i c :=
  ⟨h.1.trans k.1 h.2, fun j hj => by
    rcases k.2 j hj with e | e
    · exact h.2 j e
    · exact .inr (Nat.le_trans h.1.size e)⟩
theorem Steps.bel {f g : Nat → Prop} {a b c : World} (h : Steps f a g b) (k : Bel b c) : Steps f a g c := h.trans ⟨k.off g, fun _ e => .inl e⟩
theorem Lies.steps {f f' : Nat → Prop} {w w' : World} {p : Option Addr} {cs : List Value} (h : Lies f w p cs) (k : Steps f w f' w') : Lies f' w' p cs := by
  rcases h with h | ⟨b, off, e, hf, h⟩
  · exact .inl h
  · by_cases h0 : cs = []
    · exact .inl h0
    · refine .inr ⟨b, off, e, fun e => ?_, h.off hf k.1⟩
      rcases k.2 b e with e | e
      · exact hf e
      · have := h.lt h0; omega
theorem Lies.mono {f g : Nat → Prop} {w : World} {p : Option Addr} {cs : List Value} (h : Lies f w p cs) (k : ∀ b, b < w.heap.size → g b → f b) : Lies g w p cs := by
  rcases h with h | ⟨b, off, e, hf, h⟩
  · exact .inl h
  · by_cases h0 : cs = []
    · exact .inl h0
    · exact .inr ⟨b, off, e, fun e => hf (k b (h.lt h0) e), h⟩
theorem Lies.any {f : Nat → Prop} {w : World} {p : Option Addr} {cs : List Value} (h : Lies f w p cs) : Lies nof w p cs := h.mono (fun _ _ e => e.elim)
theorem Lies.nil (f : Nat → Prop) (w : World) (p : Option Addr) : Lies f w p [] := .inl rfl
theorem Lies.row {f : Nat → Prop} {w : World} {p : Option Addr} {cs : List Value} (h : Lies f w p cs) (h0 : cs ≠ []) : ∃ b off, p = some ⟨b, off, none⟩ ∧ ¬ f b ∧ RowG w b off cs := by
  rcases h with h | h
  · exact absurd h h0
  · exact h

theorem info3 : (Try.prog.info? 3).map (fun i => (i.zero, i.size, i.bytes)) = some (some (.int .i64 0), 1, 8) := by kernel_rfl
theorem info38 : (Try.prog.info? 38).map (fun i => (i.zero, i.size, i.bytes)) = some (some (.agg #[.int .i64 0, .int .i64 0]), 2, 16) := by kernel_rfl
theorem info67 : (Try.prog.info? 67).map (fun i => (i.zero, i.size, i.bytes)) = some (some (.agg #[.int .i64 0, .bool false]), 2, 16) := by kernel_rfl
/-- A kind of slice. -/
structure Elem (t e : TypeId) (size bytes : Nat) : Prop where
  ht : Try.prog.underlying t = some (.slice e)
  hi : ∃ i z, Try.prog.info? e = some i ∧ i.zero = some z ∧ i.size = size ∧ i.bytes = bytes ∧ z.cells.size = size
  hs : 0 < size
  hb : bytes ≤ 100
theorem el28 : Elem 28 3 1 8 := ⟨Try.underlying28, by obtain ⟨i, hi, h0, h1, h2⟩ := info_parts info3; exact ⟨i, _, hi, h0, h1, h2, rfl⟩, by decide, by decide⟩
theorem el29 : Elem 29 38 2 16 := ⟨Try.underlying29, by obtain ⟨i, hi, h0, h1, h2⟩ := info_parts info38; exact ⟨i, _, hi, h0, h1, h2, rfl⟩, by decide, by decide⟩
theorem el58 : Elem 58 67 2 16 := ⟨Try.underlying58, by obtain ⟨i, hi, h0, h1, h2⟩ := info_parts info67; exact ⟨i, _, hi, h0, h1, h2, rfl⟩, by decide, by decide⟩
/-- append(own, any slice...). -/
theorem append_gen {t e : TypeId} {size bytes : Nat} (E : Elem t e size bytes) (w : World) (ty : TypeId) (v : Value) (n : Nat) (cs : List Value) (hown : w.ownsRow 0 e size v n cs)
    (p : Option Addr) (m c : Nat) (news : List Value) (hl : news.length = m * size) (hx : Lies nof w p news) (h1 : ∀ u ∈ news, u.oneCell' = true) (h63 : n + m ≤ 1000000) :
    ∃ v' w', (Builtin.append_ #[t, t] ty #[v, .slice p m c]).run Try.prog w = .ok v' w' ∧ w'.ownsRow 0 e size v' (n + m) (cs ++ news) ∧ w.grownBy w' v.ownBlock ∧ (∀ k, v'.ownBlock = some k → v.ownBlock = some k ∨ w.heap.size ≤ k) := by
  obtain ⟨i, z, hi, hz, hsz, hby, hzs⟩ := E.hi
  have key : ∀ ad : Addr, (∀ j u, news[j]? = some u → w.cell? (ad.add j) = some u) →
      ∃ v' w', (Builtin.append_ #[t, t] ty #[v, .slice (some ad) m c]).run Try.prog w = .ok v' w' ∧ w'.ownsRow 0 e size v' (n + m) (cs ++ news) ∧ w.grownBy w' v.ownBlock ∧ (∀ k, v'.ownBlock = some k → v.ownBlock = some k ∨ w.heap.size ≤ k) := by
    intro ad hn
    have hbytes : (n + m) * bytes ≤ 140737488355328 := by
      have := Nat.mul_le_mul h63 E.hb
      omega
    obtain ⟨v', w', k1, k2, k3, _⟩ := run_append_own (P := Try.prog) w 0 t ty e i z size bytes E.ht hi hz hsz hby hzs E.hs v n cs hown ad m c news hl hn h1 (by unfold maxLen; omega) hbytes (Nat.zero_le _)
    refine ⟨v', w', k1, k2, k3, ?_⟩
    rcases hown.2 with ⟨rfl, h0⟩ | ⟨g, cap, cur, rfl, _, hg, hnc, hcm, hcs, htake⟩
    · subst h0
      have hcs0 : cs = [] := List.eq_nil_of_length_eq_zero (by simpa using hown.1)
      subst hcs0
      obtain ⟨v2, w2, q1, q2, _, _⟩ := run_append_own (P := Try.prog) w w.heap.size t ty e i z size bytes E.ht hi hz hsz hby hzs E.hs (.slice none 0 0) 0 [] (World.ownsRow_nil _ _ _ _) ad m c news hl hn h1 (by unfold maxLen; omega) hbytes (Nat.le_refl _)
      rw [k1] at q1
      injection q1 with a1 a2
      subst a1 a2
      exact fun k hk => .inr (q2.lt k hk).1
    · by_cases hroom : n + m ≤ cap
      · have hfit : n * i.size + news.length ≤ cur.size := by rw [hl, hcs, hsz, ← Nat.add_mul]; exact Nat.mul_le_mul_right _ hroom
        have hr := run_append_room (P := Try.prog) w t ty e i E.ht hi g n cap cur hg ad m c news (by rw [hsz]; exact hl) hn h1 hroom hfit
        rw [k1] at hr
        injection hr with a1 a2
        subst a1
        exact fun k hk => .inl hk
      · have holds : ∀ j u, cs[j]? = some u → w.cell? ((⟨g, 0, none⟩ : Addr).add j) = some u := hown.cells (g := g) rfl
        have hr := run_append_grow (P := Try.prog) w t ty e i z E.ht hi hz ⟨g, 0, none⟩ n cap cs (by rw [hsz]; exact hown.1) holds ad m c news (by rw [hsz]; exact hl) hn (by omega) (by omega) (growslice_fits (by omega) (by rw [hby]; exact hbytes))
        rw [k1] at hr
        injection hr with a1 a2
        subst a1
        exact fun k hk => .inr (by simp [Value.ownBlock] at hk; omega)
  rcases hx with rfl | ⟨b, off, rfl, _, hr⟩
  · have hm : m = 0 := by
      have h2 := E.hs
      rcases Nat.eq_zero_or_pos m with h | h
      · exact h
      · have := Nat.mul_pos h h2; simp at hl; omega
    subst hm
    cases p with
    | none =>
      refine ⟨v, w, ?_, by simpa using hown, ⟨rfl, rfl, rfl, Nat.le_refl _, fun _ _ _ => rfl⟩, fun k hk => .inl hk⟩
      exact run_append_owned_none (P := Try.prog) w 0 t ty e i size E.ht hi v n cs hown
    | some ad => exact key ad (by simp)
  · refine key _ (fun j u hu => ?_)
    have hadd : (⟨b, off, none⟩ : Addr).add j = ⟨b, off + j, none⟩ := by unfold Addr.add; split <;> simp_all
    rw [hadd]
    exact hr j u hu
theorem wpList_append_gen {t e : TypeId} {size bytes : Nat} (E : Elem t e size bytes) {w : World} {ops : Array Oper} {rest : List Oper} {o : Oper} {a : Act} {Q : Exit → Act → World → Prop} (hgd : o.guard = none) (s x : Operand)
    (ho : o.op = .call { callee := .builtin .append, args := #[s, x], argTypes := #[t, t] })
    (v : Value) (n : Nat) (cs : List Value) (hs : a.eval s = v) (hown : w.ownsRow 0 e size v n cs) (p : Option Addr) (m c : Nat) (news : List Value) (hx : a.eval x = .slice p m c) (hl : news.length = m * size) (hLies : Lies nof w p news) (h1 : ∀ u ∈ news, u.oneCell' = true)
    (h63 : n + m ≤ 1000000)
    (h : ∀ v' w', w'.ownsRow 0 e size v' (n + m) (cs ++ news) → w.grownBy w' v.ownBlock → (∀ k, v'.ownBlock = some k → v.ownBlock = some k ∨ w.heap.size ≤ k) → wpList Try.prog ops Q rest (a.put o.dst v') w') : wpList Try.prog ops Q (o :: rest) a w :=
  wpList_plain hgd fun K hK => by
    obtain ⟨v', w', hr, h2, h3, h4⟩ := append_gen E w o.type v n cs hown p m c news hl hLies h1 h63
    unfold Oper.wp execOp
    simp only [ho, resolve, invoke, builtin, Sem.run_bind, Sem.run_pure, Result.andThen_ok, List.map_toArray, List.map_cons, List.map_nil, hs, hx, hr]
    exact hK _ _ (h v' w' h2 h3 h4)
/-- A slice of its own, as an address. -/
theorem own_slice {w : World} {e : TypeId} {size : Nat} {v : Value} {n : Nat} {cs : List Value} (h : w.ownsRow 0 e size v n cs) (f : Nat → Prop) (hf : ∀ k, v.ownBlock = some k → ¬ f k) :
    ∃ p cap, v = .slice p n cap ∧ n ≤ cap ∧ cap ≤ maxLen ∧ Lies f w p cs := by
  rcases h.2 with ⟨rfl, h0⟩ | ⟨g, cap, cur, rfl, hb, hg, hc, hm, hs, ht⟩
  · subst h0
    have : cs = [] := List.eq_nil_of_length_eq_zero (by simpa using h.1)
    exact ⟨none, 0, rfl, by simp, by simp, .inl this⟩
  · refine ⟨_, cap, rfl, hc, hm, .inr ⟨g, 0, rfl, hf g rfl, fun j u hu => ?_⟩⟩
    have hj : j < n * size := by rw [← h.1]; exact (List.getElem?_eq_some_iff.1 hu).1
    rw [Nat.zero_add, h.cellAt j hj]
    exact hu
theorem own_off {f : Nat → Prop} {w w' : World} {e : TypeId} {size : Nat} {v : Value} {n : Nat} {cs : List Value} (h : w.ownsRow 0 e size v n cs) (k : Off f w w') (hf : ∀ k, v.ownBlock = some k → ¬ f k) : w'.ownsRow 0 e size v n cs := by
  refine ⟨h.1, ?_⟩
  rcases h.2 with hn | ⟨g, cap, cur, rfl, hbb, hgg, rest⟩
  · exact .inl hn
  · refine .inr ⟨g, cap, cur, rfl, hbb, ?_, rest⟩
    rw [k.block g (Array.getElem?_eq_some_iff.1 hgg).1 (hf g rfl)]
    exact hgg
theorem own_bel {w w' : World} {e : TypeId} {size : Nat} {v : Value} {n : Nat} {cs : List Value} (h : w.ownsRow 0 e size v n cs) (k : Bel w w') : w'.ownsRow 0 e size v n cs := own_off h k (fun _ _ e => e)
theorem own_take {w : World} {e : TypeId} {size : Nat} {p : Option Addr} {n cap : Nat} {cs : List Value} (h : w.ownsRow 0 e size (.slice p n cap) n cs) (m : Nat) (hm : m ≤ n) (hn : 0 < n) : w.ownsRow 0 e size (.slice p m cap) m (cs.take (m * size)) := by
  have hms : m * size ≤ n * size := Nat.mul_le_mul_right _ hm
  refine ⟨by rw [List.length_take, h.1]; omega, ?_⟩
  rcases h.2 with ⟨he, h0⟩ | ⟨g, cap', cur, he, hbb, hgg, hc, hmx, hs, ht⟩
  · omega
  · injection he with e1 e2 e3
    subst e1 e3
    refine .inr ⟨g, cap, cur, rfl, hbb, hgg, by omega, hmx, hs, ?_⟩
    rw [← ht, List.take_take]
    congr 1
    omega
end Go.Proofs.Ytlohpccfanmiiaa
