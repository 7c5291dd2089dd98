/-
  What is known of memory: what lies outside a footprint stays, cells lie in a row, a slice of its own; chains in memory.
-/
import Derived.Test.YtdoceldofkaapaaDoorRows
import Derived.Test.YtdoceldofkaapaaDoorMath
import Derived.WalkKit
import Derived.WalkSpells
import Derived.WalkLawsBesides
import Derived.Lib.Hide
import Derived.RowKit3
import Derived.Deep.RegionHeld3
import Derived.Deep.AppendLies
import Derived.Laws.AppendOwnNone
import Derived.Laws.OwnMore
import Derived.Laws.MakeOwn
import Derived.Below
import Derived.Outline
import Derived.Laws.EntriesVeiled
set_option linter.unusedVariables false
set_option linter.unusedSimpArgs false
namespace Go.Proofs.YtdoceldofkaapaaDoor
open Go.RowKit

/-- The later world is the earlier one with new blocks behind it, and nothing outside f has turned. -/
structure Off (f : Nat → Prop) (w w' : World) : Prop where
  os : w'.os = w.os
  tape : w'.tape = w.tape
  output : w'.output = w.output
  size : w.heap.size ≤ w'.heap.size
  block : ∀ k, k < w.heap.size → ¬ f k → w'.heap[k]? = w.heap[k]?
def nof : Nat → Prop := fun _ => False
/-- Nothing has turned. -/
def Bel (w w' : World) : Prop := Off nof w w'
theorem Off.refl (f : Nat → Prop) (w : World) : Off f w w := ⟨rfl, rfl, rfl, Nat.le_refl _, fun _ _ _ => rfl⟩
theorem Off.trans {f g : Nat → Prop} {a b c : World} (h : Off f a b) (k : Off g b c) (hg : ∀ i, g i → f i ∨ a.heap.size ≤ i) : Off f a c :=
  ⟨k.os.trans h.os, k.tape.trans h.tape, k.output.trans h.output, Nat.le_trans h.size k.size, fun i hi hf =>
    (k.block i (Nat.lt_of_lt_of_le hi h.size) (fun e => by rcases hg i e with e | e; exact hf e; omega)).trans (h.block i hi hf)⟩
theorem Off.mono {f g : Nat → Prop} {a b : World} (h : Off f a b) (hg : ∀ i, i < a.heap.size → f i → g i) : Off g a b :=
  ⟨h.os, h.tape, h.output, h.size, fun i hi hf => h.block i hi fun e => hf (hg i hi e)⟩
theorem Off.alloc {f : Nat → Prop} {a w : World} (h : Off f a w) (c : Array Value) (t : TypeId) : Off f a (w.alloc (.cells c t)) :=
  h.trans (g := nof) ⟨rfl, rfl, rfl, by simp, fun k hk _ => Below.heap_alloc _ _ _ hk⟩ (fun _ e => e.elim)
theorem Off.drew {f : Nat → Prop} {a w : World} (h : Off f a w) : Off f a w.drew := ⟨h.os, h.tape, h.output, h.size, h.block⟩
theorem Off.drewN {f : Nat → Prop} {a w : World} (h : Off f a w) (n : Nat) : Off f a (w.drewN n) := ⟨h.os, h.tape, h.output, h.size, h.block⟩
theorem Off.setCell {f : Nat → Prop} {a w : World} (h : Off f a w) {p : Addr} (hp : f p.block ∨ a.heap.size ≤ p.block) (v : Value) : Off f a (w.setCell p v) :=
  h.trans (g := fun k => k = p.block) ⟨rfl, rfl, rfl, by simp [World.setCell], fun k _ hk => Below.heap_setCell _ _ _ _ hk⟩ (fun i e => by rw [e]; exact hp)
theorem Off.grown {f : Nat → Prop} {a w w' : World} {row : Option Nat} (h : Off f a w) (hg : w.grownBy w' row) (hr : ∀ k, row = some k → f k ∨ a.heap.size ≤ k) : Off f a w' :=
  h.trans (g := fun k => row = some k) ⟨hg.os, hg.tape, hg.output, hg.size, fun k hk hn => hg.block k hk (fun e => hn e.symm)⟩ hr
theorem Off.cell {f : Nat → Prop} {a b : World} (h : Off f a b) {p : Addr} {v : Value} (hf : ¬ f p.block) (hc : a.cell? p = some v) : b.cell? p = some v :=
  (World.cell?_of_block (h.block p.block (World.block_lt_of_cell? a _ hc) hf)).trans hc
theorem Off.froz {f : Nat → Prop} {a b : World} (h : Off f a b) {p : Addr} {v : Value} (hf : ¬ f p.block) (hc : a.cell? p = some v) (hz : a.frozen? p = false) : b.frozen? p = false :=
  (World.frozen?_of_block (h.block p.block (World.block_lt_of_cell? a _ hc) hf)).trans hz
theorem Bel.refl (w : World) : Bel w w := Off.refl _ w
theorem Bel.alloc {a w : World} (h : Bel a w) (c : Array Value) (t : TypeId) : Bel a (w.alloc (.cells c t)) := Off.alloc h c t
theorem Bel.drew {a w : World} (h : Bel a w) : Bel a w.drew := Off.drew h
theorem Bel.drewN {a w : World} (h : Bel a w) (n : Nat) : Bel a (w.drewN n) := Off.drewN h n
theorem Bel.setCell {a w : World} (h : Bel a w) {p : Addr} (hp : a.heap.size ≤ p.block) (v : Value) : Bel a (w.setCell p v) := Off.setCell h (.inr hp) v
theorem Bel.trans {a b c : World} (h : Bel a b) (k : Bel b c) : Bel a c := Off.trans h k (fun _ e => e.elim)
theorem Bel.size {a b : World} (h : Bel a b) : a.heap.size ≤ b.heap.size := Off.size h
theorem Bel.cell {a b : World} (h : Bel a b) {p : Addr} {v : Value} (hc : a.cell? p = some v) : b.cell? p = some v := Off.cell h (fun e => e) hc
theorem Bel.froz {a b : World} (h : Bel a b) {p : Addr} {v : Value} (hc : a.cell? p = some v) (hf : a.frozen? p = false) : b.frozen? p = false := Off.froz h (fun e => e) hc hf
theorem Bel.heap {a b : World} (h : Bel a b) {k : Nat} {o : Obj} (ho : a.heap[k]? = some o) : b.heap[k]? = some o :=
  (Off.block h k (Array.getElem?_eq_some_iff.1 ho).1 (fun e => e)).trans ho
theorem Bel.off {a b : World} (h : Bel a b) (f : Nat → Prop) : Off f a b := Off.mono h (fun _ _ e => e.elim)
/-- What turned is all newer. -/
theorem Off.bel {f : Nat → Prop} {a w w' : World} (h : Off f w w') (ha : Bel a w) (hf : ∀ i, f i → a.heap.size ≤ i) : Bel a w' := Off.trans ha h (fun i e => .inr (hf i e))
theorem Bel.below {a b : World} (h : Bel a b) : Below a.heap.size a b := ⟨Off.os h, Off.tape h, Off.output h, Off.size h, fun k hk => Off.block h k hk (fun e => e)⟩

theorem ret_int {k : IntKind} {x y : Int} (h : x = y) : Ending.returned (.int k x) = .returned (.int k y) := by rw [h]
theorem ret_bool {x y : Bool} (h : x = y) : Ending.returned (.bool x) = .returned (.bool y) := by rw [h]
theorem i64_in (x : Int) (h0 : -9223372036854775808 ≤ x) (h1 : x < 9223372036854775808) : IntKind.i64.wrap x = x := by rw [IntKind.wrap_i64]; omega

/-- An act. -/
structure Ac where
  k : Int
  a : Int
  b : Int
deriving DecidableEq, Inhabited
/-- How each kind of list lies in cells. -/
def encI (l : List Nat) : List Value := l.map fun (x : Nat) => .int .i64 x
def encA (l : List Ac) : List Value := l.flatMap fun a => [.int .i64 a.k, .int .i64 a.a, .int .i64 a.b]
def cel (x : Plc) : List Value := [.int .i64 x.ah, .int .i64 x.bh, .int .i64 x.li]
def encR (n : Nat) (g : Rg) : List Value := (List.range n).flatMap fun i => cel (g i)
/-- A slice's head. -/
structure Sh where
  p : Option Addr
  n : Nat
  c : Nat
deriving Inhabited
def encS (l : List Sh) : List Value := l.map fun s => .slice s.p s.n s.c
theorem encI_append (l m : List Nat) : encI (l ++ m) = encI l ++ encI m := by unfold encI; rw [List.map_append]
theorem encI_len (l : List Nat) : (encI l).length = l.length * 1 := by unfold encI; simp
theorem encS_len (l : List Sh) : (encS l).length = l.length * 1 := by unfold encS; simp
theorem encA_len : ∀ l : List Ac, (encA l).length = l.length * 3
  | [] => rfl
  | x :: r => by have := encA_len r; unfold encA at this ⊢; rw [List.flatMap_cons, List.length_append, this]; simp; omega
theorem encI_get (l : List Nat) (i : Nat) (x : Nat) (h : l[i]? = some x) : (encI l)[i]? = some (.int .i64 x) := by unfold encI; simp [h]
theorem encS_get (l : List Sh) (i : Nat) (x : Sh) (h : l[i]? = some x) : (encS l)[i]? = some (.slice x.p x.n x.c) := by unfold encS; simp [h]
theorem flat_get {α : Type} (f : α → List Value) (s : Nat) (hs : ∀ a, (f a).length = s) : ∀ (l : List α) (i j : Nat) (x : α), l[i]? = some x → j < s → (l.flatMap f)[i * s + j]? = (f x)[j]?
  | [], i, j, x, h, _ => by simp at h
  | y :: r, 0, j, x, h, hj => by
    simp at h
    subst h
    rw [List.flatMap_cons, List.getElem?_append_left (by rw [hs]; omega)]
    congr 1
    omega
  | y :: r, i + 1, j, x, h, hj => by
    have ih := flat_get f s hs r i j x (by simpa using h) hj
    rw [List.flatMap_cons, List.getElem?_append_right (by rw [hs, Nat.add_mul]; omega), ← ih]
    congr 1
    rw [hs, Nat.add_mul]
    omega
theorem encA_get (l : List Ac) (i : Nat) (x : Ac) (h : l[i]? = some x) : (encA l)[i * 3]? = some (.int .i64 x.k) ∧ (encA l)[i * 3 + 1]? = some (.int .i64 x.a) ∧ (encA l)[i * 3 + 2]? = some (.int .i64 x.b) :=
  ⟨flat_get _ 3 (fun _ => rfl) l i 0 x h (by omega), flat_get _ 3 (fun _ => rfl) l i 1 x h (by omega), flat_get _ 3 (fun _ => rfl) l i 2 x h (by omega)⟩
theorem encI_one (l : List Nat) : ∀ u ∈ encI l, u.oneCell' = true := by
  intro u hu
  unfold encI at hu
  rw [List.mem_map] at hu
  obtain ⟨x, _, rfl⟩ := hu
  rfl
theorem encS_one (l : List Sh) : ∀ u ∈ encS l, u.oneCell' = true := by
  intro u hu
  unfold encS at hu
  rw [List.mem_map] at hu
  obtain ⟨x, _, rfl⟩ := hu
  rfl
theorem encR_get (n : Nat) (g : Rg) (i j : Nat) (hi : i < n) (hj : j < 3) : (encR n g)[i * 3 + j]? = (cel (g i))[j]? :=
  flat_get (fun i => cel (g i)) 3 (fun _ => rfl) (List.range n) i j i (by simp [hi]) hj
theorem encR_len (n : Nat) (g : Rg) : (encR n g).length = n * 3 := by
  unfold encR
  induction n with
  | zero => rfl
  | succ n ih => rw [List.range_succ, List.flatMap_append, List.length_append, ih]; simp [cel]; omega
theorem encR_ext {n : Nat} {g : Rg} {l : List Value} (hl : l.length = n * 3) (h : ∀ i j, i < n → j < 3 → l[i * 3 + j]? = (cel (g i))[j]?) : l = encR n g := by
  apply List.ext_getElem?
  intro k
  by_cases hk : k < n * 3
  · have e : k / 3 * 3 + k % 3 = k := by omega
    have h1 := h (k / 3) (k % 3) (by omega) (by omega)
    have h2 := encR_get n g (k / 3) (k % 3) (by omega) (by omega)
    rw [e] at h1 h2
    rw [h1, h2]
  · rw [List.getElem?_eq_none (by omega), List.getElem?_eq_none (by rw [encR_len]; omega)]
theorem encR_upA (n : Nat) (g : Rg) (i : Nat) (x : Int) (hi : i < n) : (encR n g).set (i * 3) (.int .i64 x) = encR n (upA g i x) := by
  refine encR_ext (by rw [List.length_set, encR_len]) (fun a j ha hj => ?_)
  by_cases e : a = i
  · subst e
    unfold upA
    rw [if_pos rfl]
    obtain rfl | rfl | rfl : j = 0 ∨ j = 1 ∨ j = 2 := by omega
    · rw [Nat.add_zero, List.getElem?_set_self (by rw [encR_len]; omega)]; rfl
    · rw [List.getElem?_set_ne (by omega), encR_get n g a 1 hi (by omega)]; rfl
    · rw [List.getElem?_set_ne (by omega), encR_get n g a 2 hi (by omega)]; rfl
  · unfold upA
    rw [if_neg e, List.getElem?_set_ne (by omega), encR_get n g a j ha hj]
theorem encR_upB (n : Nat) (g : Rg) (i : Nat) (x : Int) (hi : i < n) : (encR n g).set (i * 3 + 1) (.int .i64 x) = encR n (upB g i x) := by
  refine encR_ext (by rw [List.length_set, encR_len]) (fun a j ha hj => ?_)
  by_cases e : a = i
  · subst e
    unfold upB
    rw [if_pos rfl]
    obtain rfl | rfl | rfl : j = 0 ∨ j = 1 ∨ j = 2 := by omega
    · rw [List.getElem?_set_ne (by omega), encR_get n g a 0 hi (by omega)]; rfl
    · rw [List.getElem?_set_self (by rw [encR_len]; omega)]; rfl
    · rw [List.getElem?_set_ne (by omega), encR_get n g a 2 hi (by omega)]; rfl
  · unfold upB
    rw [if_neg e, List.getElem?_set_ne (by omega), encR_get n g a j ha hj]
theorem encR_upL (n : Nat) (g : Rg) (i : Nat) (x : Int) (hi : i < n) : (encR n g).set (i * 3 + 2) (.int .i64 x) = encR n (upL g i x) := by
  refine encR_ext (by rw [List.length_set, encR_len]) (fun a j ha hj => ?_)
  by_cases e : a = i
  · subst e
    unfold upL
    rw [if_pos rfl]
    obtain rfl | rfl | rfl : j = 0 ∨ j = 1 ∨ j = 2 := by omega
    · rw [List.getElem?_set_ne (by omega), encR_get n g a 0 hi (by omega)]; rfl
    · rw [List.getElem?_set_ne (by omega), encR_get n g a 1 hi (by omega)]; rfl
    · rw [List.getElem?_set_self (by rw [encR_len]; omega)]; rfl
  · unfold upL
    rw [if_neg e, List.getElem?_set_ne (by omega), encR_get n g a j ha hj]

/-- Cells lie in a row. -/
def RowG (w : World) (b off : Nat) (cs : List Value) : Prop := ∀ j u, cs[j]? = some u → w.cell? ⟨b, off + j, none⟩ = some u
/-- What a slice's address tells: the cells lie there, outside f; of no cells nothing is known of it. -/
def Lies (f : Nat → Prop) (w : World) (p : Option Addr) (cs : List Value) : Prop := cs = [] ∨ ∃ b off, p = some ⟨b, off, none⟩ ∧ ¬ f b ∧ RowG w b off cs
theorem RowG.off {f : Nat → Prop} {w w' : World} {b off : Nat} {cs : List Value} (h : RowG w b off cs) (hf : ¬ f b) (k : Off f w w') : RowG w' b off cs := fun j u hu => k.cell hf (h j u hu)
theorem Lies.bel {f : Nat → Prop} {w w' : World} {p : Option Addr} {cs : List Value} (h : Lies f w p cs) (k : Bel w w') : Lies f w' p cs := by
  rcases h with h | ⟨b, off, e, hf, h⟩
  · exact .inl h
  · exact .inr ⟨b, off, e, hf, h.off (fun e => e) k⟩
theorem RowG.lt {w : World} {b off : Nat} {cs : List Value} (h : RowG w b off cs) (h0 : cs ≠ []) : b < w.heap.size := by
  cases cs with
  | nil => exact absurd rfl h0
  | cons u r => exact World.block_lt_of_cell? w ⟨b, off + 0, none⟩ (h 0 u rfl)
theorem Lies.mono {f g : Nat → Prop} {w : World} {p : Option Addr} {cs : List Value} (h : Lies f w p cs) (k : ∀ b, b < w.heap.size → g b → f b) : Lies g w p cs := by
  rcases h with h | ⟨b, off, e, hf, h⟩
  · exact .inl h
  · by_cases h0 : cs = []
    · exact .inl h0
    · exact .inr ⟨b, off, e, fun e => hf (k b (h.lt h0) e), h⟩
theorem Lies.any {f : Nat → Prop} {w : World} {p : Option Addr} {cs : List Value} (h : Lies f w p cs) : Lies nof w p cs := h.mono (fun _ _ e => e.elim)
theorem Lies.nil (f : Nat → Prop) (w : World) (p : Option Addr) : Lies f w p [] := .inl rfl
theorem Lies.row {f : Nat → Prop} {w : World} {p : Option Addr} {cs : List Value} (h : Lies f w p cs) (h0 : cs ≠ []) : ∃ b off, p = some ⟨b, off, none⟩ ∧ ¬ f b ∧ RowG w b off cs := by
  rcases h with h | h
  · exact absurd h h0
  · exact h

theorem info3 : (Tryd.prog.info? 3).map (fun i => (i.zero, i.size, i.bytes)) = some (some (.int .i64 0), 1, 8) := by kernel_rfl
theorem info100 : (Tryd.prog.info? 100).map (fun i => (i.zero, i.size, i.bytes)) = some (some (.agg #[.int .i64 0, .int .i64 0, .int .i64 0]), 3, 24) := by kernel_rfl
/-- A kind of slice. -/
structure Elem (t e : TypeId) (size bytes : Nat) : Prop where
  ht : Tryd.prog.underlying t = some (.slice e)
  hi : ∃ i z, Tryd.prog.info? e = some i ∧ i.zero = some z ∧ i.size = size ∧ i.bytes = bytes ∧ z.cells.size = size
  hs : 0 < size
  hb : bytes ≤ 100
theorem el91 : Elem 91 3 1 8 := ⟨Tryd.underlying91, by obtain ⟨i, hi, h0, h1, h2⟩ := info_parts info3; exact ⟨i, _, hi, h0, h1, h2, rfl⟩, by decide, by decide⟩
/-- append(own, any slice...). -/
theorem append_gen {t e : TypeId} {size bytes : Nat} (E : Elem t e size bytes) (w : World) (ty : TypeId) (v : Value) (n : Nat) (cs : List Value) (hown : w.ownsRow 0 e size v n cs)
    (p : Option Addr) (m c : Nat) (news : List Value) (hl : news.length = m * size) (hx : Lies nof w p news) (h1 : ∀ u ∈ news, u.oneCell' = true) (h63 : n + m ≤ 1000000) :
    ∃ v' w', (Builtin.append_ #[t, t] ty #[v, .slice p m c]).run Tryd.prog w = .ok v' w' ∧ w'.ownsRow 0 e size v' (n + m) (cs ++ news) ∧ w.grownBy w' v.ownBlock ∧ (∀ k, v'.ownBlock = some k → v.ownBlock = some k ∨ w.heap.size ≤ k) := by
  obtain ⟨i, z, hi, hz, hsz, hby, hzs⟩ := E.hi
  have key : ∀ ad : Addr, (∀ j u, news[j]? = some u → w.cell? (ad.add j) = some u) →
      ∃ v' w', (Builtin.append_ #[t, t] ty #[v, .slice (some ad) m c]).run Tryd.prog w = .ok v' w' ∧ w'.ownsRow 0 e size v' (n + m) (cs ++ news) ∧ w.grownBy w' v.ownBlock ∧ (∀ k, v'.ownBlock = some k → v.ownBlock = some k ∨ w.heap.size ≤ k) := by
    intro ad hn
    have hbytes : (n + m) * bytes ≤ 140737488355328 := by
      have := Nat.mul_le_mul h63 E.hb
      omega
    obtain ⟨v', w', k1, k2, k3, _⟩ := run_append_own (P := Tryd.prog) w 0 t ty e i z size bytes E.ht hi hz hsz hby hzs E.hs v n cs hown ad m c news hl hn h1 (by unfold maxLen; omega) hbytes (Nat.zero_le _)
    refine ⟨v', w', k1, k2, k3, ?_⟩
    rcases hown.2 with ⟨rfl, h0⟩ | ⟨g, cap, cur, rfl, _, hg, hnc, hcm, hcs, htake⟩
    · subst h0
      have hcs0 : cs = [] := List.eq_nil_of_length_eq_zero (by simpa using hown.1)
      subst hcs0
      obtain ⟨v2, w2, q1, q2, _, _⟩ := run_append_own (P := Tryd.prog) w w.heap.size t ty e i z size bytes E.ht hi hz hsz hby hzs E.hs (.slice none 0 0) 0 [] (World.ownsRow_nil _ _ _ _) ad m c news hl hn h1 (by unfold maxLen; omega) hbytes (Nat.le_refl _)
      rw [k1] at q1
      injection q1 with a1 a2
      subst a1 a2
      exact fun k hk => .inr (q2.lt k hk).1
    · by_cases hroom : n + m ≤ cap
      · have hfit : n * i.size + news.length ≤ cur.size := by rw [hl, hcs, hsz, ← Nat.add_mul]; exact Nat.mul_le_mul_right _ hroom
        have hr := run_append_room (P := Tryd.prog) w t ty e i E.ht hi g n cap cur hg ad m c news (by rw [hsz]; exact hl) hn h1 hroom hfit
        rw [k1] at hr
        injection hr with a1 a2
        subst a1
        exact fun k hk => .inl hk
      · have holds : ∀ j u, cs[j]? = some u → w.cell? ((⟨g, 0, none⟩ : Addr).add j) = some u := hown.cells (g := g) rfl
        have hr := run_append_grow (P := Tryd.prog) w t ty e i z E.ht hi hz ⟨g, 0, none⟩ n cap cs (by rw [hsz]; exact hown.1) holds ad m c news (by rw [hsz]; exact hl) hn (by omega) (by omega) (growslice_fits (by omega) (by rw [hby]; exact hbytes))
        rw [k1] at hr
        injection hr with a1 a2
        subst a1
        exact fun k hk => .inr (by simp [Value.ownBlock] at hk; omega)
  rcases hx with rfl | ⟨b, off, rfl, _, hr⟩
  · have hm : m = 0 := by
      have h2 := E.hs
      rcases Nat.eq_zero_or_pos m with h | h
      · exact h
      · have := Nat.mul_pos h h2; simp at hl; omega
    subst hm
    cases p with
    | none =>
      refine ⟨v, w, ?_, by simpa using hown, ⟨rfl, rfl, rfl, Nat.le_refl _, fun _ _ _ => rfl⟩, fun k hk => .inl hk⟩
      exact run_append_owned_none (P := Tryd.prog) w 0 t ty e i size E.ht hi v n cs hown
    | some ad => exact key ad (by simp)
  · refine key _ (fun j u hu => ?_)
    have hadd : (⟨b, off, none⟩ : Addr).add j = ⟨b, off + j, none⟩ := by unfold Addr.add; split <;> simp_all
    rw [hadd]
    exact hr j u hu
theorem wpList_append_gen {t e : TypeId} {size bytes : Nat} (E : Elem t e size bytes) {w : World} {ops : Array Oper} {rest : List Oper} {o : Oper} {a : Act} {Q : Exit → Act → World → Prop} (hgd : o.guard = none) (s x : Operand)
    (ho : o.op = .call { callee := .builtin .append, args := #[s, x], argTypes := #[t, t] })
    (v : Value) (n : Nat) (cs : List Value) (hs : a.eval s = v) (hown : w.ownsRow 0 e size v n cs) (p : Option Addr) (m c : Nat) (news : List Value) (hx : a.eval x = .slice p m c) (hl : news.length = m * size) (hLies : Lies nof w p news) (h1 : ∀ u ∈ news, u.oneCell' = true)
    (h63 : n + m ≤ 1000000)
    (h : ∀ v' w', w'.ownsRow 0 e size v' (n + m) (cs ++ news) → w.grownBy w' v.ownBlock → (∀ k, v'.ownBlock = some k → v.ownBlock = some k ∨ w.heap.size ≤ k) → wpList Tryd.prog ops Q rest (a.put o.dst v') w') : wpList Tryd.prog ops Q (o :: rest) a w :=
  wpList_plain hgd fun K hK => by
    obtain ⟨v', w', hr, h2, h3, h4⟩ := append_gen E w o.type v n cs hown p m c news hl hLies h1 h63
    unfold Oper.wp execOp
    simp only [ho, resolve, invoke, builtin, Sem.run_bind, Sem.run_pure, Result.andThen_ok, List.map_toArray, List.map_cons, List.map_nil, hs, hx, hr]
    exact hK _ _ (h v' w' h2 h3 h4)
/-- A slice of its own, as an address. -/
theorem own_slice {w : World} {e : TypeId} {size : Nat} {v : Value} {n : Nat} {cs : List Value} (h : w.ownsRow 0 e size v n cs) (f : Nat → Prop) (hf : ∀ k, v.ownBlock = some k → ¬ f k) :
    ∃ p cap, v = .slice p n cap ∧ n ≤ cap ∧ cap ≤ maxLen ∧ Lies f w p cs := by
  rcases h.2 with ⟨rfl, h0⟩ | ⟨g, cap, cur, rfl, hb, hg, hc, hm, hs, ht⟩
  · subst h0
    have : cs = [] := List.eq_nil_of_length_eq_zero (by simpa using h.1)
    exact ⟨none, 0, rfl, by simp, by simp, .inl this⟩
  · refine ⟨_, cap, rfl, hc, hm, .inr ⟨g, 0, rfl, hf g rfl, fun j u hu => ?_⟩⟩
    have hj : j < n * size := by rw [← h.1]; exact (List.getElem?_eq_some_iff.1 hu).1
    rw [Nat.zero_add, h.cellAt j hj]
    exact hu
theorem own_off {f : Nat → Prop} {w w' : World} {e : TypeId} {size : Nat} {v : Value} {n : Nat} {cs : List Value} (h : w.ownsRow 0 e size v n cs) (k : Off f w w') (hf : ∀ k, v.ownBlock = some k → ¬ f k) : w'.ownsRow 0 e size v n cs := by
  refine ⟨h.1, ?_⟩
  rcases h.2 with hn | ⟨g, cap, cur, rfl, hbb, hgg, rest⟩
  · exact .inl hn
  · refine .inr ⟨g, cap, cur, rfl, hbb, ?_, rest⟩
    rw [k.block g (Array.getElem?_eq_some_iff.1 hgg).1 (hf g rfl)]
    exact hgg
theorem own_bel {w w' : World} {e : TypeId} {size : Nat} {v : Value} {n : Nat} {cs : List Value} (h : w.ownsRow 0 e size v n cs) (k : Bel w w') : w'.ownsRow 0 e size v n cs := own_off h k (fun _ _ e => e)
theorem own_take {w : World} {e : TypeId} {size : Nat} {p : Option Addr} {n cap : Nat} {cs : List Value} (h : w.ownsRow 0 e size (.slice p n cap) n cs) (m : Nat) (hm : m ≤ n) (hn : 0 < n) : w.ownsRow 0 e size (.slice p m cap) m (cs.take (m * size)) := by
  have hms : m * size ≤ n * size := Nat.mul_le_mul_right _ hm
  refine ⟨by rw [List.length_take, h.1]; omega, ?_⟩
  rcases h.2 with ⟨he, h0⟩ | ⟨g, cap', cur, he, hbb, hgg, hc, hmx, hs, ht⟩
  · omega
  · injection he with e1 e2 e3
    subst e1 e3
    refine .inr ⟨g, cap, cur, rfl, hbb, hgg, by omega, hmx, hs, ?_⟩
    rw [← ht, List.take_take]
    congr 1
    omega
theorem Lies.off {f g : Nat → Prop} {w w' : World} {p : Option Addr} {cs : List Value} (h : Lies f w p cs) (k : Off g w w') (hg : ∀ i, g i → f i) : Lies f w' p cs := by
  rcases h with h | ⟨b, off, e, hf, h⟩
  · exact .inl h
  · exact .inr ⟨b, off, e, hf, fun j u hu => k.cell (fun e => hf (hg _ e)) (h j u hu)⟩
theorem row_int {w : World} {b off : Nat} {l : List Nat} (h : RowG w b off (encI l)) {i : Nat} {x : Nat} (hx : l[i]? = some x) : w.cell? ⟨b, off + i, none⟩ = some (.int .i64 x) := h _ _ (encI_get l i x hx)
theorem row_sh {w : World} {b off : Nat} {l : List Sh} (h : RowG w b off (encS l)) {i : Nat} {x : Sh} (hx : l[i]? = some x) : w.cell? ⟨b, off + i, none⟩ = some (.slice x.p x.n x.c) := h _ _ (encS_get l i x hx)
theorem row_ac {w : World} {b off : Nat} {l : List Ac} (h : RowG w b off (encA l)) {i : Nat} {x : Ac} (hx : l[i]? = some x) : w.cell? ⟨b, off + i * 3, none⟩ = some (.int .i64 x.k) ∧ w.cell? ⟨b, off + i * 3 + 1, none⟩ = some (.int .i64 x.a) ∧ w.cell? ⟨b, off + i * 3 + 2, none⟩ = some (.int .i64 x.b) :=
  ⟨h _ _ (encA_get l i x hx).1, h _ _ (encA_get l i x hx).2.1, h _ _ (encA_get l i x hx).2.2⟩
theorem lies_int {f : Nat → Prop} {w : World} {p : Option Addr} {l : List Nat} (h : Lies f w p (encI l)) {i : Nat} (hi : i < l.length) : ∃ b off, p = some ⟨b, off, none⟩ ∧ ¬ f b ∧ RowG w b off (encI l) :=
  h.row (fun e => by have := encI_len l; rw [e] at this; simp at this; omega)
theorem lies_sh {f : Nat → Prop} {w : World} {p : Option Addr} {l : List Sh} (h : Lies f w p (encS l)) {i : Nat} (hi : i < l.length) : ∃ b off, p = some ⟨b, off, none⟩ ∧ ¬ f b ∧ RowG w b off (encS l) :=
  h.row (fun e => by have := encS_len l; rw [e] at this; simp at this; omega)
theorem lies_ac {f : Nat → Prop} {w : World} {p : Option Addr} {l : List Ac} (h : Lies f w p (encA l)) {i : Nat} (hi : i < l.length) : ∃ b off, p = some ⟨b, off, none⟩ ∧ ¬ f b ∧ RowG w b off (encA l) :=
  h.row (fun e => by have := encA_len l; rw [e] at this; simp at this; omega)
theorem get_lt {α : Type} {l : List α} {i : Nat} {x : α} (h : l[i]? = some x) : i < l.length := (List.getElem?_eq_some_iff.1 h).1
/-- Blocks that were there. -/
def old (w : World) : Nat → Prop := fun k => k < w.heap.size
theorem Lies.fresh {w w' : World} {p : Option Addr} {cs : List Value} (h : Lies (old w) w' p cs) {f : Nat → Prop} (hf : ∀ k, f k → k < w.heap.size) : Lies f w' p cs := h.mono (fun b _ e => hf b e)
theorem box2 {w : World} {T : Nat} {a b : Value} {t : TypeId} (h : w.heap[T]? = some (.cells #[a, b] t (0, 0))) :
    (w.cell? ⟨T, 0, none⟩ = some a ∧ w.cell? ⟨T, 1, none⟩ = some b) ∧ (w.frozen? ⟨T, 0, none⟩ = false ∧ w.frozen? ⟨T, 1, none⟩ = false) := by
  refine ⟨⟨?_, ?_⟩, frozen_of_row w T _ _ t h, frozen_of_row w T _ _ t h⟩ <;> (rw [cell_of_row w T _ _ t (0, 0) h]; rfl)
theorem off2 (w : World) (T : Nat) (a b : Value) : Off (fun k => k = T) w ((w.setCell ⟨T, 0, none⟩ a).setCell ⟨T, 1, none⟩ b) :=
  Off.setCell (p := ⟨T, 1, none⟩) (Off.setCell (p := ⟨T, 0, none⟩) (Off.refl (fun k => k = T) w) (.inl rfl) a) (.inl rfl) b
theorem bel_of {a b : World} (h : Below a.heap.size a b) : Bel a b := ⟨h.os, h.tape, h.output, h.size, fun k hk _ => h.block k hk⟩
/-- Only block G has turned, and new ones. -/
def Only (G : Nat) : Nat → Prop := fun k => k = G
/-- Chains lie at block B, their ring at block G. -/
structure Chn (w : World) (B G P L : Nat) (g : Rg) : Prop where
  hB : w.heap[B]? = some (.cells #[.int .i64 P, .slice (some ⟨G, 0, none⟩) (P + L) (P + L)] 103 (0, 0))
  hG : w.heap[G]? = some (.cells (encR (P + L) g).toArray 100 (0, 0))
  ne : ¬ B = G
theorem Chn.ltB {w : World} {B G P L : Nat} {g : Rg} (h : Chn w B G P L g) : B < w.heap.size := (Array.getElem?_eq_some_iff.1 h.hB).1
theorem Chn.ltG {w : World} {B G P L : Nat} {g : Rg} (h : Chn w B G P L g) : G < w.heap.size := (Array.getElem?_eq_some_iff.1 h.hG).1
theorem Chn.off {f : Nat → Prop} {w w' : World} {B G P L : Nat} {g : Rg} (h : Chn w B G P L g) (k : Off f w w') (hb : ¬ f B) (hg : ¬ f G) : Chn w' B G P L g :=
  ⟨(k.block B h.ltB hb).trans h.hB, (k.block G h.ltG hg).trans h.hG, h.ne⟩
theorem Chn.bel {w w' : World} {B G P L : Nat} {g : Rg} (h : Chn w B G P L g) (k : Bel w w') : Chn w' B G P L g := h.off k (fun e => e) (fun e => e)
theorem Chn.head {w : World} {B G P L : Nat} {g : Rg} (h : Chn w B G P L g) : w.cell? ⟨B, 0, none⟩ = some (.int .i64 P) ∧ w.cell? ⟨B, 1, none⟩ = some (.slice (some ⟨G, 0, none⟩) (P + L) (P + L)) := (box2 h.hB).1
theorem Chn.at {w : World} {B G P L : Nat} {g : Rg} (h : Chn w B G P L g) {i : Nat} (hi : i < P + L) : w.cell? ⟨G, i * 3, none⟩ = some (.int .i64 (g i).ah) ∧ w.cell? ⟨G, i * 3 + 1, none⟩ = some (.int .i64 (g i).bh) ∧ w.cell? ⟨G, i * 3 + 2, none⟩ = some (.int .i64 (g i).li) ∧
    (∀ j, w.frozen? ⟨G, j, none⟩ = false) := by
  refine ⟨?_, ?_, ?_, fun j => frozen_of_row w G j _ 100 h.hG⟩
  · rw [cell_of_row w G _ _ 100 (0, 0) h.hG, List.getElem?_toArray]; exact encR_get _ g i 0 hi (by omega)
  · rw [cell_of_row w G _ _ 100 (0, 0) h.hG, List.getElem?_toArray]; exact encR_get _ g i 1 hi (by omega)
  · rw [cell_of_row w G _ _ 100 (0, 0) h.hG, List.getElem?_toArray]; exact encR_get _ g i 2 hi (by omega)
theorem Chn.put {w : World} {B G P L : Nat} {g g' : Rg} (h : Chn w B G P L g) {j : Nat} {v : Value} (he : (encR (P + L) g).set j v = encR (P + L) g') : Chn (w.setCell ⟨G, j, none⟩ v) B G P L g' ∧ Off (Only G) w (w.setCell ⟨G, j, none⟩ v) := by
  have ho : Off (Only G) w (w.setCell ⟨G, j, none⟩ v) := Off.setCell (Off.refl (Only G) w) (p := ⟨G, j, none⟩) (.inl rfl) v
  refine ⟨⟨(ho.block B h.ltB h.ne).trans h.hB, ?_, h.ne⟩, ho⟩
  rw [heap_setCell_same w G j _ 100 v h.hG, List.setIfInBounds_toArray, he]
theorem Chn.putA {w : World} {B G P L : Nat} {g : Rg} (h : Chn w B G P L g) {i : Nat} (hi : i < P + L) (x : Int) : Chn (w.setCell ⟨G, i * 3, none⟩ (.int .i64 x)) B G P L (upA g i x) ∧ Off (Only G) w (w.setCell ⟨G, i * 3, none⟩ (.int .i64 x)) := h.put (encR_upA _ g i x hi)
theorem Chn.putB {w : World} {B G P L : Nat} {g : Rg} (h : Chn w B G P L g) {i : Nat} (hi : i < P + L) (x : Int) : Chn (w.setCell ⟨G, i * 3 + 1, none⟩ (.int .i64 x)) B G P L (upB g i x) ∧ Off (Only G) w (w.setCell ⟨G, i * 3 + 1, none⟩ (.int .i64 x)) := h.put (encR_upB _ g i x hi)
theorem Chn.putL {w : World} {B G P L : Nat} {g : Rg} (h : Chn w B G P L g) {i : Nat} (hi : i < P + L) (x : Int) : Chn (w.setCell ⟨G, i * 3 + 2, none⟩ (.int .i64 x)) B G P L (upL g i x) ∧ Off (Only G) w (w.setCell ⟨G, i * 3 + 2, none⟩ (.int .i64 x)) := h.put (encR_upL _ g i x hi)
theorem Off.then {f : Nat → Prop} {a b c : World} (h : Off f a b) (k : Off f b c) : Off f a c := h.trans k (fun _ e => .inl e)
theorem Off.thenB {f : Nat → Prop} {a b c : World} (h : Off f a b) (k : Bel b c) : Off f a c := h.trans k (fun _ e => e.elim)
end Go.Proofs.YtdoceldofkaapaaDoor
