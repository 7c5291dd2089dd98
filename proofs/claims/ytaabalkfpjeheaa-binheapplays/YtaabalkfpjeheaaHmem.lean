/-
  A heap of timers in memory, with the row that tells where each place stands: what lies where, and contracts of the heap's before and of what it tells.
-/
import Derived.Test.YtaabalkfpjeheaaHmath
import Derived.Test.YtaabalkfpjeheaaCmp
import Derived.Deep.MidRow
namespace Go.Proofs.Ytaabalkfpjeheaa
open Go.RowKit
def encW (P : Nat) (wh : Nat → Int) : List Value := (List.range P).map fun k => .int .i64 (wh k)
theorem encW_len (P : Nat) (wh : Nat → Int) : (encW P wh).length = P := by unfold encW; simp
theorem encW_get (P : Nat) (wh : Nat → Int) (k : Nat) (hk : k < P) : (encW P wh)[k]? = some (.int .i64 (wh k)) := by unfold encW; simp [hk]
theorem encW_up (P : Nat) (wh : Nat → Int) (k : Nat) (x : Int) (_ : k < P) : (encW P wh).set k (.int .i64 x) = encW P (upW wh k x) := by
  apply List.ext_getElem?
  intro m
  by_cases hm : m < P
  · rw [encW_get P _ m hm]
    by_cases e : m = k
    · subst e
      rw [List.getElem?_set_self (by rw [encW_len]; exact hm)]
      unfold upW
      rw [if_pos rfl]
    · rw [List.getElem?_set_ne (fun h => e h.symm), encW_get P wh m hm]
      unfold upW
      rw [if_neg e]
  · rw [List.getElem?_eq_none (by rw [List.length_set, encW_len]; omega), List.getElem?_eq_none (by rw [encW_len]; omega)]
/-- What is told, as a function's value. -/
abbrev clo (C : Nat) : Value := .func (.func 35) #[] #[.pointer (some ⟨C, 0, none⟩)]
/-- A heap lies at block Q (its queue's), its timers at p, where they stand at block S; all blocks are in f. -/
structure Hm (f : Nat → Prop) (w : World) (Q C S P : Nat) (p : Option Addr) (cap : Nat) (l : List T) (wh : Nat → Int) : Prop where
  hQ : w.heap[Q]? = some (.cells #[.slice p l.length cap, clo C, .slice (some ⟨S, 0, none⟩) P P] 78 (0, 0))
  hC : w.heap[C]? = some (.cells #[.pointer (some ⟨Q, 0, none⟩)] 29 (0, 0))
  hS : w.heap[S]? = some (.cells (encW P wh).toArray 3 (0, 0))
  own : OwnT w 0 (.slice p l.length cap) l
  fQ : f Q
  fC : f C
  fS : f S
  fp : ∀ a, p = some a → f a.block
theorem Hm.ltQ {f : Nat → Prop} {w : World} {Q C S P : Nat} {p : Option Addr} {cap : Nat} {l : List T} {wh : Nat → Int} (h : Hm f w Q C S P p cap l wh) : Q < w.heap.size := (Array.getElem?_eq_some_iff.1 h.hQ).1
theorem Hm.ltS {f : Nat → Prop} {w : World} {Q C S P : Nat} {p : Option Addr} {cap : Nat} {l : List T} {wh : Nat → Int} (h : Hm f w Q C S P p cap l wh) : S < w.heap.size := (Array.getElem?_eq_some_iff.1 h.hS).1
theorem Hm.ltC {f : Nat → Prop} {w : World} {Q C S P : Nat} {p : Option Addr} {cap : Nat} {l : List T} {wh : Nat → Int} (h : Hm f w Q C S P p cap l wh) : C < w.heap.size := (Array.getElem?_eq_some_iff.1 h.hC).1
theorem cells_ne {w : World} {A B : Nat} {x y : Array Value} {s t : TypeId} (h : w.heap[A]? = some (.cells x s (0, 0))) (k : w.heap[B]? = some (.cells y t (0, 0))) (hne : s ≠ t) : ¬ A = B := by
  intro e
  subst e
  rw [h] at k
  injection k with k
  injection k with _ k
  exact hne k
theorem own_off0 {g : Nat → Prop} {w w' : World} {base : Nat} {v : Value} {l : List T} (h : OwnT w base v l) (hb : Off g w w') (hf : ∀ k, v.ownBlock = some k → ¬ g k) : OwnT w' base v l := by
  refine ⟨h.1, ?_⟩
  rcases h.2 with hn | ⟨b, cap, cur, rfl, hbb, hgg, rest⟩
  · exact .inl hn
  · exact .inr ⟨b, cap, cur, rfl, hbb, (hb.block b (Array.getElem?_eq_some_iff.1 hgg).1 (hf b rfl)).trans hgg, rest⟩
theorem Hm.off {f g : Nat → Prop} {w w' : World} {Q C S P : Nat} {p : Option Addr} {cap : Nat} {l : List T} {wh : Nat → Int} (h : Hm f w Q C S P p cap l wh) (k : Off g w w') (hg : ∀ i, f i → ¬ g i) : Hm f w' Q C S P p cap l wh := by
  refine ⟨(k.block Q h.ltQ (hg _ h.fQ)).trans h.hQ, (k.block C h.ltC (hg _ h.fC)).trans h.hC, (k.block S h.ltS (hg _ h.fS)).trans h.hS, own_off0 h.own k (fun b e => ?_), h.fQ, h.fC, h.fS, h.fp⟩
  cases hp : p with
  | none => rw [hp] at e; simp [Value.ownBlock] at e
  | some a =>
    rw [hp] at e
    simp only [Value.ownBlock, Option.some.injEq] at e
    subst e
    exact hg _ (h.fp a hp)
theorem Hm.bel {f : Nat → Prop} {w w' : World} {Q C S P : Nat} {p : Option Addr} {cap : Nat} {l : List T} {wh : Nat → Int} (h : Hm f w Q C S P p cap l wh) (k : Bel w w') : Hm f w' Q C S P p cap l wh := h.off k (fun _ _ e => e)
theorem Hm.head {f : Nat → Prop} {w : World} {Q C S P : Nat} {p : Option Addr} {cap : Nat} {l : List T} {wh : Nat → Int} (h : Hm f w Q C S P p cap l wh) :
    w.cell? ⟨Q, 0, none⟩ = some (.slice p l.length cap) ∧ w.cell? ⟨Q, 1, none⟩ = some (clo C) ∧ w.cell? ⟨Q, 2, none⟩ = some (.slice (some ⟨S, 0, none⟩) P P) ∧ w.cell? ⟨C, 0, none⟩ = some (.pointer (some ⟨Q, 0, none⟩)) := by
  refine ⟨(box3 h.hQ).1.1, (box3 h.hQ).1.2.1, (box3 h.hQ).1.2.2, ?_⟩
  rw [cell_of_row w C _ _ 29 (0, 0) h.hC]
  rfl
theorem Hm.froz {f : Nat → Prop} {w : World} {Q C S P : Nat} {p : Option Addr} {cap : Nat} {l : List T} {wh : Nat → Int} (h : Hm f w Q C S P p cap l wh) : w.frozen? ⟨Q, 0, none⟩ = false ∧ ∀ j, w.frozen? ⟨S, j, none⟩ = false :=
  ⟨frozen_of_row w Q _ _ 78 h.hQ, fun j => frozen_of_row w S j _ 3 h.hS⟩
theorem Hm.stands {f : Nat → Prop} {w : World} {Q C S P : Nat} {p : Option Addr} {cap : Nat} {l : List T} {wh : Nat → Int} (h : Hm f w Q C S P p cap l wh) {k : Nat} (hk : k < P) : w.cell? ⟨S, k, none⟩ = some (.int .i64 (wh k)) := by
  rw [cell_of_row w S _ _ 3 (0, 0) h.hS, List.getElem?_toArray]
  exact encW_get P wh k hk
/-- Where the row lies, if there is one. -/
theorem Hm.row {f : Nat → Prop} {w : World} {Q C S P : Nat} {p : Option Addr} {cap : Nat} {l : List T} {wh : Nat → Int} (h : Hm f w Q C S P p cap l wh) (h0 : 0 < l.length) :
    ∃ g cur, p = some ⟨g, 0, none⟩ ∧ w.heap[g]? = some (.cells cur 25 (0, 0)) ∧ l.length ≤ cap ∧ cap ≤ maxLen ∧ cur.size = cap * 3 ∧ cur.toList.take (l.length * 3) = encs l := by
  rcases h.own.2 with ⟨e, hn⟩ | ⟨g, c, cur, e, _, hg, hc, hm, hs, ht⟩
  · omega
  · injection e with e1 e2 e3
    subst e1
    subst e3
    exact ⟨g, cur, rfl, hg, hc, hm, hs, ht⟩
theorem Hm.at {f : Nat → Prop} {w : World} {Q C S P g : Nat} {cap : Nat} {l : List T} {wh : Nat → Int} (h : Hm f w Q C S P (some ⟨g, 0, none⟩) cap l wh) {i : Nat} (hi : i < l.length) {x : T} (hx : gt l i = x) :
    (w.cell? ⟨g, i * 3, none⟩ = some (.int .u64 x.a) ∧ w.cell? ⟨g, i * 3 + 1, none⟩ = some (.int .u64 x.s) ∧ w.cell? ⟨g, i * 3 + 2, none⟩ = some (.int .i64 x.p)) ∧ ∀ j, w.frozen? ⟨g, j, none⟩ = false := by
  have hown : w.ownsRow 0 25 3 (.slice (some ⟨g, 0, none⟩) l.length cap) l.length (encs l) := h.own
  have hg := encs_get l i hi
  have hx' : l.getD i default = x := hx
  rw [hx'] at hg
  refine ⟨⟨?_, ?_, ?_⟩, fun j => hown.frozenAt _⟩
  · rw [hown.cellAt _ (by omega)]; exact hg.1
  · rw [hown.cellAt _ (by omega)]; exact hg.2.1
  · rw [hown.cellAt _ (by omega)]; exact hg.2.2
theorem encs_set : ∀ (l : List T) (j : Nat) (x : T), j < l.length →
    encs (l.set j x) = (((encs l).set (j * 3) (.int .u64 x.a)).set (j * 3 + 1) (.int .u64 x.s)).set (j * 3 + 2) (.int .i64 x.p)
  | [], j, x, h => by simp at h
  | y :: r, 0, x, _ => rfl
  | y :: r, j + 1, x, h => by
    have ih := encs_set r j x (by simpa using h)
    have e : ∀ z s, encs (z :: s) = enc z ++ encs s := fun _ _ => rfl
    have el : (enc y).length = 3 := rfl
    rw [List.set_cons_succ, e, ih, e]
    rw [show (j + 1) * 3 = (enc y).length + j * 3 by rw [el]; omega]
    rw [List.set_append_right _ _ (by omega), Nat.add_sub_cancel_left, Nat.add_assoc, List.set_append_right _ _ (by omega), Nat.add_sub_cancel_left, Nat.add_assoc, List.set_append_right _ _ (by omega), Nat.add_sub_cancel_left]
/-- A timer is laid at a place. -/
abbrev set3 (w : World) (R i : Nat) (t : T) : World := ((w.setCell ⟨R, i * 3, none⟩ (.int .u64 t.a)).setCell ⟨R, i * 3 + 1, none⟩ (.int .u64 t.s)).setCell ⟨R, i * 3 + 2, none⟩ (.int .i64 t.p)
theorem off_set3 (w : World) (g i : Nat) (t : T) : Off (Only g) w (set3 w g i t) :=
  Off.setCell (Off.setCell (Off.setCell (Off.refl (Only g) w) (p := ⟨g, i * 3, none⟩) (.inl rfl) _) (p := ⟨g, i * 3 + 1, none⟩) (.inl rfl) _) (p := ⟨g, i * 3 + 2, none⟩) (.inl rfl) _
theorem Hm.put {f : Nat → Prop} {w : World} {Q C S P g : Nat} {cap : Nat} {l : List T} {wh : Nat → Int} (h : Hm f w Q C S P (some ⟨g, 0, none⟩) cap l wh) {i : Nat} (hi : i < l.length) (t : T) :
    Hm f (set3 w g i t) Q C S P (some ⟨g, 0, none⟩) cap (l.set i t) wh ∧ Off f w (set3 w g i t) := by
  have o := off_set3 w g i t
  obtain ⟨g', cur, e, hg, _⟩ := h.row (by omega)
  obtain rfl : g = g' := by injection e with e; injection e
  have nQ := cells_ne h.hQ hg (by decide)
  have nC := cells_ne h.hC hg (by decide)
  have nS := cells_ne h.hS hg (by decide)
  refine ⟨⟨?_, (o.block C h.ltC nC).trans h.hC, (o.block S h.ltS nS).trans h.hS, ?_, h.fQ, h.fC, h.fS, h.fp⟩, o.mono (fun k _ e => by rw [show k = g from e]; exact h.fp _ rfl)⟩
  · rw [List.length_set]
    exact (o.block Q h.ltQ nQ).trans h.hQ
  · have h0 : w.ownsRow 0 25 3 (.slice (some ⟨g, 0, none⟩) l.length cap) l.length (encs l) := h.own
    have h1 := (h0.stored (i * 3) (.int .u64 t.a)).1
    have h2 := (h1.stored (i * 3 + 1) (.int .u64 t.s)).1
    have h3 := (h2.stored (i * 3 + 2) (.int .i64 t.p)).1
    rw [← encs_set l i t hi] at h3
    unfold OwnT
    rw [List.length_set]
    exact h3
theorem Hm.tell {f : Nat → Prop} {w : World} {Q C S P : Nat} {p : Option Addr} {cap : Nat} {l : List T} {wh : Nat → Int} (h : Hm f w Q C S P p cap l wh) {k : Nat} (hk : k < P) (x : Int) :
    Hm f (w.setCell ⟨S, k, none⟩ (.int .i64 x)) Q C S P p cap l (upW wh k x) ∧ Off f w (w.setCell ⟨S, k, none⟩ (.int .i64 x)) := by
  have o : Off (Only S) w (w.setCell ⟨S, k, none⟩ (.int .i64 x)) := Off.setCell (Off.refl (Only S) w) (p := ⟨S, k, none⟩) (.inl rfl) _
  refine ⟨⟨(o.block Q h.ltQ (cells_ne h.hQ h.hS (by decide))).trans h.hQ, (o.block C h.ltC (cells_ne h.hC h.hS (by decide))).trans h.hC, ?_, own_off0 h.own o (fun b e => ?_), h.fQ, h.fC, h.fS, h.fp⟩, o.mono (fun k _ e => by rw [show k = S from e]; exact h.fS)⟩
  · have e1 := heap_setCell_same w S k _ 3 (.int .i64 x) h.hS
    rw [List.setIfInBounds_toArray, encW_up P wh k x hk] at e1
    exact e1
  · intro e2
    rcases h.own.2 with ⟨e3, _⟩ | ⟨g, c, cur, e3, _, hg, _⟩
    · rw [e3] at e; simp [Value.ownBlock] at e
    · rw [e3] at e
      simp only [Value.ownBlock, Option.some.injEq] at e
      have := cells_ne h.hS hg (by decide)
      exact this (by rw [e]; exact e2.symm)
/-- What the heap tells is noted. -/
theorem stands_any (f : Nat → Prop) (Q C S P : Nat) (p : Option Addr) (cap : Nat) (l : List T) (wh : Nat → Int) (k : Nat) (x : Int) (w : World) (h : Hm f w Q C S P p cap l wh) (hk : k < P) :
    Calls Try.prog 35 #[.int .i64 k, .int .i64 x, .pointer (some ⟨C, 0, none⟩)] w fun e w' => e = .returned (.tuple #[]) ∧ Hm f w' Q C S P p cap l (upW wh k x) ∧ Off f w w' := by
  obtain ⟨_, _, c2, c3⟩ := h.head
  have s0 := h.stands hk
  have z0 := h.froz.2 k
  have HE := Lib.hid (h.tell hk x)
  have b1 : (k : Int) < (P : Int) := by omega
  clear h
  go_enter Try.func35, Try.ntmps35
  go_wp2
  go_end0
  exact ⟨rfl, HE.out⟩
/-- Is the one at i before the one at j? -/
theorem hbefore_any (f : Nat → Prop) (Q C S P : Nat) (p : Option Addr) (cap : Nat) (l : List T) (wh : Nat → Int) (i j : Nat) (w : World) (h : Hm f w Q C S P p cap l wh) (hi : i < l.length) (hj : j < l.length) :
    Calls Try.prog 77 #[.pointer (some ⟨Q, 0, none⟩), .int .i64 i, .int .i64 j] w fun e w' => e = .returned (.bool (lt (gt l i) (gt l j))) ∧ Bel w w' := by
  obtain ⟨g, cur, rfl, _⟩ := h.row (by omega)
  obtain ⟨c0, _⟩ := h.head
  obtain ⟨x, hx⟩ : ∃ x, gt l i = x := ⟨_, rfl⟩
  obtain ⟨y, hy⟩ : ∃ y, gt l j = y := ⟨_, rfl⟩
  obtain ⟨⟨x0, x1, x2⟩, _⟩ := h.at hi hx
  obtain ⟨⟨y0, y1, y2⟩, _⟩ := h.at hj hy
  rw [hx, hy]
  have b1 : (i : Int) < (l.length : Int) := by omega
  have b2 : (j : Int) < (l.length : Int) := by omega
  have HC : Hid (decide (cf x y < 0) = lt x y) := Lib.hid rfl
  generalize l.length = n at *
  clear h hx hy hi hj
  go_enter Try.func77, Try.ntmps77
  go_wp2
  go_region_held3 (fun w' => w'.cell? ⟨Q, 0, none⟩ = some (.slice (some ⟨g, 0, none⟩) n cap) ∧ w'.cell? ⟨g, i * 3, none⟩ = some (.int .u64 x.a) ∧ w'.cell? ⟨g, i * 3 + 1, none⟩ = some (.int .u64 x.s) ∧ w'.cell? ⟨g, i * 3 + 2, none⟩ = some (.int .i64 x.p) ∧ w'.cell? ⟨g, j * 3, none⟩ = some (.int .u64 y.a) ∧ w'.cell? ⟨g, j * 3 + 1, none⟩ = some (.int .u64 y.s) ∧ w'.cell? ⟨g, j * 3 + 2, none⟩ = some (.int .i64 y.p)) (first | exact ⟨c0, x0, x1, x2, y0, y1, y2⟩ | exact ⟨hg1.cell c0, hg1.cell x0, hg1.cell x1, hg1.cell x2, hg1.cell y0, hg1.cell y1, hg1.cell y2⟩)
    (first | (go_at_call 40; refine (compare_any x y _).mono ?_; rintro e w1 ⟨rfl, hg1⟩))
  go_wp2
  go_ret
  exact ⟨ret_bool HC.out, (Bel.refl _).drew.trans hg1⟩
end Go.Proofs.Ytaabalkfpjeheaa
