/-
  Two queues side by side, and boxes beside them: what each call keeps.
-/
import Derived.Test.YtdlfppdekllloaaPmel3
import Derived.Test.YtdlfppdekllloaaSame
set_option linter.unusedVariables false
set_option linter.unusedSimpArgs false
namespace Go.Proofs.Ytdlfppdekllloaa
open Go.RowKit
/-- A timer's box. -/
abbrev tb (t : T) : Obj := .cells #[.int .u64 t.a, .int .u64 t.s, .int .i64 t.p] 35
structure Tw (w : World) (Q O P R : Nat) (l m : List T) (bx : List (Nat × Obj)) (wx : World) : Prop where
  ex : ∃ f g : Nat → Prop, Qu f wx Q P l ∧ Qu g wx O R m ∧ (∀ k, f k → w.heap.size ≤ k) ∧ (∀ k, g k → w.heap.size ≤ k) ∧ (∀ k, f k → ¬ g k) ∧ ∀ x ∈ bx, ¬ f x.1 ∧ ¬ g x.1
  bel : Bel w wx
  at_ : ∀ x ∈ bx, wx.heap[x.1]? = some x.2
section
variable {w : World} {Q O P R : Nat} {l m : List T} {bx : List (Nat × Obj)}
theorem Tw.le {w1 w2 : World} (h : Tw w Q O P R l m bx w1) (k : Bel w1 w2) : Tw w Q O P R l m bx w2 := by
  obtain ⟨⟨f, g, h1, h2, h3⟩, h4, h5⟩ := h
  exact ⟨⟨f, g, h1.bel k, h2.bel k, h3⟩, h4.trans k, fun x hx => k.heap (h5 x hx)⟩
theorem Tw.sw {w1 : World} (h : Tw w Q O P R l m bx w1) : Tw w O Q R P m l bx w1 := by
  obtain ⟨⟨f, g, h1, h2, h3, h4, h5, h6⟩, h7, h8⟩ := h
  exact ⟨⟨g, f, h2, h1, h4, h3, fun k a b => h5 k b a, fun x hx => ⟨(h6 x hx).2, (h6 x hx).1⟩⟩, h7, h8⟩
theorem Tw.step {f g f' : Nat → Prop} {w1 w2 : World} {l' : List T} (h2 : Qu g w1 O R m) (h3 : ∀ k, f k → w.heap.size ≤ k) (h4 : ∀ k, g k → w.heap.size ≤ k) (h5 : ∀ k, f k → ¬ g k) (h6 : ∀ x ∈ bx, ¬ f x.1 ∧ ¬ g x.1) (h7 : Bel w w1) (h8 : ∀ x ∈ bx, w1.heap[x.1]? = some x.2)
    (hf : ∀ j, f' j → f j ∨ (w1.heap.size ≤ j ∧ j < w2.heap.size)) (hq : Qu f' w2 Q P l') (k : Off f w1 w2) : Tw w Q O P R l' m bx w2 := by
  refine ⟨⟨f', g, hq, h2.off k (fun i a b => h5 i b a), fun j e => ?_, h4, fun j e e2 => ?_, fun x hx => ⟨fun e => ?_, (h6 x hx).2⟩⟩, Off.trans h7 k (fun i e => .inr (h3 i e)), fun x hx => (k.block _ (Array.getElem?_eq_some_iff.1 (h8 x hx)).1 (h6 x hx).1).trans (h8 x hx)⟩
  · rcases hf j e with e | e
    · exact h3 j e
    · exact Nat.le_trans h7.size e.1
  · rcases hf j e with e | e
    · exact h5 j e e2
    · have := h2.lt_ j e2; omega
  · rcases hf _ e with e | e
    · exact (h6 x hx).1 e
    · have := (Array.getElem?_eq_some_iff.1 (h8 x hx)).1
      omega
theorem Tw.box {w1 : World} (h : Tw w Q O P R l m bx w1) (c : Array Value) (t : TypeId) : Tw w Q O P R l m ((w1.heap.size, .cells c t) :: bx) (w1.alloc (.cells c t)) := by
  have k : Bel w1 (w1.alloc (.cells c t)) := (Bel.refl w1).alloc c t
  obtain ⟨⟨f, g, h1, h2, h3, h4, h5, h6⟩, h7, h8⟩ := h
  refine ⟨⟨f, g, h1.bel k, h2.bel k, h3, h4, h5, fun x hx => ?_⟩, h7.trans k, fun x hx => ?_⟩
  · rcases List.mem_cons.1 hx with rfl | hx
    · exact ⟨fun e => Nat.lt_irrefl _ (h1.lt_ _ e), fun e => Nat.lt_irrefl _ (h2.lt_ _ e)⟩
    · exact h6 x hx
  · rcases List.mem_cons.1 hx with rfl | hx
    · exact heap_alloc_new _ _
    · exact k.heap (h8 x hx)
theorem Tw.less {w1 : World} {x : Nat × Obj} (h : Tw w Q O P R l m (x :: bx) w1) : Tw w Q O P R l m bx w1 := by
  obtain ⟨⟨f, g, h1, h2, h3, h4, h5, h6⟩, h7, h8⟩ := h
  exact ⟨⟨f, g, h1, h2, h3, h4, h5, fun y hy => h6 y (List.mem_cons_of_mem _ hy)⟩, h7, fun y hy => h8 y (List.mem_cons_of_mem _ hy)⟩
theorem Tw.c3 {w1 : World} (h : Tw w Q O P R l m bx w1) {b : Nat} {x y z : Value} {ty : TypeId} (hm : (b, .cells #[x, y, z] ty) ∈ bx) : w1.cell? ⟨b, 0, none⟩ = some x ∧ w1.cell? ⟨b, 1, none⟩ = some y ∧ w1.cell? ⟨b, 2, none⟩ = some z := (box3 (h.at_ _ hm)).1
theorem tw_insert {l' : List T} {t : T} {er : Int} (e1 : insE P l t = er) (e2 : insL P l t = l') {w1 : World} (h : Tw w Q O P R l m bx w1) :
    Calls Try.prog 27 #[.pointer (some ⟨Q, 0, none⟩), .agg #[.int .u64 t.a, .int .u64 t.s, .int .i64 t.p]] w1 fun e w2 => e = .returned (.int .i64 er) ∧ Tw w Q O P R l' m bx w2 := by
  subst e1 e2
  obtain ⟨⟨f, g, h1, h2, h3, h4, h5, h6⟩, h7, h8⟩ := h
  exact (insert_any f Q P l t w1 h1).mono fun e w2 ⟨he, f', hf, hq, ho⟩ => ⟨he, Tw.step h2 h3 h4 h5 h6 h7 h8 hf hq ho⟩
theorem tw_move {l' : List T} {t : T} {er : Int} (e1 : canE P l t.p = er) (e2 : movL P l t = l') {w1 : World} (h : Tw w Q O P R l m bx w1) :
    Calls Try.prog 28 #[.pointer (some ⟨Q, 0, none⟩), .agg #[.int .u64 t.a, .int .u64 t.s, .int .i64 t.p]] w1 fun e w2 => e = .returned (.int .i64 er) ∧ Tw w Q O P R l' m bx w2 := by
  subst e1 e2
  obtain ⟨⟨f, g, h1, h2, h3, h4, h5, h6⟩, h7, h8⟩ := h
  exact (move_any f Q P l t w1 h1).mono fun e w2 ⟨he, f', hf, hq, ho⟩ => ⟨he, Tw.step h2 h3 h4 h5 h6 h7 h8 hf hq ho⟩
theorem tw_cancel {l' : List T} {k er : Int} {t : T} (e1 : canE P l k = er) (e2 : wo l k = l') (e3 : (fnd l k).getD default = t) {w1 : World} (h : Tw w Q O P R l m bx w1) :
    Calls Try.prog 25 #[.pointer (some ⟨Q, 0, none⟩), .int .i64 k] w1 fun e w2 => e = .returned (canV t er) ∧ Tw w Q O P R l' m bx w2 := by
  subst e1 e2 e3
  obtain ⟨⟨f, g, h1, h2, h3, h4, h5, h6⟩, h7, h8⟩ := h
  exact (cancel_any f Q P l k w1 h1).mono fun e w2 ⟨he, hq, ho⟩ => ⟨he, Tw.step h2 h3 h4 h5 h6 h7 h8 (fun j e => .inl e) hq ho⟩
theorem tw_due {l' d : List T} {now : Int} (e1 : due l now true = d) (e2 : due l now false = l') {w1 : World} (h : Tw w Q O P R l m bx w1) :
    Calls Try.prog 24 #[.pointer (some ⟨Q, 0, none⟩), .int .u64 now] w1 fun e w2 => ∃ p c, e = .returned (.slice p d.length c) ∧ Has w2 p d ∧ Tw w Q O P R l' m bx w2 := by
  subst e1 e2
  obtain ⟨⟨f, g, h1, h2, h3, h4, h5, h6⟩, h7, h8⟩ := h
  exact (due_any f Q P l now w1 h1).mono fun e w2 ⟨⟨p, c, he, _, hl⟩, hq, ho⟩ => ⟨p, c, he, hl.has, Tw.step h2 h3 h4 h5 h6 h7 h8 (fun j e => .inl e) hq ho⟩
theorem tw_all {w1 : World} (h : Tw w Q O P R l m bx w1) :
    Calls Try.prog 20 #[.pointer (some ⟨Q, 0, none⟩)] w1 fun e w2 => ∃ p c, e = .returned (.slice p l.length c) ∧ Has w2 p l ∧ Bel w1 w2 := by
  obtain ⟨⟨f, g, h1, _⟩, _⟩ := h
  exact (all_any f Q P l w1 h1).mono fun e w2 ⟨⟨p, c, he, _, hl⟩, hb⟩ => ⟨p, c, he, hl.has, hb⟩
theorem tw_min {t : T} (e : l.head? = some t) {w1 : World} (h : Tw w Q O P R l m bx w1) :
    Calls Try.prog 26 #[.pointer (some ⟨Q, 0, none⟩)] w1 fun e w2 => e = .returned (.tuple #[.agg #[.int .u64 t.a, .int .u64 t.s, .int .i64 t.p], .bool true]) ∧ Bel w1 w2 := by
  obtain ⟨⟨f, g, h1, _⟩, _⟩ := h
  have k := min_any f Q P l w1 h1
  rw [e] at k
  exact k
theorem tw_get {t : T} {k : Int} (e : fnd l k = some t) {w1 : World} (h : Tw w Q O P R l m bx w1) :
    Calls Try.prog 29 #[.pointer (some ⟨Q, 0, none⟩), .int .i64 k] w1 fun e w2 => e = .returned (.tuple #[.agg #[.int .u64 t.a, .int .u64 t.s, .int .i64 t.p], .bool true]) ∧ Bel w1 w2 := by
  obtain ⟨⟨f, g, h1, _⟩, _⟩ := h
  have k := get_any f Q P l k w1 h1
  rw [e] at k
  exact k
theorem tw_len {n : Nat} (e : l.length = n) {w1 : World} (h : Tw w Q O P R l m bx w1) :
    Calls Try.prog 21 #[.pointer (some ⟨Q, 0, none⟩)] w1 fun e w2 => e = .returned (.int .i64 n) ∧ Bel w1 w2 := by
  obtain ⟨⟨f, g, h1, _⟩, _⟩ := h
  have k := len_any f Q P l w1 h1
  rw [e] at k
  exact k
/-- What pends in both, behind Meld. -/
def melL (P R : Nat) (l m : List T) : List T := if melE P R l m = 0 then srt (l ++ m) else l
def melM (P R : Nat) (l m : List T) : List T := if melE P R l m = 0 then [] else m
theorem tw_meld {l' m' : List T} {er : Int} (e1 : melE P R l m = er) (e2 : melL P R l m = l') (e3 : melM P R l m = m') {w1 : World} (h : Tw w Q O P R l m bx w1) :
    Calls Try.prog 17 #[.pointer (some ⟨Q, 0, none⟩), .pointer (some ⟨O, 0, none⟩)] w1 fun e w2 => e = .returned (.int .i64 er) ∧ Tw w Q O P R l' m' bx w2 := by
  subst e1 e2 e3
  have hh := h
  obtain ⟨⟨f, g, h1, h2, h3, h4, h5, h6⟩, h7, h8⟩ := h
  refine (meld_any f g Q O P R l m w1 h1 h2 h5).mono fun e w2 ⟨he, hc⟩ => ⟨he, ?_⟩
  rcases hc with ⟨hne, hb⟩ | ⟨h0, _, _, f', g', a1, a2, a3, a4, a5, a6⟩
  · unfold melL melM
    rw [if_neg hne, if_neg hne]
    exact hh.le hb
  · unfold melL melM
    rw [if_pos h0, if_pos h0]
    refine ⟨⟨f', g', a4, a5, fun k e => ?_, fun k e => h4 k (a2 k e), a3, fun x hx => ⟨fun e => ?_, fun e => (h6 x hx).2 (a2 _ e)⟩⟩, Off.trans h7 a6 (fun i e => .inr ?_), fun x hx => (a6.block _ (Array.getElem?_eq_some_iff.1 (h8 x hx)).1 (fun e => ?_)).trans (h8 x hx)⟩
    · rcases a1 k e with e | e
      · exact h3 k e
      · exact h4 k e
    · rcases a1 _ e with e | e
      · exact (h6 x hx).1 e
      · exact (h6 x hx).2 e
    · rcases e with e | e
      · exact h3 i e
      · exact h4 i e
    · rcases e with e | e
      · exact (h6 x hx).1 e
      · exact (h6 x hx).2 e
end
theorem has_row {w : World} {b : Nat} {l : List T} {cs : Array Value} (h : w.heap[b]? = some (.cells cs 35 (0, 0))) (e : cs = (encs l).toArray) : Has w (some ⟨b, 0, none⟩) l := by
  by_cases h0 : l = []
  · exact .inl h0
  refine .inr ⟨b, 0, rfl, fun i hi => ?_⟩
  have hg := encs_get l i hi
  have c : ∀ j, w.cell? ⟨b, j, none⟩ = (encs l)[j]? := fun j => by rw [cell_of_row w b _ _ 35 (0, 0) h, e, List.getElem?_toArray]
  rw [Nat.zero_add, c, c, c]
  exact hg
theorem same_yes (p q : Option Addr) (c d : Nat) (l : List T) (w : World) (hm : l.length ≤ 5000) (h1 : Has w p l) (h2 : Has w q l) :
    Calls Try.prog 23 #[.slice p l.length c, .slice q l.length d] w fun e w' => e = .returned (.bool true) ∧ Bel w w' := by
  have K := same_any p q l.length c d l l w rfl rfl hm h1 h2
  rw [decide_eq_true rfl] at K
  exact K
theorem new3 (w : World) (a b c : Array Value) (ta tb tc : TypeId) : ∃ W, ((w.alloc (.cells a ta)).alloc (.cells b tb)).alloc (.cells c tc) = W ∧ Bel w W ∧ W.heap.size = w.heap.size + 1 + 1 + 1 ∧ W.heap[w.heap.size]? = some (.cells a ta (0, 0)) ∧ W.heap[w.heap.size + 1]? = some (.cells b tb (0, 0)) ∧ W.heap[w.heap.size + 1 + 1]? = some (.cells c tc (0, 0)) := by
  refine ⟨_, rfl, (((Bel.refl w).alloc _ _).alloc _ _).alloc _ _, by simp, ?_, ?_, ?_⟩
  · rw [Below.heap_alloc _ _ _ (by simp; omega), Below.heap_alloc _ _ _ (by simp), heap_alloc_new]
  · rw [Below.heap_alloc _ _ _ (by simp)]
    have := heap_alloc_new (w.alloc (.cells a ta)) (.cells b tb)
    simpa using this
  · have := heap_alloc_new ((w.alloc (.cells a ta)).alloc (.cells b tb)) (.cells c tc)
    simpa using this
/-- Two new queues. -/
theorem tw_new {w w1 w2 : World} {Q O P R : Nat} {l m : List T} {f g : Nat → Prop} (h1 : Qu f w1 Q P l) (hf : ∀ k, f k → w.heap.size ≤ k) (b1 : Bel w w1) (h2 : Qu g w2 O R m) (hg : ∀ k, g k → w1.heap.size ≤ k) (b2 : Bel w1 w2) : Tw w Q O P R l m [] w2 :=
  ⟨⟨f, g, h1.bel b2, h2, hf, fun k e => Nat.le_trans b1.size (hg k e), fun k e e2 => by have := h1.lt_ k e; have := hg k e2; omega, fun x hx => by simp at hx⟩, b1.trans b2, fun x hx => by simp at hx⟩
end Go.Proofs.Ytdlfppdekllloaa
