/-
  A queue, and boxes beside it: what each call keeps.
  Contract of the law's works: the document's example.
-/
import Derived.Test.YtdoceldofkaapaaGreatDoorXak
import Derived.Deep.Cut
set_option linter.unusedVariables false
set_option linter.unusedSimpArgs false
set_option linter.unusedSectionVars false
namespace Go.Proofs.YtdoceldofkaapaaGreatDoor
open Go.RowKit
/-- A timer's box. -/
abbrev tb (t : T) : Obj := .cells #[.int .u64 t.a, .int .u64 t.s, .int .i64 t.p] 37
structure Ow (Qu : QT) (w : World) (Q P b : Nat) (s kk : Int) (l : List T) (bx : List (Nat × Obj)) (wx : World) : Prop where
  ex : ∃ f, Qu f wx Q P b s kk l ∧ (∀ j, f j → w.heap.size ≤ j) ∧ ∀ x ∈ bx, ¬ f x.1
  bel : Bel w wx
  at_ : ∀ x ∈ bx, wx.heap[x.1]? = some x.2
theorem Ow.c3 {Qu : QT} {w : World} {Q P b : Nat} {s kk : Int} {l : List T} {bx : List (Nat × Obj)} {w1 : World} (h : Ow Qu w Q P b s kk l bx w1) {j : Nat} {x y z : Value} {ty : TypeId} (hm : (j, .cells #[x, y, z] ty) ∈ bx) : w1.cell? ⟨j, 0, none⟩ = some x ∧ w1.cell? ⟨j, 1, none⟩ = some y ∧ w1.cell? ⟨j, 2, none⟩ = some z := (box3 (h.at_ _ hm)).1
theorem Ow.less {Qu : QT} {w : World} {Q P b : Nat} {s kk : Int} {l : List T} {bx : List (Nat × Obj)} {w1 : World} {x : Nat × Obj} (h : Ow Qu w Q P b s kk l (x :: bx) w1) : Ow Qu w Q P b s kk l bx w1 := by
  obtain ⟨⟨f, h1, h2, h3⟩, h4, h5⟩ := h
  exact ⟨⟨f, h1, h2, fun y hy => h3 y (List.mem_cons_of_mem _ hy)⟩, h4, fun y hy => h5 y (List.mem_cons_of_mem _ hy)⟩
section
variable {Qu : QT} (C : Con Qu) {w : World} {Q P b : Nat} {s kk : Int} {l : List T} {bx : List (Nat × Obj)}
include C
theorem ow_le {w1 w2 : World} (h : Ow Qu w Q P b s kk l bx w1) (k : Bel w1 w2) : Ow Qu w Q P b s kk l bx w2 := by
  obtain ⟨⟨f, h1, h2, h3⟩, h4, h5⟩ := h
  exact ⟨⟨f, C.bel h1 k, h2, h3⟩, h4.trans k, fun x hx => k.heap (h5 x hx)⟩
theorem ow_step {f f' : Nat → Prop} {w1 w2 : World} {s' kk' : Int} {l' : List T} (h3 : ∀ k, f k → w.heap.size ≤ k) (h6 : ∀ x ∈ bx, ¬ f x.1) (h7 : Bel w w1) (h8 : ∀ x ∈ bx, w1.heap[x.1]? = some x.2)
    (hf : Grw f f' w1 w2) (hq : Qu f' w2 Q P b s' kk' l') (k : Off f w1 w2) : Ow Qu w Q P b s' kk' l' bx w2 := by
  refine ⟨⟨f', hq, fun j e => ?_, fun x hx e => ?_⟩, Off.trans h7 k (fun i e => .inr (h3 i e)), fun x hx => (k.block _ (Array.getElem?_eq_some_iff.1 (h8 x hx)).1 (h6 x hx)).trans (h8 x hx)⟩
  · rcases hf j e with e | e
    · exact h3 j e
    · exact Nat.le_trans h7.size e.1
  · rcases hf _ e with e | e
    · exact h6 x hx e
    · have := (Array.getElem?_eq_some_iff.1 (h8 x hx)).1
      omega
theorem ow_box {w1 : World} (h : Ow Qu w Q P b s kk l bx w1) (c : Array Value) (t : TypeId) : Ow Qu w Q P b s kk l ((w1.heap.size, .cells c t) :: bx) (w1.alloc (.cells c t)) := by
  have k : Bel w1 (w1.alloc (.cells c t)) := (Bel.refl w1).alloc c t
  obtain ⟨⟨f, h1, h2, h3⟩, h4, h5⟩ := h
  refine ⟨⟨f, C.bel h1 k, h2, fun x hx => ?_⟩, h4.trans k, fun x hx => ?_⟩
  · rcases List.mem_cons.1 hx with rfl | hx
    · exact fun e => Nat.lt_irrefl _ (C.lt_ h1 _ e)
    · exact h3 x hx
  · rcases List.mem_cons.1 hx with rfl | hx
    · exact heap_alloc_new _ _
    · exact k.heap (h5 x hx)
theorem ow_insert {l' : List T} {t : T} {er : Int} (e1 : insE P l t = er) (e2 : insL P l t = l') (ht : Tk t.a) {w1 : World} (h : Ow Qu w Q P b s kk l bx w1) :
    Calls Tryz.prog 37 #[.pointer (some ⟨Q, 0, none⟩), .agg #[.int .u64 t.a, .int .u64 t.s, .int .i64 t.p]] w1 fun e w2 => e = .returned (.int .i64 er) ∧ Ow Qu w Q P b s kk l' bx w2 := by
  subst e1 e2
  obtain ⟨⟨f, h1, h2, h3⟩, h4, h5⟩ := h
  exact (C.insert t w1 h1 ht).mono fun e w2 ⟨he, f', hf, hq, ho⟩ => ⟨he, ow_step C h2 h3 h4 h5 hf hq ho⟩
theorem ow_move {l' : List T} {t : T} {er : Int} (e1 : canE P l t.p = er) (e2 : movL P l t = l') (ht : Tk t.a) {w1 : World} (h : Ow Qu w Q P b s kk l bx w1) :
    Calls Tryz.prog 55 #[.pointer (some ⟨Q, 0, none⟩), .agg #[.int .u64 t.a, .int .u64 t.s, .int .i64 t.p]] w1 fun e w2 => e = .returned (.int .i64 er) ∧ Ow Qu w Q P b s kk l' bx w2 := by
  subst e1 e2
  obtain ⟨⟨f, h1, h2, h3⟩, h4, h5⟩ := h
  exact (C.move t w1 h1 ht).mono fun e w2 ⟨he, f', hf, hq, ho⟩ => ⟨he, ow_step C h2 h3 h4 h5 hf hq ho⟩
theorem ow_cancel {l' : List T} {k er : Int} {t : T} (e1 : canE P l k = er) (e2 : wo l k = l') (e3 : (fnd l k).getD default = t) {w1 : World} (h : Ow Qu w Q P b s kk l bx w1) :
    Calls Tryz.prog 56 #[.pointer (some ⟨Q, 0, none⟩), .int .i64 k] w1 fun e w2 => e = .returned (canV t er) ∧ Ow Qu w Q P b s kk l' bx w2 := by
  subst e1 e2 e3
  obtain ⟨⟨f, h1, h2, h3⟩, h4, h5⟩ := h
  exact (C.cancel k w1 h1).mono fun e w2 ⟨he, f', hf, hq, ho⟩ => ⟨he, ow_step C h2 h3 h4 h5 hf hq ho⟩
theorem ow_due {l' d : List T} {now s' k' : Int} {n : Nat} (e1 : due l now true = d) (e2 : due l now false = l') (e3 : max s now = s') (e4 : kk + (csc b s now l : Int) = k') (e5 : d.length = n) (hn : Tk now) {w1 : World} (h : Ow Qu w Q P b s kk l bx w1) :
    Calls Tryz.prog 38 #[.pointer (some ⟨Q, 0, none⟩), .int .u64 now] w1 fun e w2 => ∃ p c, e = .returned (.slice p n c) ∧ Has w2 p d ∧ Ow Qu w Q P b s' k' l' bx w2 := by
  subst e1 e2 e3 e4 e5
  obtain ⟨⟨f, h1, h2, h3⟩, h4, h5⟩ := h
  exact (C.due now w1 h1 hn).mono fun e w2 ⟨p, c, f', he, _, hl, hf, hq, ho⟩ => ⟨p, c, he, hl.has, ow_step C h2 h3 h4 h5 hf hq ho⟩
theorem ow_zp {w1 : World} (h : Ow Qu w Q P b s kk l bx w1) : ∃ Z, w1.cell? ⟨Q, 0, none⟩ = some (.pointer (some ⟨Z, 0, none⟩)) := by
  obtain ⟨⟨f, h1, _⟩, _⟩ := h
  exact C.zp h1
theorem ow_all {Z : Nat} {w1 : World} (hz : w1.cell? ⟨Q, 0, none⟩ = some (.pointer (some ⟨Z, 0, none⟩))) {n : Nat} (e : l.length = n) (h : Ow Qu w Q P b s kk l bx w1) :
    Calls Tryz.prog 24 #[.pointer (some ⟨Z, 0, none⟩)] w1 fun e w2 => ∃ p c, e = .returned (.slice p n c) ∧ Has w2 p l ∧ Bel w1 w2 := by
  subst e
  obtain ⟨⟨f, h1, _⟩, _⟩ := h
  exact (C.all w1 h1 hz).mono fun e w2 ⟨p, c, he, _, hl, hb⟩ => ⟨p, c, he, hl.has, hb⟩
theorem ow_min {t : T} (e : l.head? = some t) {w1 : World} (h : Ow Qu w Q P b s kk l bx w1) :
    Calls Tryz.prog 34 #[.pointer (some ⟨Q, 0, none⟩)] w1 fun e w2 => e = .returned (.tuple #[.agg #[.int .u64 t.a, .int .u64 t.s, .int .i64 t.p], .bool true]) ∧ Bel w1 w2 := by
  obtain ⟨⟨f, h1, _⟩, _⟩ := h
  have k := C.min w1 h1
  rw [e] at k
  exact k
theorem ow_get {Z : Nat} {w1 : World} (hz : w1.cell? ⟨Q, 0, none⟩ = some (.pointer (some ⟨Z, 0, none⟩))) {t : T} {k : Int} (e : fnd l k = some t) (h : Ow Qu w Q P b s kk l bx w1) :
    Calls Tryz.prog 19 #[.pointer (some ⟨Z, 0, none⟩), .int .i64 k] w1 fun e w2 => e = .returned (.tuple #[.agg #[.int .u64 t.a, .int .u64 t.s, .int .i64 t.p], .bool true]) ∧ Bel w1 w2 := by
  obtain ⟨⟨f, h1, _⟩, _⟩ := h
  have k := C.get k w1 h1 hz
  rw [e] at k
  exact k
theorem ow_len {Z : Nat} {w1 : World} (hz : w1.cell? ⟨Q, 0, none⟩ = some (.pointer (some ⟨Z, 0, none⟩))) {n : Nat} (e : l.length = n) (h : Ow Qu w Q P b s kk l bx w1) :
    Calls Tryz.prog 18 #[.pointer (some ⟨Z, 0, none⟩)] w1 fun e w2 => e = .returned (.int .i64 n) ∧ Bel w1 w2 := by
  subst e
  obtain ⟨⟨f, h1, _⟩, _⟩ := h
  exact C.count w1 h1 hz
theorem ow_base {w1 : World} (h : Ow Qu w Q P b s kk l bx w1) :
    Calls Tryz.prog 32 #[.pointer (some ⟨Q, 0, none⟩)] w1 fun e w2 => e = .returned (.int .u64 s) ∧ Bel w1 w2 := by
  obtain ⟨⟨f, h1, _⟩, _⟩ := h
  exact C.based w1 h1
theorem ow_cascades (k0 : 0 ≤ kk) (k9 : kk ≤ 1000000000) {w1 : World} (h : Ow Qu w Q P b s kk l bx w1) :
    Calls Tryz.prog 33 #[.pointer (some ⟨Q, 0, none⟩)] w1 fun e w2 => e = .returned (.int .i64 kk) ∧ Bel w1 w2 := by
  obtain ⟨⟨f, h1, _⟩, _⟩ := h
  exact C.cascades w1 h1 k0 k9
theorem ow_where {k : Int} {w1 : World} (h : Ow Qu w Q P b s kk l bx w1) :
    Calls Tryz.prog 30 #[.pointer (some ⟨Q, 0, none⟩), .int .i64 k] w1 fun e w2 => e = .returned (whr b s (fnd l k)) ∧ Bel w1 w2 := by
  obtain ⟨⟨f, h1, _⟩, _⟩ := h
  exact C.where_ k w1 h1
theorem ow_new {w1 : World} {f : Nat → Prop} (h1 : Qu f w1 Q P b s kk l) (hf : ∀ k, f k → w.heap.size ≤ k) (b1 : Bel w w1) : Ow Qu w Q P b s kk l [] w1 :=
  ⟨⟨f, h1, hf, fun x hx => by simp at hx⟩, b1, fun x hx => by simp at hx⟩
end
theorem has_row {w : World} {b : Nat} {l : List T} {cs : Array Value} (h : w.heap[b]? = some (.cells cs 37 (0, 0))) (e : cs = (encs l).toArray) : Has w (some ⟨b, 0, none⟩) l := by
  by_cases h0 : l = []
  · exact .inl h0
  refine .inr ⟨b, 0, rfl, fun i hi => ?_⟩
  have hg := encs_get l i hi
  have c : ∀ j, w.cell? ⟨b, j, none⟩ = (encs l)[j]? := fun j => by rw [cell_of_row w b _ _ 37 (0, 0) h, e, List.getElem?_toArray]
  rw [Nat.zero_add, c, c, c]
  exact hg
theorem same_yes (p q : Option Addr) (c d : Nat) (l : List T) (w : World) (hm : l.length ≤ 5000) (h1 : Has w p l) (h2 : Has w q l) :
    Calls Tryz.prog 23 #[.slice p l.length c, .slice q l.length d] w fun e w' => e = .returned (.bool true) ∧ Bel w w' := by
  have K := same_any p q l.length c d l l w rfl rfl hm h1 h2
  rw [decide_eq_true rfl] at K
  exact K
theorem new3 (w : World) (a b c : Array Value) (ta tb tc : TypeId) : ∃ W, ((w.alloc (.cells a ta)).alloc (.cells b tb)).alloc (.cells c tc) = W ∧ Bel w W ∧ W.heap.size = w.heap.size + 1 + 1 + 1 ∧ W.heap[w.heap.size]? = some (.cells a ta (0, 0)) ∧ W.heap[w.heap.size + 1]? = some (.cells b tb (0, 0)) ∧ W.heap[w.heap.size + 1 + 1]? = some (.cells c tc (0, 0)) := three_new w a b c ta tb tc
end Go.Proofs.YtdoceldofkaapaaGreatDoor
namespace Go.Proofs.YtdoceldofkaapaaGreatDoor
open Go.RowKit
abbrev xa : T := ⟨4165, 0, 0⟩
abbrev xb : T := ⟨16777216, 0, 1⟩
abbrev xd : T := ⟨16777215, 0, 1⟩
abbrev c3v (w' : World) (b : Nat) (x y z : Int) : Prop := w'.cell? ⟨b, 0, none⟩ = some (.int .u64 x) ∧ w'.cell? ⟨b, 1, none⟩ = some (.int .u64 y) ∧ w'.cell? ⟨b, 2, none⟩ = some (.int .i64 z)
theorem tkn (n : Nat) (h : n ≤ 100000000) : Tk (n : Int) := ⟨by omega, by omega⟩
theorem ow_at {Qu : QT} (C : Con Qu) {w : World} {Q P b : Nat} {s kk : Int} {l : List T} {bx : List (Nat × Obj)} {k x y : Int} {t : T} (e1 : fnd l k = some t) (e2 : lv b s t.a = x) (e3 : sv b s t.a = y) {w1 : World} (h : Ow Qu w Q P b s kk l bx w1) :
    Calls Tryz.prog 30 #[.pointer (some ⟨Q, 0, none⟩), .int .i64 k] w1 fun e w2 => e = .returned (.tuple #[.int .i64 x, .int .i64 y, .bool true]) ∧ Bel w1 w2 := by
  have K := ow_where C (k := k) h
  rw [e1] at K
  simp only [whr, e2, e3] at K
  exact K
theorem v1 : lv 6 0 4165 = 2 ∧ sv 6 0 4165 = 1 := by decide
theorem v2 : lv 6 4096 4165 = 1 ∧ sv 6 4096 4165 = 1 := by decide
theorem v3 : lv 6 4160 4165 = 0 ∧ sv 6 4160 4165 = 5 := by decide
theorem s1 : (0 : Int) + (csc 6 0 4096 [xa] : Int) = 1 := by decide
theorem s2 : (1 : Int) + (csc 6 4096 4160 [xa] : Int) = 2 := by decide
theorem s3 : (2 : Int) + (csc 6 4160 4164 [xa] : Int) = 2 := by decide
theorem k1 : Tk 4096 := tkn 4096 (by omega)
theorem k2 : Tk 4160 := tkn 4160 (by omega)
theorem k3 : Tk 4164 := tkn 4164 (by omega)
theorem s4 : (2 : Int) + (csc 6 4164 4165 [xa] : Int) = 2 := by decide
set_option maxHeartbeats 8000000 in
set_option maxRecDepth 100000 in
theorem works_any {Qu : QT} (C : Con Qu) (w : World) (hT : Bm.Tab w) : Calls Tryz.prog 25 #[] w fun e w' => e = .returned (.bool true) ∧ Bel w w' := by
  have K0 := Lib.hid (C.qnew_yes 2 6 0 w (by omega) (by omega) (tkn 0 (by omega)) hT)
  have e3 : ((2 : Nat) : Int) = 2 := rfl
  have e1 : ((6 : Nat) : Int) = 6 := rfl
  rw [e3, e1] at K0
  clear e3 e1
  go_enter Tryz.func25, Tryz.ntmps25
  go_wp2_with fail
  with_reducible refine K0.out.mono ?_
  rintro e w1 ⟨Q, f, rfl, hq, hf, hb⟩
  have T0 := Lib.hid (ow_new C hq hf hb)
  have H3 := Lib.hid (two_new w1 #[.int .u64 4165, .int .u64 0, .int .i64 0] #[.int .u64 16777216, .int .u64 0, .int .i64 1] 37 37)
  clear hq hf hb K0
  go_upto_region 5 with (fail)
  obtain ⟨W, eW, hB, hz, n3, n4⟩ := H3.out
  rw [eW]
  clear eW H3
  have T1 : Hid (Ow Qu w Q 2 6 0 0 [] [(w1.heap.size, tb xa), (w1.heap.size + 1, tb xb)] W) := Lib.hid (by
    obtain ⟨⟨f, h1, h2, h3⟩, h7, h8⟩ := T0.out
    refine ⟨⟨f, C.bel h1 hB, h2, fun x hx => ?_⟩, h7.trans hB, fun x hx => ?_⟩
    · simp at hx
      intro e
      have := C.lt_ h1 _ e
      rcases hx with rfl | rfl <;> (simp only at this; omega)
    · simp at hx
      rcases hx with rfl | rfl
      · exact n3
      · exact n4)
  clear T0 hB hz n3 n4
  obtain ⟨b4, e4⟩ : ∃ b, w1.heap.size + 1 = b := ⟨_, rfl⟩
  rw [e4] at T1 ⊢
  obtain ⟨b3, e3⟩ : ∃ b, w1.heap.size = b := ⟨_, rfl⟩
  rw [e3] at T1 ⊢
  clear e4 e3
  obtain ⟨bx, ebx⟩ : ∃ bx, [(b3, tb xa), (b4, tb xb)] = bx := ⟨_, rfl⟩
  have m3 : Hid ((b3, tb xa) ∈ bx) := Lib.hid (by rw [← ebx]; simp)
  have m4 : Hid ((b4, tb xb) ∈ bx) := Lib.hid (by rw [← ebx]; simp)
  rw [ebx] at T1
  clear ebx
  have T1d := Lib.hid (ow_le C T1.out (Bel.refl W).drew)
  have NN : Hid (∀ s k l w', Ow Qu w Q 2 6 s k l bx w' → c3v w' b3 4165 0 0 ∧ c3v w' b4 16777216 0 1) := Lib.hid (fun s k l w' h => ⟨h.c3 m3.out, h.c3 m4.out⟩)
  have K1 : Hid (∀ w1, Ow Qu w Q 2 6 0 0 [] bx w1 → Calls Tryz.prog 37 #[.pointer (some ⟨Q, 0, none⟩), .agg #[.int .u64 4165, .int .u64 0, .int .i64 0]] w1 fun e w2 => e = .returned (.int .i64 0) ∧ Ow Qu w Q 2 6 0 0 [xa] bx w2) := Lib.hid (fun w1 h => ow_insert C (t := xa) (by decide) (by decide) (tkn 4165 (by omega)) h)
  have K2 : Hid (∀ w1, Ow Qu w Q 2 6 0 0 [xa] bx w1 → Calls Tryz.prog 37 #[.pointer (some ⟨Q, 0, none⟩), .agg #[.int .u64 16777216, .int .u64 0, .int .i64 1]] w1 fun e w2 => e = .returned (.int .i64 0) ∧ Ow Qu w Q 2 6 0 0 [xa, xb] bx w2) := Lib.hid (fun w1 h => ow_insert C (t := xb) (by decide) (by decide) (tkn 16777216 (by omega)) h)
  go_cut [5, 6] from 34 (fun f g wx => f = .int .i64 0 ∧ g = .int .i64 0 ∧ Ow Qu w Q 2 6 0 0 [xa, xb] bx wx)
  case first =>
    obtain ⟨⟨a0, a1, a2⟩, ⟨c0, c1, c2⟩⟩ := NN.out _ _ _ _ T1.out
    go_wp2
    go_region_held3 (fun w' => c3v w' b3 4165 0 0 ∧ c3v w' b4 16777216 0 1)
      (first | (with_reducible exact NN.out _ _ _ _ T1d.out) | (with_reducible exact NN.out _ _ _ _ hw1) | (with_reducible exact NN.out _ _ _ _ hw2))
      (first | (go_at_call 37; (with_reducible refine (K1.out _ T1d.out).mono ?_); rintro e w2 ⟨rfl, hw1⟩) | (go_at_call 37; (with_reducible refine (K2.out _ hw1).mono ?_); rintro e w3 ⟨rfl, hw2⟩))
    all_goals
      go_wp2_with fail
      go_meet
      case rel => exact ⟨rfl, rfl, hw2⟩
  case rest =>
    obtain ⟨rfl, rfl, hw⟩ := hcut
    clear T1 T1d K1 K2
    have KM := Lib.hid (ow_move C (t := xd) (er := 0) (l' := [xa, xd]) (by decide) (by decide) (tkn 16777215 (by omega)) hw)
    clear hw
    go_wp2_with fail
    with_reducible refine (KM.out).mono ?_
    rintro e V4 ⟨rfl, hw⟩
    have W2 := Lib.hid hw
    clear hw KM
    go_upto_region 7 with (fail)
    go_cut [8] from 34 (fun v wx => v = .bool true ∧ Ow Qu w Q 2 6 0 0 [xa, xd] bx wx)
    case first =>
      obtain ⟨Zp, hzp⟩ := ow_zp C W2.out
      have NB : Hid (∀ w', Bel V4 w' → Bel V4 w' ∧ c3v w' b3 4165 0 0 ∧ w'.cell? ⟨Q, 0, none⟩ = some (.pointer (some ⟨Zp, 0, none⟩))) := Lib.hid (fun w' hb => ⟨hb, (ow_le C W2.out hb).c3 m3.out, hb.cell hzp⟩)
      obtain ⟨_, ⟨a0, a1, a2⟩, _⟩ := NB.out _ (Bel.refl _)
      have A1 := Lib.hid (ow_all C (NB.out _ (Bel.refl V4).drew).2.2 (n := 2) rfl (ow_le C W2.out (Bel.refl V4).drew))
      have A2 := Lib.hid (ow_all C (NB.out _ ((Bel.refl V4).alloc #[.int .u64 4165, .int .u64 0, .int .i64 0, .int .u64 16777215, .int .u64 0, .int .i64 1] 37).drew).2.2 (n := 2) rfl (ow_le C W2.out ((Bel.refl V4).alloc #[.int .u64 4165, .int .u64 0, .int .i64 0, .int .u64 16777215, .int .u64 0, .int .i64 1] 37).drew))
      have E1 : Hid (∀ w4 : World, Has (w4.alloc (.cells #[.int .u64 4165, .int .u64 0, .int .i64 0, .int .u64 16777215, .int .u64 0, .int .i64 1] 37)) (some ⟨w4.heap.size, 0, none⟩) [xa, xd]) := Lib.hid (fun w4 => has_row (heap_alloc_new _ _) rfl)
      have E2 : Hid (∀ w4 : World, Bel (V4.alloc (.cells #[.int .u64 4165, .int .u64 0, .int .i64 0, .int .u64 16777215, .int .u64 0, .int .i64 1] 37)).drew w4 → Has w4 (some ⟨V4.heap.size, 0, none⟩) [xa, xd]) := Lib.hid (fun w4 hg => (has_row (heap_alloc_new _ _) rfl).bel ((Bel.refl _).drew.trans hg))
      have KS : Hid (∀ p q c d w', Has w' p [xa, xd] → Has w' q [xa, xd] → Calls Tryz.prog 23 #[.slice p 2 c, .slice q 2 d] w' fun e w2 => e = .returned (.bool true) ∧ Bel w' w2) := Lib.hid (fun p q c d w' h1 h2 => same_yes p q c d [xa, xd] w' (by decide) h1 h2)
      have BD : Hid (Bel V4 V4.drew) := Lib.hid (Bel.refl V4).drew
      have BA : Hid (Bel V4 (V4.alloc (.cells #[.int .u64 4165, .int .u64 0, .int .i64 0, .int .u64 16777215, .int .u64 0, .int .i64 1] 37)).drew) := Lib.hid ((Bel.refl V4).alloc _ _).drew
      clear NN
      go_wp2
      go_region_held3 (fun w' => Bel V4 w' ∧ c3v w' b3 4165 0 0 ∧ w'.cell? ⟨Q, 0, none⟩ = some (.pointer (some ⟨Zp, 0, none⟩)))
        (first | (with_reducible exact NB.out _ BD.out) | (with_reducible exact NB.out _ BA.out) | exact NB.out _ (Bel.trans (And.left (by assumption)) hg1) | exact NB.out _ (Bel.trans (And.left (by assumption)) hg2) | exact NB.out _ (Bel.alloc (w := w5) (And.left (by assumption)) _ _))
        (first | (go_at_call 24; (with_reducible refine (A1.out).mono ?_); rintro e w5 ⟨q, k, rfl, hq, hg1⟩) | (go_at_call 24; (with_reducible refine (A2.out).mono ?_); rintro e w5 ⟨q, k, rfl, hq, hg1⟩) | (go_at_call 23; (with_reducible refine (KS.out _ _ _ _ _ (hq.bel ((Bel.refl _).alloc _ _)) (E1.out w5)).mono ?_); rintro e w6 ⟨rfl, hg2⟩) | (go_at_call 23; (with_reducible refine (KS.out _ _ _ _ _ hq (E2.out w5 hg1)).mono ?_); rintro e w6 ⟨rfl, hg2⟩))
      all_goals
        go_wp2_with fail
        go_meet
        case rel => exact ⟨rfl, ow_le C W2.out (And.left (by assumption))⟩
    case rest =>
      obtain ⟨rfl, hw⟩ := hcut
      clear W2 NN
      have KC := Lib.hid (ow_cancel C (k := 1) (t := xd) (er := 0) (l' := [xa]) (by decide) (by decide) (by decide) hw)
      unfold canV at KC
      clear hw
      go_wp2_with fail
      with_reducible refine (KC.out).mono ?_
      rintro e w5 ⟨rfl, hw⟩
      have W3 := Lib.hid (ow_box C hw #[.int .u64 16777215, .int .u64 0, .int .i64 1] 37)
      clear hw KC
      go_upto_region 9 with (fail)
      generalize w5.alloc (.cells #[.int .u64 16777215, .int .u64 0, .int .i64 1] 37) = V5 at *
      generalize w5.heap.size = b9 at *
      obtain ⟨by_, eby⟩ : ∃ b, (b9, Obj.cells #[.int .u64 16777215, .int .u64 0, .int .i64 1] 37) :: bx = b := ⟨_, rfl⟩
      rw [eby] at W3
      have m9 : Hid ((b9, tb xd) ∈ by_) := Lib.hid (by rw [← eby]; simp)
      have m3 : Hid ((b3, tb xa) ∈ by_) := Lib.hid (by rw [← eby]; exact List.mem_cons_of_mem _ m3.out)
      clear eby m4
      have NB : Hid (∀ s k l bq w' j t, Ow Qu w Q 2 6 s k l bq w' → (j, tb t) ∈ bq → c3v w' j t.a t.s t.p) := Lib.hid (fun s k l bq w' j t h h1 => h.c3 h1)
      go_wp2_with fail
      with_reducible refine (ow_at C (k := 0) (t := xa) (by decide) v1.1 v1.2 W3.out).mono ?_
      rintro e u1 ⟨rfl, hb⟩
      have X2 := Lib.hid (ow_le C W3.out hb)
      clear hb W3
      go_wp2_with fail
      with_reducible refine (ow_due C (now := 4096) (d := []) (l' := [xa]) (s' := 4096) (k' := 1) (n := 0) (by decide) (by decide) (by decide) s1 rfl k1 X2.out).mono ?_
      rintro e u2 ⟨qu2, cu2, rfl, _, hw⟩
      have X3 := Lib.hid hw
      clear hw X2
      go_wp2_with fail
      with_reducible refine (ow_cascades C (by omega) (by omega) X3.out).mono ?_
      rintro e u3 ⟨rfl, hb⟩
      have X4 := Lib.hid (ow_le C X3.out hb)
      clear hb X3
      go_wp2_with fail
      with_reducible refine (ow_at C (k := 0) (t := xa) (by decide) v2.1 v2.2 X4.out).mono ?_
      rintro e u4 ⟨rfl, hb⟩
      have X5 := Lib.hid (ow_le C X4.out hb)
      clear hb X4
      go_wp2_with fail
      with_reducible refine (ow_due C (now := 4160) (d := []) (l' := [xa]) (s' := 4160) (k' := 2) (n := 0) (by decide) (by decide) (by decide) s2 rfl k2 X5.out).mono ?_
      rintro e u5 ⟨qu5, cu5, rfl, _, hw⟩
      have X6 := Lib.hid hw
      clear hw X5
      go_wp2_with fail
      with_reducible refine (ow_cascades C (by omega) (by omega) X6.out).mono ?_
      rintro e u6 ⟨rfl, hb⟩
      have X7 := Lib.hid (ow_le C X6.out hb)
      clear hb X6
      go_wp2_with fail
      with_reducible refine (ow_at C (k := 0) (t := xa) (by decide) v3.1 v3.2 X7.out).mono ?_
      rintro e u7 ⟨rfl, hb⟩
      have X8 := Lib.hid (ow_le C X7.out hb)
      clear hb X7
      go_wp2_with fail
      with_reducible refine (ow_due C (now := 4164) (d := []) (l' := [xa]) (s' := 4164) (k' := 2) (n := 0) (by decide) (by decide) (by decide) s3 rfl k3 X8.out).mono ?_
      rintro e u8 ⟨qu8, cu8, rfl, _, hw⟩
      have X9 := Lib.hid hw
      clear hw X8
      go_wp2_with fail
      with_reducible refine (ow_cascades C (by omega) (by omega) X9.out).mono ?_
      rintro e u9 ⟨rfl, hb⟩
      have X10 := Lib.hid (ow_le C X9.out hb)
      clear hb X9
      go_wp2_with fail
      with_reducible refine (ow_base C X10.out).mono ?_
      rintro e u10 ⟨rfl, hb⟩
      have X11 := Lib.hid (ow_le C X10.out hb)
      clear hb X10
      go_wp2_with fail
      with_reducible refine (ow_min C (t := xa) rfl X11.out).mono ?_
      rintro e u11 ⟨rfl, hb⟩
      have X12 := Lib.hid (ow_box C (ow_le C X11.out hb) #[.int .u64 4165, .int .u64 0, .int .i64 0] 37)
      clear hb X11
      go_upto_region 16 with (fail)
      generalize u11.alloc (.cells #[.int .u64 4165, .int .u64 0, .int .i64 0] 37) = Z16 at *
      generalize u11.heap.size = b17 at *
      obtain ⟨bu, ebb⟩ : ∃ b, (b17, Obj.cells #[.int .u64 4165, .int .u64 0, .int .i64 0] 37) :: by_ = b := ⟨_, rfl⟩
      rw [ebb] at X12
      have m17 : Hid ((b17, tb xa) ∈ bu) := Lib.hid (by rw [← ebb]; simp)
      have m9 : Hid ((b9, tb xd) ∈ bu) := Lib.hid (by rw [← ebb]; exact List.mem_cons_of_mem _ m9.out)
      have m3 : Hid ((b3, tb xa) ∈ bu) := Lib.hid (by rw [← ebb]; exact List.mem_cons_of_mem _ m3.out)
      clear ebb
      obtain ⟨Zg, hzg⟩ := ow_zp C X12.out
      go_wp2_with fail
      with_reducible refine (ow_get C hzg (k := 0) (t := xa) (by decide) X12.out).mono ?_
      rintro e u12 ⟨rfl, hb⟩
      have X13 := Lib.hid (ow_box C (ow_le C X12.out hb) #[.int .u64 4165, .int .u64 0, .int .i64 0] 37)
      clear hb X12
      go_upto_region 17 with (fail)
      generalize u12.alloc (.cells #[.int .u64 4165, .int .u64 0, .int .i64 0] 37) = Z17 at *
      generalize u12.heap.size = b19 at *
      obtain ⟨bv, ebb⟩ : ∃ b, (b19, Obj.cells #[.int .u64 4165, .int .u64 0, .int .i64 0] 37) :: bu = b := ⟨_, rfl⟩
      rw [ebb] at X13
      have m19 : Hid ((b19, tb xa) ∈ bv) := Lib.hid (by rw [← ebb]; simp)
      have m9 : Hid ((b9, tb xd) ∈ bv) := Lib.hid (by rw [← ebb]; exact List.mem_cons_of_mem _ m9.out)
      have m3 : Hid ((b3, tb xa) ∈ bv) := Lib.hid (by rw [← ebb]; exact List.mem_cons_of_mem _ m3.out)
      have m17 : Hid ((b17, tb xa) ∈ bv) := Lib.hid (by rw [← ebb]; exact List.mem_cons_of_mem _ m17.out)
      clear ebb
      have W7 := X13
      clear X13
      go_cut [21] from 34 (fun v wx => v = .bool true ∧ Ow Qu w Q 2 6 4165 2 [] bv wx)
      case first =>
        obtain ⟨c0, c1, c2⟩ := NB.out _ _ _ _ _ b3 xa W7.out m3.out
        have A1 := Lib.hid (ow_due C (now := 4165) (d := [xa]) (l' := []) (s' := 4165) (k' := 2) (n := 1) (by decide) (by decide) (by decide) s4 rfl (tkn 4165 (by omega)) (ow_le C W7.out (Bel.refl Z17).drew))
        have W7b := Lib.hid (ow_le C (ow_box C W7.out #[.int .u64 4165, .int .u64 0, .int .i64 0] 37) (Bel.refl _).drew)
        have A2 := Lib.hid (ow_due C (now := 4165) (d := [xa]) (l' := []) (s' := 4165) (k' := 2) (n := 1) (by decide) (by decide) (by decide) s4 rfl (tkn 4165 (by omega)) W7b.out)
        have E1 : Hid (∀ w4 : World, Has (w4.alloc (.cells #[.int .u64 4165, .int .u64 0, .int .i64 0] 37)) (some ⟨w4.heap.size, 0, none⟩) [xa]) := Lib.hid (fun w4 => has_row (heap_alloc_new _ _) rfl)
        have E2 : Hid (∀ w4 : World, Ow Qu w Q 2 6 4165 2 [] ((Z17.heap.size, .cells #[.int .u64 4165, .int .u64 0, .int .i64 0] 37) :: bv) w4 → Has w4 (some ⟨Z17.heap.size, 0, none⟩) [xa] ∧ Ow Qu w Q 2 6 4165 2 [] bv w4) := Lib.hid (fun w4 hk => ⟨has_row (hk.at_ _ (List.mem_cons_self ..)) rfl, hk.less⟩)
        have KS : Hid (∀ p q c d w', Has w' p [xa] → Has w' q [xa] → Calls Tryz.prog 23 #[.slice p 1 c, .slice q 1 d] w' fun e w2 => e = .returned (.bool true) ∧ Bel w' w2) := Lib.hid (fun p q c d w' h1 h2 => same_yes p q c d [xa] w' (by decide) h1 h2)
        go_wp2
        go_region_with (first | (go_at_call 38; (with_reducible refine (A1.out).mono ?_); rintro e w8 ⟨q, k, rfl, hq, hw3⟩; have hn3 := NB.out _ _ _ _ _ b3 xa hw3 m3.out; obtain ⟨c0, c1, c2⟩ := hn3) | (go_at_call 38; (with_reducible refine (A2.out).mono ?_); rintro e w8 ⟨q, k, rfl, hq, hw3⟩; have hk3 := E2.out _ hw3; have hn3 := NB.out _ _ _ _ _ b3 xa hk3.2 m3.out; obtain ⟨c0, c1, c2⟩ := hn3) | (go_at_call 23; (with_reducible refine (KS.out _ _ _ _ _ (hq.bel ((Bel.refl _).alloc _ _)) (E1.out w8)).mono ?_); rintro e w9 ⟨rfl, hg2⟩; have hw4 := ow_le C hw3 (((Bel.refl w8).alloc #[.int .u64 4165, .int .u64 0, .int .i64 0] 37).trans hg2)) | (go_at_call 23; (with_reducible refine (KS.out _ _ _ _ _ hq hk3.1).mono ?_); rintro e w9 ⟨rfl, hg2⟩; have hw4 := ow_le C hk3.2 hg2))
        all_goals
          go_wp2_with fail
          go_meet
          case rel => exact ⟨rfl, hw4⟩
      case rest =>
        obtain ⟨rfl, hw⟩ := hcut
        clear W7
        have W10 := Lib.hid hw
        clear hw
        obtain ⟨r0, r1, r2⟩ := NB.out _ _ _ _ _ b9 xd W10.out m9.out
        obtain ⟨r3, r4, r5⟩ := NB.out _ _ _ _ _ b3 xa W10.out m3.out
        obtain ⟨r6, r7, r8⟩ := NB.out _ _ _ _ _ b17 xa W10.out m17.out
        obtain ⟨r9, r10, r11⟩ := NB.out _ _ _ _ _ b19 xa W10.out m19.out
        obtain ⟨Zl, hzl⟩ := ow_zp C W10.out
        have KL := Lib.hid (ow_len C hzl (n := 0) rfl W10.out)
        go_wp2_with fail
        with_reducible refine (KL.out).mono ?_
        rintro e w12 ⟨rfl, hb⟩
        have BE := Lib.hid (W10.out.bel.trans hb)
        clear hb
        go_wp2
        go_ret
        exact ⟨rfl, BE.out⟩
end Go.Proofs.YtdoceldofkaapaaGreatDoor
