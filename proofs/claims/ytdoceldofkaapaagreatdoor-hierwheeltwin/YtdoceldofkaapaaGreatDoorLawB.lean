/-
  The walk of HierwheelTwin.
-/
import Derived.Test.YtdoceldofkaapaaGreatDoorXaz
import Derived.Test.YtdoceldofkaapaaGreatDoorMid
import Derived.Test.YtdoceldofkaapaaGreatDoorSamet
import Derived.Deep.CutRange
set_option linter.unusedVariables false
set_option linter.unusedSimpArgs false
namespace Go.Proofs.YtdoceldofkaapaaGreatDoor
open Go.RowKit
/-- What the law wants of the other queue, a wheel of slots (k: whatever number it keeps). -/
structure ConH (Qu : QT) : Prop where
  off : ∀ {f g w w' Q P b s k l}, Qu f w Q P b s k l → Off g w w' → (∀ i, f i → ¬ g i) → ¬ g 0 → Qu f w' Q P b s k l
  lt_ : ∀ {f w Q P b s k l}, Qu f w Q P b s k l → ∀ j, f j → j < w.heap.size
  z : ∀ {f w Q P b s k l}, Qu f w Q P b s k l → ¬ f 0
  zp : ∀ {f w Q P b s k l}, Qu f w Q P b s k l → ∃ Z, w.cell? ⟨Q, 0, none⟩ = some (.pointer (some ⟨Z, 0, none⟩))
  qnew_no : ∀ (P b s : Int) (w : World), ¬ ((0 ≤ P ∧ P ≤ 1024) ∧ 1 ≤ b ∧ b ≤ 6) → Calls Tryz.prog 11 #[.int .i64 P, .int .i64 b, .int .u64 s] w fun e w' => e = .returned (.tuple #[.pointer none, .int .i64 1]) ∧ Bel w w'
  qnew_yes : ∀ (P b : Nat) (s : Int) (w : World), P ≤ 1024 → 1 ≤ b ∧ b ≤ 6 → Tk s → Bm.Tab w → Calls Tryz.prog 11 #[.int .i64 P, .int .i64 b, .int .u64 s] w fun e w' => ∃ Q f, e = .returned (.tuple #[.pointer (some ⟨Q, 0, none⟩), .int .i64 0]) ∧ Qu f w' Q P b s 0 [] ∧ (∀ k, f k → w.heap.size ≤ k) ∧ Bel w w'
  insert : ∀ {f Q P b s k l} (t : T) (w : World), Qu f w Q P b s k l → Tk t.a → Calls Tryz.prog 39 #[.pointer (some ⟨Q, 0, none⟩), .agg #[.int .u64 t.a, .int .u64 t.s, .int .i64 t.p]] w fun e w' => e = .returned (.int .i64 (insE P l t)) ∧ ∃ f', Grw f f' w w' ∧ Qu f' w' Q P b s k (insL P l t) ∧ Off f w w'
  cancel : ∀ {f Q P b s k l} (p : Int) (w : World), Qu f w Q P b s k l → Calls Tryz.prog 40 #[.pointer (some ⟨Q, 0, none⟩), .int .i64 p] w fun e w' => e = .returned (canV ((fnd l p).getD default) (canE P l p)) ∧ ∃ f', Grw f f' w w' ∧ Qu f' w' Q P b s k (wo l p) ∧ Off f w w'
  move : ∀ {f Q P b s k l} (t : T) (w : World), Qu f w Q P b s k l → Tk t.a → Calls Tryz.prog 41 #[.pointer (some ⟨Q, 0, none⟩), .agg #[.int .u64 t.a, .int .u64 t.s, .int .i64 t.p]] w fun e w' => e = .returned (.int .i64 (canE P l t.p)) ∧ ∃ f', Grw f f' w w' ∧ Qu f' w' Q P b s k (movL P l t) ∧ Off f w w'
  due : ∀ {f Q P b s k l} (now : Int) (w : World), Qu f w Q P b s k l → Tk now → Calls Tryz.prog 42 #[.pointer (some ⟨Q, 0, none⟩), .int .u64 now] w fun e w' => ∃ p c f' k', e = .returned (.slice p (due l now true).length c) ∧ (due l now true).length ≤ c ∧ Lies (fun j => old w j ∨ f' j) w' p (encs (due l now true)) ∧ Grw f f' w w' ∧ Qu f' w' Q P b (max s now) k' (due l now false) ∧ Off f w w'
  min : ∀ {f Q P b s k l} (w : World), Qu f w Q P b s k l → Calls Tryz.prog 21 #[.pointer (some ⟨Q, 0, none⟩)] w fun e w' => e = .returned (ansT l.head?) ∧ Bel w w'
  count : ∀ {f Q Z P b s k l} (w : World), Qu f w Q P b s k l → w.cell? ⟨Q, 0, none⟩ = some (.pointer (some ⟨Z, 0, none⟩)) → Calls Tryz.prog 18 #[.pointer (some ⟨Z, 0, none⟩)] w fun e w' => e = .returned (.int .i64 l.length) ∧ Bel w w'
  all : ∀ {f Q Z P b s k l} (w : World), Qu f w Q P b s k l → w.cell? ⟨Q, 0, none⟩ = some (.pointer (some ⟨Z, 0, none⟩)) → Calls Tryz.prog 24 #[.pointer (some ⟨Z, 0, none⟩)] w fun e w' => ∃ p c, e = .returned (.slice p l.length c) ∧ l.length ≤ c ∧ Lies (old w) w' p (encs l) ∧ Bel w w'
theorem ConH.bel {Qu : QT} (C : ConH Qu) {f w w' Q P b s k l} (h : Qu f w Q P b s k l) (hb : Bel w w') : Qu f w' Q P b s k l := C.off h hb (fun _ _ e => e) (fun e => e)
theorem ansT_eqB (o : Option T) : ansT o = .tuple #[.agg #[.int .u64 (o.getD default).a, .int .u64 (o.getD default).s, .int .i64 (o.getD default).p], .bool o.isSome] := by cases o <;> rfl
theorem stD_lenB (l : List T) (a : Ak) : (stD l a).length ≤ l.length := by
  unfold stD
  split
  · exact due_len _ _ _
  · simp
/-- Two queues of two kinds side by side, boxes and a list outside both. -/
structure TwL (Qu Qh : QT) (w : World) (Q O P b b2 : Nat) (l m : List T) (bx : List (Nat × Obj)) (p : Option Addr) (d : List T) (wx : World) : Prop where
  ex : ∃ f g s1 k1 s2 k2, Qu f wx Q P b s1 k1 l ∧ Qh g wx O P b2 s2 k2 m ∧ (∀ k, f k → w.heap.size ≤ k) ∧ (∀ k, g k → w.heap.size ≤ k) ∧ (∀ k, f k → ¬ g k) ∧ (∀ x ∈ bx, ¬ f x.1 ∧ ¬ g x.1) ∧ Lies (fun j => f j ∨ g j) wx p (encs d)
  bel : Bel w wx
  at_ : ∀ x ∈ bx, wx.heap[x.1]? = some x.2
section
variable {Qu Qh : QT} {w : World} {Q O P b b2 : Nat} {l m d : List T} {bx : List (Nat × Obj)} {p : Option Addr}
theorem TwL.has {w1 : World} (h : TwL Qu Qh w Q O P b b2 l m bx p d w1) : Has w1 p d := by
  obtain ⟨⟨f, g, s1, k1, s2, k2, h1, h2, h3, h4, h5, h6, h7⟩, hb, ha⟩ := h
  exact h7.has
theorem TwL.none {w1 : World} (h : TwL Qu Qh w Q O P b b2 l m bx p d w1) : TwL Qu Qh w Q O P b b2 l m [] none [] w1 := by
  obtain ⟨⟨f, g, s1, k1, s2, k2, h1, h2, h3, h4, h5, h6, h7⟩, hb, ha⟩ := h
  exact ⟨⟨f, g, s1, k1, s2, k2, h1, h2, h3, h4, h5, fun x hx => by simp at hx, .inl rfl⟩, hb, fun x hx => by simp at hx⟩
theorem twl_le (C : Con Qu) (D : ConH Qh) {w1 w2 : World} (h : TwL Qu Qh w Q O P b b2 l m bx p d w1) (k : Bel w1 w2) : TwL Qu Qh w Q O P b b2 l m bx p d w2 := by
  obtain ⟨⟨f, g, s1, k1, s2, k2, h1, h2, h3, h4, h5, h6, h7⟩, hb, ha⟩ := h
  exact ⟨⟨f, g, s1, k1, s2, k2, C.bel h1 k, D.bel h2 k, h3, h4, h5, h6, h7.bel k⟩, hb.trans k, fun x hx => k.heap (ha x hx)⟩
theorem twl_box (C : Con Qu) (D : ConH Qh) {w1 : World} (h : TwL Qu Qh w Q O P b b2 l m bx p d w1) (c : Array Value) (t : TypeId) : TwL Qu Qh w Q O P b b2 l m ((w1.heap.size, .cells c t) :: bx) p d (w1.alloc (.cells c t)) := by
  have k : Bel w1 (w1.alloc (.cells c t)) := (Bel.refl w1).alloc c t
  obtain ⟨⟨f, g, s1, k1, s2, k2, h1, h2, h3, h4, h5, h6, h7⟩, hb, ha⟩ := h
  refine ⟨⟨f, g, s1, k1, s2, k2, C.bel h1 k, D.bel h2 k, h3, h4, h5, fun x hx => ?_, h7.bel k⟩, hb.trans k, fun x hx => ?_⟩
  · rcases List.mem_cons.1 hx with rfl | hx
    · exact ⟨fun e => Nat.lt_irrefl _ (C.lt_ h1 _ e), fun e => Nat.lt_irrefl _ (D.lt_ h2 _ e)⟩
    · exact h6 x hx
  · rcases List.mem_cons.1 hx with rfl | hx
    · exact heap_alloc_new _ _
    · exact k.heap (ha x hx)
/-- A box is set anew. -/
theorem twl_set (C : Con Qu) (D : ConH Qh) {w1 w2 : World} {T0 : Nat} {o o' : Obj} (h : TwL Qu Qh w Q O P b b2 l m ((T0, o) :: bx) p d w1) (ho : Off (fun k => k = T0) w1 w2) (hn : w2.heap[T0]? = some o') (hd : ∀ x ∈ bx, ¬ x.1 = T0) (h0 : w.heap.size ≤ T0) (hz : 0 < w.heap.size) (hp : d = [] ∨ ∃ F : Nat → Prop, (∀ j, F j → j = T0) ∧ F T0 ∧ Lies F w1 p (encs d)) :
    TwL Qu Qh w Q O P b b2 l m ((T0, o') :: bx) p d w2 := by
  obtain ⟨⟨f, g, s1, k1, s2, k2, h1, h2, h3, h4, h5, h6, h7⟩, hb, ha⟩ := h
  have hT := h6 (T0, o) (List.mem_cons_self ..)
  refine ⟨⟨f, g, s1, k1, s2, k2, C.off h1 ho (fun i e e2 => hT.1 (by have : i = T0 := e2; rw [← this]; exact e)) (fun e => by have : 0 = T0 := e; omega), D.off h2 ho (fun i e e2 => hT.2 (by have : i = T0 := e2; rw [← this]; exact e)) (fun e => by have : 0 = T0 := e; omega), h3, h4, h5, fun x hx => ?_, ?_⟩, Off.trans hb ho (fun i e => .inr (by have : i = T0 := e; omega)), fun x hx => ?_⟩
  · rcases List.mem_cons.1 hx with rfl | hx
    · exact hT
    · exact h6 x (List.mem_cons_of_mem _ hx)
  · rcases hp with rfl | ⟨F, hF, hFT, hl⟩
    · exact .inl rfl
    · rcases h7 with h7 | ⟨bb, off, e, hnb, hr⟩
      · exact .inl h7
      · rcases hl with hl | ⟨bb', off', e', hnb', hr'⟩
        · exact .inl hl
        · rw [e] at e'
          have e3 : bb = bb' := by injection e' with e'; injection e'
          subst e3
          exact .inr ⟨bb, off, e, hnb, RowG.off hr (fun e4 => hnb' (by have : bb = T0 := e4; rw [this]; exact hFT)) ho⟩
  · rcases List.mem_cons.1 hx with rfl | hx
    · exact hn
    · have hx1 := ha x (List.mem_cons_of_mem _ hx)
      exact (ho.block _ (Array.getElem?_eq_some_iff.1 hx1).1 (hd x hx)).trans hx1
theorem twl_o (C : Con Qu) (D : ConH Qh) {f g g' : Nat → Prop} {s1 k1 s2 k2 : Int} {m' : List T} {w1 w2 : World} (h1 : Qu f w1 Q P b s1 k1 l) (gz : ¬ g 0) (h3 : ∀ k, f k → w.heap.size ≤ k) (h4 : ∀ k, g k → w.heap.size ≤ k) (h5 : ∀ k, f k → ¬ g k) (h6 : ∀ x ∈ bx, ¬ f x.1 ∧ ¬ g x.1) (h7 : Lies (fun j => f j ∨ g j) w1 p (encs d)) (hb : Bel w w1) (ha : ∀ x ∈ bx, w1.heap[x.1]? = some x.2)
    (hg : Grw g g' w1 w2) (hq : Qh g' w2 O P b2 s2 k2 m') (ho : Off g w1 w2) : TwL Qu Qh w Q O P b b2 l m' bx p d w2 := by
  have z1 := C.lt_ h1
  refine ⟨⟨f, g', s1, k1, s2, k2, C.off h1 ho h5 gz, hq, h3, fun k e => ?_, fun k e e2 => ?_, fun x hx => ⟨(h6 x hx).1, fun e => ?_⟩, h7.go ho (fun j e => .inr e) (fun j hj e => ?_)⟩, Off.trans hb ho (fun i e => .inr (h4 i e)), fun x hx => (ho.block _ (Array.getElem?_eq_some_iff.1 (ha x hx)).1 (h6 x hx).2).trans (ha x hx)⟩
  · rcases hg k e with e | e
    · exact h4 k e
    · exact Nat.le_trans hb.size e.1
  · rcases hg k e2 with e2 | e2
    · exact h5 k e e2
    · have := z1 k e; omega
  · rcases hg _ e with e | e
    · exact (h6 x hx).2 e
    · have := (Array.getElem?_eq_some_iff.1 (ha x hx)).1; omega
  · rcases e with e | e
    · exact .inl e
    · rcases hg j e with e | e
      · exact .inr e
      · omega
theorem twl_ins (C : Con Qu) (D : ConH Qh) (t : T) (ht : Tk t.a) {w1 : World} (h : TwL Qu Qh w Q O P b b2 l m bx p d w1) :
    Calls Tryz.prog 39 #[.pointer (some ⟨O, 0, none⟩), .agg #[.int .u64 t.a, .int .u64 t.s, .int .i64 t.p]] w1 fun e w2 => e = .returned (.int .i64 (insE P m t)) ∧ TwL Qu Qh w Q O P b b2 l (insL P m t) bx p d w2 := by
  obtain ⟨⟨f, g, s1, k1, s2, k2, h1, h2, h3, h4, h5, h6, h7⟩, hb, ha⟩ := h
  exact (D.insert t w1 h2 ht).mono fun e w2 ⟨he, g', hg, hq, ho⟩ => ⟨he, twl_o C D h1 (D.z h2) h3 h4 h5 h6 h7 hb ha hg hq ho⟩
theorem twl_mov (C : Con Qu) (D : ConH Qh) (t : T) (ht : Tk t.a) {w1 : World} (h : TwL Qu Qh w Q O P b b2 l m bx p d w1) :
    Calls Tryz.prog 41 #[.pointer (some ⟨O, 0, none⟩), .agg #[.int .u64 t.a, .int .u64 t.s, .int .i64 t.p]] w1 fun e w2 => e = .returned (.int .i64 (canE P m t.p)) ∧ TwL Qu Qh w Q O P b b2 l (movL P m t) bx p d w2 := by
  obtain ⟨⟨f, g, s1, k1, s2, k2, h1, h2, h3, h4, h5, h6, h7⟩, hb, ha⟩ := h
  exact (D.move t w1 h2 ht).mono fun e w2 ⟨he, g', hg, hq, ho⟩ => ⟨he, twl_o C D h1 (D.z h2) h3 h4 h5 h6 h7 hb ha hg hq ho⟩
theorem twl_can (C : Con Qu) (D : ConH Qh) (k : Int) {w1 : World} (h : TwL Qu Qh w Q O P b b2 l m bx p d w1) :
    Calls Tryz.prog 40 #[.pointer (some ⟨O, 0, none⟩), .int .i64 k] w1 fun e w2 => e = .returned (canV ((fnd m k).getD default) (canE P m k)) ∧ TwL Qu Qh w Q O P b b2 l (wo m k) bx p d w2 := by
  obtain ⟨⟨f, g, s1, k1, s2, k2, h1, h2, h3, h4, h5, h6, h7⟩, hb, ha⟩ := h
  exact (D.cancel k w1 h2).mono fun e w2 ⟨he, g', hg, hq, ho⟩ => ⟨he, twl_o C D h1 (D.z h2) h3 h4 h5 h6 h7 hb ha hg hq ho⟩
theorem twl_due (C : Con Qu) (D : ConH Qh) (now : Int) (hn : Tk now) {w1 : World} (h : TwL Qu Qh w Q O P b b2 l m bx p d w1) :
    Calls Tryz.prog 42 #[.pointer (some ⟨O, 0, none⟩), .int .u64 now] w1 fun e w2 => ∃ q c, e = .returned (.slice q (due m now true).length c) ∧ Lies (old w1) w2 q (encs (due m now true)) ∧ TwL Qu Qh w Q O P b b2 l (due m now false) bx p d w2 := by
  obtain ⟨⟨f, g, s1, k1, s2, k2, h1, h2, h3, h4, h5, h6, h7⟩, hb, ha⟩ := h
  exact (D.due now w1 h2 hn).mono fun e w2 ⟨q, c, g', k', he, _, hl, hg, hq, ho⟩ => ⟨q, c, he, hl.mono (fun j _ e => .inl e), twl_o C D h1 (D.z h2) h3 h4 h5 h6 h7 hb ha hg hq ho⟩
theorem twl_do (C : Con Qu) (D : ConH Qh) (a : Ak) (ht : Tk a.t.a) (hn : Tk a.now) {w1 : World} (h : TwL Qu Qh w Q O P b b2 l m [] none [] w1) :
    Calls Tryz.prog 29 #[.pointer (some ⟨Q, 0, none⟩), akV a.k a.t a.now] w1 fun e w2 => ∃ p c, e = .returned (tdV (stE P l a) (stT l a) p (stD l a).length c) ∧ TwL Qu Qh w Q O P b b2 (stL P l a) m [] p (stD l a) w2 := by
  obtain ⟨⟨f, g, s1, k1, s2, k2, h1, h2, h3, h4, h5, h6, h7⟩, hb, ha⟩ := h
  have z2 := D.lt_ h2
  refine (do_any C f Q P b s1 k1 l a w1 h1 ht hn).mono fun e w2 ⟨p, c, he, ⟨f', hf, hq, hl⟩, ho⟩ => ⟨p, c, he, ⟨f', g, _, _, s2, k2, hq, D.off h2 ho (fun i a b => h5 i b a) (C.z h1), fun k e => ?_, h4, fun k e e2 => ?_, fun x hx => by simp at hx, hl.mono (fun j _ e => ?_)⟩, Off.trans hb ho (fun i e => .inr (h3 i e)), fun x hx => by simp at hx⟩
  · rcases hf k e with e | e
    · exact h3 k e
    · exact Nat.le_trans hb.size e.1
  · rcases hf k e with e | e
    · exact h5 k e e2
    · have := z2 k e2; omega
  · rcases e with e | e
    · exact .inr e
    · exact .inl (z2 j e)
theorem twl_len (C : Con Qu) {w1 : World} (h : TwL Qu Qh w Q O P b b2 l m bx p d w1) : l.length ≤ 1024 := by
  obtain ⟨⟨f, g, s1, k1, s2, k2, h1, _⟩, _⟩ := h
  exact Nat.le_trans (C.len h1) (C.hP h1)
theorem twl_min (C : Con Qu) {w1 : World} (h : TwL Qu Qh w Q O P b b2 l m bx p d w1) : Calls Tryz.prog 34 #[.pointer (some ⟨Q, 0, none⟩)] w1 fun e w2 => e = .returned (ansT l.head?) ∧ Bel w1 w2 := by
  obtain ⟨⟨f, g, s1, k1, s2, k2, h1, _⟩, _⟩ := h
  exact C.min w1 h1
theorem twl_mino (D : ConH Qh) {w1 : World} (h : TwL Qu Qh w Q O P b b2 l m bx p d w1) : Calls Tryz.prog 21 #[.pointer (some ⟨O, 0, none⟩)] w1 fun e w2 => e = .returned (ansT m.head?) ∧ Bel w1 w2 := by
  obtain ⟨⟨f, g, s1, k1, s2, k2, h1, h2, _⟩, _⟩ := h
  exact D.min w1 h2
theorem twl_zq (C : Con Qu) {w1 : World} (h : TwL Qu Qh w Q O P b b2 l m bx p d w1) : ∃ Z, w1.cell? ⟨Q, 0, none⟩ = some (.pointer (some ⟨Z, 0, none⟩)) := by
  obtain ⟨⟨f, g, s1, k1, s2, k2, h1, _⟩, _⟩ := h
  exact C.zp h1
theorem twl_zo (D : ConH Qh) {w1 : World} (h : TwL Qu Qh w Q O P b b2 l m bx p d w1) : ∃ Z, w1.cell? ⟨O, 0, none⟩ = some (.pointer (some ⟨Z, 0, none⟩)) := by
  obtain ⟨⟨f, g, s1, k1, s2, k2, h1, h2, _⟩, _⟩ := h
  exact D.zp h2
theorem twl_all (C : Con Qu) {Z : Nat} {w1 : World} (hz : w1.cell? ⟨Q, 0, none⟩ = some (.pointer (some ⟨Z, 0, none⟩))) (h : TwL Qu Qh w Q O P b b2 l m bx p d w1) {n : Nat} (e : l.length = n) : Calls Tryz.prog 24 #[.pointer (some ⟨Z, 0, none⟩)] w1 fun e w2 => ∃ p c, e = .returned (.slice p n c) ∧ Has w2 p l ∧ Bel w1 w2 := by
  subst e
  obtain ⟨⟨f, g, s1, k1, s2, k2, h1, _⟩, _⟩ := h
  exact (C.all w1 h1 hz).mono fun e w2 ⟨p, c, he, _, hl, hb⟩ => ⟨p, c, he, hl.has, hb⟩
theorem twl_allo (D : ConH Qh) {Z : Nat} {w1 : World} (hz : w1.cell? ⟨O, 0, none⟩ = some (.pointer (some ⟨Z, 0, none⟩))) (h : TwL Qu Qh w Q O P b b2 l m bx p d w1) {n : Nat} (e : m.length = n) : Calls Tryz.prog 24 #[.pointer (some ⟨Z, 0, none⟩)] w1 fun e w2 => ∃ p c, e = .returned (.slice p n c) ∧ Has w2 p m ∧ Bel w1 w2 := by
  subst e
  obtain ⟨⟨f, g, s1, k1, s2, k2, h1, h2, _⟩, _⟩ := h
  exact (D.all w1 h2 hz).mono fun e w2 ⟨p, c, he, _, hl, hb⟩ => ⟨p, c, he, hl.has, hb⟩
theorem twl_cnt (C : Con Qu) {Z : Nat} {w1 : World} (hz : w1.cell? ⟨Q, 0, none⟩ = some (.pointer (some ⟨Z, 0, none⟩))) (h : TwL Qu Qh w Q O P b b2 l m bx p d w1) {n : Nat} (e : l.length = n) : Calls Tryz.prog 18 #[.pointer (some ⟨Z, 0, none⟩)] w1 fun e w2 => e = .returned (.int .i64 n) ∧ Bel w1 w2 := by
  subst e
  obtain ⟨⟨f, g, s1, k1, s2, k2, h1, _⟩, _⟩ := h
  exact C.count w1 h1 hz
theorem twl_cnto (D : ConH Qh) {Z : Nat} {w1 : World} (hz : w1.cell? ⟨O, 0, none⟩ = some (.pointer (some ⟨Z, 0, none⟩))) (h : TwL Qu Qh w Q O P b b2 l m bx p d w1) {n : Nat} (e : m.length = n) : Calls Tryz.prog 18 #[.pointer (some ⟨Z, 0, none⟩)] w1 fun e w2 => e = .returned (.int .i64 n) ∧ Bel w1 w2 := by
  subst e
  obtain ⟨⟨f, g, s1, k1, s2, k2, h1, h2, _⟩, _⟩ := h
  exact D.count w1 h2 hz
end
theorem lies_apart {w : World} {p : Option Addr} {l : List T} {T0 : Nat} (h : Has w p l) (hb : l = [] ∨ ∀ bb off, p = some ⟨bb, off, none⟩ → ¬ bb = T0) : Lies (fun j => j = T0) w p (encs l) := by
  rcases hb with rfl | hb
  · exact .inl rfl
  · rcases h.lies with h | ⟨bb, off, e, _, hr⟩
    · exact .inl h
    · exact .inr ⟨bb, off, e, hb bb off e, hr⟩
theorem has_old {w : World} {p : Option Addr} {l : List T} (h : Has w p l) : l = [] ∨ ∀ bb off, p = some ⟨bb, off, none⟩ → bb < w.heap.size := by
  by_cases e : l = []
  · exact .inl e
  · refine .inr fun bb off e2 => ?_
    rcases h with h | ⟨bb', off', e3, hr⟩
    · exact absurd h e
    · rw [e2] at e3
      have e4 : bb = bb' := by injection e3 with e3; injection e3
      subst e4
      have h0 : 0 < l.length := by cases l with | nil => exact absurd rfl e | cons _ _ => simp
      exact World.block_lt_of_cell? w _ (hr 0 h0).1
set_option maxRecDepth 100000 in
theorem twin_long {Qu Qh : QT} (C : Con Qu) (D : ConH Qh) (P bits s : Int) (pa : Option Addr) (N ca : Nat) (bits2 s2 : Int) (w : World) (hT : Bm.Tab w) (h : 60 < N) :
    Calls Tryz.prog 8 #[.int .i64 P, .int .i64 bits, .int .u64 s, .slice pa N ca, .int .i64 bits2, .int .u64 s2] w fun e w' => e = .returned (.bool true) ∧ Bel w w' := by
  have K := Lib.hid (works_any C w hT)
  have h0 : (60 : Int) < N := by omega
  go_enter Tryz.func8, Tryz.ntmps8
  go_wp2_with fail
  with_reducible refine K.out.mono ?_
  rintro e w1 ⟨rfl, hb⟩
  go_wp2
  go_ret
  exact ⟨rfl, hb⟩
set_option maxRecDepth 100000 in
theorem twin_no {Qu Qh : QT} (C : Con Qu) (D : ConH Qh) (P bits s : Int) (pa : Option Addr) (N ca : Nat) (bits2 s2 : Int) (w : World) (hT : Bm.Tab w) (hN : N ≤ 60) (hs : Tk s) (hs2 : Tk s2) (h : ¬ ((0 ≤ P ∧ P ≤ 1024) ∧ (1 ≤ bits ∧ bits ≤ 6) ∧ 1 ≤ bits2 ∧ bits2 ≤ 6)) :
    Calls Tryz.prog 8 #[.int .i64 P, .int .i64 bits, .int .u64 s, .slice pa N ca, .int .i64 bits2, .int .u64 s2] w fun e w' => e = .returned (.bool true) ∧ Bel w w' := by
  have K := Lib.hid (works_any C w hT)
  have h0 : ¬ (60 : Int) < N := by omega
  have K1 : Hid (∀ w', Bel w w' → Calls Tryz.prog 26 #[.int .i64 P, .int .i64 bits, .int .u64 s] w' fun e w2 => ∃ v er, e = .returned (.tuple #[.pointer v, .int .i64 er]) ∧ ((v = none ∧ er = 1 ∧ ¬ ((0 ≤ P ∧ P ≤ 1024) ∧ 1 ≤ bits ∧ bits ≤ 6)) ∨ (∃ Q, v = some ⟨Q, 0, none⟩) ∧ er = 0 ∧ (0 ≤ P ∧ P ≤ 1024) ∧ 1 ≤ bits ∧ bits ≤ 6) ∧ Bel w' w2) := Lib.hid (fun w' hbw => by
    by_cases hc : (0 ≤ P ∧ P ≤ 1024) ∧ 1 ≤ bits ∧ bits ≤ 6
    · obtain ⟨Pn, rfl⟩ : ∃ n : Nat, P = n := ⟨P.toNat, by omega⟩
      obtain ⟨bn, rfl⟩ : ∃ n : Nat, bits = n := ⟨bits.toNat, by omega⟩
      exact (C.qnew_yes Pn bn s w' (by omega) (by omega) hs (tab_bel hT hbw)).mono fun e w2 ⟨Q, f, he, _, _, hb⟩ => ⟨_, _, he, .inr ⟨⟨Q, rfl⟩, rfl, hc⟩, hb⟩
    · exact (C.qnew_no P bits s w' hc).mono fun e w2 ⟨he, hb⟩ => ⟨_, _, he, .inl ⟨rfl, rfl, hc⟩, hb⟩)
  have K2 : Hid (∀ w', Bel w w' → Calls Tryz.prog 11 #[.int .i64 P, .int .i64 bits2, .int .u64 s2] w' fun e w2 => ∃ v er, e = .returned (.tuple #[.pointer v, .int .i64 er]) ∧ ((v = none ∧ er = 1 ∧ ¬ ((0 ≤ P ∧ P ≤ 1024) ∧ 1 ≤ bits2 ∧ bits2 ≤ 6)) ∨ (∃ Q, v = some ⟨Q, 0, none⟩) ∧ er = 0 ∧ (0 ≤ P ∧ P ≤ 1024) ∧ 1 ≤ bits2 ∧ bits2 ≤ 6) ∧ Bel w' w2) := Lib.hid (fun w' hbw => by
    by_cases hc : (0 ≤ P ∧ P ≤ 1024) ∧ 1 ≤ bits2 ∧ bits2 ≤ 6
    · obtain ⟨Pn, rfl⟩ : ∃ n : Nat, P = n := ⟨P.toNat, by omega⟩
      obtain ⟨bn, rfl⟩ : ∃ n : Nat, bits2 = n := ⟨bits2.toNat, by omega⟩
      exact (D.qnew_yes Pn bn s2 w' (by omega) (by omega) hs2 (tab_bel hT hbw)).mono fun e w2 ⟨Q, f, he, _, _, hb⟩ => ⟨_, _, he, .inr ⟨⟨Q, rfl⟩, rfl, hc⟩, hb⟩
    · exact (D.qnew_no P bits2 s2 w' hc).mono fun e w2 ⟨he, hb⟩ => ⟨_, _, he, .inl ⟨rfl, rfl, hc⟩, hb⟩)
  clear hN hs hs2
  go_enter Tryz.func8, Tryz.ntmps8
  go_wp2_with fail
  with_reducible refine K.out.mono ?_
  rintro e w1 ⟨rfl, hb⟩
  have HB := Lib.hid hb
  clear hb
  go_wp2_with fail
  with_reducible refine (K1.out _ HB.out).mono ?_
  rintro e w2 ⟨v, er, rfl, hv, hb⟩
  have HB2 := Lib.hid (HB.out.trans hb)
  clear hb
  go_wp2_with fail
  with_reducible refine (K2.out _ HB2.out).mono ?_
  rintro e w3 ⟨v2, er2, rfl, hv2, hb⟩
  have HB3 := Lib.hid (HB2.out.trans hb)
  clear hb
  rcases hv with ⟨rfl, rfl, _⟩ | ⟨⟨Q, rfl⟩, rfl, hc⟩
  · rcases hv2 with ⟨rfl, rfl, _⟩ | ⟨⟨O, rfl⟩, rfl, hc2⟩
    · go_wp2
      go_ret
      exact ⟨rfl, HB3.out⟩
    · go_wp2
      go_ret
      exact ⟨rfl, HB3.out⟩
  · rcases hv2 with ⟨rfl, rfl, _⟩ | ⟨⟨O, rfl⟩, rfl, hc2⟩
    · clear h hc
      go_wp2
      go_ret
      exact ⟨rfl, HB3.out⟩
    · exact absurd ⟨hc.1, hc.2, hc2.2⟩ h
set_option maxHeartbeats 16000000 in
set_option maxRecDepth 100000 in
theorem twin_yes {Qu Qh : QT} (C : Con Qu) (D : ConH Qh) (P b : Nat) (s : Int) (pa : Option Addr) (N ca : Nat) (al : List Ak) (b2 : Nat) (s2 : Int) (w : World) (hT : Bm.Tab w) (hN : N ≤ 60) (hl : al.length = N) (hK : Aks al) (hA : Lies nof w pa (encK al)) (hP : P ≤ 1024) (hb6 : 1 ≤ b ∧ b ≤ 6) (hb62 : 1 ≤ b2 ∧ b2 ≤ 6) (hs : Tk s) (hs2 : Tk s2) :
    Calls Tryz.prog 8 #[.int .i64 P, .int .i64 b, .int .u64 s, .slice pa N ca, .int .i64 b2, .int .u64 s2] w fun e w' => e = .returned (.bool true) ∧ Bel w w' := by
  have K := Lib.hid (works_any C w hT)
  have K1 := Lib.hid (fun w' (hb : Bel w w') => C.qnew_yes P b s w' hP hb6 hs (tab_bel hT hb))
  have K2 := Lib.hid (fun w' (hb : Bel w w') => D.qnew_yes P b2 s2 w' hP hb62 hs2 (tab_bel hT hb))
  have HZ : Hid (0 < w.heap.size) := Lib.hid (World.block_lt_of_cell? w ⟨0, 0, none⟩ (hT 0 (by decide)))
  have HA := Lib.hid hA
  have HL := Lib.hid hl
  have HK := Lib.hid hK
  have h0 : ¬ (60 : Int) < N := by omega
  clear hN hA hl hK hP hs hs2 hb6 hb62
  go_enter Tryz.func8, Tryz.ntmps8
  go_wp2_with fail
  with_reducible refine K.out.mono ?_
  rintro e w1 ⟨rfl, hb⟩
  have HB1 := Lib.hid hb
  clear hb K
  go_wp2_with fail
  with_reducible refine (K1.out _ HB1.out).mono ?_
  rintro e w2 ⟨Q, f, rfl, hq, hf, hb⟩
  have HQ := Lib.hid hq
  have HF := Lib.hid hf
  have HB2 := Lib.hid hb
  clear hq hf hb K1
  go_wp2_with fail
  with_reducible refine (K2.out _ (HB1.out.trans HB2.out)).mono ?_
  rintro e w3 ⟨O, g, rfl, hq, hg, hb⟩
  have P0 : Hid (TwL Qu Qh w1 Q O P b b2 [] [] [] none [] w3) := Lib.hid ⟨⟨f, g, s, 0, s2, 0, C.bel HQ.out hb, hq, HF.out, fun k e => Nat.le_trans HB2.out.size (hg k e), fun k e e2 => by have := C.lt_ HQ.out k e; have := hg k e2; omega, fun x hx => by simp at hx, .inl rfl⟩, HB2.out.trans hb, fun x hx => by simp at hx⟩
  have HZ1 : Hid (0 < w1.heap.size) := Lib.hid (Nat.lt_of_lt_of_le HZ.out HB1.out.size)
  clear hq hg hb K2 HQ HF HB2 HZ
  go_wp2
  go_loopw [18, 19, 20, 21] (fun v _ _ _ wr => ∃ (m : Nat) (l : List T), v = .int .i64 m ∧ m ≤ N ∧ TwL Qu Qh w1 Q O P b b2 l l [] none [] wr) (fun v _ _ _ _ => N - (intOf v).toNat)
  case atStart => exact ⟨0, [], rfl, Nat.zero_le _, P0.out⟩
  case round =>
    clear P0
    obtain ⟨m, l, rfl, hm, hi⟩ := hrel
    have HI := Lib.hid hi
    clear hi
    by_cases hlt : m < N
    · obtain ⟨a, ha⟩ : ∃ a, al[m]? = some a := ⟨_, List.getElem?_eq_getElem (by have := HL.out; omega)⟩
      obtain ⟨bb, off, rfl, _, hr⟩ := lies_ak HA.out (i := m) (by have := HL.out; omega)
      obtain ⟨a0, a1, a2, a3, a4⟩ := row_ak hr ha
      have hta := HK.out.at_ ha
      have HAC : Hid (∀ w', Bel w1 w' → w'.cell? ⟨bb, off + m * 5, none⟩ = some (.int .i64 a.k) ∧ w'.cell? ⟨bb, off + m * 5 + 1, none⟩ = some (.int .u64 a.t.a) ∧ w'.cell? ⟨bb, off + m * 5 + 2, none⟩ = some (.int .u64 a.t.s) ∧ w'.cell? ⟨bb, off + m * 5 + 3, none⟩ = some (.int .i64 a.t.p) ∧ w'.cell? ⟨bb, off + m * 5 + 4, none⟩ = some (.int .u64 a.now)) := Lib.hid (fun w' h => by
        have h := HB1.out.trans h
        exact ⟨h.cell a0, h.cell a1, h.cell a2, h.cell a3, h.cell a4⟩)
      have HLen := Lib.hid (twl_len C HI.out)
      have KQ := Lib.hid (twl_do C D a hta.1 hta.2 HI.out)
      have HTa := Lib.hid hta
      have hmN : (m : Int) < N := by omega
      obtain ⟨a0, a1, a2, a3, a4⟩ := HAC.out _ HI.out.bel
      clear hr ha hta
      obtain ⟨ak, ⟨ta, ts, tp⟩, an⟩ := a
      simp only at *
      by_cases k0 : ak = 0
      · have q0 : (ak == 0) = true := by simpa using k0
        have hE : stE P l ⟨ak, ⟨ta, ts, tp⟩, an⟩ = insE P l ⟨ta, ts, tp⟩ := by unfold stE; simp [k0]
        have hD : stD l ⟨ak, ⟨ta, ts, tp⟩, an⟩ = [] := by unfold stD; simp [k0]
        have hTT : stT l ⟨ak, ⟨ta, ts, tp⟩, an⟩ = default := by unfold stT; simp [k0]
        have hLL : stL P l ⟨ak, ⟨ta, ts, tp⟩, an⟩ = insL P l ⟨ta, ts, tp⟩ := by unfold stL; simp [k0]
        rw [hE, hD, hTT, hLL] at KQ
        have KO := Lib.hid (fun w' l1 bx p d (h : TwL Qu Qh w1 Q O P b b2 l1 l bx p d w') => twl_ins C D ⟨ta, ts, tp⟩ HTa.out.1 h)
        clear hE hD hTT hLL k0
        simp only [List.length_nil] at KQ
        generalize insE P l ⟨ta, ts, tp⟩ = er at *
        generalize insL P l ⟨ta, ts, tp⟩ = ll at *
        unfold akV tdV at KQ
        simp only [default] at KQ
        go_wp2_with fail
        with_reducible refine KQ.out.mono ?_
        rintro e w4 ⟨p4, c4, rfl, hw⟩
        have T5 := Lib.hid (twl_box C D (twl_box C D hw #[.int .i64 er, .int .u64 0, .int .u64 0, .int .i64 0, .slice p4 0 c4] 39) #[.int .i64 0, .int .u64 0, .int .u64 0, .int .i64 0, .slice none 0 0] 39)
        rw [World.size_alloc] at T5
        have hz4 := hw.bel.size
        clear hw KQ a0 a1 a2 a3 a4
        go_upto_region 15 with (fail)
        generalize (w4.alloc (.cells #[.int .i64 er, .int .u64 0, .int .u64 0, .int .i64 0, .slice p4 0 c4] 39)).alloc (.cells #[.int .i64 0, .int .u64 0, .int .u64 0, .int .i64 0, .slice none 0 0] 39) = W5 at *
        obtain ⟨b19, e19⟩ : ∃ x, w4.heap.size = x := ⟨_, rfl⟩
        obtain ⟨b20, e20⟩ : ∃ x, b19 + 1 = x := ⟨_, rfl⟩
        rw [e19] at T5 hz4 ⊢
        rw [e20] at T5 ⊢
        have HG : Hid (w1.heap.size ≤ b20 ∧ b20 < W5.heap.size ∧ ¬ b19 = b20) := Lib.hid ⟨by omega, (Array.getElem?_eq_some_iff.1 (T5.out.at_ _ (List.mem_cons_self ..))).1, by omega⟩
        clear hz4 e19 e20
        obtain ⟨a0, a1, a2, a3, a4⟩ := HAC.out _ T5.out.bel
        obtain ⟨⟨y0, y1, y2, y3, y4⟩, f0, f1, f2, f3, f4⟩ := box5 (T5.out.at_ _ (List.mem_cons_self ..))
        have KO5 := Lib.hid (KO.out _ _ _ _ _ T5.out)
        clear KO
        go_wp2_with fail
        with_reducible refine KO5.out.mono ?_
        rintro e w6 ⟨rfl, hw⟩
        have T6 := Lib.hid hw
        clear hw KO5 y0 y1 y2 y3 y4 f0 f1 f2 f3 f4 a0 a1 a2 a3 a4
        have N6 := T6.out.at_ _ (List.mem_cons_self ..)
        obtain ⟨⟨y0, y1, y2, y3, y4⟩, f0, f1, f2, f3, f4⟩ := box5 N6
        have T7 := Lib.hid (twl_set C D T6.out (Off.setCell (Off.refl (fun k => k = b20) w6) (p := ⟨b20, 0, none⟩) (.inl rfl) (.int .i64 er)) (heap_setCell_same w6 b20 0 _ 39 (.int .i64 er) N6) (fun x hx => by simp at hx; rw [hx]; exact HG.out.2.2) HG.out.1 HZ1.out (.inl rfl))
        clear N6
        go_upto_region 24 with (fail)
        generalize w6.setCell ⟨b20, 0, none⟩ (.int .i64 er) = W7 at *
        clear y0 y1 y2 y3 y4 f0 f1 f2 f3 f4
        obtain ⟨⟨y0, y1, y2, y3, y4⟩, _⟩ := box5 (T7.out.at_ _ (List.mem_cons_self ..))
        obtain ⟨⟨z0, z1, z2, z3, z4⟩, _⟩ := box5 (T7.out.at_ _ (List.mem_cons_of_mem _ (List.mem_cons_self ..)))
        have KS := Lib.hid (sameT_any er ⟨0, 0, 0⟩ p4 none c4 0 [] W7 (by simp) (Has.nil _ _) (Has.nil _ _))
        unfold tdV at KS
        simp only [List.length_nil] at KS
        go_wp2_with fail
        with_reducible refine KS.out.mono ?_
        rintro e w8 ⟨rfl, hb⟩
        have T8 := Lib.hid (twl_le C D T7.out hb).none
        clear hb KS y0 y1 y2 y3 y4 z0 z1 z2 z3 z4
        go_wp2
        go_roundw
        case rel => exact ⟨m + 1, ll, by go_num, by omega, T8.out⟩
        case measure => simp [intOf]; omega
      · skip
        by_cases k1 : ak = 1
        · have q0 : (ak == 0) = false := by simpa using k0
          have q1 : (ak == 1) = true := by simpa using k1
          have hE : stE P l ⟨ak, ⟨ta, ts, tp⟩, an⟩ = canE P l tp := by unfold stE; simp [k0, k1]
          have hD : stD l ⟨ak, ⟨ta, ts, tp⟩, an⟩ = [] := by unfold stD; simp [k0, k1]
          have hTT : stT l ⟨ak, ⟨ta, ts, tp⟩, an⟩ = (fnd l tp).getD default := by unfold stT; simp [k0, k1]
          have hLL : stL P l ⟨ak, ⟨ta, ts, tp⟩, an⟩ = wo l tp := by unfold stL; simp [k0, k1]
          rw [hE, hD, hTT, hLL] at KQ
          have KO := Lib.hid (fun w' l1 bx p d (h : TwL Qu Qh w1 Q O P b b2 l1 l bx p d w') => twl_can C D tp h)
          unfold canV at KO
          clear hE hD hTT hLL k0 k1
          simp only [List.length_nil] at KQ
          generalize canE P l tp = er at *
          generalize wo l tp = ll at *
          obtain ⟨⟨xa, xs, xp⟩, hx⟩ : ∃ x, (fnd l tp).getD default = x := ⟨_, rfl⟩
          rw [hx] at KQ KO
          clear hx
          unfold akV tdV at KQ
          simp only [default] at KQ
          go_wp2_with fail
          with_reducible refine KQ.out.mono ?_
          rintro e w4 ⟨p4, c4, rfl, hw⟩
          have T5 := Lib.hid (twl_box C D (twl_box C D hw #[.int .i64 er, .int .u64 xa, .int .u64 xs, .int .i64 xp, .slice p4 0 c4] 39) #[.int .i64 0, .int .u64 0, .int .u64 0, .int .i64 0, .slice none 0 0] 39)
          rw [World.size_alloc] at T5
          have hz4 := hw.bel.size
          clear hw KQ a0 a1 a2 a3 a4
          go_upto_region 15 with (fail)
          generalize (w4.alloc (.cells #[.int .i64 er, .int .u64 xa, .int .u64 xs, .int .i64 xp, .slice p4 0 c4] 39)).alloc (.cells #[.int .i64 0, .int .u64 0, .int .u64 0, .int .i64 0, .slice none 0 0] 39) = W5 at *
          obtain ⟨b19, e19⟩ : ∃ x, w4.heap.size = x := ⟨_, rfl⟩
          obtain ⟨b20, e20⟩ : ∃ x, b19 + 1 = x := ⟨_, rfl⟩
          rw [e19] at T5 hz4 ⊢
          rw [e20] at T5 ⊢
          have HG : Hid (w1.heap.size ≤ b20 ∧ b20 < W5.heap.size ∧ ¬ b19 = b20) := Lib.hid ⟨by omega, (Array.getElem?_eq_some_iff.1 (T5.out.at_ _ (List.mem_cons_self ..))).1, by omega⟩
          clear hz4 e19 e20
          obtain ⟨a0, a1, a2, a3, a4⟩ := HAC.out _ T5.out.bel
          obtain ⟨⟨y0, y1, y2, y3, y4⟩, f0, f1, f2, f3, f4⟩ := box5 (T5.out.at_ _ (List.mem_cons_self ..))
          have KO5 := Lib.hid (KO.out _ _ _ _ _ T5.out)
          clear KO
          go_wp2_with fail
          with_reducible refine KO5.out.mono ?_
          rintro e w6 ⟨rfl, hw⟩
          have T6 := Lib.hid hw
          clear hw KO5 y0 y1 y2 y3 y4 f0 f1 f2 f3 f4 a0 a1 a2 a3 a4
          have N6 := T6.out.at_ _ (List.mem_cons_self ..)
          obtain ⟨⟨y0, y1, y2, y3, y4⟩, f0, f1, f2, f3, f4⟩ := box5 N6
          have O6 : Off (fun k => k = b20) w6 ((((w6.setCell ⟨b20, 1, none⟩ (.int .u64 xa)).setCell ⟨b20, 2, none⟩ (.int .u64 xs)).setCell ⟨b20, 3, none⟩ (.int .i64 xp)).setCell ⟨b20, 0, none⟩ (.int .i64 er)) := ((((Off.refl (fun k => k = b20) w6).setCell (p := ⟨b20, 1, none⟩) (.inl rfl) _).setCell (p := ⟨b20, 2, none⟩) (.inl rfl) _).setCell (p := ⟨b20, 3, none⟩) (.inl rfl) _).setCell (p := ⟨b20, 0, none⟩) (.inl rfl) _
          have N7 := heap_setCell_same _ b20 0 _ 39 (.int .i64 er) (heap_setCell_same _ b20 3 _ 39 (.int .i64 xp) (heap_setCell_same _ b20 2 _ 39 (.int .u64 xs) (heap_setCell_same w6 b20 1 _ 39 (.int .u64 xa) N6)))
          have T7 := Lib.hid (twl_set C D T6.out O6 N7 (fun x hx => by simp at hx; rw [hx]; exact HG.out.2.2) HG.out.1 HZ1.out (.inl rfl))
          clear N6 N7 O6
          go_upto_region 24 with (fail)
          generalize (((w6.setCell ⟨b20, 1, none⟩ (.int .u64 xa)).setCell ⟨b20, 2, none⟩ (.int .u64 xs)).setCell ⟨b20, 3, none⟩ (.int .i64 xp)).setCell ⟨b20, 0, none⟩ (.int .i64 er) = W7 at *
          clear y0 y1 y2 y3 y4 f0 f1 f2 f3 f4
          obtain ⟨⟨y0, y1, y2, y3, y4⟩, _⟩ := box5 (T7.out.at_ _ (List.mem_cons_self ..))
          obtain ⟨⟨z0, z1, z2, z3, z4⟩, _⟩ := box5 (T7.out.at_ _ (List.mem_cons_of_mem _ (List.mem_cons_self ..)))
          have KS := Lib.hid (sameT_any er ⟨xa, xs, xp⟩ p4 none c4 0 [] W7 (by simp) (Has.nil _ _) (Has.nil _ _))
          unfold tdV at KS
          simp only [List.length_nil] at KS
          go_wp2_with fail
          with_reducible refine KS.out.mono ?_
          rintro e w8 ⟨rfl, hb⟩
          have T8 := Lib.hid (twl_le C D T7.out hb).none
          clear hb KS y0 y1 y2 y3 y4 z0 z1 z2 z3 z4
          go_wp2
          go_roundw
          case rel => exact ⟨m + 1, ll, by go_num, by omega, T8.out⟩
          case measure => simp [intOf]; omega
        · skip
          by_cases k2 : ak = 2
          · have q0 : (ak == 0) = false := by simpa using k0
            have q1 : (ak == 1) = false := by simpa using k1
            have q2 : (ak == 2) = true := by simpa using k2
            have hE : stE P l ⟨ak, ⟨ta, ts, tp⟩, an⟩ = canE P l tp := by unfold stE; simp [k0, k1, k2]
            have hD : stD l ⟨ak, ⟨ta, ts, tp⟩, an⟩ = [] := by unfold stD; simp [k0, k1, k2]
            have hTT : stT l ⟨ak, ⟨ta, ts, tp⟩, an⟩ = default := by unfold stT; simp [k0, k1, k2]
            have hLL : stL P l ⟨ak, ⟨ta, ts, tp⟩, an⟩ = movL P l ⟨ta, ts, tp⟩ := by unfold stL; simp [k0, k1, k2]
            rw [hE, hD, hTT, hLL] at KQ
            have KO := Lib.hid (fun w' l1 bx p d (h : TwL Qu Qh w1 Q O P b b2 l1 l bx p d w') => twl_mov C D ⟨ta, ts, tp⟩ HTa.out.1 h)
            clear hE hD hTT hLL k0 k1 k2
            simp only [List.length_nil] at KQ
            generalize canE P l tp = er at *
            generalize movL P l ⟨ta, ts, tp⟩ = ll at *
            unfold akV tdV at KQ
            simp only [default] at KQ
            go_wp2_with fail
            with_reducible refine KQ.out.mono ?_
            rintro e w4 ⟨p4, c4, rfl, hw⟩
            have T5 := Lib.hid (twl_box C D (twl_box C D hw #[.int .i64 er, .int .u64 0, .int .u64 0, .int .i64 0, .slice p4 0 c4] 39) #[.int .i64 0, .int .u64 0, .int .u64 0, .int .i64 0, .slice none 0 0] 39)
            rw [World.size_alloc] at T5
            have hz4 := hw.bel.size
            clear hw KQ a0 a1 a2 a3 a4
            go_upto_region 15 with (fail)
            generalize (w4.alloc (.cells #[.int .i64 er, .int .u64 0, .int .u64 0, .int .i64 0, .slice p4 0 c4] 39)).alloc (.cells #[.int .i64 0, .int .u64 0, .int .u64 0, .int .i64 0, .slice none 0 0] 39) = W5 at *
            obtain ⟨b19, e19⟩ : ∃ x, w4.heap.size = x := ⟨_, rfl⟩
            obtain ⟨b20, e20⟩ : ∃ x, b19 + 1 = x := ⟨_, rfl⟩
            rw [e19] at T5 hz4 ⊢
            rw [e20] at T5 ⊢
            have HG : Hid (w1.heap.size ≤ b20 ∧ b20 < W5.heap.size ∧ ¬ b19 = b20) := Lib.hid ⟨by omega, (Array.getElem?_eq_some_iff.1 (T5.out.at_ _ (List.mem_cons_self ..))).1, by omega⟩
            clear hz4 e19 e20
            obtain ⟨a0, a1, a2, a3, a4⟩ := HAC.out _ T5.out.bel
            obtain ⟨⟨y0, y1, y2, y3, y4⟩, f0, f1, f2, f3, f4⟩ := box5 (T5.out.at_ _ (List.mem_cons_self ..))
            have KO5 := Lib.hid (KO.out _ _ _ _ _ T5.out)
            clear KO
            go_wp2_with fail
            with_reducible refine KO5.out.mono ?_
            rintro e w6 ⟨rfl, hw⟩
            have T6 := Lib.hid hw
            clear hw KO5 y0 y1 y2 y3 y4 f0 f1 f2 f3 f4 a0 a1 a2 a3 a4
            have N6 := T6.out.at_ _ (List.mem_cons_self ..)
            obtain ⟨⟨y0, y1, y2, y3, y4⟩, f0, f1, f2, f3, f4⟩ := box5 N6
            have T7 := Lib.hid (twl_set C D T6.out (Off.setCell (Off.refl (fun k => k = b20) w6) (p := ⟨b20, 0, none⟩) (.inl rfl) (.int .i64 er)) (heap_setCell_same w6 b20 0 _ 39 (.int .i64 er) N6) (fun x hx => by simp at hx; rw [hx]; exact HG.out.2.2) HG.out.1 HZ1.out (.inl rfl))
            clear N6
            go_upto_region 24 with (fail)
            generalize w6.setCell ⟨b20, 0, none⟩ (.int .i64 er) = W7 at *
            clear y0 y1 y2 y3 y4 f0 f1 f2 f3 f4
            obtain ⟨⟨y0, y1, y2, y3, y4⟩, _⟩ := box5 (T7.out.at_ _ (List.mem_cons_self ..))
            obtain ⟨⟨z0, z1, z2, z3, z4⟩, _⟩ := box5 (T7.out.at_ _ (List.mem_cons_of_mem _ (List.mem_cons_self ..)))
            have KS := Lib.hid (sameT_any er ⟨0, 0, 0⟩ p4 none c4 0 [] W7 (by simp) (Has.nil _ _) (Has.nil _ _))
            unfold tdV at KS
            simp only [List.length_nil] at KS
            go_wp2_with fail
            with_reducible refine KS.out.mono ?_
            rintro e w8 ⟨rfl, hb⟩
            have T8 := Lib.hid (twl_le C D T7.out hb).none
            clear hb KS y0 y1 y2 y3 y4 z0 z1 z2 z3 z4
            go_wp2
            go_roundw
            case rel => exact ⟨m + 1, ll, by go_num, by omega, T8.out⟩
            case measure => simp [intOf]; omega
          · skip
            by_cases k3 : ak = 3
            · have q0 : (ak == 0) = false := by simpa using k0
              have q1 : (ak == 1) = false := by simpa using k1
              have q2 : (ak == 2) = false := by simpa using k2
              have q3 : (ak == 3) = true := by simpa using k3
              have hE : stE P l ⟨ak, ⟨ta, ts, tp⟩, an⟩ = 0 := by unfold stE; simp [k0, k1, k2, k3]
              have hD : stD l ⟨ak, ⟨ta, ts, tp⟩, an⟩ = due l an true := by unfold stD; simp [k0, k1, k2, k3]
              have hTT : stT l ⟨ak, ⟨ta, ts, tp⟩, an⟩ = default := by unfold stT; simp [k0, k1, k2, k3]
              have hLL : stL P l ⟨ak, ⟨ta, ts, tp⟩, an⟩ = due l an false := by unfold stL; simp [k0, k1, k2, k3]
              rw [hE, hD, hTT, hLL] at KQ
              have KO := Lib.hid (fun w' l1 bx p d (h : TwL Qu Qh w1 Q O P b b2 l1 l bx p d w') => twl_due C D an HTa.out.2 h)
              clear hE hD hTT hLL k0 k1 k2 k3
              have HND : Hid ((due l an true).length ≤ 1024) := Lib.hid (Nat.le_trans (due_len _ _ _) HLen.out)
              generalize due l an true = dd at *
              generalize due l an false = ll at *
              obtain ⟨nd, hnd⟩ : ∃ n, dd.length = n := ⟨_, rfl⟩
              rw [hnd] at KQ KO
              unfold akV tdV at KQ
              simp only [default] at KQ
              go_wp2_with fail
              with_reducible refine KQ.out.mono ?_
              rintro e w4 ⟨p4, c4, rfl, hw⟩
              have T5 := Lib.hid (twl_box C D (twl_box C D hw #[.int .i64 0, .int .u64 0, .int .u64 0, .int .i64 0, .slice p4 nd c4] 39) #[.int .i64 0, .int .u64 0, .int .u64 0, .int .i64 0, .slice none 0 0] 39)
              rw [World.size_alloc] at T5
              have hold := has_old hw.has
              have hz4 := hw.bel.size
              clear hw KQ a0 a1 a2 a3 a4
              go_upto_region 15 with (fail)
              generalize (w4.alloc (.cells #[.int .i64 0, .int .u64 0, .int .u64 0, .int .i64 0, .slice p4 nd c4] 39)).alloc (.cells #[.int .i64 0, .int .u64 0, .int .u64 0, .int .i64 0, .slice none 0 0] 39) = W5 at *
              obtain ⟨b19, e19⟩ : ∃ x, w4.heap.size = x := ⟨_, rfl⟩
              obtain ⟨b20, e20⟩ : ∃ x, b19 + 1 = x := ⟨_, rfl⟩
              rw [e19] at T5 hold hz4 ⊢
              rw [e20] at T5 ⊢
              have HG : Hid (w1.heap.size ≤ b20 ∧ b20 < W5.heap.size ∧ ¬ b19 = b20) := Lib.hid ⟨by omega, (Array.getElem?_eq_some_iff.1 (T5.out.at_ _ (List.mem_cons_self ..))).1, by omega⟩
              have HPB : Hid (dd = ([] : List T) ∨ ∀ bb off, p4 = some ⟨bb, off, none⟩ → ¬ bb = b20) := Lib.hid (hold.imp id (fun h bb off e => by have := h bb off e; omega))
              clear hold hz4 e19 e20
              obtain ⟨a0, a1, a2, a3, a4⟩ := HAC.out _ T5.out.bel
              obtain ⟨⟨y0, y1, y2, y3, y4⟩, f0, f1, f2, f3, f4⟩ := box5 (T5.out.at_ _ (List.mem_cons_self ..))
              have KO5 := Lib.hid (KO.out _ _ _ _ _ T5.out)
              clear KO
              go_wp2_with fail
              with_reducible refine KO5.out.mono ?_
              rintro e w6 ⟨q6, c6, rfl, hlq, hw⟩
              have T6 := Lib.hid hw
              have HLQ : Hid (Lies (fun j => j = b20) w6 q6 (encs dd)) := Lib.hid (hlq.mono (fun j _ e => by have h5 : j = b20 := e; have := HG.out.2.1; unfold old; omega))
              clear hw hlq KO5 y0 y1 y2 y3 y4 f0 f1 f2 f3 f4 a0 a1 a2 a3 a4
              have N6 := T6.out.at_ _ (List.mem_cons_self ..)
              obtain ⟨⟨y0, y1, y2, y3, y4⟩, f0, f1, f2, f3, f4⟩ := box5 N6
              have O6 : Off (fun k => k = b20) w6 (w6.setCell ⟨b20, 4, none⟩ (.slice q6 nd c6)) := Off.setCell (Off.refl (fun k => k = b20) w6) (p := ⟨b20, 4, none⟩) (.inl rfl) _
              have T7 := Lib.hid (twl_set C D T6.out O6 (heap_setCell_same w6 b20 4 _ 39 (.slice q6 nd c6) N6) (fun x hx => by simp at hx; rw [hx]; exact HG.out.2.2) HG.out.1 HZ1.out (.inr ⟨fun j => j = b20, fun j e => e, rfl, lies_apart T6.out.has HPB.out⟩))
              have HQ7 := Lib.hid (HLQ.out.off O6 (fun i e => e)).has
              clear N6 O6 HLQ
              go_upto_region 24 with (fail)
              generalize w6.setCell ⟨b20, 4, none⟩ (.slice q6 nd c6) = W7 at *
              clear y0 y1 y2 y3 y4 f0 f1 f2 f3 f4
              obtain ⟨⟨y0, y1, y2, y3, y4⟩, _⟩ := box5 (T7.out.at_ _ (List.mem_cons_self ..))
              obtain ⟨⟨z0, z1, z2, z3, z4⟩, _⟩ := box5 (T7.out.at_ _ (List.mem_cons_of_mem _ (List.mem_cons_self ..)))
              have KS := Lib.hid (sameT_any 0 ⟨0, 0, 0⟩ p4 q6 c4 c6 dd W7 (by have := HND.out; omega) T7.out.has HQ7.out)
              unfold tdV at KS
              rw [hnd] at KS
              go_wp2_with fail
              with_reducible refine KS.out.mono ?_
              rintro e w8 ⟨rfl, hb⟩
              have T8 := Lib.hid (twl_le C D T7.out hb).none
              clear hb KS y0 y1 y2 y3 y4 z0 z1 z2 z3 z4
              go_wp2
              go_roundw
              case rel => exact ⟨m + 1, ll, by go_num, by omega, T8.out⟩
              case measure => simp [intOf]; omega
            · skip
              have q0 : (ak == 0) = false := by simpa using k0
              have q1 : (ak == 1) = false := by simpa using k1
              have q2 : (ak == 2) = false := by simpa using k2
              have q3 : (ak == 3) = false := by simpa using k3
              have hE : stE P l ⟨ak, ⟨ta, ts, tp⟩, an⟩ = 0 := by unfold stE; simp [k0, k1, k2, k3]
              have hD : stD l ⟨ak, ⟨ta, ts, tp⟩, an⟩ = [] := by unfold stD; simp [k0, k1, k2, k3]
              have hTT : stT l ⟨ak, ⟨ta, ts, tp⟩, an⟩ = default := by unfold stT; simp [k0, k1, k2, k3]
              have hLL : stL P l ⟨ak, ⟨ta, ts, tp⟩, an⟩ = l := by unfold stL; simp [k0, k1, k2, k3]
              rw [hE, hD, hTT, hLL] at KQ
              clear hE hD hTT hLL k0 k1 k2 k3
              simp only [List.length_nil] at KQ
              unfold akV tdV at KQ
              simp only [default] at KQ
              go_wp2_with fail
              with_reducible refine KQ.out.mono ?_
              rintro e w4 ⟨p4, c4, rfl, hw⟩
              have T5 := Lib.hid (twl_box C D (twl_box C D hw #[.int .i64 0, .int .u64 0, .int .u64 0, .int .i64 0, .slice p4 0 c4] 39) #[.int .i64 0, .int .u64 0, .int .u64 0, .int .i64 0, .slice none 0 0] 39)
              rw [World.size_alloc] at T5
              have hz4 := hw.bel.size
              clear hw KQ a0 a1 a2 a3 a4
              go_upto_region 15 with (fail)
              generalize (w4.alloc (.cells #[.int .i64 0, .int .u64 0, .int .u64 0, .int .i64 0, .slice p4 0 c4] 39)).alloc (.cells #[.int .i64 0, .int .u64 0, .int .u64 0, .int .i64 0, .slice none 0 0] 39) = W5 at *
              obtain ⟨b19, e19⟩ : ∃ x, w4.heap.size = x := ⟨_, rfl⟩
              obtain ⟨b20, e20⟩ : ∃ x, b19 + 1 = x := ⟨_, rfl⟩
              rw [e19] at T5 hz4 ⊢
              rw [e20] at T5 ⊢
              have HG : Hid (w1.heap.size ≤ b20 ∧ b20 < W5.heap.size ∧ ¬ b19 = b20) := Lib.hid ⟨by omega, (Array.getElem?_eq_some_iff.1 (T5.out.at_ _ (List.mem_cons_self ..))).1, by omega⟩
              clear hz4 e19 e20
              obtain ⟨a0, a1, a2, a3, a4⟩ := HAC.out _ T5.out.bel
              obtain ⟨⟨y0, y1, y2, y3, y4⟩, f0, f1, f2, f3, f4⟩ := box5 (T5.out.at_ _ (List.mem_cons_self ..))
              go_upto_region 24 with (fail)
              clear y0 y1 y2 y3 y4 f0 f1 f2 f3 f4
              obtain ⟨⟨y0, y1, y2, y3, y4⟩, _⟩ := box5 (T5.out.at_ _ (List.mem_cons_self ..))
              obtain ⟨⟨z0, z1, z2, z3, z4⟩, _⟩ := box5 (T5.out.at_ _ (List.mem_cons_of_mem _ (List.mem_cons_self ..)))
              have KS := Lib.hid (sameT_any 0 ⟨0, 0, 0⟩ p4 none c4 0 [] W5 (by simp) (Has.nil _ _) (Has.nil _ _))
              unfold tdV at KS
              simp only [List.length_nil] at KS
              go_wp2_with fail
              with_reducible refine KS.out.mono ?_
              rintro e w8 ⟨rfl, hb⟩
              have T8 := Lib.hid (twl_le C D T5.out hb).none
              clear hb KS y0 y1 y2 y3 y4 z0 z1 z2 z3 z4
              go_wp2
              go_roundw
              case rel => exact ⟨m + 1, l, by go_num, by omega, T8.out⟩
              case measure => simp [intOf]; omega
    · have hmN : ¬ (m : Int) < N := by omega
      obtain ⟨n, en⟩ : ∃ n, l.length = n := ⟨_, rfl⟩
      have hpl := twl_len C HI.out
      have hE2 := eql_yes (l.head?.getD default) (l.head?.getD default) rfl
      have KA := Lib.hid (fun w' Z (hz : w'.cell? ⟨Q, 0, none⟩ = some (.pointer (some ⟨Z, 0, none⟩))) (h : TwL Qu Qh w1 Q O P b b2 l l [] none [] w') => twl_all C hz h en)
      have KB := Lib.hid (fun w' Z (hz : w'.cell? ⟨O, 0, none⟩ = some (.pointer (some ⟨Z, 0, none⟩))) (h : TwL Qu Qh w1 Q O P b b2 l l [] none [] w') => twl_allo D hz h en)
      have KCa := Lib.hid (fun w' Z (hz : w'.cell? ⟨Q, 0, none⟩ = some (.pointer (some ⟨Z, 0, none⟩))) (h : TwL Qu Qh w1 Q O P b b2 l l [] none [] w') => twl_cnt C hz h en)
      have KCb := Lib.hid (fun w' Z (hz : w'.cell? ⟨O, 0, none⟩ = some (.pointer (some ⟨Z, 0, none⟩))) (h : TwL Qu Qh w1 Q O P b b2 l l [] none [] w') => twl_cnto D hz h en)
      have KM := Lib.hid (fun w' (h : TwL Qu Qh w1 Q O P b b2 l l [] none [] w') => twl_min C h)
      have KN := Lib.hid (fun w' (h : TwL Qu Qh w1 Q O P b b2 l l [] none [] w') => twl_mino D h)
      have KS : Hid (∀ p q c d w', Has w' p l → Has w' q l → Calls Tryz.prog 23 #[.slice p n c, .slice q n d] w' fun e w2 => e = .returned (.bool true) ∧ Bel w' w2) := Lib.hid (fun p q c d w' h1 h2 => by
        have k := same_yes p q c d l w' (by omega) h1 h2
        rw [en] at k
        exact k)
      simp only [ansT_eqB] at KM KN
      generalize (l.head?.getD default).a = z0 at *
      generalize (l.head?.getD default).s = z1 at *
      generalize (l.head?.getD default).p = z2 at *
      generalize l.head?.isSome = zs at *
      have hS2 : (zs == zs) = true := by simp
      have hnn : ((n : Int) == (n : Int)) = true := by simp
      clear en hpl HL HK HA
      have KM0 := Lib.hid (KM.out _ HI.out)
      go_wp2_with fail
      with_reducible refine KM0.out.mono ?_
      rintro e w4 ⟨rfl, hb⟩
      have HBa : Hid (Bel w4 (w4.alloc (.cells #[.int .u64 z0, .int .u64 z1, .int .i64 z2] 37))) := Lib.hid ((Bel.refl _).alloc _ _)
      have P4 := Lib.hid (twl_le C D (twl_le C D HI.out hb) HBa.out)
      have M20 := Lib.hid (heap_alloc_new w4 (.cells #[.int .u64 z0, .int .u64 z1, .int .i64 z2] 37))
      clear hb HI KM0 HBa
      go_upto_region 28 with (fail)
      generalize w4.alloc (.cells #[.int .u64 z0, .int .u64 z1, .int .i64 z2] 37) = V4 at *
      generalize w4.heap.size = b22 at *
      have KN4 := Lib.hid (KN.out _ P4.out)
      go_wp2_with fail
      with_reducible refine KN4.out.mono ?_
      rintro e w5 ⟨rfl, hb⟩
      have HBa : Hid (Bel w5 (w5.alloc (.cells #[.int .u64 z0, .int .u64 z1, .int .i64 z2] 37))) := Lib.hid ((Bel.refl _).alloc _ _)
      have P5 := Lib.hid (twl_le C D (twl_le C D P4.out hb) HBa.out)
      have M20 := Lib.hid (HBa.out.heap (hb.heap M20.out))
      have M22 := Lib.hid (heap_alloc_new w5 (.cells #[.int .u64 z0, .int .u64 z1, .int .i64 z2] 37))
      clear hb P4 KN4 HBa
      go_upto_region 29 with (fail)
      generalize w5.alloc (.cells #[.int .u64 z0, .int .u64 z1, .int .i64 z2] 37) = V5 at *
      generalize w5.heap.size = b24 at *
      obtain ⟨Zq, hzq⟩ := twl_zq C P5.out
      obtain ⟨Zo, hzo⟩ := twl_zo D P5.out
      have HS : Hid (∀ w', Bel V5 w' → w'.cell? ⟨Q, 0, none⟩ = some (.pointer (some ⟨Zq, 0, none⟩)) ∧ w'.cell? ⟨O, 0, none⟩ = some (.pointer (some ⟨Zo, 0, none⟩))) := Lib.hid (fun w' hb => ⟨hb.cell hzq, hb.cell hzo⟩)
      have HD : Hid (Bel V5 V5.drew) := Lib.hid (Bel.refl V5).drew
      have KA5 := Lib.hid (KA.out _ _ (HS.out _ HD.out).1 (twl_le C D P5.out HD.out))
      have KB6 := Lib.hid (fun w' (hb : Bel V5 w') => KB.out _ _ (HS.out _ hb).2 (twl_le C D P5.out hb))
      go_wp2
      go_region_held3 (fun w' => w'.cell? ⟨Q, 0, none⟩ = some (.pointer (some ⟨Zq, 0, none⟩)) ∧ w'.cell? ⟨O, 0, none⟩ = some (.pointer (some ⟨Zo, 0, none⟩)))
        (first | (with_reducible exact HS.out _ HD.out) | (with_reducible exact HS.out _ (HD.out.trans hb6)) | (with_reducible exact HS.out _ ((HD.out.trans hb6).trans hb7)) | exact HS.out _ (((HD.out.trans hb6).trans hb7).trans hb8))
        (first | (go_at_call 24; (with_reducible refine KA5.out.mono ?_); rintro e w6 ⟨p6, c6, rfl, hh6, hb6⟩) | (go_at_call 24; (with_reducible refine (KB6.out _ (HD.out.trans hb6)).mono ?_); rintro e w7 ⟨p7, c7, rfl, hh7, hb7⟩) | (go_at_call 23; (with_reducible refine (KS.out p6 p7 c6 c7 w7 (hh6.bel hb7) hh7).mono ?_); rintro e w8 ⟨rfl, hb8⟩))
      have HB8 := Lib.hid (((HD.out.trans hb6).trans hb7).trans hb8)
      have P8 := Lib.hid (twl_le C D P5.out HB8.out)
      have hz8 := HS.out _ HB8.out
      have HS2 : Hid (∀ w', Bel w8 w' → ((w'.cell? ⟨b22, 0, none⟩ = some (.int .u64 z0) ∧ w'.cell? ⟨b22, 1, none⟩ = some (.int .u64 z1) ∧ w'.cell? ⟨b22, 2, none⟩ = some (.int .i64 z2)) ∧ (w'.cell? ⟨b24, 0, none⟩ = some (.int .u64 z0) ∧ w'.cell? ⟨b24, 1, none⟩ = some (.int .u64 z1) ∧ w'.cell? ⟨b24, 2, none⟩ = some (.int .i64 z2))) ∧ w'.cell? ⟨Q, 0, none⟩ = some (.pointer (some ⟨Zq, 0, none⟩)) ∧ w'.cell? ⟨O, 0, none⟩ = some (.pointer (some ⟨Zo, 0, none⟩))) := Lib.hid (fun w' hb => ⟨⟨(box3 ((HB8.out.trans hb).heap M20.out)).1, (box3 ((HB8.out.trans hb).heap M22.out)).1⟩, HS.out _ (HB8.out.trans hb)⟩)
      have HD8 : Hid (Bel w8 w8.drew) := Lib.hid (Bel.refl w8).drew
      have KC8 := Lib.hid (KCa.out _ _ (HS2.out _ HD8.out).2.1 (twl_le C D P8.out HD8.out))
      have KC9 := Lib.hid (fun w' (hb : Bel w8 w') => KCb.out _ _ (HS2.out _ hb).2.2 (twl_le C D P8.out hb))
      obtain ⟨⟨⟨r0, r1, r2⟩, ⟨r3, r4, r5⟩⟩, hz1, hz2⟩ := HS2.out _ (Bel.refl _)
      clear hb6 hb7 hb8 hh6 hh7 KA5 KB6 KS P5 HS KA KB KCa KCb hzq hzo hz8
      go_wp2
      go_region_held3 (fun w' => ((w'.cell? ⟨b22, 0, none⟩ = some (.int .u64 z0) ∧ w'.cell? ⟨b22, 1, none⟩ = some (.int .u64 z1) ∧ w'.cell? ⟨b22, 2, none⟩ = some (.int .i64 z2)) ∧ (w'.cell? ⟨b24, 0, none⟩ = some (.int .u64 z0) ∧ w'.cell? ⟨b24, 1, none⟩ = some (.int .u64 z1) ∧ w'.cell? ⟨b24, 2, none⟩ = some (.int .i64 z2))) ∧ w'.cell? ⟨Q, 0, none⟩ = some (.pointer (some ⟨Zq, 0, none⟩)) ∧ w'.cell? ⟨O, 0, none⟩ = some (.pointer (some ⟨Zo, 0, none⟩)))
        (first | (with_reducible exact HS2.out _ HD8.out) | (with_reducible exact HS2.out _ (HD8.out.trans hb9)) | exact HS2.out _ ((HD8.out.trans hb9).trans hb10))
        (first | (go_at_call 18; (with_reducible refine KC8.out.mono ?_); rintro e w9 ⟨rfl, hb9⟩) | (go_at_call 18; (with_reducible refine (KC9.out _ (HD8.out.trans hb9)).mono ?_); rintro e w10 ⟨rfl, hb10⟩))
      have HE := Lib.hid (HB1.out.trans (P8.out.bel.trans ((HD8.out.trans hb9).trans hb10)))
      go_wp2
      go_ret
      exact ⟨rfl, HE.out⟩
end Go.Proofs.YtdoceldofkaapaaGreatDoor
