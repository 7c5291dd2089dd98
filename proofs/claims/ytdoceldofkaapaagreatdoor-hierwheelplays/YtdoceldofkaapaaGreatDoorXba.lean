/-
  Behind the document's wheel's act: what was made; and what a play keeps.
  A queue, and boxes beside it: what each call keeps.
-/
import Derived.Test.YtdoceldofkaapaaGreatDoorXak
set_option linter.unusedVariables false
set_option linter.unusedSimpArgs false
namespace Go.Proofs.YtdoceldofkaapaaGreatDoor
open Go.RowKit
/-- Behind the document's act: what was made. -/
structure Mdl (F : Nat → Prop) (P b : Nat) (s' k' : Int) (ll dd : List T) (er : Int) (tt : T) (W4 wx : World) (b13 b14 : Nat) (p5 : Option Addr) (c5 : Nat) (q5 : Option Addr) (k5 : Nat) : Prop where
  c13 : wx.cell? ⟨b13, 0, none⟩ = some (.int .i64 P) ∧ wx.cell? ⟨b13, 1, none⟩ = some (.slice p5 ll.length c5) ∧ wx.cell? ⟨b13, 2, none⟩ = some (.int .i64 b) ∧ wx.cell? ⟨b13, 3, none⟩ = some (.int .u64 s') ∧ wx.cell? ⟨b13, 4, none⟩ = some (.int .i64 k')
  c14 : wx.cell? ⟨b14, 0, none⟩ = some (.int .i64 er) ∧ wx.cell? ⟨b14, 1, none⟩ = some (.int .u64 tt.a) ∧ wx.cell? ⟨b14, 2, none⟩ = some (.int .u64 tt.s) ∧ wx.cell? ⟨b14, 3, none⟩ = some (.int .i64 tt.p) ∧ wx.cell? ⟨b14, 4, none⟩ = some (.slice q5 dd.length k5)
  ge : W4.heap.size ≤ b13 ∧ W4.heap.size ≤ b14
  rest : Bel W4 wx ∧ Lies F wx p5 (encs ll) ∧ ll.length ≤ c5 ∧ Lies (old W4) wx q5 (encs dd)
/-- What a queue turns, and what was made in between. -/
def FootN (F : Nat → Prop) (a b : Nat) : Nat → Prop := fun j => F j ∨ a ≤ j ∧ j < b
theorem mid_rest {F : Nat → Prop} {ll dd : List T} {W4 Wc w5 W6 : World} {p5 q5 : Option Addr} {c5 : Nat} (hWc : Bel W4 Wc) (hd : DidD (FootN F W4.heap.size Wc.heap.size) Wc w5 p5 c5 ll q5 dd) (ho : Off (fun k => W4.heap.size ≤ k ∧ k < Wc.heap.size) w5 W6) :
    Bel W4 W6 ∧ Lies F W6 p5 (encs ll) ∧ ll.length ≤ c5 ∧ Lies (old W4) W6 q5 (encs dd) := by
  refine ⟨Off.trans (hWc.trans hd.doc.bel) ho (fun i e => .inr e.1), ?_, hd.doc.hc, ?_⟩
  · exact (hd.doc.lies.off (ho.mono (g := FootN F W4.heap.size Wc.heap.size) (fun i _ e => .inr e)) (fun i e => e)).mono (fun _ _ e => .inl e)
  · exact (hd.fresh.off (ho.mono (g := old Wc) (fun i _ e => e.2)) (fun i e => e)).mono (fun _ _ e => Nat.lt_of_lt_of_le e hWc.size)
theorem sto5h {w : World} {T : Nat} {a b c d e a' b' c' d' e' : Value} {t : TypeId} (h : w.heap[T]? = some (.cells #[a, b, c, d, e] t (0, 0))) :
    (sto5 w T a' b' c' d' e').heap[T]? = some (.cells #[a', b', c', d', e'] t (0, 0)) :=
  heap_setCell_same _ T 4 _ t e' (heap_setCell_same _ T 3 _ t d' (heap_setCell_same _ T 2 _ t c' (heap_setCell_same _ T 1 _ t b' (heap_setCell_same w T 0 _ t a' h))))
section
variable {F : Nat → Prop} {P b : Nat} {s' k' : Int} {ll dd : List T} {er : Int} {tt : T} {W4 Wc w5 : World} {p5 q5 : Option Addr} {c5 k5 : Nat}
abbrev d33 (P : Nat) (p5 : Option Addr) (n c5 b : Nat) (s' k' : Int) : Obj := .cells #[.int .i64 P, .slice p5 n c5, .int .i64 b, .int .u64 s', .int .i64 k'] 65
abbrev d56 (er : Int) (tt : T) (q5 : Option Addr) (n k5 : Nat) : Obj := .cells #[.int .i64 er, .int .u64 tt.a, .int .u64 tt.s, .int .i64 tt.p, .slice q5 n k5] 39
theorem mid1 (hB : Bel W4 Wc) (hd : DidD (FootN F W4.heap.size Wc.heap.size) Wc w5 p5 c5 ll q5 dd) : Mdl F P b s' k' ll dd er tt W4 ((w5.alloc (d33 P p5 ll.length c5 b s' k')).alloc (d56 er tt q5 dd.length k5)) w5.heap.size (w5.heap.size + 1) p5 c5 q5 k5 := by
  obtain ⟨W, eW, _, _, n0, n1⟩ := two_new w5 #[.int .i64 P, .slice p5 ll.length c5, .int .i64 b, .int .u64 s', .int .i64 k'] #[.int .i64 er, .int .u64 tt.a, .int .u64 tt.s, .int .i64 tt.p, .slice q5 dd.length k5] 65 39
  have ho : Off (fun k => W4.heap.size ≤ k ∧ k < Wc.heap.size) w5 W := by rw [← eW]; exact ((Off.refl _ w5).alloc _ _).alloc _ _
  rw [eW]
  exact ⟨(box5 n0).1, (box5 n1).1, ⟨(hB.trans hd.doc.bel).size, Nat.le_succ_of_le (hB.trans hd.doc.bel).size⟩, mid_rest hB hd ho⟩
theorem mid2 (hB : Bel W4 Wc) (hd : DidD (FootN F W4.heap.size Wc.heap.size) Wc w5 p5 c5 ll q5 dd) : Mdl F P b s' k' ll dd er tt W4 ((w5.alloc (d56 er tt q5 dd.length k5)).alloc (d33 P p5 ll.length c5 b s' k')) (w5.heap.size + 1) w5.heap.size p5 c5 q5 k5 := by
  obtain ⟨W, eW, _, _, n0, n1⟩ := two_new w5 #[.int .i64 er, .int .u64 tt.a, .int .u64 tt.s, .int .i64 tt.p, .slice q5 dd.length k5] #[.int .i64 P, .slice p5 ll.length c5, .int .i64 b, .int .u64 s', .int .i64 k'] 39 65
  have ho : Off (fun k => W4.heap.size ≤ k ∧ k < Wc.heap.size) w5 W := by rw [← eW]; exact ((Off.refl _ w5).alloc _ _).alloc _ _
  rw [eW]
  exact ⟨(box5 n1).1, (box5 n0).1, ⟨Nat.le_succ_of_le (hB.trans hd.doc.bel).size, (hB.trans hd.doc.bel).size⟩, mid_rest hB hd ho⟩
theorem mid3 {b13 : Nat} (hB : Bel W4 Wc) (hd : DidD (FootN F W4.heap.size Wc.heap.size) Wc w5 p5 c5 ll q5 dd) (h13 : Wc.heap[b13]? = some (.cells #[.int .i64 0, .slice none 0 0, .int .i64 0, .int .u64 0, .int .i64 0] 65 (0, 0))) (g13 : W4.heap.size ≤ b13) :
    Mdl F P b s' k' ll dd er tt W4 ((sto5 w5 b13 (.int .i64 P) (.slice p5 ll.length c5) (.int .i64 b) (.int .u64 s') (.int .i64 k')).alloc (d56 er tt q5 dd.length k5)) b13 w5.heap.size p5 c5 q5 k5 := by
  have l13 := (Array.getElem?_eq_some_iff.1 h13).1
  have n0 := sto5h (a' := .int .i64 P) (b' := .slice p5 ll.length c5) (c' := .int .i64 b) (d' := .int .u64 s') (e' := .int .i64 k') (hd.doc.bel.heap h13)
  have o2 : Off (fun k => W4.heap.size ≤ k ∧ k < Wc.heap.size) w5 (sto5 w5 b13 (.int .i64 P) (.slice p5 ll.length c5) (.int .i64 b) (.int .u64 s') (.int .i64 k')) := (offs5 w5 b13 (.int .i64 P) (.slice p5 ll.length c5) (.int .i64 b) (.int .u64 s') (.int .i64 k')).mono (fun i _ e => by omega)
  have zz : (sto5 w5 b13 (.int .i64 P) (.slice p5 ll.length c5) (.int .i64 b) (.int .u64 s') (.int .i64 k')).heap.size = w5.heap.size := by simp [World.setCell]
  generalize sto5 w5 b13 (.int .i64 P) (.slice p5 ll.length c5) (.int .i64 b) (.int .u64 s') (.int .i64 k') = W at *
  have n1 := heap_alloc_new W (d56 er tt q5 dd.length k5)
  have nb := ((Bel.refl W).alloc #[.int .i64 er, .int .u64 tt.a, .int .u64 tt.s, .int .i64 tt.p, .slice q5 dd.length k5] 39).heap n0
  rw [zz] at n1
  exact ⟨(box5 nb).1, (box5 n1).1, ⟨g13, (hB.trans hd.doc.bel).size⟩, mid_rest hB hd (o2.alloc _ _)⟩
theorem mid5 {b14 : Nat} (hB : Bel W4 Wc) (hd : DidD (FootN F W4.heap.size Wc.heap.size) Wc w5 p5 c5 ll q5 dd) (h14 : Wc.heap[b14]? = some (.cells #[.int .i64 0, .int .u64 0, .int .u64 0, .int .i64 0, .slice none 0 0] 39 (0, 0))) (g14 : W4.heap.size ≤ b14) :
    Mdl F P b s' k' ll dd er tt W4 ((((((w5.setCell ⟨b14, 0, none⟩ (.int .i64 er)).setCell ⟨b14, 1, none⟩ (.int .u64 tt.a)).setCell ⟨b14, 2, none⟩ (.int .u64 tt.s)).setCell ⟨b14, 3, none⟩ (.int .i64 tt.p)).setCell ⟨b14, 4, none⟩ (.slice q5 dd.length k5)).alloc (d33 P p5 ll.length c5 b s' k')) w5.heap.size b14 p5 c5 q5 k5 := by
  have l14 := (Array.getElem?_eq_some_iff.1 h14).1
  have n0 := sto5h (a' := .int .i64 er) (b' := .int .u64 tt.a) (c' := .int .u64 tt.s) (d' := .int .i64 tt.p) (e' := .slice q5 dd.length k5) (hd.doc.bel.heap h14)
  have o2 : Off (fun k => W4.heap.size ≤ k ∧ k < Wc.heap.size) w5 (sto5 w5 b14 (.int .i64 er) (.int .u64 tt.a) (.int .u64 tt.s) (.int .i64 tt.p) (.slice q5 dd.length k5)) := (offs5 w5 b14 _ _ _ _ _).mono (fun i _ e => by omega)
  have zz : (sto5 w5 b14 (.int .i64 er) (.int .u64 tt.a) (.int .u64 tt.s) (.int .i64 tt.p) (.slice q5 dd.length k5)).heap.size = w5.heap.size := by simp [World.setCell]
  show Mdl F P b s' k' ll dd er tt W4 ((sto5 w5 b14 (.int .i64 er) (.int .u64 tt.a) (.int .u64 tt.s) (.int .i64 tt.p) (.slice q5 dd.length k5)).alloc (d33 P p5 ll.length c5 b s' k')) w5.heap.size b14 p5 c5 q5 k5
  generalize sto5 w5 b14 (.int .i64 er) (.int .u64 tt.a) (.int .u64 tt.s) (.int .i64 tt.p) (.slice q5 dd.length k5) = W at *
  have n1 := heap_alloc_new W (d33 P p5 ll.length c5 b s' k')
  have nb := ((Bel.refl W).alloc #[.int .i64 P, .slice p5 ll.length c5, .int .i64 b, .int .u64 s', .int .i64 k'] 65).heap n0
  rw [zz] at n1
  exact ⟨(box5 n1).1, (box5 nb).1, ⟨(hB.trans hd.doc.bel).size, g14⟩, mid_rest hB hd (o2.alloc _ _)⟩
theorem mid4 {b13 b14 : Nat} (hB : Bel W4 Wc) (hd : DidD (FootN F W4.heap.size Wc.heap.size) Wc w5 p5 c5 ll q5 dd) (h13 : Wc.heap[b13]? = some (.cells #[.int .i64 0, .slice none 0 0, .int .i64 0, .int .u64 0, .int .i64 0] 65 (0, 0))) (h14 : Wc.heap[b14]? = some (.cells #[.int .i64 0, .int .u64 0, .int .u64 0, .int .i64 0, .slice none 0 0] 39 (0, 0))) (g13 : W4.heap.size ≤ b13) (g14 : W4.heap.size ≤ b14) (hne : ¬ b13 = b14) :
    Mdl F P b s' k' ll dd er tt W4 ((((((sto5 w5 b13 (.int .i64 P) (.slice p5 ll.length c5) (.int .i64 b) (.int .u64 s') (.int .i64 k')).setCell ⟨b14, 0, none⟩ (.int .i64 er)).setCell ⟨b14, 1, none⟩ (.int .u64 tt.a)).setCell ⟨b14, 2, none⟩ (.int .u64 tt.s)).setCell ⟨b14, 3, none⟩ (.int .i64 tt.p)).setCell ⟨b14, 4, none⟩ (.slice q5 dd.length k5)) b13 b14 p5 c5 q5 k5 := by
  have l13 := (Array.getElem?_eq_some_iff.1 h13).1
  have l14 := (Array.getElem?_eq_some_iff.1 h14).1
  have n0 := sto5h (a' := .int .i64 P) (b' := .slice p5 ll.length c5) (c' := .int .i64 b) (d' := .int .u64 s') (e' := .int .i64 k') (hd.doc.bel.heap h13)
  have o2 := offs5 w5 b13 (.int .i64 P) (.slice p5 ll.length c5) (.int .i64 b) (.int .u64 s') (.int .i64 k')
  have n1 := (o2.block b14 (Nat.lt_of_lt_of_le l14 hd.doc.bel.size) (fun e => hne e.symm)).trans (hd.doc.bel.heap h14)
  have o2' : Off (fun k => W4.heap.size ≤ k ∧ k < Wc.heap.size) w5 (sto5 w5 b13 (.int .i64 P) (.slice p5 ll.length c5) (.int .i64 b) (.int .u64 s') (.int .i64 k')) := o2.mono (fun i _ e => by omega)
  have z13 : b13 < (sto5 w5 b13 (.int .i64 P) (.slice p5 ll.length c5) (.int .i64 b) (.int .u64 s') (.int .i64 k')).heap.size := (Array.getElem?_eq_some_iff.1 n0).1
  clear o2
  generalize sto5 w5 b13 (.int .i64 P) (.slice p5 ll.length c5) (.int .i64 b) (.int .u64 s') (.int .i64 k') = W at *
  have n2 := sto5h (a' := .int .i64 er) (b' := .int .u64 tt.a) (c' := .int .u64 tt.s) (d' := .int .i64 tt.p) (e' := .slice q5 dd.length k5) n1
  have o5 := offs5 W b14 (.int .i64 er) (.int .u64 tt.a) (.int .u64 tt.s) (.int .i64 tt.p) (.slice q5 dd.length k5)
  have n3 := (o5.block b13 z13 hne).trans n0
  exact ⟨(box5 n3).1, (box5 n2).1, ⟨g13, g14⟩, mid_rest hB hd (o2'.then (o5.mono (fun i _ e => by omega)))⟩
end
theorem Lies.go {F F' f : Nat → Prop} {w w' : World} {p : Option Addr} {cs : List Value} (h : Lies F w p cs) (k : Off f w w') (hF : ∀ j, f j → F j) (hf : ∀ j, j < w.heap.size → F' j → F j) : Lies F' w' p cs := by
  rcases h with h | ⟨b, off, e, hb, h⟩
  · exact .inl h
  · by_cases h0 : cs = []
    · exact .inl h0
    · exact .inr ⟨b, off, e, fun e2 => hb (hf b (h.lt h0) e2), h.off (fun e => hb (hF b e)) k⟩
/-- What holds at each round's head of a play: the queue, and the document's wheel in a box. -/
structure Pin (Qu : QT) (w wr : World) (f : Nat → Prop) (Q P b : Nat) (s kk : Int) (l : List T) (p : Option Addr) (c b10 : Nat) : Prop where
  qu : Qu f wr Q P b s kk l
  ge : ∀ k, f k → w.heap.size ≤ k
  nb : ¬ f b10
  gb : w.heap.size ≤ b10
  nz : ¬ 0 = b10
  bel : Bel w wr
  lies : Lies (fun k => f k ∨ k = b10) wr p (encs l)
  hc : l.length ≤ c
  m10 : wr.heap[b10]? = some (.cells #[.int .i64 P, .slice p l.length c, .int .i64 b, .int .u64 s, .int .i64 kk] 65 (0, 0))
theorem Pin.next {Qu : QT} (C : Con Qu) {w wr wc w6 w7 : World} {f : Nat → Prop} {Q P b : Nat} {s kk s' k' : Int} {l ll dd : List T} {p p5 pd : Option Addr} {c c5 b10 : Nat} (h : Pin Qu w wr f Q P b s kk l p c b10) (hb : Bel wr wc) (hl : Lies (fun k => f k ∨ k = b10) wc p5 (encs ll)) (hc5 : ll.length ≤ c5)
    (hd : DidW Qu f wc.drew w6 Q P b s' k' ll pd dd) (hb7 : Bel w6 w7) : ∃ f', Pin Qu w (sto5 w7 b10 (.int .i64 P) (.slice p5 ll.length c5) (.int .i64 b) (.int .u64 s') (.int .i64 k')) f' Q P b s' k' ll p5 c5 b10 := by
  obtain ⟨⟨f', hf', hq', _⟩, ho⟩ := hd
  have o2 := offs5 w7 b10 (.int .i64 P) (.slice p5 ll.length c5) (.int .i64 b) (.int .u64 s') (.int .i64 k')
  have lt10 : b10 < wr.heap.size := (Array.getElem?_eq_some_iff.1 h.m10).1
  have hzd : wc.drew.heap.size = wc.heap.size := rfl
  have hzs := hb.size
  have nb' : ¬ f' b10 := fun e => by
    rcases hf' b10 e with e | e
    · exact h.nb e
    · omega
  have hbd : Bel wr wc.drew := hb.drew
  have h6 : w6.heap[b10]? = some (.cells #[.int .i64 P, .slice p l.length c, .int .i64 b, .int .u64 s, .int .i64 kk] 65 (0, 0)) := (ho.block b10 (by omega) h.nb).trans (hbd.heap h.m10)
  refine ⟨f', C.off (C.bel hq' hb7) o2 (fun i e e2 => nb' (by have : i = b10 := e2; rw [← this]; exact e)) h.nz, fun k e => ?_, nb', h.gb, h.nz, ?_, ?_, hc5, ?_⟩
  · rcases hf' k e with e | e
    · exact h.ge k e
    · have := h.bel.size; omega
  · exact Off.trans (Bel.trans (Off.trans (h.bel.trans hbd) ho (fun i e => .inr (h.ge i e))) hb7) o2 (fun i e => .inr (by have : i = b10 := e; have := h.gb; omega))
  · have hl6 : Lies (fun k => f' k ∨ k = b10) w6 p5 (encs ll) := (hl.bel (Bel.refl wc).drew).go ho (fun j e => .inl e) (fun j hj e => by
      rcases e with e | e
      · rcases hf' j e with e | e
        · exact .inl e
        · omega
      · exact .inr e)
    exact (hl6.bel hb7).off o2 (fun i e => .inr e)
  · exact sto5h (hb7.heap h6)
end Go.Proofs.YtdoceldofkaapaaGreatDoor
set_option linter.unusedSectionVars false
namespace Go.Proofs.YtdoceldofkaapaaGreatDoor
open Go.RowKit
/-- A timer's box. -/
abbrev tb (t : T) : Obj := .cells #[.int .u64 t.a, .int .u64 t.s, .int .i64 t.p] 37
structure Ow (Qu : QT) (w : World) (Q P b : Nat) (s kk : Int) (l : List T) (bx : List (Nat × Obj)) (wx : World) : Prop where
  ex : ∃ f, Qu f wx Q P b s kk l ∧ (∀ j, f j → w.heap.size ≤ j) ∧ ∀ x ∈ bx, ¬ f x.1
  bel : Bel w wx
  at_ : ∀ x ∈ bx, wx.heap[x.1]? = some x.2
theorem Ow.c3 {Qu : QT} {w : World} {Q P b : Nat} {s kk : Int} {l : List T} {bx : List (Nat × Obj)} {w1 : World} (h : Ow Qu w Q P b s kk l bx w1) {j : Nat} {x y z : Value} {ty : TypeId} (hm : (j, .cells #[x, y, z] ty) ∈ bx) : w1.cell? ⟨j, 0, none⟩ = some x ∧ w1.cell? ⟨j, 1, none⟩ = some y ∧ w1.cell? ⟨j, 2, none⟩ = some z := (box3 (h.at_ _ hm)).1
theorem Ow.less {Qu : QT} {w : World} {Q P b : Nat} {s kk : Int} {l : List T} {bx : List (Nat × Obj)} {w1 : World} {x : Nat × Obj} (h : Ow Qu w Q P b s kk l (x :: bx) w1) : Ow Qu w Q P b s kk l bx w1 := by
  obtain ⟨⟨f, h1, h2, h3⟩, h4, h5⟩ := h
  exact ⟨⟨f, h1, h2, fun y hy => h3 y (List.mem_cons_of_mem _ hy)⟩, h4, fun y hy => h5 y (List.mem_cons_of_mem _ hy)⟩
section
variable {Qu : QT} (C : Con Qu) {w : World} {Q P b : Nat} {s kk : Int} {l : List T} {bx : List (Nat × Obj)}
include C
theorem ow_le {w1 w2 : World} (h : Ow Qu w Q P b s kk l bx w1) (k : Bel w1 w2) : Ow Qu w Q P b s kk l bx w2 := by
  obtain ⟨⟨f, h1, h2, h3⟩, h4, h5⟩ := h
  exact ⟨⟨f, C.bel h1 k, h2, h3⟩, h4.trans k, fun x hx => k.heap (h5 x hx)⟩
theorem ow_step {f f' : Nat → Prop} {w1 w2 : World} {s' kk' : Int} {l' : List T} (h3 : ∀ k, f k → w.heap.size ≤ k) (h6 : ∀ x ∈ bx, ¬ f x.1) (h7 : Bel w w1) (h8 : ∀ x ∈ bx, w1.heap[x.1]? = some x.2)
    (hf : Grw f f' w1 w2) (hq : Qu f' w2 Q P b s' kk' l') (k : Off f w1 w2) : Ow Qu w Q P b s' kk' l' bx w2 := by
  refine ⟨⟨f', hq, fun j e => ?_, fun x hx e => ?_⟩, Off.trans h7 k (fun i e => .inr (h3 i e)), fun x hx => (k.block _ (Array.getElem?_eq_some_iff.1 (h8 x hx)).1 (h6 x hx)).trans (h8 x hx)⟩
  · rcases hf j e with e | e
    · exact h3 j e
    · exact Nat.le_trans h7.size e.1
  · rcases hf _ e with e | e
    · exact h6 x hx e
    · have := (Array.getElem?_eq_some_iff.1 (h8 x hx)).1
      omega
theorem ow_box {w1 : World} (h : Ow Qu w Q P b s kk l bx w1) (c : Array Value) (t : TypeId) : Ow Qu w Q P b s kk l ((w1.heap.size, .cells c t) :: bx) (w1.alloc (.cells c t)) := by
  have k : Bel w1 (w1.alloc (.cells c t)) := (Bel.refl w1).alloc c t
  obtain ⟨⟨f, h1, h2, h3⟩, h4, h5⟩ := h
  refine ⟨⟨f, C.bel h1 k, h2, fun x hx => ?_⟩, h4.trans k, fun x hx => ?_⟩
  · rcases List.mem_cons.1 hx with rfl | hx
    · exact fun e => Nat.lt_irrefl _ (C.lt_ h1 _ e)
    · exact h3 x hx
  · rcases List.mem_cons.1 hx with rfl | hx
    · exact heap_alloc_new _ _
    · exact k.heap (h5 x hx)
theorem ow_insert {l' : List T} {t : T} {er : Int} (e1 : insE P l t = er) (e2 : insL P l t = l') (ht : Tk t.a) {w1 : World} (h : Ow Qu w Q P b s kk l bx w1) :
    Calls Tryz.prog 37 #[.pointer (some ⟨Q, 0, none⟩), .agg #[.int .u64 t.a, .int .u64 t.s, .int .i64 t.p]] w1 fun e w2 => e = .returned (.int .i64 er) ∧ Ow Qu w Q P b s kk l' bx w2 := by
  subst e1 e2
  obtain ⟨⟨f, h1, h2, h3⟩, h4, h5⟩ := h
  exact (C.insert t w1 h1 ht).mono fun e w2 ⟨he, f', hf, hq, ho⟩ => ⟨he, ow_step C h2 h3 h4 h5 hf hq ho⟩
theorem ow_move {l' : List T} {t : T} {er : Int} (e1 : canE P l t.p = er) (e2 : movL P l t = l') (ht : Tk t.a) {w1 : World} (h : Ow Qu w Q P b s kk l bx w1) :
    Calls Tryz.prog 55 #[.pointer (some ⟨Q, 0, none⟩), .agg #[.int .u64 t.a, .int .u64 t.s, .int .i64 t.p]] w1 fun e w2 => e = .returned (.int .i64 er) ∧ Ow Qu w Q P b s kk l' bx w2 := by
  subst e1 e2
  obtain ⟨⟨f, h1, h2, h3⟩, h4, h5⟩ := h
  exact (C.move t w1 h1 ht).mono fun e w2 ⟨he, f', hf, hq, ho⟩ => ⟨he, ow_step C h2 h3 h4 h5 hf hq ho⟩
theorem ow_cancel {l' : List T} {k er : Int} {t : T} (e1 : canE P l k = er) (e2 : wo l k = l') (e3 : (fnd l k).getD default = t) {w1 : World} (h : Ow Qu w Q P b s kk l bx w1) :
    Calls Tryz.prog 56 #[.pointer (some ⟨Q, 0, none⟩), .int .i64 k] w1 fun e w2 => e = .returned (canV t er) ∧ Ow Qu w Q P b s kk l' bx w2 := by
  subst e1 e2 e3
  obtain ⟨⟨f, h1, h2, h3⟩, h4, h5⟩ := h
  exact (C.cancel k w1 h1).mono fun e w2 ⟨he, f', hf, hq, ho⟩ => ⟨he, ow_step C h2 h3 h4 h5 hf hq ho⟩
theorem ow_due {l' d : List T} {now s' k' : Int} {n : Nat} (e1 : due l now true = d) (e2 : due l now false = l') (e3 : max s now = s') (e4 : kk + (csc b s now l : Int) = k') (e5 : d.length = n) (hn : Tk now) {w1 : World} (h : Ow Qu w Q P b s kk l bx w1) :
    Calls Tryz.prog 38 #[.pointer (some ⟨Q, 0, none⟩), .int .u64 now] w1 fun e w2 => ∃ p c, e = .returned (.slice p n c) ∧ Has w2 p d ∧ Ow Qu w Q P b s' k' l' bx w2 := by
  subst e1 e2 e3 e4 e5
  obtain ⟨⟨f, h1, h2, h3⟩, h4, h5⟩ := h
  exact (C.due now w1 h1 hn).mono fun e w2 ⟨p, c, f', he, _, hl, hf, hq, ho⟩ => ⟨p, c, he, hl.has, ow_step C h2 h3 h4 h5 hf hq ho⟩
theorem ow_zp {w1 : World} (h : Ow Qu w Q P b s kk l bx w1) : ∃ Z, w1.cell? ⟨Q, 0, none⟩ = some (.pointer (some ⟨Z, 0, none⟩)) := by
  obtain ⟨⟨f, h1, _⟩, _⟩ := h
  exact C.zp h1
theorem ow_all {Z : Nat} {w1 : World} (hz : w1.cell? ⟨Q, 0, none⟩ = some (.pointer (some ⟨Z, 0, none⟩))) {n : Nat} (e : l.length = n) (h : Ow Qu w Q P b s kk l bx w1) :
    Calls Tryz.prog 24 #[.pointer (some ⟨Z, 0, none⟩)] w1 fun e w2 => ∃ p c, e = .returned (.slice p n c) ∧ Has w2 p l ∧ Bel w1 w2 := by
  subst e
  obtain ⟨⟨f, h1, _⟩, _⟩ := h
  exact (C.all w1 h1 hz).mono fun e w2 ⟨p, c, he, _, hl, hb⟩ => ⟨p, c, he, hl.has, hb⟩
theorem ow_min {t : T} (e : l.head? = some t) {w1 : World} (h : Ow Qu w Q P b s kk l bx w1) :
    Calls Tryz.prog 34 #[.pointer (some ⟨Q, 0, none⟩)] w1 fun e w2 => e = .returned (.tuple #[.agg #[.int .u64 t.a, .int .u64 t.s, .int .i64 t.p], .bool true]) ∧ Bel w1 w2 := by
  obtain ⟨⟨f, h1, _⟩, _⟩ := h
  have k := C.min w1 h1
  rw [e] at k
  exact k
theorem ow_get {Z : Nat} {w1 : World} (hz : w1.cell? ⟨Q, 0, none⟩ = some (.pointer (some ⟨Z, 0, none⟩))) {t : T} {k : Int} (e : fnd l k = some t) (h : Ow Qu w Q P b s kk l bx w1) :
    Calls Tryz.prog 19 #[.pointer (some ⟨Z, 0, none⟩), .int .i64 k] w1 fun e w2 => e = .returned (.tuple #[.agg #[.int .u64 t.a, .int .u64 t.s, .int .i64 t.p], .bool true]) ∧ Bel w1 w2 := by
  obtain ⟨⟨f, h1, _⟩, _⟩ := h
  have k := C.get k w1 h1 hz
  rw [e] at k
  exact k
theorem ow_len {Z : Nat} {w1 : World} (hz : w1.cell? ⟨Q, 0, none⟩ = some (.pointer (some ⟨Z, 0, none⟩))) {n : Nat} (e : l.length = n) (h : Ow Qu w Q P b s kk l bx w1) :
    Calls Tryz.prog 18 #[.pointer (some ⟨Z, 0, none⟩)] w1 fun e w2 => e = .returned (.int .i64 n) ∧ Bel w1 w2 := by
  subst e
  obtain ⟨⟨f, h1, _⟩, _⟩ := h
  exact C.count w1 h1 hz
theorem ow_base {w1 : World} (h : Ow Qu w Q P b s kk l bx w1) :
    Calls Tryz.prog 32 #[.pointer (some ⟨Q, 0, none⟩)] w1 fun e w2 => e = .returned (.int .u64 s) ∧ Bel w1 w2 := by
  obtain ⟨⟨f, h1, _⟩, _⟩ := h
  exact C.based w1 h1
theorem ow_cascades (k0 : 0 ≤ kk) (k9 : kk ≤ 1000000000) {w1 : World} (h : Ow Qu w Q P b s kk l bx w1) :
    Calls Tryz.prog 33 #[.pointer (some ⟨Q, 0, none⟩)] w1 fun e w2 => e = .returned (.int .i64 kk) ∧ Bel w1 w2 := by
  obtain ⟨⟨f, h1, _⟩, _⟩ := h
  exact C.cascades w1 h1 k0 k9
theorem ow_where {k : Int} {w1 : World} (h : Ow Qu w Q P b s kk l bx w1) :
    Calls Tryz.prog 30 #[.pointer (some ⟨Q, 0, none⟩), .int .i64 k] w1 fun e w2 => e = .returned (whr b s (fnd l k)) ∧ Bel w1 w2 := by
  obtain ⟨⟨f, h1, _⟩, _⟩ := h
  exact C.where_ k w1 h1
theorem ow_new {w1 : World} {f : Nat → Prop} (h1 : Qu f w1 Q P b s kk l) (hf : ∀ k, f k → w.heap.size ≤ k) (b1 : Bel w w1) : Ow Qu w Q P b s kk l [] w1 :=
  ⟨⟨f, h1, hf, fun x hx => by simp at hx⟩, b1, fun x hx => by simp at hx⟩
end
theorem has_row {w : World} {b : Nat} {l : List T} {cs : Array Value} (h : w.heap[b]? = some (.cells cs 37 (0, 0))) (e : cs = (encs l).toArray) : Has w (some ⟨b, 0, none⟩) l := by
  by_cases h0 : l = []
  · exact .inl h0
  refine .inr ⟨b, 0, rfl, fun i hi => ?_⟩
  have hg := encs_get l i hi
  have c : ∀ j, w.cell? ⟨b, j, none⟩ = (encs l)[j]? := fun j => by rw [cell_of_row w b _ _ 37 (0, 0) h, e, List.getElem?_toArray]
  rw [Nat.zero_add, c, c, c]
  exact hg
theorem same_yes (p q : Option Addr) (c d : Nat) (l : List T) (w : World) (hm : l.length ≤ 5000) (h1 : Has w p l) (h2 : Has w q l) :
    Calls Tryz.prog 23 #[.slice p l.length c, .slice q l.length d] w fun e w' => e = .returned (.bool true) ∧ Bel w w' := by
  have K := same_any p q l.length c d l l w rfl rfl hm h1 h2
  rw [decide_eq_true rfl] at K
  exact K
theorem new3 (w : World) (a b c : Array Value) (ta tb tc : TypeId) : ∃ W, ((w.alloc (.cells a ta)).alloc (.cells b tb)).alloc (.cells c tc) = W ∧ Bel w W ∧ W.heap.size = w.heap.size + 1 + 1 + 1 ∧ W.heap[w.heap.size]? = some (.cells a ta (0, 0)) ∧ W.heap[w.heap.size + 1]? = some (.cells b tb (0, 0)) ∧ W.heap[w.heap.size + 1 + 1]? = some (.cells c tc (0, 0)) := three_new w a b c ta tb tc
end Go.Proofs.YtdoceldofkaapaaGreatDoor
