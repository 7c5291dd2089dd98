/-
  Behind the document's wheel's act: what was made; and what a play keeps.
  A queue, and boxes beside it: what each call keeps.
  Contract of the law's works: the document's example.
-/
import Derived.Test.YtdoceldofkaapaaGreatDoorXbe
import Derived.Deep.Cut
set_option linter.unusedVariables false
set_option linter.unusedSimpArgs false
namespace Go.Proofs.YtdoceldofkaapaaGreatDoor.Ha
open Go.RowKit
/-- Behind the document's act: what was made. -/
structure Mid (F : Nat → Prop) (P b : Nat) (s' k' : Int) (ll dd : List T) (er : Int) (tt : T) (W4 wx : World) (b13 b14 : Nat) (p5 : Option Addr) (c5 : Nat) (q5 : Option Addr) (k5 : Nat) : Prop where
  c13 : wx.cell? ⟨b13, 0, none⟩ = some (.int .i64 P) ∧ wx.cell? ⟨b13, 1, none⟩ = some (.slice p5 ll.length c5) ∧ wx.cell? ⟨b13, 2, none⟩ = some (.int .i64 b) ∧ wx.cell? ⟨b13, 3, none⟩ = some (.int .u64 s') ∧ wx.cell? ⟨b13, 4, none⟩ = some (.int .i64 k')
  c14 : wx.cell? ⟨b14, 0, none⟩ = some (.int .i64 er) ∧ wx.cell? ⟨b14, 1, none⟩ = some (.int .u64 tt.a) ∧ wx.cell? ⟨b14, 2, none⟩ = some (.int .u64 tt.s) ∧ wx.cell? ⟨b14, 3, none⟩ = some (.int .i64 tt.p) ∧ wx.cell? ⟨b14, 4, none⟩ = some (.slice q5 dd.length k5)
  ge : W4.heap.size ≤ b13 ∧ W4.heap.size ≤ b14
  rest : Bel W4 wx ∧ Lies F wx p5 (encs ll) ∧ ll.length ≤ c5 ∧ Lies (old W4) wx q5 (encs dd)
/-- What a queue turns, and what was made in between. -/
def FootN (F : Nat → Prop) (a b : Nat) : Nat → Prop := fun j => F j ∨ a ≤ j ∧ j < b
theorem mid_rest {F : Nat → Prop} {ll dd : List T} {W4 Wc w5 W6 : World} {p5 q5 : Option Addr} {c5 : Nat} (hWc : Bel W4 Wc) (hd : DidD (FootN F W4.heap.size Wc.heap.size) Wc w5 p5 c5 ll q5 dd) (ho : Off (fun k => W4.heap.size ≤ k ∧ k < Wc.heap.size) w5 W6) :
    Bel W4 W6 ∧ Lies F W6 p5 (encs ll) ∧ ll.length ≤ c5 ∧ Lies (old W4) W6 q5 (encs dd) := by
  refine ⟨Off.trans (hWc.trans hd.doc.bel) ho (fun i e => .inr e.1), ?_, hd.doc.hc, ?_⟩
  · exact (hd.doc.lies.off (ho.mono (g := FootN F W4.heap.size Wc.heap.size) (fun i _ e => .inr e)) (fun i e => e)).mono (fun _ _ e => .inl e)
  · exact (hd.fresh.off (ho.mono (g := old Wc) (fun i _ e => e.2)) (fun i e => e)).mono (fun _ _ e => Nat.lt_of_lt_of_le e hWc.size)
theorem sto5h {w : World} {T : Nat} {a b c d e a' b' c' d' e' : Value} {t : TypeId} (h : w.heap[T]? = some (.cells #[a, b, c, d, e] t (0, 0))) :
    (sto5 w T a' b' c' d' e').heap[T]? = some (.cells #[a', b', c', d', e'] t (0, 0)) :=
  heap_setCell_same _ T 4 _ t e' (heap_setCell_same _ T 3 _ t d' (heap_setCell_same _ T 2 _ t c' (heap_setCell_same _ T 1 _ t b' (heap_setCell_same w T 0 _ t a' h))))
section
variable {F : Nat → Prop} {P b : Nat} {s' k' : Int} {ll dd : List T} {er : Int} {tt : T} {W4 Wc w5 : World} {p5 q5 : Option Addr} {c5 k5 : Nat}
abbrev d33 (P : Nat) (p5 : Option Addr) (n c5 b : Nat) (s' k' : Int) : Obj := .cells #[.int .i64 P, .slice p5 n c5, .int .i64 b, .int .u64 s', .int .i64 k'] 33
abbrev d56 (er : Int) (tt : T) (q5 : Option Addr) (n k5 : Nat) : Obj := .cells #[.int .i64 er, .int .u64 tt.a, .int .u64 tt.s, .int .i64 tt.p, .slice q5 n k5] 39
theorem mid1 (hB : Bel W4 Wc) (hd : DidD (FootN F W4.heap.size Wc.heap.size) Wc w5 p5 c5 ll q5 dd) : Mid F P b s' k' ll dd er tt W4 ((w5.alloc (d33 P p5 ll.length c5 b s' k')).alloc (d56 er tt q5 dd.length k5)) w5.heap.size (w5.heap.size + 1) p5 c5 q5 k5 := by
  obtain ⟨W, eW, _, _, n0, n1⟩ := two_new w5 #[.int .i64 P, .slice p5 ll.length c5, .int .i64 b, .int .u64 s', .int .i64 k'] #[.int .i64 er, .int .u64 tt.a, .int .u64 tt.s, .int .i64 tt.p, .slice q5 dd.length k5] 33 39
  have ho : Off (fun k => W4.heap.size ≤ k ∧ k < Wc.heap.size) w5 W := by rw [← eW]; exact ((Off.refl _ w5).alloc _ _).alloc _ _
  rw [eW]
  exact ⟨(box5 n0).1, (box5 n1).1, ⟨(hB.trans hd.doc.bel).size, Nat.le_succ_of_le (hB.trans hd.doc.bel).size⟩, mid_rest hB hd ho⟩
theorem mid2 (hB : Bel W4 Wc) (hd : DidD (FootN F W4.heap.size Wc.heap.size) Wc w5 p5 c5 ll q5 dd) : Mid F P b s' k' ll dd er tt W4 ((w5.alloc (d56 er tt q5 dd.length k5)).alloc (d33 P p5 ll.length c5 b s' k')) (w5.heap.size + 1) w5.heap.size p5 c5 q5 k5 := by
  obtain ⟨W, eW, _, _, n0, n1⟩ := two_new w5 #[.int .i64 er, .int .u64 tt.a, .int .u64 tt.s, .int .i64 tt.p, .slice q5 dd.length k5] #[.int .i64 P, .slice p5 ll.length c5, .int .i64 b, .int .u64 s', .int .i64 k'] 39 33
  have ho : Off (fun k => W4.heap.size ≤ k ∧ k < Wc.heap.size) w5 W := by rw [← eW]; exact ((Off.refl _ w5).alloc _ _).alloc _ _
  rw [eW]
  exact ⟨(box5 n1).1, (box5 n0).1, ⟨Nat.le_succ_of_le (hB.trans hd.doc.bel).size, (hB.trans hd.doc.bel).size⟩, mid_rest hB hd ho⟩
theorem mid3 {b13 : Nat} (hB : Bel W4 Wc) (hd : DidD (FootN F W4.heap.size Wc.heap.size) Wc w5 p5 c5 ll q5 dd) (h13 : Wc.heap[b13]? = some (.cells #[.int .i64 0, .slice none 0 0, .int .i64 0, .int .u64 0, .int .i64 0] 33 (0, 0))) (g13 : W4.heap.size ≤ b13) :
    Mid F P b s' k' ll dd er tt W4 ((sto5 w5 b13 (.int .i64 P) (.slice p5 ll.length c5) (.int .i64 b) (.int .u64 s') (.int .i64 k')).alloc (d56 er tt q5 dd.length k5)) b13 w5.heap.size p5 c5 q5 k5 := by
  have l13 := (Array.getElem?_eq_some_iff.1 h13).1
  have n0 := sto5h (a' := .int .i64 P) (b' := .slice p5 ll.length c5) (c' := .int .i64 b) (d' := .int .u64 s') (e' := .int .i64 k') (hd.doc.bel.heap h13)
  have o2 : Off (fun k => W4.heap.size ≤ k ∧ k < Wc.heap.size) w5 (sto5 w5 b13 (.int .i64 P) (.slice p5 ll.length c5) (.int .i64 b) (.int .u64 s') (.int .i64 k')) := (offs5 w5 b13 (.int .i64 P) (.slice p5 ll.length c5) (.int .i64 b) (.int .u64 s') (.int .i64 k')).mono (fun i _ e => by omega)
  have zz : (sto5 w5 b13 (.int .i64 P) (.slice p5 ll.length c5) (.int .i64 b) (.int .u64 s') (.int .i64 k')).heap.size = w5.heap.size := by simp [World.setCell]
  generalize sto5 w5 b13 (.int .i64 P) (.slice p5 ll.length c5) (.int .i64 b) (.int .u64 s') (.int .i64 k') = W at *
  have n1 := heap_alloc_new W (d56 er tt q5 dd.length k5)
  have nb := ((Bel.refl W).alloc #[.int .i64 er, .int .u64 tt.a, .int .u64 tt.s, .int .i64 tt.p, .slice q5 dd.length k5] 39).heap n0
  rw [zz] at n1
  exact ⟨(box5 nb).1, (box5 n1).1, ⟨g13, (hB.trans hd.doc.bel).size⟩, mid_rest hB hd (o2.alloc _ _)⟩
theorem mid5 {b14 : Nat} (hB : Bel W4 Wc) (hd : DidD (FootN F W4.heap.size Wc.heap.size) Wc w5 p5 c5 ll q5 dd) (h14 : Wc.heap[b14]? = some (.cells #[.int .i64 0, .int .u64 0, .int .u64 0, .int .i64 0, .slice none 0 0] 39 (0, 0))) (g14 : W4.heap.size ≤ b14) :
    Mid F P b s' k' ll dd er tt W4 ((((((w5.setCell ⟨b14, 0, none⟩ (.int .i64 er)).setCell ⟨b14, 1, none⟩ (.int .u64 tt.a)).setCell ⟨b14, 2, none⟩ (.int .u64 tt.s)).setCell ⟨b14, 3, none⟩ (.int .i64 tt.p)).setCell ⟨b14, 4, none⟩ (.slice q5 dd.length k5)).alloc (d33 P p5 ll.length c5 b s' k')) w5.heap.size b14 p5 c5 q5 k5 := by
  have l14 := (Array.getElem?_eq_some_iff.1 h14).1
  have n0 := sto5h (a' := .int .i64 er) (b' := .int .u64 tt.a) (c' := .int .u64 tt.s) (d' := .int .i64 tt.p) (e' := .slice q5 dd.length k5) (hd.doc.bel.heap h14)
  have o2 : Off (fun k => W4.heap.size ≤ k ∧ k < Wc.heap.size) w5 (sto5 w5 b14 (.int .i64 er) (.int .u64 tt.a) (.int .u64 tt.s) (.int .i64 tt.p) (.slice q5 dd.length k5)) := (offs5 w5 b14 _ _ _ _ _).mono (fun i _ e => by omega)
  have zz : (sto5 w5 b14 (.int .i64 er) (.int .u64 tt.a) (.int .u64 tt.s) (.int .i64 tt.p) (.slice q5 dd.length k5)).heap.size = w5.heap.size := by simp [World.setCell]
  show Mid F P b s' k' ll dd er tt W4 ((sto5 w5 b14 (.int .i64 er) (.int .u64 tt.a) (.int .u64 tt.s) (.int .i64 tt.p) (.slice q5 dd.length k5)).alloc (d33 P p5 ll.length c5 b s' k')) w5.heap.size b14 p5 c5 q5 k5
  generalize sto5 w5 b14 (.int .i64 er) (.int .u64 tt.a) (.int .u64 tt.s) (.int .i64 tt.p) (.slice q5 dd.length k5) = W at *
  have n1 := heap_alloc_new W (d33 P p5 ll.length c5 b s' k')
  have nb := ((Bel.refl W).alloc #[.int .i64 P, .slice p5 ll.length c5, .int .i64 b, .int .u64 s', .int .i64 k'] 33).heap n0
  rw [zz] at n1
  exact ⟨(box5 n1).1, (box5 nb).1, ⟨(hB.trans hd.doc.bel).size, g14⟩, mid_rest hB hd (o2.alloc _ _)⟩
theorem mid4 {b13 b14 : Nat} (hB : Bel W4 Wc) (hd : DidD (FootN F W4.heap.size Wc.heap.size) Wc w5 p5 c5 ll q5 dd) (h13 : Wc.heap[b13]? = some (.cells #[.int .i64 0, .slice none 0 0, .int .i64 0, .int .u64 0, .int .i64 0] 33 (0, 0))) (h14 : Wc.heap[b14]? = some (.cells #[.int .i64 0, .int .u64 0, .int .u64 0, .int .i64 0, .slice none 0 0] 39 (0, 0))) (g13 : W4.heap.size ≤ b13) (g14 : W4.heap.size ≤ b14) (hne : ¬ b13 = b14) :
    Mid F P b s' k' ll dd er tt W4 ((((((sto5 w5 b13 (.int .i64 P) (.slice p5 ll.length c5) (.int .i64 b) (.int .u64 s') (.int .i64 k')).setCell ⟨b14, 0, none⟩ (.int .i64 er)).setCell ⟨b14, 1, none⟩ (.int .u64 tt.a)).setCell ⟨b14, 2, none⟩ (.int .u64 tt.s)).setCell ⟨b14, 3, none⟩ (.int .i64 tt.p)).setCell ⟨b14, 4, none⟩ (.slice q5 dd.length k5)) b13 b14 p5 c5 q5 k5 := by
  have l13 := (Array.getElem?_eq_some_iff.1 h13).1
  have l14 := (Array.getElem?_eq_some_iff.1 h14).1
  have n0 := sto5h (a' := .int .i64 P) (b' := .slice p5 ll.length c5) (c' := .int .i64 b) (d' := .int .u64 s') (e' := .int .i64 k') (hd.doc.bel.heap h13)
  have o2 := offs5 w5 b13 (.int .i64 P) (.slice p5 ll.length c5) (.int .i64 b) (.int .u64 s') (.int .i64 k')
  have n1 := (o2.block b14 (Nat.lt_of_lt_of_le l14 hd.doc.bel.size) (fun e => hne e.symm)).trans (hd.doc.bel.heap h14)
  have o2' : Off (fun k => W4.heap.size ≤ k ∧ k < Wc.heap.size) w5 (sto5 w5 b13 (.int .i64 P) (.slice p5 ll.length c5) (.int .i64 b) (.int .u64 s') (.int .i64 k')) := o2.mono (fun i _ e => by omega)
  have z13 : b13 < (sto5 w5 b13 (.int .i64 P) (.slice p5 ll.length c5) (.int .i64 b) (.int .u64 s') (.int .i64 k')).heap.size := (Array.getElem?_eq_some_iff.1 n0).1
  clear o2
  generalize sto5 w5 b13 (.int .i64 P) (.slice p5 ll.length c5) (.int .i64 b) (.int .u64 s') (.int .i64 k') = W at *
  have n2 := sto5h (a' := .int .i64 er) (b' := .int .u64 tt.a) (c' := .int .u64 tt.s) (d' := .int .i64 tt.p) (e' := .slice q5 dd.length k5) n1
  have o5 := offs5 W b14 (.int .i64 er) (.int .u64 tt.a) (.int .u64 tt.s) (.int .i64 tt.p) (.slice q5 dd.length k5)
  have n3 := (o5.block b13 z13 hne).trans n0
  exact ⟨(box5 n3).1, (box5 n2).1, ⟨g13, g14⟩, mid_rest hB hd (o2'.then (o5.mono (fun i _ e => by omega)))⟩
end
theorem Lies.go {F F' f : Nat → Prop} {w w' : World} {p : Option Addr} {cs : List Value} (h : Lies F w p cs) (k : Off f w w') (hF : ∀ j, f j → F j) (hf : ∀ j, j < w.heap.size → F' j → F j) : Lies F' w' p cs := by
  rcases h with h | ⟨b, off, e, hb, h⟩
  · exact .inl h
  · by_cases h0 : cs = []
    · exact .inl h0
    · exact .inr ⟨b, off, e, fun e2 => hb (hf b (h.lt h0) e2), h.off (fun e => hb (hF b e)) k⟩
/-- What holds at each round's head of a play: the queue, and the document's wheel in a box. -/
structure Pin (Qu : QT) (w wr : World) (f : Nat → Prop) (Q P b : Nat) (s kk : Int) (l : List T) (p : Option Addr) (c b10 : Nat) : Prop where
  qu : Qu f wr Q P b s kk l
  ge : ∀ k, f k → w.heap.size ≤ k
  nb : ¬ f b10
  gb : w.heap.size ≤ b10
  nz : ¬ 0 = b10
  bel : Bel w wr
  lies : Lies (fun k => f k ∨ k = b10) wr p (encs l)
  hc : l.length ≤ c
  m10 : wr.heap[b10]? = some (.cells #[.int .i64 P, .slice p l.length c, .int .i64 b, .int .u64 s, .int .i64 kk] 33 (0, 0))
theorem Pin.next {Qu : QT} (C : Con Qu) {w wr wc w6 w7 : World} {f : Nat → Prop} {Q P b : Nat} {s kk s' k' : Int} {l ll dd : List T} {p p5 pd : Option Addr} {c c5 b10 : Nat} (h : Pin Qu w wr f Q P b s kk l p c b10) (hb : Bel wr wc) (hl : Lies (fun k => f k ∨ k = b10) wc p5 (encs ll)) (hc5 : ll.length ≤ c5)
    (hd : DidW Qu f wc.drew w6 Q P b s' k' ll pd dd) (hb7 : Bel w6 w7) : ∃ f', Pin Qu w (sto5 w7 b10 (.int .i64 P) (.slice p5 ll.length c5) (.int .i64 b) (.int .u64 s') (.int .i64 k')) f' Q P b s' k' ll p5 c5 b10 := by
  obtain ⟨⟨f', hf', hq', _⟩, ho⟩ := hd
  have o2 := offs5 w7 b10 (.int .i64 P) (.slice p5 ll.length c5) (.int .i64 b) (.int .u64 s') (.int .i64 k')
  have lt10 : b10 < wr.heap.size := (Array.getElem?_eq_some_iff.1 h.m10).1
  have hzd : wc.drew.heap.size = wc.heap.size := rfl
  have hzs := hb.size
  have nb' : ¬ f' b10 := fun e => by
    rcases hf' b10 e with e | e
    · exact h.nb e
    · omega
  have hbd : Bel wr wc.drew := hb.drew
  have h6 : w6.heap[b10]? = some (.cells #[.int .i64 P, .slice p l.length c, .int .i64 b, .int .u64 s, .int .i64 kk] 33 (0, 0)) := (ho.block b10 (by omega) h.nb).trans (hbd.heap h.m10)
  refine ⟨f', C.off (C.bel hq' hb7) o2 (fun i e e2 => nb' (by have : i = b10 := e2; rw [← this]; exact e)) h.nz, fun k e => ?_, nb', h.gb, h.nz, ?_, ?_, hc5, ?_⟩
  · rcases hf' k e with e | e
    · exact h.ge k e
    · have := h.bel.size; omega
  · exact Off.trans (Bel.trans (Off.trans (h.bel.trans hbd) ho (fun i e => .inr (h.ge i e))) hb7) o2 (fun i e => .inr (by have : i = b10 := e; have := h.gb; omega))
  · have hl6 : Lies (fun k => f' k ∨ k = b10) w6 p5 (encs ll) := Lies.go (hl.bel (Bel.refl wc).drew) ho (fun j e => .inl e) (fun j hj e => by
      rcases e with e | e
      · rcases hf' j e with e | e
        · exact .inl e
        · omega
      · exact .inr e)
    exact (hl6.bel hb7).off o2 (fun i e => .inr e)
  · exact sto5h (hb7.heap h6)
end Go.Proofs.YtdoceldofkaapaaGreatDoor.Ha
set_option linter.unusedSectionVars false
namespace Go.Proofs.YtdoceldofkaapaaGreatDoor.Ha
open Go.RowKit
theorem three_new (w : World) (a b c : Array Value) (ta tb tc : TypeId) : ∃ W, ((w.alloc (.cells a ta)).alloc (.cells b tb)).alloc (.cells c tc) = W ∧ Bel w W ∧ W.heap.size = w.heap.size + 1 + 1 + 1 ∧
    W.heap[w.heap.size]? = some (.cells a ta (0, 0)) ∧ W.heap[w.heap.size + 1]? = some (.cells b tb (0, 0)) ∧ W.heap[w.heap.size + 1 + 1]? = some (.cells c tc (0, 0)) := by
  refine ⟨_, rfl, (((Bel.refl w).alloc _ _).alloc _ _).alloc _ _, by simp, ?_, ?_, ?_⟩
  · rw [Below.heap_alloc _ _ _ (by simp only [World.size_alloc]; omega), Below.heap_alloc _ _ _ (by simp), heap_alloc_new]
  · rw [Below.heap_alloc _ _ _ (by simp only [World.size_alloc]; omega)]
    have := heap_alloc_new (w.alloc (.cells a ta)) (.cells b tb)
    simpa using this
  · have := heap_alloc_new ((w.alloc (.cells a ta)).alloc (.cells b tb)) (.cells c tc)
    simpa using this
/-- A timer's box. -/
abbrev tb (t : T) : Obj := .cells #[.int .u64 t.a, .int .u64 t.s, .int .i64 t.p] 37
structure Ow (Qu : QT) (w : World) (Q P b : Nat) (s kk : Int) (l : List T) (bx : List (Nat × Obj)) (wx : World) : Prop where
  ex : ∃ f, Qu f wx Q P b s kk l ∧ (∀ j, f j → w.heap.size ≤ j) ∧ ∀ x ∈ bx, ¬ f x.1
  bel : Bel w wx
  at_ : ∀ x ∈ bx, wx.heap[x.1]? = some x.2
theorem Ow.c3 {Qu : QT} {w : World} {Q P b : Nat} {s kk : Int} {l : List T} {bx : List (Nat × Obj)} {w1 : World} (h : Ow Qu w Q P b s kk l bx w1) {j : Nat} {x y z : Value} {ty : TypeId} (hm : (j, .cells #[x, y, z] ty) ∈ bx) : w1.cell? ⟨j, 0, none⟩ = some x ∧ w1.cell? ⟨j, 1, none⟩ = some y ∧ w1.cell? ⟨j, 2, none⟩ = some z := (box3 (h.at_ _ hm)).1
theorem Ow.less {Qu : QT} {w : World} {Q P b : Nat} {s kk : Int} {l : List T} {bx : List (Nat × Obj)} {w1 : World} {x : Nat × Obj} (h : Ow Qu w Q P b s kk l (x :: bx) w1) : Ow Qu w Q P b s kk l bx w1 := by
  obtain ⟨⟨f, h1, h2, h3⟩, h4, h5⟩ := h
  exact ⟨⟨f, h1, h2, fun y hy => h3 y (List.mem_cons_of_mem _ hy)⟩, h4, fun y hy => h5 y (List.mem_cons_of_mem _ hy)⟩
section
variable {Qu : QT} (C : Con Qu) {w : World} {Q P b : Nat} {s kk : Int} {l : List T} {bx : List (Nat × Obj)}
include C
theorem ow_le {w1 w2 : World} (h : Ow Qu w Q P b s kk l bx w1) (k : Bel w1 w2) : Ow Qu w Q P b s kk l bx w2 := by
  obtain ⟨⟨f, h1, h2, h3⟩, h4, h5⟩ := h
  exact ⟨⟨f, C.bel h1 k, h2, h3⟩, h4.trans k, fun x hx => k.heap (h5 x hx)⟩
theorem ow_step {f f' : Nat → Prop} {w1 w2 : World} {s' kk' : Int} {l' : List T} (h3 : ∀ k, f k → w.heap.size ≤ k) (h6 : ∀ x ∈ bx, ¬ f x.1) (h7 : Bel w w1) (h8 : ∀ x ∈ bx, w1.heap[x.1]? = some x.2)
    (hf : Grw f f' w1 w2) (hq : Qu f' w2 Q P b s' kk' l') (k : Off f w1 w2) : Ow Qu w Q P b s' kk' l' bx w2 := by
  refine ⟨⟨f', hq, fun j e => ?_, fun x hx e => ?_⟩, Off.trans h7 k (fun i e => .inr (h3 i e)), fun x hx => (k.block _ (Array.getElem?_eq_some_iff.1 (h8 x hx)).1 (h6 x hx)).trans (h8 x hx)⟩
  · rcases hf j e with e | e
    · exact h3 j e
    · exact Nat.le_trans h7.size e.1
  · rcases hf _ e with e | e
    · exact h6 x hx e
    · have := (Array.getElem?_eq_some_iff.1 (h8 x hx)).1
      omega
theorem ow_box {w1 : World} (h : Ow Qu w Q P b s kk l bx w1) (c : Array Value) (t : TypeId) : Ow Qu w Q P b s kk l ((w1.heap.size, .cells c t) :: bx) (w1.alloc (.cells c t)) := by
  have k : Bel w1 (w1.alloc (.cells c t)) := (Bel.refl w1).alloc c t
  obtain ⟨⟨f, h1, h2, h3⟩, h4, h5⟩ := h
  refine ⟨⟨f, C.bel h1 k, h2, fun x hx => ?_⟩, h4.trans k, fun x hx => ?_⟩
  · rcases List.mem_cons.1 hx with rfl | hx
    · exact fun e => Nat.lt_irrefl _ (C.lt_ h1 _ e)
    · exact h3 x hx
  · rcases List.mem_cons.1 hx with rfl | hx
    · exact heap_alloc_new _ _
    · exact k.heap (h5 x hx)
theorem ow_insert {l' : List T} {t : T} {er : Int} (e1 : insE P l t = er) (e2 : insL P l t = l') (ht : Tk t.a) {w1 : World} (h : Ow Qu w Q P b s kk l bx w1) :
    Calls Tryz.prog 39 #[.pointer (some ⟨Q, 0, none⟩), .agg #[.int .u64 t.a, .int .u64 t.s, .int .i64 t.p]] w1 fun e w2 => e = .returned (.int .i64 er) ∧ Ow Qu w Q P b s kk l' bx w2 := by
  subst e1 e2
  obtain ⟨⟨f, h1, h2, h3⟩, h4, h5⟩ := h
  exact (C.insert t w1 h1 ht).mono fun e w2 ⟨he, f', hf, hq, ho⟩ => ⟨he, ow_step C h2 h3 h4 h5 hf hq ho⟩
theorem ow_move {l' : List T} {t : T} {er : Int} (e1 : canE P l t.p = er) (e2 : movL P l t = l') (ht : Tk t.a) {w1 : World} (h : Ow Qu w Q P b s kk l bx w1) :
    Calls Tryz.prog 41 #[.pointer (some ⟨Q, 0, none⟩), .agg #[.int .u64 t.a, .int .u64 t.s, .int .i64 t.p]] w1 fun e w2 => e = .returned (.int .i64 er) ∧ Ow Qu w Q P b s kk l' bx w2 := by
  subst e1 e2
  obtain ⟨⟨f, h1, h2, h3⟩, h4, h5⟩ := h
  exact (C.move t w1 h1 ht).mono fun e w2 ⟨he, f', hf, hq, ho⟩ => ⟨he, ow_step C h2 h3 h4 h5 hf hq ho⟩
theorem ow_cancel {l' : List T} {k er : Int} {t : T} (e1 : canE P l k = er) (e2 : wo l k = l') (e3 : (fnd l k).getD default = t) {w1 : World} (h : Ow Qu w Q P b s kk l bx w1) :
    Calls Tryz.prog 40 #[.pointer (some ⟨Q, 0, none⟩), .int .i64 k] w1 fun e w2 => e = .returned (canV t er) ∧ Ow Qu w Q P b s kk l' bx w2 := by
  subst e1 e2 e3
  obtain ⟨⟨f, h1, h2, h3⟩, h4, h5⟩ := h
  exact (C.cancel k w1 h1).mono fun e w2 ⟨he, f', hf, hq, ho⟩ => ⟨he, ow_step C h2 h3 h4 h5 hf hq ho⟩
theorem ow_due {l' d : List T} {now s' k' : Int} {n : Nat} (e1 : due l now true = d) (e2 : due l now false = l') (e3 : max s now = s') (e4 : (lks (slo b) s now l : Int) = k') (e5 : d.length = n) (hn : Tk now) {w1 : World} (h : Ow Qu w Q P b s kk l bx w1) :
    Calls Tryz.prog 42 #[.pointer (some ⟨Q, 0, none⟩), .int .u64 now] w1 fun e w2 => ∃ p c, e = .returned (.slice p n c) ∧ Has w2 p d ∧ Ow Qu w Q P b s' k' l' bx w2 := by
  subst e1 e2 e3 e4 e5
  obtain ⟨⟨f, h1, h2, h3⟩, h4, h5⟩ := h
  exact (C.due now w1 h1 hn).mono fun e w2 ⟨p, c, f', he, _, hl, hf, hq, ho⟩ => ⟨p, c, he, hl.has, ow_step C h2 h3 h4 h5 hf hq ho⟩
theorem ow_zp {w1 : World} (h : Ow Qu w Q P b s kk l bx w1) : ∃ Z, w1.cell? ⟨Q, 0, none⟩ = some (.pointer (some ⟨Z, 0, none⟩)) := by
  obtain ⟨⟨f, h1, _⟩, _⟩ := h
  exact C.zp h1
theorem ow_all {Z : Nat} {w1 : World} (hz : w1.cell? ⟨Q, 0, none⟩ = some (.pointer (some ⟨Z, 0, none⟩))) {n : Nat} (e : l.length = n) (h : Ow Qu w Q P b s kk l bx w1) :
    Calls Tryz.prog 24 #[.pointer (some ⟨Z, 0, none⟩)] w1 fun e w2 => ∃ p c, e = .returned (.slice p n c) ∧ Has w2 p l ∧ Bel w1 w2 := by
  subst e
  obtain ⟨⟨f, h1, _⟩, _⟩ := h
  exact (C.all w1 h1 hz).mono fun e w2 ⟨p, c, he, _, hl, hb⟩ => ⟨p, c, he, hl.has, hb⟩
theorem ow_min {t : T} (e : l.head? = some t) {w1 : World} (h : Ow Qu w Q P b s kk l bx w1) :
    Calls Tryz.prog 21 #[.pointer (some ⟨Q, 0, none⟩)] w1 fun e w2 => e = .returned (.tuple #[.agg #[.int .u64 t.a, .int .u64 t.s, .int .i64 t.p], .bool true]) ∧ Bel w1 w2 := by
  obtain ⟨⟨f, h1, _⟩, _⟩ := h
  have k := C.min w1 h1
  rw [e] at k
  exact k
theorem ow_get {Z : Nat} {w1 : World} (hz : w1.cell? ⟨Q, 0, none⟩ = some (.pointer (some ⟨Z, 0, none⟩))) {t : T} {k : Int} (e : fnd l k = some t) (h : Ow Qu w Q P b s kk l bx w1) :
    Calls Tryz.prog 19 #[.pointer (some ⟨Z, 0, none⟩), .int .i64 k] w1 fun e w2 => e = .returned (.tuple #[.agg #[.int .u64 t.a, .int .u64 t.s, .int .i64 t.p], .bool true]) ∧ Bel w1 w2 := by
  obtain ⟨⟨f, h1, _⟩, _⟩ := h
  have k := C.get k w1 h1 hz
  rw [e] at k
  exact k
theorem ow_len {Z : Nat} {w1 : World} (hz : w1.cell? ⟨Q, 0, none⟩ = some (.pointer (some ⟨Z, 0, none⟩))) {n : Nat} (e : l.length = n) (h : Ow Qu w Q P b s kk l bx w1) :
    Calls Tryz.prog 18 #[.pointer (some ⟨Z, 0, none⟩)] w1 fun e w2 => e = .returned (.int .i64 n) ∧ Bel w1 w2 := by
  subst e
  obtain ⟨⟨f, h1, _⟩, _⟩ := h
  exact C.count w1 h1 hz
theorem ow_base {w1 : World} (h : Ow Qu w Q P b s kk l bx w1) :
    Calls Tryz.prog 16 #[.pointer (some ⟨Q, 0, none⟩)] w1 fun e w2 => e = .returned (.int .u64 s) ∧ Bel w1 w2 := by
  obtain ⟨⟨f, h1, _⟩, _⟩ := h
  exact C.based w1 h1
theorem ow_looked {w1 : World} (h : Ow Qu w Q P b s kk l bx w1) :
    Calls Tryz.prog 17 #[.pointer (some ⟨Q, 0, none⟩)] w1 fun e w2 => e = .returned (.int .i64 kk) ∧ Bel w1 w2 := by
  obtain ⟨⟨f, h1, _⟩, _⟩ := h
  exact C.looked w1 h1
theorem ow_new {w1 : World} {f : Nat → Prop} (h1 : Qu f w1 Q P b s kk l) (hf : ∀ k, f k → w.heap.size ≤ k) (b1 : Bel w w1) : Ow Qu w Q P b s kk l [] w1 :=
  ⟨⟨f, h1, hf, fun x hx => by simp at hx⟩, b1, fun x hx => by simp at hx⟩
end
theorem has_row {w : World} {b : Nat} {l : List T} {cs : Array Value} (h : w.heap[b]? = some (.cells cs 37 (0, 0))) (e : cs = (encs l).toArray) : Has w (some ⟨b, 0, none⟩) l := by
  by_cases h0 : l = []
  · exact .inl h0
  refine .inr ⟨b, 0, rfl, fun i hi => ?_⟩
  have hg := encs_get l i hi
  have c : ∀ j, w.cell? ⟨b, j, none⟩ = (encs l)[j]? := fun j => by rw [cell_of_row w b _ _ 37 (0, 0) h, e, List.getElem?_toArray]
  rw [Nat.zero_add, c, c, c]
  exact hg
theorem same_yes (p q : Option Addr) (c d : Nat) (l : List T) (w : World) (hm : l.length ≤ 5000) (h1 : Has w p l) (h2 : Has w q l) :
    Calls Tryz.prog 23 #[.slice p l.length c, .slice q l.length d] w fun e w' => e = .returned (.bool true) ∧ Bel w w' := by
  have K := same_any p q l.length c d l l w rfl rfl hm h1 h2
  rw [decide_eq_true rfl] at K
  exact K
theorem new3 (w : World) (a b c : Array Value) (ta tb tc : TypeId) : ∃ W, ((w.alloc (.cells a ta)).alloc (.cells b tb)).alloc (.cells c tc) = W ∧ Bel w W ∧ W.heap.size = w.heap.size + 1 + 1 + 1 ∧ W.heap[w.heap.size]? = some (.cells a ta (0, 0)) ∧ W.heap[w.heap.size + 1]? = some (.cells b tb (0, 0)) ∧ W.heap[w.heap.size + 1 + 1]? = some (.cells c tc (0, 0)) := three_new w a b c ta tb tc
end Go.Proofs.YtdoceldofkaapaaGreatDoor.Ha
namespace Go.Proofs.YtdoceldofkaapaaGreatDoor.Ha
open Go.RowKit
abbrev xa : T := ⟨13, 0, 0⟩
abbrev xb : T := ⟨5, 0, 1⟩
abbrev xc : T := ⟨99, 0, 2⟩
abbrev xd : T := ⟨98, 0, 2⟩
abbrev c3v (w' : World) (b : Nat) (x y z : Int) : Prop := w'.cell? ⟨b, 0, none⟩ = some (.int .u64 x) ∧ w'.cell? ⟨b, 1, none⟩ = some (.int .u64 y) ∧ w'.cell? ⟨b, 2, none⟩ = some (.int .i64 z)
theorem tkn (n : Nat) (h : n ≤ 1000) : Tk (n : Int) := ⟨by omega, by omega⟩
set_option maxHeartbeats 8000000 in
set_option maxRecDepth 100000 in
theorem works_any {Qu : QT} (C : Con Qu) (w : World) (hT : Bm.Tab w) : Calls Tryz.prog 10 #[] w fun e w' => e = .returned (.bool true) ∧ Bel w w' := by
  have K0 := Lib.hid (C.qnew_yes 3 1 0 w (by omega) (by omega) (tkn 0 (by omega)) hT)
  have e3 : ((3 : Nat) : Int) = 3 := rfl
  have e1 : ((1 : Nat) : Int) = 1 := rfl
  rw [e3, e1] at K0
  clear e3 e1
  go_enter Tryz.func10, Tryz.ntmps10
  go_wp2_with fail
  with_reducible refine K0.out.mono ?_
  rintro e w1 ⟨Q, f, rfl, hq, hf, hb⟩
  have T0 := Lib.hid (ow_new C hq hf hb)
  have H3 := Lib.hid (new3 w1 #[.int .u64 13, .int .u64 0, .int .i64 0] #[.int .u64 5, .int .u64 0, .int .i64 1] #[.int .u64 99, .int .u64 0, .int .i64 2] 37 37 37)
  clear hq hf hb K0
  go_upto_region 5 with (fail)
  obtain ⟨W, eW, hB, hz, n3, n4, n5⟩ := H3.out
  rw [eW]
  clear eW H3
  have T1 : Hid (Ow Qu w Q 3 1 0 0 [] [(w1.heap.size, tb xa), (w1.heap.size + 1, tb xb), (w1.heap.size + 1 + 1, tb xc)] W) := Lib.hid (by
    obtain ⟨⟨f, h1, h2, h3⟩, h7, h8⟩ := T0.out
    refine ⟨⟨f, C.bel h1 hB, h2, fun x hx => ?_⟩, h7.trans hB, fun x hx => ?_⟩
    · simp at hx
      intro e
      have := C.lt_ h1 _ e
      rcases hx with rfl | rfl | rfl <;> (simp only at this; omega)
    · simp at hx
      rcases hx with rfl | rfl | rfl
      · exact n3
      · exact n4
      · exact n5)
  clear T0 hB hz n3 n4 n5
  obtain ⟨b5, e5⟩ : ∃ b, w1.heap.size + 1 + 1 = b := ⟨_, rfl⟩
  rw [e5] at T1 ⊢
  obtain ⟨b4, e4⟩ : ∃ b, w1.heap.size + 1 = b := ⟨_, rfl⟩
  rw [e4] at T1 ⊢
  obtain ⟨b3, e3⟩ : ∃ b, w1.heap.size = b := ⟨_, rfl⟩
  rw [e3] at T1 ⊢
  clear e5 e4 e3
  obtain ⟨bx, ebx⟩ : ∃ bx, [(b3, tb xa), (b4, tb xb), (b5, tb xc)] = bx := ⟨_, rfl⟩
  have m3 : Hid ((b3, tb xa) ∈ bx) := Lib.hid (by rw [← ebx]; simp)
  have m4 : Hid ((b4, tb xb) ∈ bx) := Lib.hid (by rw [← ebx]; simp)
  have m5 : Hid ((b5, tb xc) ∈ bx) := Lib.hid (by rw [← ebx]; simp)
  rw [ebx] at T1
  clear ebx
  have T1d := Lib.hid (ow_le C T1.out (Bel.refl W).drew)
  have NN : Hid (∀ s k l w', Ow Qu w Q 3 1 s k l bx w' → c3v w' b3 13 0 0 ∧ c3v w' b4 5 0 1 ∧ c3v w' b5 99 0 2) := Lib.hid (fun s k l w' h => ⟨h.c3 m3.out, h.c3 m4.out, h.c3 m5.out⟩)
  have K1 : Hid (∀ w1, Ow Qu w Q 3 1 0 0 [] bx w1 → Calls Tryz.prog 39 #[.pointer (some ⟨Q, 0, none⟩), .agg #[.int .u64 13, .int .u64 0, .int .i64 0]] w1 fun e w2 => e = .returned (.int .i64 0) ∧ Ow Qu w Q 3 1 0 0 [xa] bx w2) := Lib.hid (fun w1 h => ow_insert C (t := xa) (by decide) (by decide) (tkn 13 (by omega)) h)
  have K2 : Hid (∀ w1, Ow Qu w Q 3 1 0 0 [xa] bx w1 → Calls Tryz.prog 39 #[.pointer (some ⟨Q, 0, none⟩), .agg #[.int .u64 5, .int .u64 0, .int .i64 1]] w1 fun e w2 => e = .returned (.int .i64 0) ∧ Ow Qu w Q 3 1 0 0 [xb, xa] bx w2) := Lib.hid (fun w1 h => ow_insert C (t := xb) (by decide) (by decide) (tkn 5 (by omega)) h)
  have K3 : Hid (∀ w1, Ow Qu w Q 3 1 0 0 [xb, xa] bx w1 → Calls Tryz.prog 39 #[.pointer (some ⟨Q, 0, none⟩), .agg #[.int .u64 99, .int .u64 0, .int .i64 2]] w1 fun e w2 => e = .returned (.int .i64 0) ∧ Ow Qu w Q 3 1 0 0 [xb, xa, xc] bx w2) := Lib.hid (fun w1 h => ow_insert C (t := xc) (by decide) (by decide) (tkn 99 (by omega)) h)
  go_cut [6, 7, 8] from 34 (fun f g h wx => f = .int .i64 0 ∧ g = .int .i64 0 ∧ h = .int .i64 0 ∧ Ow Qu w Q 3 1 0 0 [xb, xa, xc] bx wx)
  case first =>
    obtain ⟨⟨a0, a1, a2⟩, ⟨c0, c1, c2⟩, ⟨d0, d1, d2⟩⟩ := NN.out _ _ _ _ T1.out
    go_wp2
    go_region_held3 (fun w' => c3v w' b3 13 0 0 ∧ c3v w' b4 5 0 1 ∧ c3v w' b5 99 0 2)
      (first | (with_reducible exact NN.out _ _ _ _ T1d.out) | (with_reducible exact NN.out _ _ _ _ hw1) | (with_reducible exact NN.out _ _ _ _ hw2) | (with_reducible exact NN.out _ _ _ _ hw3))
      (first | (go_at_call 39; (with_reducible refine (K1.out _ T1d.out).mono ?_); rintro e w2 ⟨rfl, hw1⟩) | (go_at_call 39; (with_reducible refine (K2.out _ hw1).mono ?_); rintro e w3 ⟨rfl, hw2⟩) | (go_at_call 39; (with_reducible refine (K3.out _ hw2).mono ?_); rintro e w4 ⟨rfl, hw3⟩))
    all_goals
      go_wp2_with fail
      go_meet
      case rel => exact ⟨rfl, rfl, rfl, hw3⟩
  case rest =>
    obtain ⟨rfl, rfl, rfl, hw⟩ := hcut
    clear T1 T1d K1 K2 K3
    have KM := Lib.hid (ow_move C (t := xd) (er := 0) (l' := [xb, xa, xd]) (by decide) (by decide) (tkn 98 (by omega)) hw)
    clear hw
    go_wp2_with fail
    with_reducible refine (KM.out).mono ?_
    rintro e w3 ⟨rfl, hw⟩
    have W1 := Lib.hid hw
    clear hw KM
    go_wp2_with fail
    with_reducible refine (ow_min C (t := xb) rfl W1.out).mono ?_
    rintro e w4 ⟨rfl, hb⟩
    have W2 := Lib.hid (ow_box C (ow_le C W1.out hb) #[.int .u64 5, .int .u64 0, .int .i64 1] 37)
    clear hb W1
    go_upto_region 8 with (fail)
    generalize w4.alloc (.cells #[.int .u64 5, .int .u64 0, .int .i64 1] 37) = V4 at *
    generalize w4.heap.size = b10 at *
    obtain ⟨bz, ebz⟩ : ∃ b, (b10, Obj.cells #[.int .u64 5, .int .u64 0, .int .i64 1] 37) :: bx = b := ⟨_, rfl⟩
    rw [ebz] at W2
    have m10 : Hid ((b10, tb xb) ∈ bz) := Lib.hid (by rw [← ebz]; simp)
    have m3 : Hid ((b3, tb xa) ∈ bz) := Lib.hid (by rw [← ebz]; exact List.mem_cons_of_mem _ m3.out)
    have m4 : Hid ((b4, tb xb) ∈ bz) := Lib.hid (by rw [← ebz]; exact List.mem_cons_of_mem _ m4.out)
    clear ebz NN m5
    go_cut [12] from 34 (fun v wx => v = .bool true ∧ Ow Qu w Q 3 1 0 0 [xb, xa, xd] bz wx)
    case first =>
      obtain ⟨Zp, hzp⟩ := ow_zp C W2.out
      have NB : Hid (∀ w', Bel V4 w' → Bel V4 w' ∧ c3v w' b3 13 0 0 ∧ c3v w' b4 5 0 1 ∧ w'.cell? ⟨Q, 0, none⟩ = some (.pointer (some ⟨Zp, 0, none⟩))) := Lib.hid (fun w' hb => ⟨hb, (ow_le C W2.out hb).c3 m3.out, (ow_le C W2.out hb).c3 m4.out, hb.cell hzp⟩)
      obtain ⟨_, ⟨a0, a1, a2⟩, ⟨c0, c1, c2⟩, _⟩ := NB.out _ (Bel.refl _)
      have A1 := Lib.hid (ow_all C (NB.out _ (Bel.refl V4).drew).2.2.2 (n := 3) rfl (ow_le C W2.out (Bel.refl V4).drew))
      have A2 := Lib.hid (ow_all C (NB.out _ ((Bel.refl V4).alloc #[.int .u64 5, .int .u64 0, .int .i64 1, .int .u64 13, .int .u64 0, .int .i64 0, .int .u64 98, .int .u64 0, .int .i64 2] 37).drew).2.2.2 (n := 3) rfl (ow_le C W2.out ((Bel.refl V4).alloc #[.int .u64 5, .int .u64 0, .int .i64 1, .int .u64 13, .int .u64 0, .int .i64 0, .int .u64 98, .int .u64 0, .int .i64 2] 37).drew))
      have E1 : Hid (∀ w4 : World, Has (w4.alloc (.cells #[.int .u64 5, .int .u64 0, .int .i64 1, .int .u64 13, .int .u64 0, .int .i64 0, .int .u64 98, .int .u64 0, .int .i64 2] 37)) (some ⟨w4.heap.size, 0, none⟩) [xb, xa, xd]) := Lib.hid (fun w4 => has_row (heap_alloc_new _ _) rfl)
      have E2 : Hid (∀ w4 : World, Bel (V4.alloc (.cells #[.int .u64 5, .int .u64 0, .int .i64 1, .int .u64 13, .int .u64 0, .int .i64 0, .int .u64 98, .int .u64 0, .int .i64 2] 37)).drew w4 → Has w4 (some ⟨V4.heap.size, 0, none⟩) [xb, xa, xd]) := Lib.hid (fun w4 hg => (has_row (heap_alloc_new _ _) rfl).bel ((Bel.refl _).drew.trans hg))
      have KS : Hid (∀ p q c d w', Has w' p [xb, xa, xd] → Has w' q [xb, xa, xd] → Calls Tryz.prog 23 #[.slice p 3 c, .slice q 3 d] w' fun e w2 => e = .returned (.bool true) ∧ Bel w' w2) := Lib.hid (fun p q c d w' h1 h2 => same_yes p q c d [xb, xa, xd] w' (by decide) h1 h2)
      have BD : Hid (Bel V4 V4.drew) := Lib.hid (Bel.refl V4).drew
      have BA : Hid (Bel V4 (V4.alloc (.cells #[.int .u64 5, .int .u64 0, .int .i64 1, .int .u64 13, .int .u64 0, .int .i64 0, .int .u64 98, .int .u64 0, .int .i64 2] 37)).drew) := Lib.hid ((Bel.refl V4).alloc _ _).drew
      go_wp2
      go_region_held3 (fun w' => Bel V4 w' ∧ c3v w' b3 13 0 0 ∧ c3v w' b4 5 0 1 ∧ w'.cell? ⟨Q, 0, none⟩ = some (.pointer (some ⟨Zp, 0, none⟩)))
        (first | (with_reducible exact NB.out _ BD.out) | (with_reducible exact NB.out _ BA.out) | exact NB.out _ (Bel.trans (And.left (by assumption)) hg1) | exact NB.out _ (Bel.trans (And.left (by assumption)) hg2) | exact NB.out _ (Bel.alloc (w := w5) (And.left (by assumption)) _ _))
        (first | (go_at_call 24; (with_reducible refine (A1.out).mono ?_); rintro e w5 ⟨q, k, rfl, hq, hg1⟩) | (go_at_call 24; (with_reducible refine (A2.out).mono ?_); rintro e w5 ⟨q, k, rfl, hq, hg1⟩) | (go_at_call 23; (with_reducible refine (KS.out _ _ _ _ _ (hq.bel ((Bel.refl _).alloc _ _)) (E1.out w5)).mono ?_); rintro e w6 ⟨rfl, hg2⟩) | (go_at_call 23; (with_reducible refine (KS.out _ _ _ _ _ hq (E2.out w5 hg1)).mono ?_); rintro e w6 ⟨rfl, hg2⟩))
      all_goals
        go_wp2_with fail
        go_meet
        case rel => exact ⟨rfl, ow_le C W2.out (And.left (by assumption))⟩
    case rest =>
      obtain ⟨rfl, hw⟩ := hcut
      clear W2
      have KC := Lib.hid (ow_cancel C (k := 2) (t := xd) (er := 0) (l' := [xb, xa]) (by decide) (by decide) (by decide) hw)
      unfold canV at KC
      clear hw
      go_wp2_with fail
      with_reducible refine (KC.out).mono ?_
      rintro e w5 ⟨rfl, hw⟩
      have W3 := Lib.hid (ow_box C hw #[.int .u64 98, .int .u64 0, .int .i64 2] 37)
      clear hw KC
      go_upto_region 10 with (fail)
      generalize w5.alloc (.cells #[.int .u64 98, .int .u64 0, .int .i64 2] 37) = V5 at *
      generalize w5.heap.size = b13 at *
      have KD := Lib.hid (ow_due C (now := 4) (d := []) (l' := [xb, xa]) (s' := 4) (k' := 0) (n := 0) (by decide) (by decide) (by decide) (by decide) rfl (tkn 4 (by omega)) W3.out)
      go_wp2_with fail
      with_reducible refine (KD.out).mono ?_
      rintro e w6 ⟨q6, c6, rfl, _, hw⟩
      have W4 := Lib.hid hw
      clear hw KD W3
      go_wp2_with fail
      with_reducible refine (ow_looked C W4.out).mono ?_
      rintro e w7 ⟨rfl, hb⟩
      have W5 := Lib.hid (ow_le C W4.out hb)
      clear hb W4
      go_upto_region 11 with (fail)
      obtain ⟨by_, eby⟩ : ∃ b, (b13, Obj.cells #[.int .u64 98, .int .u64 0, .int .i64 2] 37) :: bz = b := ⟨_, rfl⟩
      rw [eby] at W5
      have m13 : Hid ((b13, tb xd) ∈ by_) := Lib.hid (by rw [← eby]; simp)
      have m10 : Hid ((b10, tb xb) ∈ by_) := Lib.hid (by rw [← eby]; exact List.mem_cons_of_mem _ m10.out)
      have m3 : Hid ((b3, tb xa) ∈ by_) := Lib.hid (by rw [← eby]; exact List.mem_cons_of_mem _ m3.out)
      have m4 : Hid ((b4, tb xb) ∈ by_) := Lib.hid (by rw [← eby]; exact List.mem_cons_of_mem _ m4.out)
      clear eby
      have NB : Hid (∀ s k l bq w' j t, Ow Qu w Q 3 1 s k l bq w' → (j, tb t) ∈ bq → c3v w' j t.a t.s t.p) := Lib.hid (fun s k l bq w' j t h h1 => h.c3 h1)
      go_cut [16] from 34 (fun v wx => v = .bool true ∧ Ow Qu w Q 3 1 6 1 [xa] by_ wx)
      case first =>
        obtain ⟨c0, c1, c2⟩ := NB.out _ _ _ _ _ b4 xb W5.out m4.out
        have A1 := Lib.hid (ow_due C (now := 6) (d := [xb]) (l' := [xa]) (s' := 6) (k' := 1) (n := 1) (by decide) (by decide) (by decide) (by decide) rfl (tkn 6 (by omega)) (ow_le C W5.out (Bel.refl w7).drew))
        have W5b := Lib.hid (ow_le C (ow_box C W5.out #[.int .u64 5, .int .u64 0, .int .i64 1] 37) (Bel.refl _).drew)
        have A2 := Lib.hid (ow_due C (now := 6) (d := [xb]) (l' := [xa]) (s' := 6) (k' := 1) (n := 1) (by decide) (by decide) (by decide) (by decide) rfl (tkn 6 (by omega)) W5b.out)
        have E1 : Hid (∀ w4 : World, Has (w4.alloc (.cells #[.int .u64 5, .int .u64 0, .int .i64 1] 37)) (some ⟨w4.heap.size, 0, none⟩) [xb]) := Lib.hid (fun w4 => has_row (heap_alloc_new _ _) rfl)
        have E2 : Hid (∀ w4 : World, Ow Qu w Q 3 1 6 1 [xa] ((w7.heap.size, .cells #[.int .u64 5, .int .u64 0, .int .i64 1] 37) :: by_) w4 → Has w4 (some ⟨w7.heap.size, 0, none⟩) [xb] ∧ Ow Qu w Q 3 1 6 1 [xa] by_ w4) := Lib.hid (fun w4 hk => ⟨has_row (hk.at_ _ (List.mem_cons_self ..)) rfl, hk.less⟩)
        have KS : Hid (∀ p q c d w', Has w' p [xb] → Has w' q [xb] → Calls Tryz.prog 23 #[.slice p 1 c, .slice q 1 d] w' fun e w2 => e = .returned (.bool true) ∧ Bel w' w2) := Lib.hid (fun p q c d w' h1 h2 => same_yes p q c d [xb] w' (by decide) h1 h2)
        have KK : Hid (∀ w', Ow Qu w Q 3 1 6 1 [xa] by_ w' → Calls Tryz.prog 17 #[.pointer (some ⟨Q, 0, none⟩)] w' fun e w2 => e = .returned (.int .i64 1) ∧ Bel w' w2) := Lib.hid (fun w' h => ow_looked C h)
        go_wp2
        go_region_with (first | (go_at_call 42; (with_reducible refine (A1.out).mono ?_); rintro e w8 ⟨q, k, rfl, hq, hw3⟩; have hn3 := NB.out _ _ _ _ _ b4 xb hw3 m4.out; obtain ⟨c0, c1, c2⟩ := hn3) | (go_at_call 42; (with_reducible refine (A2.out).mono ?_); rintro e w8 ⟨q, k, rfl, hq, hw3⟩; have hk3 := E2.out _ hw3; have hn3 := NB.out _ _ _ _ _ b4 xb hk3.2 m4.out; obtain ⟨c0, c1, c2⟩ := hn3) | (go_at_call 23; (with_reducible refine (KS.out _ _ _ _ _ (hq.bel ((Bel.refl _).alloc _ _)) (E1.out w8)).mono ?_); rintro e w9 ⟨rfl, hg2⟩; have hw4 := ow_le C hw3 (((Bel.refl w8).alloc #[.int .u64 5, .int .u64 0, .int .i64 1] 37).trans hg2)) | (go_at_call 23; (with_reducible refine (KS.out _ _ _ _ _ hq hk3.1).mono ?_); rintro e w9 ⟨rfl, hg2⟩; have hw4 := ow_le C hk3.2 hg2) | (go_at_call 17; (with_reducible refine (KK.out _ hw4).mono ?_); rintro e w10 ⟨rfl, hg5⟩; have hw5 := ow_le C hw4 hg5))
        all_goals
          go_wp2_with fail
          go_meet
          case rel => exact ⟨rfl, hw5⟩
      case rest =>
        obtain ⟨rfl, hw⟩ := hcut
        clear W5
        have W6 := Lib.hid hw
        clear hw
        obtain ⟨Zg, hzg⟩ := ow_zp C W6.out
        go_wp2_with fail
        with_reducible refine (ow_get C hzg (k := 0) (t := xa) (by decide) W6.out).mono ?_
        rintro e w8 ⟨rfl, hb⟩
        have W7 := Lib.hid (ow_box C (ow_le C W6.out hb) #[.int .u64 13, .int .u64 0, .int .i64 0] 37)
        clear hb W6
        go_upto_region 13 with (fail)
        generalize w8.alloc (.cells #[.int .u64 13, .int .u64 0, .int .i64 0] 37) = V8 at *
        generalize w8.heap.size = b17 at *
        obtain ⟨bv, ebv⟩ : ∃ b, (b17, Obj.cells #[.int .u64 13, .int .u64 0, .int .i64 0] 37) :: by_ = b := ⟨_, rfl⟩
        rw [ebv] at W7
        have m17 : Hid ((b17, tb xa) ∈ bv) := Lib.hid (by rw [← ebv]; simp)
        have m13 : Hid ((b13, tb xd) ∈ bv) := Lib.hid (by rw [← ebv]; exact List.mem_cons_of_mem _ m13.out)
        have m10 : Hid ((b10, tb xb) ∈ bv) := Lib.hid (by rw [← ebv]; exact List.mem_cons_of_mem _ m10.out)
        have m3 : Hid ((b3, tb xa) ∈ bv) := Lib.hid (by rw [← ebv]; exact List.mem_cons_of_mem _ m3.out)
        have m4 : Hid ((b4, tb xb) ∈ bv) := Lib.hid (by rw [← ebv]; exact List.mem_cons_of_mem _ m4.out)
        clear ebv
        go_cut [19] from 34 (fun v wx => v = .bool true ∧ Ow Qu w Q 3 1 13 1 [] bv wx)
        case first =>
          obtain ⟨c0, c1, c2⟩ := NB.out _ _ _ _ _ b3 xa W7.out m3.out
          have A1 := Lib.hid (ow_due C (now := 13) (d := [xa]) (l' := []) (s' := 13) (k' := 1) (n := 1) (by decide) (by decide) (by decide) (by decide) rfl (tkn 13 (by omega)) (ow_le C W7.out (Bel.refl V8).drew))
          have W7b := Lib.hid (ow_le C (ow_box C W7.out #[.int .u64 13, .int .u64 0, .int .i64 0] 37) (Bel.refl _).drew)
          have A2 := Lib.hid (ow_due C (now := 13) (d := [xa]) (l' := []) (s' := 13) (k' := 1) (n := 1) (by decide) (by decide) (by decide) (by decide) rfl (tkn 13 (by omega)) W7b.out)
          have E1 : Hid (∀ w4 : World, Has (w4.alloc (.cells #[.int .u64 13, .int .u64 0, .int .i64 0] 37)) (some ⟨w4.heap.size, 0, none⟩) [xa]) := Lib.hid (fun w4 => has_row (heap_alloc_new _ _) rfl)
          have E2 : Hid (∀ w4 : World, Ow Qu w Q 3 1 13 1 [] ((V8.heap.size, .cells #[.int .u64 13, .int .u64 0, .int .i64 0] 37) :: bv) w4 → Has w4 (some ⟨V8.heap.size, 0, none⟩) [xa] ∧ Ow Qu w Q 3 1 13 1 [] bv w4) := Lib.hid (fun w4 hk => ⟨has_row (hk.at_ _ (List.mem_cons_self ..)) rfl, hk.less⟩)
          have KS : Hid (∀ p q c d w', Has w' p [xa] → Has w' q [xa] → Calls Tryz.prog 23 #[.slice p 1 c, .slice q 1 d] w' fun e w2 => e = .returned (.bool true) ∧ Bel w' w2) := Lib.hid (fun p q c d w' h1 h2 => same_yes p q c d [xa] w' (by decide) h1 h2)
          have KK : Hid (∀ w', Ow Qu w Q 3 1 13 1 [] bv w' → Calls Tryz.prog 17 #[.pointer (some ⟨Q, 0, none⟩)] w' fun e w2 => e = .returned (.int .i64 1) ∧ Bel w' w2) := Lib.hid (fun w' h => ow_looked C h)
          go_wp2
          go_region_with (first | (go_at_call 42; (with_reducible refine (A1.out).mono ?_); rintro e w8 ⟨q, k, rfl, hq, hw3⟩; have hn3 := NB.out _ _ _ _ _ b3 xa hw3 m3.out; obtain ⟨c0, c1, c2⟩ := hn3) | (go_at_call 42; (with_reducible refine (A2.out).mono ?_); rintro e w8 ⟨q, k, rfl, hq, hw3⟩; have hk3 := E2.out _ hw3; have hn3 := NB.out _ _ _ _ _ b3 xa hk3.2 m3.out; obtain ⟨c0, c1, c2⟩ := hn3) | (go_at_call 23; (with_reducible refine (KS.out _ _ _ _ _ (hq.bel ((Bel.refl _).alloc _ _)) (E1.out w8)).mono ?_); rintro e w9 ⟨rfl, hg2⟩; have hw4 := ow_le C hw3 (((Bel.refl w8).alloc #[.int .u64 13, .int .u64 0, .int .i64 0] 37).trans hg2)) | (go_at_call 23; (with_reducible refine (KS.out _ _ _ _ _ hq hk3.1).mono ?_); rintro e w9 ⟨rfl, hg2⟩; have hw4 := ow_le C hk3.2 hg2) | (go_at_call 17; (with_reducible refine (KK.out _ hw4).mono ?_); rintro e w10 ⟨rfl, hg5⟩; have hw5 := ow_le C hw4 hg5))
          all_goals
            go_wp2_with fail
            go_meet
            case rel => exact ⟨rfl, hw5⟩
        case rest =>
          obtain ⟨rfl, hw⟩ := hcut
          clear W7
          have KD := Lib.hid (ow_due C (now := 9) (d := []) (l' := []) (s' := 13) (k' := 0) (n := 0) (by decide) (by decide) (by decide) (by decide) rfl (tkn 9 (by omega)) hw)
          clear hw
          go_wp2_with fail
          with_reducible refine (KD.out).mono ?_
          rintro e w9 ⟨q9, c9, rfl, _, hw⟩
          have W8 := Lib.hid hw
          clear hw KD
          go_wp2_with fail
          with_reducible refine (ow_looked C W8.out).mono ?_
          rintro e w10 ⟨rfl, hb⟩
          have W9 := Lib.hid (ow_le C W8.out hb)
          clear hb W8
          go_wp2_with fail
          with_reducible refine (ow_base C W9.out).mono ?_
          rintro e w11 ⟨rfl, hb⟩
          have W10 := Lib.hid (ow_le C W9.out hb)
          clear hb W9
          obtain ⟨r0, r1, r2⟩ := NB.out _ _ _ _ _ b10 xb W10.out m10.out
          obtain ⟨r3, r4, r5⟩ := NB.out _ _ _ _ _ b4 xb W10.out m4.out
          obtain ⟨r6, r7, r8⟩ := NB.out _ _ _ _ _ b13 xd W10.out m13.out
          obtain ⟨r9, r10, r11⟩ := NB.out _ _ _ _ _ b17 xa W10.out m17.out
          obtain ⟨r12, r13, r14⟩ := NB.out _ _ _ _ _ b3 xa W10.out m3.out
          obtain ⟨Zl, hzl⟩ := ow_zp C W10.out
          have KL := Lib.hid (ow_len C hzl (n := 0) rfl W10.out)
          go_wp2_with fail
          with_reducible refine (KL.out).mono ?_
          rintro e w12 ⟨rfl, hb⟩
          have BE := Lib.hid (W10.out.bel.trans hb)
          clear hb
          go_wp2
          go_ret
          exact ⟨rfl, BE.out⟩
end Go.Proofs.YtdoceldofkaapaaGreatDoor.Ha
