/-
  Behind the document's wheel's act: what was made; and what a play keeps.
-/
import Derived.Test.YtdoceldofkaapaaGreatDoorXak
set_option linter.unusedVariables false
set_option linter.unusedSimpArgs false
namespace Go.Proofs.YtdoceldofkaapaaGreatDoor
open Go.RowKit
/-- Behind the document's act: what was made. -/
structure Mdl (F : Nat → Prop) (P b : Nat) (s' k' : Int) (ll dd : List T) (er : Int) (tt : T) (W4 wx : World) (b13 b14 : Nat) (p5 : Option Addr) (c5 : Nat) (q5 : Option Addr) (k5 : Nat) : Prop where
  c13 : wx.cell? ⟨b13, 0, none⟩ = some (.int .i64 P) ∧ wx.cell? ⟨b13, 1, none⟩ = some (.slice p5 ll.length c5) ∧ wx.cell? ⟨b13, 2, none⟩ = some (.int .i64 b) ∧ wx.cell? ⟨b13, 3, none⟩ = some (.int .u64 s') ∧ wx.cell? ⟨b13, 4, none⟩ = some (.int .i64 k')
  c14 : wx.cell? ⟨b14, 0, none⟩ = some (.int .i64 er) ∧ wx.cell? ⟨b14, 1, none⟩ = some (.int .u64 tt.a) ∧ wx.cell? ⟨b14, 2, none⟩ = some (.int .u64 tt.s) ∧ wx.cell? ⟨b14, 3, none⟩ = some (.int .i64 tt.p) ∧ wx.cell? ⟨b14, 4, none⟩ = some (.slice q5 dd.length k5)
  ge : W4.heap.size ≤ b13 ∧ W4.heap.size ≤ b14
  rest : Bel W4 wx ∧ Lies F wx p5 (encs ll) ∧ ll.length ≤ c5 ∧ Lies (old W4) wx q5 (encs dd)
/-- What a queue turns, and what was made in between. -/
def FootN (F : Nat → Prop) (a b : Nat) : Nat → Prop := fun j => F j ∨ a ≤ j ∧ j < b
theorem mid_rest {F : Nat → Prop} {ll dd : List T} {W4 Wc w5 W6 : World} {p5 q5 : Option Addr} {c5 : Nat} (hWc : Bel W4 Wc) (hd : DidD (FootN F W4.heap.size Wc.heap.size) Wc w5 p5 c5 ll q5 dd) (ho : Off (fun k => W4.heap.size ≤ k ∧ k < Wc.heap.size) w5 W6) :
    Bel W4 W6 ∧ Lies F W6 p5 (encs ll) ∧ ll.length ≤ c5 ∧ Lies (old W4) W6 q5 (encs dd) := by
  refine ⟨Off.trans (hWc.trans hd.doc.bel) ho (fun i e => .inr e.1), ?_, hd.doc.hc, ?_⟩
  · exact (hd.doc.lies.off (ho.mono (g := FootN F W4.heap.size Wc.heap.size) (fun i _ e => .inr e)) (fun i e => e)).mono (fun _ _ e => .inl e)
  · exact (hd.fresh.off (ho.mono (g := old Wc) (fun i _ e => e.2)) (fun i e => e)).mono (fun _ _ e => Nat.lt_of_lt_of_le e hWc.size)
theorem sto5h {w : World} {T : Nat} {a b c d e a' b' c' d' e' : Value} {t : TypeId} (h : w.heap[T]? = some (.cells #[a, b, c, d, e] t (0, 0))) :
    (sto5 w T a' b' c' d' e').heap[T]? = some (.cells #[a', b', c', d', e'] t (0, 0)) :=
  heap_setCell_same _ T 4 _ t e' (heap_setCell_same _ T 3 _ t d' (heap_setCell_same _ T 2 _ t c' (heap_setCell_same _ T 1 _ t b' (heap_setCell_same w T 0 _ t a' h))))
section
variable {F : Nat → Prop} {P b : Nat} {s' k' : Int} {ll dd : List T} {er : Int} {tt : T} {W4 Wc w5 : World} {p5 q5 : Option Addr} {c5 k5 : Nat}
abbrev d33 (P : Nat) (p5 : Option Addr) (n c5 b : Nat) (s' k' : Int) : Obj := .cells #[.int .i64 P, .slice p5 n c5, .int .i64 b, .int .u64 s', .int .i64 k'] 65
abbrev d56 (er : Int) (tt : T) (q5 : Option Addr) (n k5 : Nat) : Obj := .cells #[.int .i64 er, .int .u64 tt.a, .int .u64 tt.s, .int .i64 tt.p, .slice q5 n k5] 39
theorem mid1 (hB : Bel W4 Wc) (hd : DidD (FootN F W4.heap.size Wc.heap.size) Wc w5 p5 c5 ll q5 dd) : Mdl F P b s' k' ll dd er tt W4 ((w5.alloc (d33 P p5 ll.length c5 b s' k')).alloc (d56 er tt q5 dd.length k5)) w5.heap.size (w5.heap.size + 1) p5 c5 q5 k5 := by
  obtain ⟨W, eW, _, _, n0, n1⟩ := two_new w5 #[.int .i64 P, .slice p5 ll.length c5, .int .i64 b, .int .u64 s', .int .i64 k'] #[.int .i64 er, .int .u64 tt.a, .int .u64 tt.s, .int .i64 tt.p, .slice q5 dd.length k5] 65 39
  have ho : Off (fun k => W4.heap.size ≤ k ∧ k < Wc.heap.size) w5 W := by rw [← eW]; exact ((Off.refl _ w5).alloc _ _).alloc _ _
  rw [eW]
  exact ⟨(box5 n0).1, (box5 n1).1, ⟨(hB.trans hd.doc.bel).size, Nat.le_succ_of_le (hB.trans hd.doc.bel).size⟩, mid_rest hB hd ho⟩
theorem mid2 (hB : Bel W4 Wc) (hd : DidD (FootN F W4.heap.size Wc.heap.size) Wc w5 p5 c5 ll q5 dd) : Mdl F P b s' k' ll dd er tt W4 ((w5.alloc (d56 er tt q5 dd.length k5)).alloc (d33 P p5 ll.length c5 b s' k')) (w5.heap.size + 1) w5.heap.size p5 c5 q5 k5 := by
  obtain ⟨W, eW, _, _, n0, n1⟩ := two_new w5 #[.int .i64 er, .int .u64 tt.a, .int .u64 tt.s, .int .i64 tt.p, .slice q5 dd.length k5] #[.int .i64 P, .slice p5 ll.length c5, .int .i64 b, .int .u64 s', .int .i64 k'] 39 65
  have ho : Off (fun k => W4.heap.size ≤ k ∧ k < Wc.heap.size) w5 W := by rw [← eW]; exact ((Off.refl _ w5).alloc _ _).alloc _ _
  rw [eW]
  exact ⟨(box5 n1).1, (box5 n0).1, ⟨Nat.le_succ_of_le (hB.trans hd.doc.bel).size, (hB.trans hd.doc.bel).size⟩, mid_rest hB hd ho⟩
theorem mid3 {b13 : Nat} (hB : Bel W4 Wc) (hd : DidD (FootN F W4.heap.size Wc.heap.size) Wc w5 p5 c5 ll q5 dd) (h13 : Wc.heap[b13]? = some (.cells #[.int .i64 0, .slice none 0 0, .int .i64 0, .int .u64 0, .int .i64 0] 65 (0, 0))) (g13 : W4.heap.size ≤ b13) :
    Mdl F P b s' k' ll dd er tt W4 ((sto5 w5 b13 (.int .i64 P) (.slice p5 ll.length c5) (.int .i64 b) (.int .u64 s') (.int .i64 k')).alloc (d56 er tt q5 dd.length k5)) b13 w5.heap.size p5 c5 q5 k5 := by
  have l13 := (Array.getElem?_eq_some_iff.1 h13).1
  have n0 := sto5h (a' := .int .i64 P) (b' := .slice p5 ll.length c5) (c' := .int .i64 b) (d' := .int .u64 s') (e' := .int .i64 k') (hd.doc.bel.heap h13)
  have o2 : Off (fun k => W4.heap.size ≤ k ∧ k < Wc.heap.size) w5 (sto5 w5 b13 (.int .i64 P) (.slice p5 ll.length c5) (.int .i64 b) (.int .u64 s') (.int .i64 k')) := (offs5 w5 b13 (.int .i64 P) (.slice p5 ll.length c5) (.int .i64 b) (.int .u64 s') (.int .i64 k')).mono (fun i _ e => by omega)
  have zz : (sto5 w5 b13 (.int .i64 P) (.slice p5 ll.length c5) (.int .i64 b) (.int .u64 s') (.int .i64 k')).heap.size = w5.heap.size := by simp [World.setCell]
  generalize sto5 w5 b13 (.int .i64 P) (.slice p5 ll.length c5) (.int .i64 b) (.int .u64 s') (.int .i64 k') = W at *
  have n1 := heap_alloc_new W (d56 er tt q5 dd.length k5)
  have nb := ((Bel.refl W).alloc #[.int .i64 er, .int .u64 tt.a, .int .u64 tt.s, .int .i64 tt.p, .slice q5 dd.length k5] 39).heap n0
  rw [zz] at n1
  exact ⟨(box5 nb).1, (box5 n1).1, ⟨g13, (hB.trans hd.doc.bel).size⟩, mid_rest hB hd (o2.alloc _ _)⟩
theorem mid5 {b14 : Nat} (hB : Bel W4 Wc) (hd : DidD (FootN F W4.heap.size Wc.heap.size) Wc w5 p5 c5 ll q5 dd) (h14 : Wc.heap[b14]? = some (.cells #[.int .i64 0, .int .u64 0, .int .u64 0, .int .i64 0, .slice none 0 0] 39 (0, 0))) (g14 : W4.heap.size ≤ b14) :
    Mdl F P b s' k' ll dd er tt W4 ((((((w5.setCell ⟨b14, 0, none⟩ (.int .i64 er)).setCell ⟨b14, 1, none⟩ (.int .u64 tt.a)).setCell ⟨b14, 2, none⟩ (.int .u64 tt.s)).setCell ⟨b14, 3, none⟩ (.int .i64 tt.p)).setCell ⟨b14, 4, none⟩ (.slice q5 dd.length k5)).alloc (d33 P p5 ll.length c5 b s' k')) w5.heap.size b14 p5 c5 q5 k5 := by
  have l14 := (Array.getElem?_eq_some_iff.1 h14).1
  have n0 := sto5h (a' := .int .i64 er) (b' := .int .u64 tt.a) (c' := .int .u64 tt.s) (d' := .int .i64 tt.p) (e' := .slice q5 dd.length k5) (hd.doc.bel.heap h14)
  have o2 : Off (fun k => W4.heap.size ≤ k ∧ k < Wc.heap.size) w5 (sto5 w5 b14 (.int .i64 er) (.int .u64 tt.a) (.int .u64 tt.s) (.int .i64 tt.p) (.slice q5 dd.length k5)) := (offs5 w5 b14 _ _ _ _ _).mono (fun i _ e => by omega)
  have zz : (sto5 w5 b14 (.int .i64 er) (.int .u64 tt.a) (.int .u64 tt.s) (.int .i64 tt.p) (.slice q5 dd.length k5)).heap.size = w5.heap.size := by simp [World.setCell]
  show Mdl F P b s' k' ll dd er tt W4 ((sto5 w5 b14 (.int .i64 er) (.int .u64 tt.a) (.int .u64 tt.s) (.int .i64 tt.p) (.slice q5 dd.length k5)).alloc (d33 P p5 ll.length c5 b s' k')) w5.heap.size b14 p5 c5 q5 k5
  generalize sto5 w5 b14 (.int .i64 er) (.int .u64 tt.a) (.int .u64 tt.s) (.int .i64 tt.p) (.slice q5 dd.length k5) = W at *
  have n1 := heap_alloc_new W (d33 P p5 ll.length c5 b s' k')
  have nb := ((Bel.refl W).alloc #[.int .i64 P, .slice p5 ll.length c5, .int .i64 b, .int .u64 s', .int .i64 k'] 65).heap n0
  rw [zz] at n1
  exact ⟨(box5 n1).1, (box5 nb).1, ⟨(hB.trans hd.doc.bel).size, g14⟩, mid_rest hB hd (o2.alloc _ _)⟩
theorem mid4 {b13 b14 : Nat} (hB : Bel W4 Wc) (hd : DidD (FootN F W4.heap.size Wc.heap.size) Wc w5 p5 c5 ll q5 dd) (h13 : Wc.heap[b13]? = some (.cells #[.int .i64 0, .slice none 0 0, .int .i64 0, .int .u64 0, .int .i64 0] 65 (0, 0))) (h14 : Wc.heap[b14]? = some (.cells #[.int .i64 0, .int .u64 0, .int .u64 0, .int .i64 0, .slice none 0 0] 39 (0, 0))) (g13 : W4.heap.size ≤ b13) (g14 : W4.heap.size ≤ b14) (hne : ¬ b13 = b14) :
    Mdl F P b s' k' ll dd er tt W4 ((((((sto5 w5 b13 (.int .i64 P) (.slice p5 ll.length c5) (.int .i64 b) (.int .u64 s') (.int .i64 k')).setCell ⟨b14, 0, none⟩ (.int .i64 er)).setCell ⟨b14, 1, none⟩ (.int .u64 tt.a)).setCell ⟨b14, 2, none⟩ (.int .u64 tt.s)).setCell ⟨b14, 3, none⟩ (.int .i64 tt.p)).setCell ⟨b14, 4, none⟩ (.slice q5 dd.length k5)) b13 b14 p5 c5 q5 k5 := by
  have l13 := (Array.getElem?_eq_some_iff.1 h13).1
  have l14 := (Array.getElem?_eq_some_iff.1 h14).1
  have n0 := sto5h (a' := .int .i64 P) (b' := .slice p5 ll.length c5) (c' := .int .i64 b) (d' := .int .u64 s') (e' := .int .i64 k') (hd.doc.bel.heap h13)
  have o2 := offs5 w5 b13 (.int .i64 P) (.slice p5 ll.length c5) (.int .i64 b) (.int .u64 s') (.int .i64 k')
  have n1 := (o2.block b14 (Nat.lt_of_lt_of_le l14 hd.doc.bel.size) (fun e => hne e.symm)).trans (hd.doc.bel.heap h14)
  have o2' : Off (fun k => W4.heap.size ≤ k ∧ k < Wc.heap.size) w5 (sto5 w5 b13 (.int .i64 P) (.slice p5 ll.length c5) (.int .i64 b) (.int .u64 s') (.int .i64 k')) := o2.mono (fun i _ e => by omega)
  have z13 : b13 < (sto5 w5 b13 (.int .i64 P) (.slice p5 ll.length c5) (.int .i64 b) (.int .u64 s') (.int .i64 k')).heap.size := (Array.getElem?_eq_some_iff.1 n0).1
  clear o2
  generalize sto5 w5 b13 (.int .i64 P) (.slice p5 ll.length c5) (.int .i64 b) (.int .u64 s') (.int .i64 k') = W at *
  have n2 := sto5h (a' := .int .i64 er) (b' := .int .u64 tt.a) (c' := .int .u64 tt.s) (d' := .int .i64 tt.p) (e' := .slice q5 dd.length k5) n1
  have o5 := offs5 W b14 (.int .i64 er) (.int .u64 tt.a) (.int .u64 tt.s) (.int .i64 tt.p) (.slice q5 dd.length k5)
  have n3 := (o5.block b13 z13 hne).trans n0
  exact ⟨(box5 n3).1, (box5 n2).1, ⟨g13, g14⟩, mid_rest hB hd (o2'.then (o5.mono (fun i _ e => by omega)))⟩
end
theorem Lies.go {F F' f : Nat → Prop} {w w' : World} {p : Option Addr} {cs : List Value} (h : Lies F w p cs) (k : Off f w w') (hF : ∀ j, f j → F j) (hf : ∀ j, j < w.heap.size → F' j → F j) : Lies F' w' p cs := by
  rcases h with h | ⟨b, off, e, hb, h⟩
  · exact .inl h
  · by_cases h0 : cs = []
    · exact .inl h0
    · exact .inr ⟨b, off, e, fun e2 => hb (hf b (h.lt h0) e2), h.off (fun e => hb (hF b e)) k⟩
/-- What holds at each round's head of a play: the queue, and the document's wheel in a box. -/
structure Pin (Qu : QT) (w wr : World) (f : Nat → Prop) (Q P b : Nat) (s kk : Int) (l : List T) (p : Option Addr) (c b10 : Nat) : Prop where
  qu : Qu f wr Q P b s kk l
  ge : ∀ k, f k → w.heap.size ≤ k
  nb : ¬ f b10
  gb : w.heap.size ≤ b10
  nz : ¬ 0 = b10
  bel : Bel w wr
  lies : Lies (fun k => f k ∨ k = b10) wr p (encs l)
  hc : l.length ≤ c
  m10 : wr.heap[b10]? = some (.cells #[.int .i64 P, .slice p l.length c, .int .i64 b, .int .u64 s, .int .i64 kk] 65 (0, 0))
theorem Pin.next {Qu : QT} (C : Con Qu) {w wr wc w6 w7 : World} {f : Nat → Prop} {Q P b : Nat} {s kk s' k' : Int} {l ll dd : List T} {p p5 pd : Option Addr} {c c5 b10 : Nat} (h : Pin Qu w wr f Q P b s kk l p c b10) (hb : Bel wr wc) (hl : Lies (fun k => f k ∨ k = b10) wc p5 (encs ll)) (hc5 : ll.length ≤ c5)
    (hd : DidW Qu f wc.drew w6 Q P b s' k' ll pd dd) (hb7 : Bel w6 w7) : ∃ f', Pin Qu w (sto5 w7 b10 (.int .i64 P) (.slice p5 ll.length c5) (.int .i64 b) (.int .u64 s') (.int .i64 k')) f' Q P b s' k' ll p5 c5 b10 := by
  obtain ⟨⟨f', hf', hq', _⟩, ho⟩ := hd
  have o2 := offs5 w7 b10 (.int .i64 P) (.slice p5 ll.length c5) (.int .i64 b) (.int .u64 s') (.int .i64 k')
  have lt10 : b10 < wr.heap.size := (Array.getElem?_eq_some_iff.1 h.m10).1
  have hzd : wc.drew.heap.size = wc.heap.size := rfl
  have hzs := hb.size
  have nb' : ¬ f' b10 := fun e => by
    rcases hf' b10 e with e | e
    · exact h.nb e
    · omega
  have hbd : Bel wr wc.drew := hb.drew
  have h6 : w6.heap[b10]? = some (.cells #[.int .i64 P, .slice p l.length c, .int .i64 b, .int .u64 s, .int .i64 kk] 65 (0, 0)) := (ho.block b10 (by omega) h.nb).trans (hbd.heap h.m10)
  refine ⟨f', C.off (C.bel hq' hb7) o2 (fun i e e2 => nb' (by have : i = b10 := e2; rw [← this]; exact e)) h.nz, fun k e => ?_, nb', h.gb, h.nz, ?_, ?_, hc5, ?_⟩
  · rcases hf' k e with e | e
    · exact h.ge k e
    · have := h.bel.size; omega
  · exact Off.trans (Bel.trans (Off.trans (h.bel.trans hbd) ho (fun i e => .inr (h.ge i e))) hb7) o2 (fun i e => .inr (by have : i = b10 := e; have := h.gb; omega))
  · have hl6 : Lies (fun k => f' k ∨ k = b10) w6 p5 (encs ll) := (hl.bel (Bel.refl wc).drew).go ho (fun j e => .inl e) (fun j hj e => by
      rcases e with e | e
      · rcases hf' j e with e | e
        · exact .inl e
        · omega
      · exact .inr e)
    exact (hl6.bel hb7).off o2 (fun i e => .inr e)
  · exact sto5h (hb7.heap h6)
end Go.Proofs.YtdoceldofkaapaaGreatDoor
