/-
  Contract of the law's made, where there is a queue.
-/
import Derived.Test.YtmkpnojojkgmiaaMade
import Derived.Deep.CutRange
namespace Go.Proofs.Ytmkpnojojkgmiaa
open Go.RowKit
/-- What holds at each round's head. -/
structure Inv (w : World) (Q B G R P : Nat) (l : List T) (p : Option Addr) (c T5 T9 : Nat) (wr : World) : Prop where
  qu : Qu wr Q B G R P l
  bel : Bel w wr
  lies : Lies (Foot G R) wr p (encs l)
  hc : l.length ≤ c
  m5 : wr.heap[T5]? = some (.cells #[.int .i64 0, .slice none 0 0] 27 (0, 0))
  m9 : wr.heap[T9]? = some (.cells #[.int .i64 P, .slice p l.length c] 27 (0, 0))
theorem Qu.inn {w : World} {Q B G R P : Nat} {l : List T} (h : Qu w Q B G R P l) : ∀ t ∈ l, hp P t.p = true := by
  obtain ⟨⟨g, r, _, hi⟩, _⟩ := h
  intro t ht
  obtain ⟨h1, h2, _⟩ := hi.tm t ht
  rw [h1]
  exact hp_yes h2
theorem Qu.len {w : World} {Q B G R P : Nat} {l : List T} (h : Qu w Q B G R P l) : l.length ≤ 1024 := by
  obtain ⟨⟨g, r, _, hi⟩, hP⟩ := h
  exact Nat.le_trans hi.len hP
theorem Qu.so {w : World} {Q B G R P : Nat} {l : List T} (h : Qu w Q B G R P l) : So l := by
  obtain ⟨⟨g, r, _, hi⟩, _⟩ := h
  exact hi.so
theorem stD_len (l : List T) (a : Ak) : (stD l a).length ≤ l.length := by
  unfold stD
  split
  · exact due_len _ _ _
  · simp
/-- Behind the document's act: what was made. -/
structure Mid (G R P : Nat) (ll dd : List T) (er : Int) (tt : T) (W4 wx : World) (b13 b14 : Nat) (p5 : Option Addr) (c5 : Nat) (q5 : Option Addr) (k5 : Nat) : Prop where
  c13 : wx.cell? ⟨b13, 0, none⟩ = some (.int .i64 P) ∧ wx.cell? ⟨b13, 1, none⟩ = some (.slice p5 ll.length c5)
  c14 : wx.cell? ⟨b14, 0, none⟩ = some (.int .i64 er) ∧ wx.cell? ⟨b14, 1, none⟩ = some (.int .u64 tt.a) ∧ wx.cell? ⟨b14, 2, none⟩ = some (.int .u64 tt.s) ∧ wx.cell? ⟨b14, 3, none⟩ = some (.int .i64 tt.p) ∧ wx.cell? ⟨b14, 4, none⟩ = some (.slice q5 dd.length k5)
  rest : Bel W4 wx ∧ Lies (Foot G R) wx p5 (encs ll) ∧ ll.length ≤ c5 ∧ Has wx q5 dd
/-- What a queue turns, and what was made in between. -/
def FootN (G R a b : Nat) : Nat → Prop := fun j => Foot G R j ∨ a ≤ j ∧ j < b
theorem mid_rest {G R : Nat} {ll dd : List T} {W4 Wc w5 W6 : World} {p5 q5 : Option Addr} {c5 : Nat} (hWc : Bel W4 Wc) (hd : DidD (FootN G R W4.heap.size Wc.heap.size) Wc w5 p5 c5 ll q5 dd) (ho : Off (fun k => W4.heap.size ≤ k ∧ k < Wc.heap.size) w5 W6) :
    Bel W4 W6 ∧ Lies (Foot G R) W6 p5 (encs ll) ∧ ll.length ≤ c5 ∧ Has W6 q5 dd := by
  refine ⟨Off.trans (hWc.trans hd.doc.bel) ho (fun i e => .inr e.1), ?_, hd.doc.hc, ?_⟩
  · exact (hd.doc.lies.off (ho.mono (g := FootN G R W4.heap.size Wc.heap.size) (fun i _ e => .inr e)) (fun i e => e)).mono (fun _ _ e => .inl e)
  · exact (hd.fresh.off (ho.mono (g := old Wc) (fun i _ e => e.2)) (fun i e => e)).has
theorem set2h {w : World} {T : Nat} {a b a' b' : Value} {t : TypeId} (h : w.heap[T]? = some (.cells #[a, b] t (0, 0))) :
    ((w.setCell ⟨T, 0, none⟩ a').setCell ⟨T, 1, none⟩ b').heap[T]? = some (.cells #[a', b'] t (0, 0)) :=
  heap_setCell_same _ T 1 _ t b' (heap_setCell_same w T 0 _ t a' h)
theorem sto5h {w : World} {T : Nat} {a b c d e a' b' c' d' e' : Value} {t : TypeId} (h : w.heap[T]? = some (.cells #[a, b, c, d, e] t (0, 0))) :
    (sto5 w T a' b' c' d' e').heap[T]? = some (.cells #[a', b', c', d', e'] t (0, 0)) :=
  heap_setCell_same _ T 4 _ t e' (heap_setCell_same _ T 3 _ t d' (heap_setCell_same _ T 2 _ t c' (heap_setCell_same _ T 1 _ t b' (heap_setCell_same w T 0 _ t a' h))))
section
variable {G R P : Nat} {ll dd : List T} {er : Int} {tt : T} {W4 Wc w5 : World} {p5 q5 : Option Addr} {c5 k5 : Nat}
abbrev d27 (P : Nat) (p5 : Option Addr) (n c5 : Nat) : Obj := .cells #[.int .i64 P, .slice p5 n c5] 27
abbrev d56 (er : Int) (tt : T) (q5 : Option Addr) (n k5 : Nat) : Obj := .cells #[.int .i64 er, .int .u64 tt.a, .int .u64 tt.s, .int .i64 tt.p, .slice q5 n k5] 56
theorem mid1 (hB : Bel W4 Wc) (hd : DidD (FootN G R W4.heap.size Wc.heap.size) Wc w5 p5 c5 ll q5 dd) : Mid G R P ll dd er tt W4 ((w5.alloc (d27 P p5 ll.length c5)).alloc (d56 er tt q5 dd.length k5)) w5.heap.size (w5.heap.size + 1) p5 c5 q5 k5 := by
  obtain ⟨W, eW, _, _, n0, n1⟩ := two_new w5 #[.int .i64 P, .slice p5 ll.length c5] #[.int .i64 er, .int .u64 tt.a, .int .u64 tt.s, .int .i64 tt.p, .slice q5 dd.length k5] 27 56
  have ho : Off (fun k => W4.heap.size ≤ k ∧ k < Wc.heap.size) w5 W := by rw [← eW]; exact ((Off.refl _ w5).alloc _ _).alloc _ _
  rw [eW]
  exact ⟨(box2 n0).1, (box5 n1).1, mid_rest hB hd ho⟩
theorem mid2 (hB : Bel W4 Wc) (hd : DidD (FootN G R W4.heap.size Wc.heap.size) Wc w5 p5 c5 ll q5 dd) : Mid G R P ll dd er tt W4 ((w5.alloc (d56 er tt q5 dd.length k5)).alloc (d27 P p5 ll.length c5)) (w5.heap.size + 1) w5.heap.size p5 c5 q5 k5 := by
  obtain ⟨W, eW, _, _, n0, n1⟩ := two_new w5 #[.int .i64 er, .int .u64 tt.a, .int .u64 tt.s, .int .i64 tt.p, .slice q5 dd.length k5] #[.int .i64 P, .slice p5 ll.length c5] 56 27
  have ho : Off (fun k => W4.heap.size ≤ k ∧ k < Wc.heap.size) w5 W := by rw [← eW]; exact ((Off.refl _ w5).alloc _ _).alloc _ _
  rw [eW]
  exact ⟨(box2 n1).1, (box5 n0).1, mid_rest hB hd ho⟩
theorem mid3 {b13 : Nat} (hB : Bel W4 Wc) (hd : DidD (FootN G R W4.heap.size Wc.heap.size) Wc w5 p5 c5 ll q5 dd) (h13 : Wc.heap[b13]? = some (.cells #[.int .i64 0, .slice none 0 0] 27 (0, 0))) (g13 : W4.heap.size ≤ b13) :
    Mid G R P ll dd er tt W4 (((w5.setCell ⟨b13, 0, none⟩ (.int .i64 P)).setCell ⟨b13, 1, none⟩ (.slice p5 ll.length c5)).alloc (d56 er tt q5 dd.length k5)) b13 w5.heap.size p5 c5 q5 k5 := by
  have l13 := (Array.getElem?_eq_some_iff.1 h13).1
  have n0 := set2h (a' := .int .i64 P) (b' := .slice p5 ll.length c5) (hd.doc.bel.heap h13)
  have o2 : Off (fun k => W4.heap.size ≤ k ∧ k < Wc.heap.size) w5 ((w5.setCell ⟨b13, 0, none⟩ (.int .i64 P)).setCell ⟨b13, 1, none⟩ (.slice p5 ll.length c5)) := (off2 w5 b13 _ _).mono (fun i _ e => by omega)
  have zz : ((w5.setCell ⟨b13, 0, none⟩ (.int .i64 P)).setCell ⟨b13, 1, none⟩ (.slice p5 ll.length c5)).heap.size = w5.heap.size := by simp [World.setCell]
  generalize (w5.setCell ⟨b13, 0, none⟩ (.int .i64 P)).setCell ⟨b13, 1, none⟩ (.slice p5 ll.length c5) = W at *
  have n1 := heap_alloc_new W (d56 er tt q5 dd.length k5)
  have nb := ((Bel.refl W).alloc #[.int .i64 er, .int .u64 tt.a, .int .u64 tt.s, .int .i64 tt.p, .slice q5 dd.length k5] 56).heap n0
  rw [zz] at n1
  exact ⟨(box2 nb).1, (box5 n1).1, mid_rest hB hd (o2.alloc _ _)⟩
theorem mid5 {b14 : Nat} (hB : Bel W4 Wc) (hd : DidD (FootN G R W4.heap.size Wc.heap.size) Wc w5 p5 c5 ll q5 dd) (h14 : Wc.heap[b14]? = some (.cells #[.int .i64 0, .int .u64 0, .int .u64 0, .int .i64 0, .slice none 0 0] 56 (0, 0))) (g14 : W4.heap.size ≤ b14) :
    Mid G R P ll dd er tt W4 ((((((w5.setCell ⟨b14, 0, none⟩ (.int .i64 er)).setCell ⟨b14, 1, none⟩ (.int .u64 tt.a)).setCell ⟨b14, 2, none⟩ (.int .u64 tt.s)).setCell ⟨b14, 3, none⟩ (.int .i64 tt.p)).setCell ⟨b14, 4, none⟩ (.slice q5 dd.length k5)).alloc (d27 P p5 ll.length c5)) w5.heap.size b14 p5 c5 q5 k5 := by
  have l14 := (Array.getElem?_eq_some_iff.1 h14).1
  have n0 := sto5h (a' := .int .i64 er) (b' := .int .u64 tt.a) (c' := .int .u64 tt.s) (d' := .int .i64 tt.p) (e' := .slice q5 dd.length k5) (hd.doc.bel.heap h14)
  have o2 : Off (fun k => W4.heap.size ≤ k ∧ k < Wc.heap.size) w5 (sto5 w5 b14 (.int .i64 er) (.int .u64 tt.a) (.int .u64 tt.s) (.int .i64 tt.p) (.slice q5 dd.length k5)) := (offs5 w5 b14 _ _ _ _ _).mono (fun i _ e => by omega)
  have zz : (sto5 w5 b14 (.int .i64 er) (.int .u64 tt.a) (.int .u64 tt.s) (.int .i64 tt.p) (.slice q5 dd.length k5)).heap.size = w5.heap.size := by simp [World.setCell]
  show Mid G R P ll dd er tt W4 ((sto5 w5 b14 (.int .i64 er) (.int .u64 tt.a) (.int .u64 tt.s) (.int .i64 tt.p) (.slice q5 dd.length k5)).alloc (d27 P p5 ll.length c5)) w5.heap.size b14 p5 c5 q5 k5
  generalize sto5 w5 b14 (.int .i64 er) (.int .u64 tt.a) (.int .u64 tt.s) (.int .i64 tt.p) (.slice q5 dd.length k5) = W at *
  have n1 := heap_alloc_new W (d27 P p5 ll.length c5)
  have nb := ((Bel.refl W).alloc #[.int .i64 P, .slice p5 ll.length c5] 27).heap n0
  rw [zz] at n1
  exact ⟨(box2 n1).1, (box5 nb).1, mid_rest hB hd (o2.alloc _ _)⟩
theorem mid4 {b13 b14 : Nat} (hB : Bel W4 Wc) (hd : DidD (FootN G R W4.heap.size Wc.heap.size) Wc w5 p5 c5 ll q5 dd) (h13 : Wc.heap[b13]? = some (.cells #[.int .i64 0, .slice none 0 0] 27 (0, 0))) (h14 : Wc.heap[b14]? = some (.cells #[.int .i64 0, .int .u64 0, .int .u64 0, .int .i64 0, .slice none 0 0] 56 (0, 0))) (g13 : W4.heap.size ≤ b13) (g14 : W4.heap.size ≤ b14) (hne : ¬ b13 = b14) :
    Mid G R P ll dd er tt W4 (((((((w5.setCell ⟨b13, 0, none⟩ (.int .i64 P)).setCell ⟨b13, 1, none⟩ (.slice p5 ll.length c5)).setCell ⟨b14, 0, none⟩ (.int .i64 er)).setCell ⟨b14, 1, none⟩ (.int .u64 tt.a)).setCell ⟨b14, 2, none⟩ (.int .u64 tt.s)).setCell ⟨b14, 3, none⟩ (.int .i64 tt.p)).setCell ⟨b14, 4, none⟩ (.slice q5 dd.length k5)) b13 b14 p5 c5 q5 k5 := by
  have l13 := (Array.getElem?_eq_some_iff.1 h13).1
  have l14 := (Array.getElem?_eq_some_iff.1 h14).1
  have n0 := set2h (a' := .int .i64 P) (b' := .slice p5 ll.length c5) (hd.doc.bel.heap h13)
  have o2 := off2 w5 b13 (.int .i64 P) (.slice p5 ll.length c5)
  have n1 := (o2.block b14 (Nat.lt_of_lt_of_le l14 hd.doc.bel.size) (fun e => hne e.symm)).trans (hd.doc.bel.heap h14)
  have o2' : Off (fun k => W4.heap.size ≤ k ∧ k < Wc.heap.size) w5 ((w5.setCell ⟨b13, 0, none⟩ (.int .i64 P)).setCell ⟨b13, 1, none⟩ (.slice p5 ll.length c5)) := o2.mono (fun i _ e => by omega)
  have z13 : b13 < ((w5.setCell ⟨b13, 0, none⟩ (.int .i64 P)).setCell ⟨b13, 1, none⟩ (.slice p5 ll.length c5)).heap.size := (Array.getElem?_eq_some_iff.1 n0).1
  clear o2
  generalize (w5.setCell ⟨b13, 0, none⟩ (.int .i64 P)).setCell ⟨b13, 1, none⟩ (.slice p5 ll.length c5) = W at *
  have n2 := sto5h (a' := .int .i64 er) (b' := .int .u64 tt.a) (c' := .int .u64 tt.s) (d' := .int .i64 tt.p) (e' := .slice q5 dd.length k5) n1
  have o5 := offs5 W b14 (.int .i64 er) (.int .u64 tt.a) (.int .u64 tt.s) (.int .i64 tt.p) (.slice q5 dd.length k5)
  have n3 := (o5.block b13 z13 hne).trans n0
  exact ⟨(box2 n3).1, (box5 n2).1, mid_rest hB hd (o2'.then (o5.mono (fun i _ e => by omega)))⟩
end
/-- What pends behind acts. -/
def pla (P : Nat) (al : List Ak) : List T := al.foldl (fun l a => stL P l a) []
theorem pla_next (P : Nat) (al : List Ak) (m : Nat) (a : Ak) (h : al[m]? = some a) : pla P (al.take (m + 1)) = stL P (pla P (al.take m)) a := by
  obtain ⟨h1, h2⟩ := List.getElem?_eq_some_iff.1 h
  unfold pla
  rw [List.take_succ_eq_append_getElem h1, List.foldl_append, h2]
  rfl
def MadePost (w : World) (P : Nat) (l : List T) (e : Ending) (w' : World) : Prop :=
  ∃ Q B G R p c, e = .returned (.tuple #[.pointer (some ⟨Q, 0, none⟩), .agg #[.int .i64 P, .slice p l.length c], .bool true]) ∧ Fresh w w' Q B G R P l ∧ Lies (Foot G R) w' p (encs l) ∧ l.length ≤ c
set_option maxHeartbeats 8000000 in
set_option maxRecDepth 100000 in
theorem made_yes (P : Nat) (pa : Option Addr) (N ca : Nat) (al : List Ak) (w : World) (hP : P ≤ 1024) (hl : al.length = N) (hN : N ≤ 60) (hA : Lies nof w pa (encK al)) :
    Calls Try.prog 8 #[.int .i64 P, .slice pa N ca] w fun e w' => MadePost w P (pla P al) e w' := by
  have HA := Lib.hid hA
  have HL := Lib.hid hl
  have hB7 : Bel w (w.alloc (.cells #[.int .i64 0, .slice none 0 0] 27)) := (Bel.refl w).alloc _ _
  have HB7 := Lib.hid hB7
  have H7 := Lib.hid (heap_alloc_new w (.cells #[.int .i64 0, .slice none 0 0] 27))
  have HZ7 : Hid ((w.alloc (.cells #[.int .i64 0, .slice none 0 0] 27)).heap.size = w.heap.size + 1) := Lib.hid (by simp)
  have K1 := Lib.hid (fun w => qnew_yes P w hP)
  have K2 := Lib.hid (fun w => dnew_yes P w (by omega))
  clear hA hl hB7
  go_enter Try.func8, Try.ntmps8
  go_wp2_with fail
  with_reducible refine (K1.out _).mono ?_
  rintro e w1 ⟨Q, B, G, R, rfl, hw⟩
  obtain ⟨hqu, hbel, gQ, gB, gG, gR⟩ := hw
  rw [HZ7.out] at gQ gB gG gR
  have H71 := Lib.hid (hbel.heap H7.out)
  have HQ1 := Lib.hid hqu
  have HB1 := Lib.hid (HB7.out.trans hbel)
  clear hqu hbel
  go_wp2_with fail
  with_reducible refine (K2.out _).mono ?_
  rintro e w2 ⟨rfl, hb⟩
  have HI : Hid (Inv w Q B G R P [] none 0 w.heap.size w2.heap.size (w2.alloc (.cells #[.int .i64 P, .slice none 0 0] 27))) := Lib.hid (by
    have hb2 : Bel w2 (w2.alloc (.cells #[.int .i64 P, .slice none 0 0] 27)) := (Bel.refl w2).alloc _ _
    exact ⟨(HQ1.out.bel hb).bel hb2, (HB1.out.trans hb).trans hb2, .inl rfl, Nat.le_refl _, hb2.heap (hb.heap H71.out), heap_alloc_new _ _⟩)
  have hT9 : w.heap.size < w2.heap.size := Nat.lt_of_lt_of_le (Array.getElem?_eq_some_iff.1 H71.out).1 hb.size
  have hl9 : (Q < w2.heap.size ∧ B < w2.heap.size) ∧ G < w2.heap.size ∧ R < w2.heap.size := (HQ1.out.bel hb).lts
  clear hb H71 H7 HQ1 HB1
  go_upto_region 3 with (fail)
  generalize w2.alloc (.cells #[.int .i64 P, .slice none 0 0] 27) = W9 at *
  generalize w2.heap.size = T9 at *
  go_wp2
  go_loopw [11, 12, 13, 14, 15] (fun v _ _ _ _ wr => ∃ m l p c, v = .int .i64 (m : Nat) ∧ m ≤ N ∧ l = pla P (al.take m) ∧ Inv w Q B G R P l p c w.heap.size T9 wr) (fun v _ _ _ _ _ => N - (intOf v).toNat)
  case atStart => exact ⟨0, [], none, 0, rfl, by omega, rfl, HI.out⟩
  case round =>
    clear HI
    obtain ⟨m, l, p, c, rfl, hm, hlp, hi⟩ := hrel
    have HI := Lib.hid hi
    have HLP := Lib.hid hlp
    clear hi hlp
    by_cases hlt : m < N
    · obtain ⟨a, ha⟩ : ∃ a, al[m]? = some a := ⟨_, List.getElem?_eq_getElem (by have := HL.out; omega)⟩
      obtain ⟨b, off, rfl, _, hr⟩ := lies_ak HA.out (i := m) (by have := HL.out; omega)
      obtain ⟨a0, a1, a2, a3, a4⟩ := row_ak hr ha
      have hbl : b < w.heap.size := World.block_lt_of_cell? w _ a0
      have HAC : Hid (∀ w', Bel w w' → w'.cell? ⟨b, off + m * 5, none⟩ = some (.int .i64 a.k) ∧ w'.cell? ⟨b, off + m * 5 + 1, none⟩ = some (.int .u64 a.t.a) ∧ w'.cell? ⟨b, off + m * 5 + 2, none⟩ = some (.int .u64 a.t.s) ∧ w'.cell? ⟨b, off + m * 5 + 3, none⟩ = some (.int .i64 a.t.p) ∧ w'.cell? ⟨b, off + m * 5 + 4, none⟩ = some (.int .u64 a.now)) := Lib.hid (fun w' h => ⟨h.cell a0, h.cell a1, h.cell a2, h.cell a3, h.cell a4⟩)
      have HPN : Hid (pla P (al.take (m + 1)) = stL P l a) := Lib.hid (by rw [pla_next P al m a ha, ← HLP.out])
      clear a0 a1 a2 a3 a4 hr ha HLP
      obtain ⟨a0, a1, a2, a3, a4⟩ := HAC.out _ HI.out.bel
      have KQ := Lib.hid (do_any Q B G R P l a wr HI.out.qu)
      have KD := Lib.hid (fun n0 w' (h : Lies (FootN G R n0 w'.heap.size) w' p (encs l)) (hz : wr.heap.size ≤ w'.heap.size) => ddo_any (FootN G R n0 w'.heap.size) P p c l a w' (Nat.le_trans HI.out.qu.len (by omega)) (fun j hj => by have := HI.out.qu.lts; rcases hj with (e | e) | e <;> omega) HI.out.hc h HI.out.qu.inn)
      have KS := Lib.hid (fun w' p1 p2 c1 c2 (h1 : Has w' p1 (stD l a)) (h2 : Has w' p2 (stD l a)) => sameT_any (stE P l a) (stT l a) p1 p2 c1 c2 (stD l a) w' (Nat.le_trans (stD_len l a) (Nat.le_trans HI.out.qu.len (by omega))) h1 h2)
      have hmN : (m : Int) < N := by omega
      generalize stE P l a = er at *
      generalize stT l a = tt at *
      generalize stD l a = dd at *
      generalize stL P l a = ll at *
      unfold akV tdV at *
      go_wp2_with fail
      with_reducible refine KQ.out.mono ?_
      rintro e w3 ⟨pd, cd, rfl, hd⟩
      have HB4 : Hid (Bel w3 (w3.alloc (.cells #[.int .i64 er, .int .u64 tt.a, .int .u64 tt.s, .int .i64 tt.p, .slice pd dd.length cd] 56))) := Lib.hid ((Bel.refl _).alloc _ _)
      have HM12 : Hid ((w3.alloc (.cells #[.int .i64 er, .int .u64 tt.a, .int .u64 tt.s, .int .i64 tt.p, .slice pd dd.length cd] 56)).heap[w3.heap.size]? = some (.cells #[.int .i64 er, .int .u64 tt.a, .int .u64 tt.s, .int .i64 tt.p, .slice pd dd.length cd] 56 (0, 0))) := Lib.hid (heap_alloc_new _ _)
      have HDQ := Lib.hid hd
      clear hd a0 a1 a2 a3 a4
      go_upto_region 9 with (fail)
      generalize w3.alloc (.cells #[.int .i64 er, .int .u64 tt.a, .int .u64 tt.s, .int .i64 tt.p, .slice pd dd.length cd] 56) = W4 at *
      have hT12 : wr.heap.size ≤ w3.heap.size := HDQ.out.off.size
      have hT12b : w3.heap.size < W4.heap.size := (Array.getElem?_eq_some_iff.1 HM12.out).1
      have hTr : T9 < wr.heap.size := (Array.getElem?_eq_some_iff.1 HI.out.m9).1
      have HW4 : Hid (Bel w W4) := Lib.hid (Bel.trans (Off.trans HI.out.bel HDQ.out.off (fun i e => .inr (by rcases e with e | e <;> omega))) HB4.out)
      have HM9 : Hid (W4.heap[T9]? = some (.cells #[.int .i64 P, .slice p l.length c] 27 (0, 0))) := Lib.hid (HB4.out.heap ((HDQ.out.off.block T9 hTr (fun e => by rcases e with e | e <;> omega)).trans HI.out.m9))
      have HM5 : Hid (W4.heap[w.heap.size]? = some (.cells #[.int .i64 0, .slice none 0 0] 27 (0, 0))) := Lib.hid (HB4.out.heap ((HDQ.out.off.block w.heap.size (by omega) (fun e => by rcases e with e | e <;> omega)).trans HI.out.m5))
      have HQ4 := Lib.hid (HDQ.out.qu.bel HB4.out)
      have HH4 := Lib.hid (HDQ.out.has.bel HB4.out)
      have HL4 : Hid (Lies (Foot G R) W4 p (encs l)) := Lib.hid ((HI.out.lies.off HDQ.out.off (fun i e => e)).bel HB4.out)
      have HKD := Lib.hid (fun w' (h : Bel W4 w') => KD.out W4.heap.size w' (HL4.out.wide h) (Nat.le_trans hT12 (Nat.le_trans (Nat.le_of_lt hT12b) h.size)))
      clear KD KQ
      generalize w3.heap.size = T12 at *
      obtain ⟨a0, a1, a2, a3, a4⟩ := HAC.out _ HW4.out
      obtain ⟨⟨y0, y1⟩, _⟩ := box2 HM9.out
      have BD : Hid (Bel W4 W4.drew) := Lib.hid (Bel.refl W4).drew
      have BA : Hid (Bel W4 (W4.alloc (.cells #[.int .i64 0, .slice none 0 0] 27)).drew) := Lib.hid ((Bel.refl W4).alloc _ _).drew
      have BF : Hid (Bel W4 (W4.alloc (.cells #[.int .i64 0, .int .u64 0, .int .u64 0, .int .i64 0, .slice none 0 0] 56)).drew) := Lib.hid ((Bel.refl W4).alloc _ _).drew
      have BAF : Hid (Bel W4 ((W4.alloc (.cells #[.int .i64 0, .slice none 0 0] 27)).alloc (.cells #[.int .i64 0, .int .u64 0, .int .u64 0, .int .i64 0, .slice none 0 0] 56)).drew) := Lib.hid (((Bel.refl W4).alloc _ _).alloc _ _).drew
      have BFA : Hid (Bel W4 ((W4.alloc (.cells #[.int .i64 0, .int .u64 0, .int .u64 0, .int .i64 0, .slice none 0 0] 56)).alloc (.cells #[.int .i64 0, .slice none 0 0] 27)).drew) := Lib.hid (((Bel.refl W4).alloc _ _).alloc _ _).drew
      have C2 : Hid (∀ Wc w' b, Wc.heap[b]? = some (.cells #[.int .i64 0, .slice none 0 0] 27 (0, 0)) → Bel Wc w' → ((w'.cell? ⟨b, 0, none⟩ = some (.int .i64 0) ∧ w'.cell? ⟨b, 1, none⟩ = some (.slice none 0 0)) ∧ (w'.frozen? ⟨b, 0, none⟩ = false ∧ w'.frozen? ⟨b, 1, none⟩ = false)) ∧ b < w'.heap.size) := Lib.hid (fun Wc w' b hb ho =>
        ⟨box2 (ho.heap hb), (Array.getElem?_eq_some_iff.1 (ho.heap hb)).1⟩)
      have C5 : Hid (∀ Wc w' b, Wc.heap[b]? = some (.cells #[.int .i64 0, .int .u64 0, .int .u64 0, .int .i64 0, .slice none 0 0] 56 (0, 0)) → Bel Wc w' → ((w'.cell? ⟨b, 0, none⟩ = some (.int .i64 0) ∧ w'.cell? ⟨b, 1, none⟩ = some (.int .u64 0) ∧ w'.cell? ⟨b, 2, none⟩ = some (.int .u64 0) ∧ w'.cell? ⟨b, 3, none⟩ = some (.int .i64 0) ∧ w'.cell? ⟨b, 4, none⟩ = some (.slice none 0 0)) ∧ (w'.frozen? ⟨b, 0, none⟩ = false ∧ w'.frozen? ⟨b, 1, none⟩ = false ∧ w'.frozen? ⟨b, 2, none⟩ = false ∧ w'.frozen? ⟨b, 3, none⟩ = false ∧ w'.frozen? ⟨b, 4, none⟩ = false)) ∧ b < w'.heap.size) := Lib.hid (fun Wc w' b hb ho =>
        ⟨box5 (ho.heap hb), (Array.getElem?_eq_some_iff.1 (ho.heap hb)).1⟩)
      have NA : Hid ((W4.alloc (.cells #[.int .i64 0, .slice none 0 0] 27)).drew.heap[W4.heap.size]? = some (.cells #[.int .i64 0, .slice none 0 0] 27 (0, 0))) := Lib.hid (heap_alloc_new W4 _)
      have NF : Hid ((W4.alloc (.cells #[.int .i64 0, .int .u64 0, .int .u64 0, .int .i64 0, .slice none 0 0] 56)).drew.heap[W4.heap.size]? = some (.cells #[.int .i64 0, .int .u64 0, .int .u64 0, .int .i64 0, .slice none 0 0] 56 (0, 0))) := Lib.hid (heap_alloc_new W4 _)
      have NAF : Hid (((W4.alloc (.cells #[.int .i64 0, .slice none 0 0] 27)).alloc (.cells #[.int .i64 0, .int .u64 0, .int .u64 0, .int .i64 0, .slice none 0 0] 56)).drew.heap[W4.heap.size]? = some (.cells #[.int .i64 0, .slice none 0 0] 27 (0, 0)) ∧ ((W4.alloc (.cells #[.int .i64 0, .slice none 0 0] 27)).alloc (.cells #[.int .i64 0, .int .u64 0, .int .u64 0, .int .i64 0, .slice none 0 0] 56)).drew.heap[W4.heap.size + 1]? = some (.cells #[.int .i64 0, .int .u64 0, .int .u64 0, .int .i64 0, .slice none 0 0] 56 (0, 0))) := Lib.hid (by
        obtain ⟨W, eW, _, _, n0, n1⟩ := two_new W4 #[.int .i64 0, .slice none 0 0] #[.int .i64 0, .int .u64 0, .int .u64 0, .int .i64 0, .slice none 0 0] 27 56
        rw [eW]
        exact ⟨n0, n1⟩)
      have NFA : Hid (((W4.alloc (.cells #[.int .i64 0, .int .u64 0, .int .u64 0, .int .i64 0, .slice none 0 0] 56)).alloc (.cells #[.int .i64 0, .slice none 0 0] 27)).drew.heap[W4.heap.size]? = some (.cells #[.int .i64 0, .int .u64 0, .int .u64 0, .int .i64 0, .slice none 0 0] 56 (0, 0)) ∧ ((W4.alloc (.cells #[.int .i64 0, .int .u64 0, .int .u64 0, .int .i64 0, .slice none 0 0] 56)).alloc (.cells #[.int .i64 0, .slice none 0 0] 27)).drew.heap[W4.heap.size + 1]? = some (.cells #[.int .i64 0, .slice none 0 0] 27 (0, 0))) := Lib.hid (by
        obtain ⟨W, eW, _, _, n0, n1⟩ := two_new W4 #[.int .i64 0, .int .u64 0, .int .u64 0, .int .i64 0, .slice none 0 0] #[.int .i64 0, .slice none 0 0] 56 27
        rw [eW]
        exact ⟨n0, n1⟩)
      have hbW : b < W4.heap.size := Nat.lt_of_lt_of_le hbl HW4.out.size
      have hT9W : T9 < W4.heap.size := (Array.getElem?_eq_some_iff.1 HM9.out).1
      go_cut [13, 14] from 37 to 69 (fun s13 s14 wx => ∃ b13 b14 p5 c5 q5 k5, s13 = .pointer (some ⟨b13, 0, none⟩) ∧ s14 = .pointer (some ⟨b14, 0, none⟩) ∧ Mid G R P ll dd er tt W4 wx b13 b14 p5 c5 q5 k5)
      case first =>
        have HSX : Hid (∀ w', Bel W4 w' → Bel W4 w' ∧ (w'.cell? ⟨T9, 0, none⟩ = some (.int .i64 P) ∧ w'.cell? ⟨T9, 1, none⟩ = some (.slice p l.length c)) ∧ (w'.cell? ⟨b, off + m * 5, none⟩ = some (.int .i64 a.k) ∧ w'.cell? ⟨b, off + m * 5 + 1, none⟩ = some (.int .u64 a.t.a) ∧ w'.cell? ⟨b, off + m * 5 + 2, none⟩ = some (.int .u64 a.t.s) ∧ w'.cell? ⟨b, off + m * 5 + 3, none⟩ = some (.int .i64 a.t.p) ∧ w'.cell? ⟨b, off + m * 5 + 4, none⟩ = some (.int .u64 a.now))) := Lib.hid (fun w' h => ⟨h, (box2 (h.heap HM9.out)).1, HAC.out _ (HW4.out.trans h)⟩)
        clear HPN HL HB7 HZ7 K1 K2 HA HI HAC KS HDQ HW4 HM5 HQ4 HH4 HL4 HB4 HM12 HM9 hl9 gQ gB gG gR hT12 hT12b hTr
        go_wp2
        go_region_held3 (fun w' => Bel W4 w' ∧ (w'.cell? ⟨T9, 0, none⟩ = some (.int .i64 P) ∧ w'.cell? ⟨T9, 1, none⟩ = some (.slice p l.length c)) ∧ (w'.cell? ⟨b, off + m * 5, none⟩ = some (.int .i64 a.k) ∧ w'.cell? ⟨b, off + m * 5 + 1, none⟩ = some (.int .u64 a.t.a) ∧ w'.cell? ⟨b, off + m * 5 + 2, none⟩ = some (.int .u64 a.t.s) ∧ w'.cell? ⟨b, off + m * 5 + 3, none⟩ = some (.int .i64 a.t.p) ∧ w'.cell? ⟨b, off + m * 5 + 4, none⟩ = some (.int .u64 a.now))) (first | (with_reducible exact HSX.out _ BD.out) | (with_reducible exact HSX.out _ BA.out) | (with_reducible exact HSX.out _ BF.out) | (with_reducible exact HSX.out _ BAF.out) | (with_reducible exact HSX.out _ BFA.out) | (refine HSX.out _ ?_; repeat' (first | (with_reducible exact hw5) | (with_reducible refine Bel.alloc ?_ _ _) | (with_reducible refine Bel.setCell ?_ (Nat.le_refl _) _) | (with_reducible refine Bel.setCell ?_ (Nat.le_succ _) _)))) (first | (go_at_call 23; ((with_reducible refine (HKD.out _ BD.out).mono ?_); rintro e w5 ⟨p5, c5, q5, k5, rfl, hd5⟩; have hw5 := BD.out.trans hd5.doc.bel)) | (go_at_call 23; ((with_reducible refine (HKD.out _ BA.out).mono ?_); rintro e w5 ⟨p5, c5, q5, k5, rfl, hd5⟩; have hw5 := BA.out.trans hd5.doc.bel; have hca := C2.out _ _ _ NA.out hd5.doc.bel; obtain ⟨⟨⟨v0, v1⟩, f0, f1⟩, hz5⟩ := hca)) | (go_at_call 23; ((with_reducible refine (HKD.out _ BF.out).mono ?_); rintro e w5 ⟨p5, c5, q5, k5, rfl, hd5⟩; have hw5 := BF.out.trans hd5.doc.bel; have hca := C5.out _ _ _ NF.out hd5.doc.bel; obtain ⟨⟨⟨z0, z1, z2, z3, z4⟩, i0, i1, i2, i3, i4⟩, hz5⟩ := hca)) | (go_at_call 23; ((with_reducible refine (HKD.out _ BAF.out).mono ?_); rintro e w5 ⟨p5, c5, q5, k5, rfl, hd5⟩; have hw5 := BAF.out.trans hd5.doc.bel; have hca := C2.out _ _ _ NAF.out.1 hd5.doc.bel; obtain ⟨⟨⟨v0, v1⟩, f0, f1⟩, hz5⟩ := hca; have hcb := C5.out _ _ _ NAF.out.2 hd5.doc.bel; obtain ⟨⟨⟨z0, z1, z2, z3, z4⟩, i0, i1, i2, i3, i4⟩, hz6⟩ := hcb)) | (go_at_call 23; ((with_reducible refine (HKD.out _ BFA.out).mono ?_); rintro e w5 ⟨p5, c5, q5, k5, rfl, hd5⟩; have hw5 := BFA.out.trans hd5.doc.bel; have hca := C2.out _ _ _ NFA.out.2 hd5.doc.bel; obtain ⟨⟨⟨v0, v1⟩, f0, f1⟩, hz5⟩ := hca; have hcb := C5.out _ _ _ NFA.out.1 hd5.doc.bel; obtain ⟨⟨⟨z0, z1, z2, z3, z4⟩, i0, i1, i2, i3, i4⟩, hz6⟩ := hcb)))
        all_goals
          go_wp2_with fail
          go_meet
          case rel =>
            refine ⟨_, _, p5, c5, q5, k5, rfl, rfl, ?_⟩
            first
            | with_reducible exact mid1 BD.out hd5
            | with_reducible exact mid2 BD.out hd5
            | with_reducible exact mid3 BA.out hd5 NA.out (Nat.le_refl _)
            | with_reducible exact mid5 BF.out hd5 NF.out (Nat.le_refl _)
            | with_reducible exact mid4 BAF.out hd5 NAF.out.1 NAF.out.2 (Nat.le_refl _) (Nat.le_succ _) (Nat.ne_of_lt (Nat.lt_succ_self _))
            | with_reducible exact mid4 BFA.out hd5 NFA.out.2 NFA.out.1 (Nat.le_succ _) (Nat.le_refl _) (Nat.ne_of_gt (Nat.lt_succ_self _))
      case rest =>
        obtain ⟨b13, b14, p5, c5, q5, k5, rfl, rfl, hmid⟩ := hcut
        clear C2 C5 NA NF NAF NFA BD BA BF BAF BFA HKD a0 a1 a2 a3 a4 y0 y1
        have hM := Lib.hid hmid
        have KZ := Lib.hid (KS.out wc pd q5 cd k5 (HH4.out.bel hmid.rest.1) hmid.rest.2.2.2)
        obtain ⟨⟨t0, t1, t2, t3, t4⟩, _⟩ := box5 (hmid.rest.1.heap HM12.out)
        obtain ⟨s0, s1, s2, s3, s4⟩ := hmid.c14
        clear hmid KS
        go_wp2_with fail
        with_reducible refine KZ.out.mono ?_
        rintro e w6 ⟨rfl, hb6⟩
        have r0 := hb6.cell hM.out.c13.1
        have r1 := hb6.cell hM.out.c13.2
        have HB6 := Lib.hid (hM.out.rest.1.trans hb6)
        have m9 := HB6.out.heap HM9.out
        obtain ⟨⟨v0, v1⟩, g0, g1⟩ := box2 m9
        have HT : Hid (Inv w Q B G R P ll p5 c5 w.heap.size T9 ((w6.setCell ⟨T9, 0, none⟩ (.int .i64 P)).setCell ⟨T9, 1, none⟩ (.slice p5 ll.length c5))) := Lib.hid (by
          have o2 := off2 w6 T9 (.int .i64 P) (.slice p5 ll.length c5)
          have hq6 := HQ4.out.bel HB6.out
          refine ⟨hq6.off o2 (by omega) (by omega) (by omega) (by omega), Off.trans (HW4.out.trans HB6.out) o2 (fun i e => .inr (by omega)), (hM.out.rest.2.1.bel hb6).apart m9 o2, hM.out.rest.2.2.1, ?_, set2h m9⟩
          have m5 := HB6.out.heap HM5.out
          exact (o2.block _ (Array.getElem?_eq_some_iff.1 m5).1 (by omega)).trans m5)
        clear hb6 m9 t0 t1 t2 t3 t4 s0 s1 s2 s3 s4
        go_wp2
        go_roundw
        case rel => exact ⟨m + 1, ll, p5, c5, by go_num, by omega, HPN.out.symm, HT.out⟩
        case measure => simp [intOf]; omega
    · obtain rfl : m = N := by omega
      obtain ⟨⟨y0, y1⟩, _⟩ := box2 HI.out.m9
      obtain ⟨⟨e0, e1⟩, g0, g1⟩ := box2 HI.out.m5
      have hzr5 : w.heap.size < wr.heap.size := (Array.getElem?_eq_some_iff.1 HI.out.m5).1
      have hO := off2 wr.drew w.heap.size (.int .i64 P) (.slice p l.length c)
      have HF : Hid (Fresh w ((wr.drew.setCell ⟨w.heap.size, 0, none⟩ (.int .i64 P)).setCell ⟨w.heap.size, 1, none⟩ (.slice p l.length c)) Q B G R P l ∧ Lies (Foot G R) ((wr.drew.setCell ⟨w.heap.size, 0, none⟩ (.int .i64 P)).setCell ⟨w.heap.size, 1, none⟩ (.slice p l.length c)) p (encs l)) := Lib.hid (by
        have hbd : Bel wr wr.drew := (Bel.refl wr).drew
        exact ⟨⟨(HI.out.qu.bel hbd).off hO (by omega) (by omega) (by omega) (by omega), Off.trans (HI.out.bel.trans hbd) hO (fun i e => .inr (by omega)), by omega, by omega, by omega, by omega⟩, (HI.out.lies.bel hbd).apart (hbd.heap HI.out.m5) hO⟩)
      have HC := Lib.hid HI.out.hc
      have HLL : Hid (l = pla P al) := Lib.hid (by rw [HLP.out, List.take_of_length_le (by have := HL.out; omega)])
      clear hO
      go_wp2
      go_region
      go_wp2
      exact bodyPost_ret (v := .tuple #[.pointer (some ⟨Q, 0, none⟩), .agg #[.int .i64 P, .slice p l.length c], .bool true]) (by simp [results, Try.results8, go_sem, e0, e1]) rfl (by rw [← HLL.out]; exact ⟨Q, B, G, R, p, c, rfl, HF.out.1, HF.out.2, HC.out⟩)
end Go.Proofs.Ytmkpnojojkgmiaa
