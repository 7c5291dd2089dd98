/-
  Contract of the law's do: what an act does to a queue, and what it tells.
-/
import Derived.Test.YtdoceldofkaapaaDoorXae
set_option linter.unusedVariables false
set_option linter.unusedSimpArgs false
namespace Go.Proofs.YtdoceldofkaapaaDoor.Ha
open Go.RowKit
/-- Behind an act: the queue, and what was told. -/
structure DidW (Qu : QT) (f : Nat → Prop) (w w' : World) (Q P b : Nat) (s kk : Int) (l : List T) (p : Option Addr) (d : List T) : Prop where
  intro ::
  ex : ∃ f', Grw f f' w w' ∧ Qu f' w' Q P b s kk l ∧ Lies (fun j => old w j ∨ f' j) w' p (encs d)
  off : Off f w w'
theorem DidW.has {Qu : QT} {f : Nat → Prop} {w w' : World} {Q P b : Nat} {s kk : Int} {l d : List T} {p : Option Addr} (h : DidW Qu f w w' Q P b s kk l p d) : Has w' p d := by
  obtain ⟨⟨f', h1, h2, h3⟩, h4⟩ := h
  exact h3.has
theorem DidW.mk' {Qu : QT} (C : Con Qu) {f f' : Nat → Prop} {w W w1 w2 : World} {Q P b b1 : Nat} {s kk : Int} {l : List T} {p : Option Addr} {d : List T} (hB : Bel w W) (ho : Off f W w1) (hff : Grw f f' W w1) (hq : Qu f' w1 Q P b s kk l) (hb : w.heap.size ≤ b1 ∧ b1 < W.heap.size) (hlt : ∀ k, f k → k < w.heap.size)
    (hd : d = [] ∨ Lies (fun j => old W j ∨ f' j) w1 p (encs d)) (o5 : Off (fun k => k = b1) w1 w2) (h0 : 0 < w.heap.size) : DidW Qu f w w2 Q P b s kk l p d := by
  have nb : ∀ i, f' i → ¬ i = b1 := fun i e e2 => by
    rcases hff i e with h | h
    · have := hlt i h; omega
    · omega
  refine ⟨⟨f', fun j e => ?_, C.off hq o5 nb (fun e => by have : 0 = b1 := e; omega), ?_⟩, Off.trans ((hB.off f).then ho) o5 (fun i e => .inr (by have : i = b1 := e; omega))⟩
  · rcases hff j e with h | h
    · exact .inl h
    · exact .inr ⟨Nat.le_trans hB.size h.1, Nat.lt_of_lt_of_le h.2 o5.size⟩
  · rcases hd with rfl | h
    · exact .inl rfl
    · exact (h.off (o5.mono (g := fun j => old W j ∨ f' j) (fun i _ e => by unfold old; have : i = b1 := e; exact .inl (by omega))) (fun i e => e)).mono (fun b _ e => by
        rcases e with e | e
        · exact .inl (Nat.lt_of_lt_of_le e hB.size)
        · exact .inr e)
theorem DidW.mk {Qu : QT} (C : Con Qu) {f f' : Nat → Prop} {w W w1 : World} {Q P b b1 : Nat} {s kk : Int} {l : List T} {p : Option Addr} {d : List T} {x0 x1 x2 x3 x4 : Value} (hB : Bel w W) (ho : Off f W w1) (hff : Grw f f' W w1) (hq : Qu f' w1 Q P b s kk l) (hb : w.heap.size ≤ b1 ∧ b1 < W.heap.size) (hlt : ∀ k, f k → k < w.heap.size)
    (hd : d = [] ∨ Lies (fun j => old W j ∨ f' j) w1 p (encs d)) (h0 : 0 < w.heap.size) : DidW Qu f w (sto5 w1 b1 x0 x1 x2 x3 x4) Q P b s kk l p d := DidW.mk' C hB ho hff hq hb hlt hd (offs5 _ _ _ _ _ _ _) h0
set_option maxHeartbeats 1000000 in
theorem do0 {Qu : QT} (C : Con Qu) (f : Nat → Prop) (Q P b : Nat) (s kk : Int) (l : List T) (t : T) (now : Int) (w : World) (h : Qu f w Q P b s kk l) (ht : Tk t.a) (hnw : Tk now) :
    Calls Tryd.prog 18 #[.pointer (some ⟨Q, 0, none⟩), akV 0 t now] w fun e w' => ∃ p c, e = .returned (tdV (insE P l t) default p 0 c) ∧ DidW Qu f w w' Q P b s kk (insL P l t) p [] := by
  have H2 := Lib.hid (two_new w #[.int .i64 0, .int .u64 t.a, .int .u64 t.s, .int .i64 t.p, .int .u64 now] #[.int .i64 0, .int .u64 0, .int .u64 0, .int .i64 0, .slice none 0 0] 51 48)
  have HLT := Lib.hid (C.lt_ h)
  have H := Lib.hid h
  have K := Lib.hid (fun w' (h : Qu f w' Q P b s kk l) => C.insert t w' h ht)
  clear h
  unfold akV tdV
  generalize insE P l t = er at *
  simp only [default]
  go_enter Tryd.func18, Tryd.ntmps18
  go_upto_region 1 with (fail)
  obtain ⟨W, eW, hB, hz, n0, n1⟩ := H2.out
  rw [eW]
  clear H2 eW
  obtain ⟨b1, e1⟩ : ∃ b, w.heap.size + 1 = b := ⟨_, rfl⟩
  rw [e1] at n1 hz ⊢
  obtain ⟨⟨x0, x1, x2, x3, x4⟩, _⟩ := box5 n0
  have HB := Lib.hid hB
  have HN1 := Lib.hid n1
  have l1 : b1 < W.heap.size := by omega
  clear hB n0 n1
  go_wp2_with fail
  with_reducible refine (K.out _ (C.bel H.out HB.out)).mono ?_
  rintro e w1 ⟨rfl, f', hff, hq, ho⟩
  have n2 : w1.heap[b1]? = some (.cells #[.int .i64 0, .int .u64 0, .int .u64 0, .int .i64 0, .slice none 0 0] 48 (0, 0)) := (ho.block _ l1 (fun e => by have := HLT.out _ e; omega)).trans HN1.out
  obtain ⟨⟨y0, y1, y2, y3, y4⟩, g0, g1, g2, g3, g4⟩ := box5 n2
  have HE : Hid (DidW Qu f w (((((w1.setCell ⟨b1, 0, none⟩ (.int .i64 er)).setCell ⟨b1, 1, none⟩ (.int .u64 0)).setCell ⟨b1, 2, none⟩ (.int .u64 0)).setCell ⟨b1, 3, none⟩ (.int .i64 0)).setCell ⟨b1, 4, none⟩ (.slice none 0 0)) Q P b s kk (insL P l t) none []) := Lib.hid (DidW.mk C HB.out ho hff hq ⟨by omega, by omega⟩ HLT.out (.inl rfl) (C.pos H.out))
  clear hq ho n2
  go_wp2
  exact bodyPost_ret (v := .agg #[.int .i64 er, .int .u64 0, .int .u64 0, .int .i64 0, .slice none 0 0]) (by simp [results, Tryd.results18, go_sem, y0, y1, y2, y3, y4]) rfl ⟨none, 0, rfl, HE.out⟩
set_option maxHeartbeats 1000000 in
theorem do2 {Qu : QT} (C : Con Qu) (f : Nat → Prop) (Q P b : Nat) (s kk : Int) (l : List T) (t : T) (now : Int) (w : World) (h : Qu f w Q P b s kk l) (ht : Tk t.a) (hnw : Tk now) :
    Calls Tryd.prog 18 #[.pointer (some ⟨Q, 0, none⟩), akV 2 t now] w fun e w' => ∃ p c, e = .returned (tdV (canE P l t.p) default p 0 c) ∧ DidW Qu f w w' Q P b s kk (movL P l t) p [] := by
  have H2 := Lib.hid (two_new w #[.int .i64 2, .int .u64 t.a, .int .u64 t.s, .int .i64 t.p, .int .u64 now] #[.int .i64 0, .int .u64 0, .int .u64 0, .int .i64 0, .slice none 0 0] 51 48)
  have HLT := Lib.hid (C.lt_ h)
  have H := Lib.hid h
  have K := Lib.hid (fun w' (h : Qu f w' Q P b s kk l) => C.move t w' h ht)
  clear h
  unfold akV tdV
  generalize canE P l t.p = er at *
  simp only [default]
  go_enter Tryd.func18, Tryd.ntmps18
  go_upto_region 1 with (fail)
  obtain ⟨W, eW, hB, hz, n0, n1⟩ := H2.out
  rw [eW]
  clear H2 eW
  obtain ⟨b1, e1⟩ : ∃ b, w.heap.size + 1 = b := ⟨_, rfl⟩
  rw [e1] at n1 hz ⊢
  obtain ⟨⟨x0, x1, x2, x3, x4⟩, _⟩ := box5 n0
  have HB := Lib.hid hB
  have HN1 := Lib.hid n1
  have l1 : b1 < W.heap.size := by omega
  clear hB n0 n1
  go_wp2_with fail
  with_reducible refine (K.out _ (C.bel H.out HB.out)).mono ?_
  rintro e w1 ⟨rfl, f', hff, hq, ho⟩
  have n2 : w1.heap[b1]? = some (.cells #[.int .i64 0, .int .u64 0, .int .u64 0, .int .i64 0, .slice none 0 0] 48 (0, 0)) := (ho.block _ l1 (fun e => by have := HLT.out _ e; omega)).trans HN1.out
  obtain ⟨⟨y0, y1, y2, y3, y4⟩, g0, g1, g2, g3, g4⟩ := box5 n2
  have HE : Hid (DidW Qu f w (((((w1.setCell ⟨b1, 0, none⟩ (.int .i64 er)).setCell ⟨b1, 1, none⟩ (.int .u64 0)).setCell ⟨b1, 2, none⟩ (.int .u64 0)).setCell ⟨b1, 3, none⟩ (.int .i64 0)).setCell ⟨b1, 4, none⟩ (.slice none 0 0)) Q P b s kk (movL P l t) none []) := Lib.hid (DidW.mk C HB.out ho hff hq ⟨by omega, by omega⟩ HLT.out (.inl rfl) (C.pos H.out))
  clear hq ho n2
  go_wp2
  exact bodyPost_ret (v := .agg #[.int .i64 er, .int .u64 0, .int .u64 0, .int .i64 0, .slice none 0 0]) (by simp [results, Tryd.results18, go_sem, y0, y1, y2, y3, y4]) rfl ⟨none, 0, rfl, HE.out⟩
set_option maxHeartbeats 1000000 in
theorem do1 {Qu : QT} (C : Con Qu) (f : Nat → Prop) (Q P b : Nat) (s kk : Int) (l : List T) (t : T) (now : Int) (w : World) (h : Qu f w Q P b s kk l) (ht : Tk t.a) (hnw : Tk now) :
    Calls Tryd.prog 18 #[.pointer (some ⟨Q, 0, none⟩), akV 1 t now] w fun e w' => ∃ p c, e = .returned (tdV (canE P l t.p) ((fnd l t.p).getD default) p 0 c) ∧ DidW Qu f w w' Q P b s kk (wo l t.p) p [] := by
  have H2 := Lib.hid (two_new w #[.int .i64 1, .int .u64 t.a, .int .u64 t.s, .int .i64 t.p, .int .u64 now] #[.int .i64 0, .int .u64 0, .int .u64 0, .int .i64 0, .slice none 0 0] 51 48)
  have HLT := Lib.hid (C.lt_ h)
  have H := Lib.hid h
  have K := Lib.hid (fun w' (h : Qu f w' Q P b s kk l) => C.cancel t.p w' h)
  clear h
  unfold akV tdV
  unfold canV at K
  generalize canE P l t.p = er at *
  generalize ((fnd l t.p).getD default).a = ta at *
  generalize ((fnd l t.p).getD default).s = ts at *
  generalize ((fnd l t.p).getD default).p = tp at *
  go_enter Tryd.func18, Tryd.ntmps18
  go_upto_region 1 with (fail)
  obtain ⟨W, eW, hB, hz, n0, n1⟩ := H2.out
  rw [eW]
  clear H2 eW
  obtain ⟨b1, e1⟩ : ∃ b, w.heap.size + 1 = b := ⟨_, rfl⟩
  rw [e1] at n1 hz ⊢
  obtain ⟨⟨x0, x1, x2, x3, x4⟩, _⟩ := box5 n0
  have HB := Lib.hid hB
  have HN1 := Lib.hid n1
  have l1 : b1 < W.heap.size := by omega
  clear hB n0 n1
  go_wp2_with fail
  with_reducible refine (K.out _ (C.bel H.out HB.out)).mono ?_
  rintro e w1 ⟨rfl, f', hff, hq, ho⟩
  have n2 : w1.heap[b1]? = some (.cells #[.int .i64 0, .int .u64 0, .int .u64 0, .int .i64 0, .slice none 0 0] 48 (0, 0)) := (ho.block _ l1 (fun e => by have := HLT.out _ e; omega)).trans HN1.out
  have HB3 : Hid (Bel w1 (w1.alloc (.cells #[.int .u64 ta, .int .u64 ts, .int .i64 tp] 41))) := Lib.hid ((Bel.refl _).alloc _ _)
  have HM : Hid ((w1.alloc (.cells #[.int .u64 ta, .int .u64 ts, .int .i64 tp] 41)).heap[w1.heap.size]? = some (.cells #[.int .u64 ta, .int .u64 ts, .int .i64 tp] 41 (0, 0))) := Lib.hid (heap_alloc_new _ _)
  have HQ3 := Lib.hid (C.bel hq HB3.out)
  have HGR : Hid (Grw f f' W (w1.alloc (.cells #[.int .u64 ta, .int .u64 ts, .int .i64 tp] 41))) := Lib.hid (fun j e => by
    rcases hff j e with e | e
    · exact .inl e
    · exact .inr ⟨e.1, Nat.lt_of_lt_of_le e.2 HB3.out.size⟩)
  have HO3 : Hid (Off f W (w1.alloc (.cells #[.int .u64 ta, .int .u64 ts, .int .i64 tp] 41))) := Lib.hid (ho.thenB HB3.out)
  have HN3 := Lib.hid (HB3.out.heap n2)
  clear hq ho n2
  go_upto_region 6 with (fail)
  generalize w1.alloc (.cells #[.int .u64 ta, .int .u64 ts, .int .i64 tp] 41) = W3 at *
  obtain ⟨⟨m0, m1, m2⟩, _⟩ := box3 HM.out
  obtain ⟨⟨y0, y1, y2, y3, y4⟩, g0, g1, g2, g3, g4⟩ := box5 HN3.out
  have HE : Hid (DidW Qu f w (((((W3.setCell ⟨b1, 0, none⟩ (.int .i64 er)).setCell ⟨b1, 1, none⟩ (.int .u64 ta)).setCell ⟨b1, 2, none⟩ (.int .u64 ts)).setCell ⟨b1, 3, none⟩ (.int .i64 tp)).setCell ⟨b1, 4, none⟩ (.slice none 0 0)) Q P b s kk (wo l t.p) none []) := Lib.hid (DidW.mk C HB.out HO3.out HGR.out HQ3.out ⟨by omega, by omega⟩ HLT.out (.inl rfl) (C.pos H.out))
  go_wp2
  exact bodyPost_ret (v := .agg #[.int .i64 er, .int .u64 ta, .int .u64 ts, .int .i64 tp, .slice none 0 0]) (by simp [results, Tryd.results18, go_sem, y0, y1, y2, y3, y4]) rfl ⟨none, 0, rfl, HE.out⟩
set_option maxHeartbeats 1000000 in
theorem do3 {Qu : QT} (C : Con Qu) (f : Nat → Prop) (Q P b : Nat) (s kk : Int) (l : List T) (t : T) (now : Int) (w : World) (h : Qu f w Q P b s kk l) (ht : Tk t.a) (hnw : Tk now) :
    Calls Tryd.prog 18 #[.pointer (some ⟨Q, 0, none⟩), akV 3 t now] w fun e w' => ∃ p c, e = .returned (tdV 0 default p (due l now true).length c) ∧ DidW Qu f w w' Q P b (max s now) (lks (slo b) s now l) (due l now false) p (due l now true) := by
  have H2 := Lib.hid (two_new w #[.int .i64 3, .int .u64 t.a, .int .u64 t.s, .int .i64 t.p, .int .u64 now] #[.int .i64 0, .int .u64 0, .int .u64 0, .int .i64 0, .slice none 0 0] 51 48)
  have HLT := Lib.hid (C.lt_ h)
  have H := Lib.hid h
  have K := Lib.hid (fun w' (h : Qu f w' Q P b s kk l) => C.due now w' h hnw)
  clear h
  unfold akV tdV
  simp only [default]
  go_enter Tryd.func18, Tryd.ntmps18
  go_upto_region 1 with (fail)
  obtain ⟨W, eW, hB, hz, n0, n1⟩ := H2.out
  rw [eW]
  clear H2 eW
  obtain ⟨b1, e1⟩ : ∃ b, w.heap.size + 1 = b := ⟨_, rfl⟩
  rw [e1] at n1 hz ⊢
  obtain ⟨⟨x0, x1, x2, x3, x4⟩, _⟩ := box5 n0
  have HB := Lib.hid hB
  have HN1 := Lib.hid n1
  have l1 : b1 < W.heap.size := by omega
  clear hB n0 n1
  go_wp2_with fail
  with_reducible refine (K.out _ (C.bel H.out HB.out)).mono ?_
  rintro e w1 ⟨p, c, f', rfl, hc, hl, hff, hq, ho⟩
  have n2 : w1.heap[b1]? = some (.cells #[.int .i64 0, .int .u64 0, .int .u64 0, .int .i64 0, .slice none 0 0] 48 (0, 0)) := (ho.block _ l1 (fun e => by have := HLT.out _ e; omega)).trans HN1.out
  obtain ⟨⟨y0, y1, y2, y3, y4⟩, g0, g1, g2, g3, g4⟩ := box5 n2
  have HE : Hid (DidW Qu f w (((((w1.setCell ⟨b1, 0, none⟩ (.int .i64 0)).setCell ⟨b1, 1, none⟩ (.int .u64 0)).setCell ⟨b1, 2, none⟩ (.int .u64 0)).setCell ⟨b1, 3, none⟩ (.int .i64 0)).setCell ⟨b1, 4, none⟩ (.slice p (due l now true).length c)) Q P b (max s now) (lks (slo b) s now l) (due l now false) p (due l now true)) := Lib.hid (DidW.mk C HB.out ho hff hq ⟨by omega, by omega⟩ HLT.out (.inr hl) (C.pos H.out))
  clear hq ho n2 hl
  go_wp2
  exact bodyPost_ret (v := .agg #[.int .i64 0, .int .u64 0, .int .u64 0, .int .i64 0, .slice p (due l now true).length c]) (by simp [results, Tryd.results18, go_sem, y0, y1, y2, y3, y4]) rfl ⟨p, c, rfl, HE.out⟩
set_option maxHeartbeats 1000000 in
theorem do9 {Qu : QT} (C : Con Qu) (f : Nat → Prop) (Q P b : Nat) (s kk : Int) (l : List T) (k : Int) (t : T) (now : Int) (w : World) (h : Qu f w Q P b s kk l) (ht : Tk t.a) (hnw : Tk now) (h0 : ¬ k = 0) (h1 : ¬ k = 1) (h2 : ¬ k = 2) (h3 : ¬ k = 3) :
    Calls Tryd.prog 18 #[.pointer (some ⟨Q, 0, none⟩), akV k t now] w fun e w' => ∃ p c, e = .returned (tdV 0 default p 0 c) ∧ DidW Qu f w w' Q P b s kk l p [] := by
  have H2 := Lib.hid (two_new w #[.int .i64 k, .int .u64 t.a, .int .u64 t.s, .int .i64 t.p, .int .u64 now] #[.int .i64 0, .int .u64 0, .int .u64 0, .int .i64 0, .slice none 0 0] 51 48)
  have HLT := Lib.hid (C.lt_ h)
  have H := Lib.hid h
  have k0 : (k == 0) = false := by simpa using h0
  have k1 : (k == 1) = false := by simpa using h1
  have k2 : (k == 2) = false := by simpa using h2
  have k3 : (k == 3) = false := by simpa using h3
  clear h h0 h1 h2 h3
  unfold akV tdV
  simp only [default]
  go_enter Tryd.func18, Tryd.ntmps18
  go_upto_region 1 with (fail)
  obtain ⟨W, eW, hB, hz, n0, n1⟩ := H2.out
  rw [eW]
  clear H2 eW
  obtain ⟨b1, e1⟩ : ∃ b, w.heap.size + 1 = b := ⟨_, rfl⟩
  rw [e1] at n1 hz ⊢
  obtain ⟨⟨x0, x1, x2, x3, x4⟩, _⟩ := box5 n0
  have HB := Lib.hid hB
  have HN1 := Lib.hid n1
  have l1 : b1 < W.heap.size := by omega
  clear hB n0 n1
  obtain ⟨⟨y0, y1, y2, y3, y4⟩, g0, g1, g2, g3, g4⟩ := box5 HN1.out
  have HE : Hid (DidW Qu f w (((((W.setCell ⟨b1, 0, none⟩ (.int .i64 0)).setCell ⟨b1, 1, none⟩ (.int .u64 0)).setCell ⟨b1, 2, none⟩ (.int .u64 0)).setCell ⟨b1, 3, none⟩ (.int .i64 0)).setCell ⟨b1, 4, none⟩ (.slice none 0 0)) Q P b s kk l none []) := Lib.hid (DidW.mk C HB.out (Off.refl _ _) (fun j e => .inl e) (C.bel H.out HB.out) ⟨by omega, by omega⟩ HLT.out (.inl rfl) (C.pos H.out))
  go_wp2
  exact bodyPost_ret (v := .agg #[.int .i64 0, .int .u64 0, .int .u64 0, .int .i64 0, .slice none 0 0]) (by simp [results, Tryd.results18, go_sem, y0, y1, y2, y3, y4]) rfl ⟨none, 0, rfl, HE.out⟩
theorem do_any {Qu : QT} (C : Con Qu) (f : Nat → Prop) (Q P b : Nat) (s kk : Int) (l : List T) (a : Ak) (w : World) (h : Qu f w Q P b s kk l) (ht : Tk a.t.a) (hnw : Tk a.now) :
    Calls Tryd.prog 18 #[.pointer (some ⟨Q, 0, none⟩), akV a.k a.t a.now] w fun e w' => ∃ p c, e = .returned (tdV (stE P l a) (stT l a) p (stD l a).length c) ∧ DidW Qu f w w' Q P b (stB s a) (stK b s kk l a) (stL P l a) p (stD l a) := by
  obtain ⟨k, t, now⟩ := a
  by_cases h0 : k = 0
  · subst h0; exact do0 C f Q P b s kk l t now w h ht hnw
  · by_cases h1 : k = 1
    · subst h1; exact do1 C f Q P b s kk l t now w h ht hnw
    · by_cases h2 : k = 2
      · subst h2; exact do2 C f Q P b s kk l t now w h ht hnw
      · by_cases h3 : k = 3
        · subst h3; exact do3 C f Q P b s kk l t now w h ht hnw
        · have e1 : stE P l ⟨k, t, now⟩ = 0 := by unfold stE; simp [h0, h1, h2]
          have e2 : stT l ⟨k, t, now⟩ = default := by unfold stT; simp [h1]
          have e3 : stD l ⟨k, t, now⟩ = [] := by unfold stD; simp [h3]
          have e4 : stL P l ⟨k, t, now⟩ = l := by unfold stL; simp [h0, h1, h2, h3]
          have e5 : stB s ⟨k, t, now⟩ = s := by unfold stB; simp [h3]
          have e6 : stK b s kk l ⟨k, t, now⟩ = kk := by unfold stK; simp [h3]
          rw [e1, e2, e3, e4, e5, e6]
          exact do9 C f Q P b s kk l k t now w h ht hnw h0 h1 h2 h3
end Go.Proofs.YtdoceldofkaapaaDoor.Ha
