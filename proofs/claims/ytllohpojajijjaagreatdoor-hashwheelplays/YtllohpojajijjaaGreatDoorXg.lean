/-
  What the laws want of a queue of slots: the contracts of its calls, as one structure over what a queue in memory is.
  Contract of the law's do: what an act does to a queue, and what it tells.
  Contract of the law's built: a queue behind acts.
  A queue, and boxes beside it: what each call keeps.
-/
import Derived.Test.YtllohpojajijjaaGreatDoorXd
import Derived.Test.YtllohpojajijjaaGreatDoorXf
set_option linter.unusedVariables false
set_option linter.unusedSimpArgs false
namespace Go.Proofs.YtllohpojajijjaaGreatDoor
open Go.RowKit
/-- Blocks that a queue has behind a call: those it had, and new ones. -/
def Grw (f f' : Nat → Prop) (w w' : World) : Prop := ∀ j, f' j → f j ∨ (w.heap.size ≤ j ∧ j < w'.heap.size)
theorem tab_bel {w w' : World} (h : Bm.Tab w) (k : Bel w w') : Bm.Tab w' := fun j hj => k.cell (h j hj)
abbrev QT := (Nat → Prop) → World → Nat → Nat → Nat → Int → Int → List T → Prop
/-- A queue (its blocks in f, at Q, of P places and bits b, its base s, k slots looked into, the timers l in order) and its calls. -/
structure Con (Qu : QT) : Prop where
  off : ∀ {f g w w' Q P b s k l}, Qu f w Q P b s k l → Off g w w' → (∀ i, f i → ¬ g i) → ¬ g 0 → Qu f w' Q P b s k l
  lt_ : ∀ {f w Q P b s k l}, Qu f w Q P b s k l → ∀ j, f j → j < w.heap.size
  z : ∀ {f w Q P b s k l}, Qu f w Q P b s k l → ¬ f 0
  pos : ∀ {f w Q P b s k l}, Qu f w Q P b s k l → 0 < w.heap.size
  so : ∀ {f w Q P b s k l}, Qu f w Q P b s k l → So l
  len : ∀ {f w Q P b s k l}, Qu f w Q P b s k l → l.length ≤ P
  hP : ∀ {f w Q P b s k l}, Qu f w Q P b s k l → P ≤ 1024
  hb : ∀ {f w Q P b s k l}, Qu f w Q P b s k l → 1 ≤ b ∧ b ≤ 6
  base : ∀ {f w Q P b s k l}, Qu f w Q P b s k l → Tk s
  ticks : ∀ {f w Q P b s k l}, Qu f w Q P b s k l → ∀ t ∈ l, Tk t.a
  places : ∀ {f w Q P b s k l}, Qu f w Q P b s k l → (l.map T.p).Nodup ∧ ∀ t ∈ l, hp P t.p = true
  qnew_no : ∀ (P b s : Int) (w : World), ¬ ((0 ≤ P ∧ P ≤ 1024) ∧ 1 ≤ b ∧ b ≤ 6) → Calls Tryz.prog 5 #[.int .i64 P, .int .i64 b, .int .u64 s] w fun e w' => e = .returned (.tuple #[.pointer none, .int .i64 1]) ∧ Bel w w'
  qnew_yes : ∀ (P b : Nat) (s : Int) (w : World), P ≤ 1024 → 1 ≤ b ∧ b ≤ 6 → Tk s → Bm.Tab w → Calls Tryz.prog 5 #[.int .i64 P, .int .i64 b, .int .u64 s] w fun e w' => ∃ Q f, e = .returned (.tuple #[.pointer (some ⟨Q, 0, none⟩), .int .i64 0]) ∧ Qu f w' Q P b s 0 [] ∧ (∀ k, f k → w.heap.size ≤ k) ∧ Bel w w'
  insert : ∀ {f Q P b s k l} (t : T) (w : World), Qu f w Q P b s k l → Tk t.a → Calls Tryz.prog 19 #[.pointer (some ⟨Q, 0, none⟩), .agg #[.int .u64 t.a, .int .u64 t.s, .int .i64 t.p]] w fun e w' => e = .returned (.int .i64 (insE P l t)) ∧ ∃ f', Grw f f' w w' ∧ Qu f' w' Q P b s k (insL P l t) ∧ Off f w w'
  cancel : ∀ {f Q P b s k l} (p : Int) (w : World), Qu f w Q P b s k l → Calls Tryz.prog 21 #[.pointer (some ⟨Q, 0, none⟩), .int .i64 p] w fun e w' => e = .returned (canV ((fnd l p).getD default) (canE P l p)) ∧ ∃ f', Grw f f' w w' ∧ Qu f' w' Q P b s k (wo l p) ∧ Off f w w'
  move : ∀ {f Q P b s k l} (t : T) (w : World), Qu f w Q P b s k l → Tk t.a → Calls Tryz.prog 20 #[.pointer (some ⟨Q, 0, none⟩), .agg #[.int .u64 t.a, .int .u64 t.s, .int .i64 t.p]] w fun e w' => e = .returned (.int .i64 (canE P l t.p)) ∧ ∃ f', Grw f f' w w' ∧ Qu f' w' Q P b s k (movL P l t) ∧ Off f w w'
  due : ∀ {f Q P b s k l} (now : Int) (w : World), Qu f w Q P b s k l → Tk now → Calls Tryz.prog 22 #[.pointer (some ⟨Q, 0, none⟩), .int .u64 now] w fun e w' => ∃ p c f', e = .returned (.slice p (due l now true).length c) ∧ (due l now true).length ≤ c ∧ Lies (fun j => old w j ∨ f' j) w' p (encs (due l now true)) ∧ Grw f f' w w' ∧ Qu f' w' Q P b (max s now) (lks (slo b) s now l) (due l now false) ∧ Off f w w'
  get : ∀ {f Q P b s k l} (p : Int) (w : World), Qu f w Q P b s k l → Calls Tryz.prog 13 #[.pointer (some ⟨Q, 0, none⟩), .int .i64 p] w fun e w' => e = .returned (ansT (fnd l p)) ∧ Bel w w'
  min : ∀ {f Q P b s k l} (w : World), Qu f w Q P b s k l → Calls Tryz.prog 15 #[.pointer (some ⟨Q, 0, none⟩)] w fun e w' => e = .returned (ansT l.head?) ∧ Bel w w'
  count : ∀ {f Q P b s k l} (w : World), Qu f w Q P b s k l → Calls Tryz.prog 12 #[.pointer (some ⟨Q, 0, none⟩)] w fun e w' => e = .returned (.int .i64 l.length) ∧ Bel w w'
  all : ∀ {f Q P b s k l} (w : World), Qu f w Q P b s k l → Calls Tryz.prog 18 #[.pointer (some ⟨Q, 0, none⟩)] w fun e w' => ∃ p c, e = .returned (.slice p l.length c) ∧ l.length ≤ c ∧ Lies (old w) w' p (encs l) ∧ Bel w w'
  based : ∀ {f Q P b s k l} (w : World), Qu f w Q P b s k l → Calls Tryz.prog 10 #[.pointer (some ⟨Q, 0, none⟩)] w fun e w' => e = .returned (.int .u64 s) ∧ Bel w w'
  looked : ∀ {f Q P b s k l} (w : World), Qu f w Q P b s k l → Calls Tryz.prog 11 #[.pointer (some ⟨Q, 0, none⟩)] w fun e w' => e = .returned (.int .i64 k) ∧ Bel w w'
theorem Con.bel {Qu : QT} (C : Con Qu) {f w w' Q P b s k l} (h : Qu f w Q P b s k l) (hb : Bel w w') : Qu f w' Q P b s k l := C.off h hb (fun _ _ e => e) (fun e => e)
end Go.Proofs.YtllohpojajijjaaGreatDoor
namespace Go.Proofs.YtllohpojajijjaaGreatDoor
open Go.RowKit
/-- Behind an act: the queue, and what was told. -/
structure DidW (Qu : QT) (f : Nat → Prop) (w w' : World) (Q P b : Nat) (s kk : Int) (l : List T) (p : Option Addr) (d : List T) : Prop where
  intro ::
  ex : ∃ f', Grw f f' w w' ∧ Qu f' w' Q P b s kk l ∧ Lies (fun j => old w j ∨ f' j) w' p (encs d)
  off : Off f w w'
theorem DidW.has {Qu : QT} {f : Nat → Prop} {w w' : World} {Q P b : Nat} {s kk : Int} {l d : List T} {p : Option Addr} (h : DidW Qu f w w' Q P b s kk l p d) : Has w' p d := by
  obtain ⟨⟨f', h1, h2, h3⟩, h4⟩ := h
  exact h3.has
theorem DidW.mk' {Qu : QT} (C : Con Qu) {f f' : Nat → Prop} {w W w1 w2 : World} {Q P b b1 : Nat} {s kk : Int} {l : List T} {p : Option Addr} {d : List T} (hB : Bel w W) (ho : Off f W w1) (hff : Grw f f' W w1) (hq : Qu f' w1 Q P b s kk l) (hb : w.heap.size ≤ b1 ∧ b1 < W.heap.size) (hlt : ∀ k, f k → k < w.heap.size)
    (hd : d = [] ∨ Lies (fun j => old W j ∨ f' j) w1 p (encs d)) (o5 : Off (fun k => k = b1) w1 w2) (h0 : 0 < w.heap.size) : DidW Qu f w w2 Q P b s kk l p d := by
  have nb : ∀ i, f' i → ¬ i = b1 := fun i e e2 => by
    rcases hff i e with h | h
    · have := hlt i h; omega
    · omega
  refine ⟨⟨f', fun j e => ?_, C.off hq o5 nb (fun e => by have : 0 = b1 := e; omega), ?_⟩, Off.trans ((hB.off f).then ho) o5 (fun i e => .inr (by have : i = b1 := e; omega))⟩
  · rcases hff j e with h | h
    · exact .inl h
    · exact .inr ⟨Nat.le_trans hB.size h.1, Nat.lt_of_lt_of_le h.2 o5.size⟩
  · rcases hd with rfl | h
    · exact .inl rfl
    · exact (h.off (o5.mono (g := fun j => old W j ∨ f' j) (fun i _ e => by unfold old; have : i = b1 := e; exact .inl (by omega))) (fun i e => e)).mono (fun b _ e => by
        rcases e with e | e
        · exact .inl (Nat.lt_of_lt_of_le e hB.size)
        · exact .inr e)
theorem DidW.mk {Qu : QT} (C : Con Qu) {f f' : Nat → Prop} {w W w1 : World} {Q P b b1 : Nat} {s kk : Int} {l : List T} {p : Option Addr} {d : List T} {x0 x1 x2 x3 x4 : Value} (hB : Bel w W) (ho : Off f W w1) (hff : Grw f f' W w1) (hq : Qu f' w1 Q P b s kk l) (hb : w.heap.size ≤ b1 ∧ b1 < W.heap.size) (hlt : ∀ k, f k → k < w.heap.size)
    (hd : d = [] ∨ Lies (fun j => old W j ∨ f' j) w1 p (encs d)) (h0 : 0 < w.heap.size) : DidW Qu f w (sto5 w1 b1 x0 x1 x2 x3 x4) Q P b s kk l p d := DidW.mk' C hB ho hff hq hb hlt hd (offs5 _ _ _ _ _ _ _) h0
set_option maxHeartbeats 1000000 in
theorem do0 {Qu : QT} (C : Con Qu) (f : Nat → Prop) (Q P b : Nat) (s kk : Int) (l : List T) (t : T) (now : Int) (w : World) (h : Qu f w Q P b s kk l) (ht : Tk t.a) (hnw : Tk now) :
    Calls Tryz.prog 9 #[.pointer (some ⟨Q, 0, none⟩), akV 0 t now] w fun e w' => ∃ p c, e = .returned (tdV (insE P l t) default p 0 c) ∧ DidW Qu f w w' Q P b s kk (insL P l t) p [] := by
  have H2 := Lib.hid (two_new w #[.int .i64 0, .int .u64 t.a, .int .u64 t.s, .int .i64 t.p, .int .u64 now] #[.int .i64 0, .int .u64 0, .int .u64 0, .int .i64 0, .slice none 0 0] 43 39)
  have HLT := Lib.hid (C.lt_ h)
  have H := Lib.hid h
  have K := Lib.hid (fun w' (h : Qu f w' Q P b s kk l) => C.insert t w' h ht)
  clear h
  unfold akV tdV
  generalize insE P l t = er at *
  simp only [default]
  go_enter Tryz.func9, Tryz.ntmps9
  go_upto_region 1 with (fail)
  obtain ⟨W, eW, hB, hz, n0, n1⟩ := H2.out
  rw [eW]
  clear H2 eW
  obtain ⟨b1, e1⟩ : ∃ b, w.heap.size + 1 = b := ⟨_, rfl⟩
  rw [e1] at n1 hz ⊢
  obtain ⟨⟨x0, x1, x2, x3, x4⟩, _⟩ := box5 n0
  have HB := Lib.hid hB
  have HN1 := Lib.hid n1
  have l1 : b1 < W.heap.size := by omega
  clear hB n0 n1
  go_wp2_with fail
  with_reducible refine (K.out _ (C.bel H.out HB.out)).mono ?_
  rintro e w1 ⟨rfl, f', hff, hq, ho⟩
  have n2 : w1.heap[b1]? = some (.cells #[.int .i64 0, .int .u64 0, .int .u64 0, .int .i64 0, .slice none 0 0] 39 (0, 0)) := (ho.block _ l1 (fun e => by have := HLT.out _ e; omega)).trans HN1.out
  obtain ⟨⟨y0, y1, y2, y3, y4⟩, g0, g1, g2, g3, g4⟩ := box5 n2
  have HE : Hid (DidW Qu f w (((((w1.setCell ⟨b1, 0, none⟩ (.int .i64 er)).setCell ⟨b1, 1, none⟩ (.int .u64 0)).setCell ⟨b1, 2, none⟩ (.int .u64 0)).setCell ⟨b1, 3, none⟩ (.int .i64 0)).setCell ⟨b1, 4, none⟩ (.slice none 0 0)) Q P b s kk (insL P l t) none []) := Lib.hid (DidW.mk C HB.out ho hff hq ⟨by omega, by omega⟩ HLT.out (.inl rfl) (C.pos H.out))
  clear hq ho n2
  go_wp2
  exact bodyPost_ret (v := .agg #[.int .i64 er, .int .u64 0, .int .u64 0, .int .i64 0, .slice none 0 0]) (by simp [results, Tryz.results9, go_sem, y0, y1, y2, y3, y4]) rfl ⟨none, 0, rfl, HE.out⟩
set_option maxHeartbeats 1000000 in
theorem do2 {Qu : QT} (C : Con Qu) (f : Nat → Prop) (Q P b : Nat) (s kk : Int) (l : List T) (t : T) (now : Int) (w : World) (h : Qu f w Q P b s kk l) (ht : Tk t.a) (hnw : Tk now) :
    Calls Tryz.prog 9 #[.pointer (some ⟨Q, 0, none⟩), akV 2 t now] w fun e w' => ∃ p c, e = .returned (tdV (canE P l t.p) default p 0 c) ∧ DidW Qu f w w' Q P b s kk (movL P l t) p [] := by
  have H2 := Lib.hid (two_new w #[.int .i64 2, .int .u64 t.a, .int .u64 t.s, .int .i64 t.p, .int .u64 now] #[.int .i64 0, .int .u64 0, .int .u64 0, .int .i64 0, .slice none 0 0] 43 39)
  have HLT := Lib.hid (C.lt_ h)
  have H := Lib.hid h
  have K := Lib.hid (fun w' (h : Qu f w' Q P b s kk l) => C.move t w' h ht)
  clear h
  unfold akV tdV
  generalize canE P l t.p = er at *
  simp only [default]
  go_enter Tryz.func9, Tryz.ntmps9
  go_upto_region 1 with (fail)
  obtain ⟨W, eW, hB, hz, n0, n1⟩ := H2.out
  rw [eW]
  clear H2 eW
  obtain ⟨b1, e1⟩ : ∃ b, w.heap.size + 1 = b := ⟨_, rfl⟩
  rw [e1] at n1 hz ⊢
  obtain ⟨⟨x0, x1, x2, x3, x4⟩, _⟩ := box5 n0
  have HB := Lib.hid hB
  have HN1 := Lib.hid n1
  have l1 : b1 < W.heap.size := by omega
  clear hB n0 n1
  go_wp2_with fail
  with_reducible refine (K.out _ (C.bel H.out HB.out)).mono ?_
  rintro e w1 ⟨rfl, f', hff, hq, ho⟩
  have n2 : w1.heap[b1]? = some (.cells #[.int .i64 0, .int .u64 0, .int .u64 0, .int .i64 0, .slice none 0 0] 39 (0, 0)) := (ho.block _ l1 (fun e => by have := HLT.out _ e; omega)).trans HN1.out
  obtain ⟨⟨y0, y1, y2, y3, y4⟩, g0, g1, g2, g3, g4⟩ := box5 n2
  have HE : Hid (DidW Qu f w (((((w1.setCell ⟨b1, 0, none⟩ (.int .i64 er)).setCell ⟨b1, 1, none⟩ (.int .u64 0)).setCell ⟨b1, 2, none⟩ (.int .u64 0)).setCell ⟨b1, 3, none⟩ (.int .i64 0)).setCell ⟨b1, 4, none⟩ (.slice none 0 0)) Q P b s kk (movL P l t) none []) := Lib.hid (DidW.mk C HB.out ho hff hq ⟨by omega, by omega⟩ HLT.out (.inl rfl) (C.pos H.out))
  clear hq ho n2
  go_wp2
  exact bodyPost_ret (v := .agg #[.int .i64 er, .int .u64 0, .int .u64 0, .int .i64 0, .slice none 0 0]) (by simp [results, Tryz.results9, go_sem, y0, y1, y2, y3, y4]) rfl ⟨none, 0, rfl, HE.out⟩
set_option maxHeartbeats 1000000 in
theorem do1 {Qu : QT} (C : Con Qu) (f : Nat → Prop) (Q P b : Nat) (s kk : Int) (l : List T) (t : T) (now : Int) (w : World) (h : Qu f w Q P b s kk l) (ht : Tk t.a) (hnw : Tk now) :
    Calls Tryz.prog 9 #[.pointer (some ⟨Q, 0, none⟩), akV 1 t now] w fun e w' => ∃ p c, e = .returned (tdV (canE P l t.p) ((fnd l t.p).getD default) p 0 c) ∧ DidW Qu f w w' Q P b s kk (wo l t.p) p [] := by
  have H2 := Lib.hid (two_new w #[.int .i64 1, .int .u64 t.a, .int .u64 t.s, .int .i64 t.p, .int .u64 now] #[.int .i64 0, .int .u64 0, .int .u64 0, .int .i64 0, .slice none 0 0] 43 39)
  have HLT := Lib.hid (C.lt_ h)
  have H := Lib.hid h
  have K := Lib.hid (fun w' (h : Qu f w' Q P b s kk l) => C.cancel t.p w' h)
  clear h
  unfold akV tdV
  unfold canV at K
  generalize canE P l t.p = er at *
  generalize ((fnd l t.p).getD default).a = ta at *
  generalize ((fnd l t.p).getD default).s = ts at *
  generalize ((fnd l t.p).getD default).p = tp at *
  go_enter Tryz.func9, Tryz.ntmps9
  go_upto_region 1 with (fail)
  obtain ⟨W, eW, hB, hz, n0, n1⟩ := H2.out
  rw [eW]
  clear H2 eW
  obtain ⟨b1, e1⟩ : ∃ b, w.heap.size + 1 = b := ⟨_, rfl⟩
  rw [e1] at n1 hz ⊢
  obtain ⟨⟨x0, x1, x2, x3, x4⟩, _⟩ := box5 n0
  have HB := Lib.hid hB
  have HN1 := Lib.hid n1
  have l1 : b1 < W.heap.size := by omega
  clear hB n0 n1
  go_wp2_with fail
  with_reducible refine (K.out _ (C.bel H.out HB.out)).mono ?_
  rintro e w1 ⟨rfl, f', hff, hq, ho⟩
  have n2 : w1.heap[b1]? = some (.cells #[.int .i64 0, .int .u64 0, .int .u64 0, .int .i64 0, .slice none 0 0] 39 (0, 0)) := (ho.block _ l1 (fun e => by have := HLT.out _ e; omega)).trans HN1.out
  have HB3 : Hid (Bel w1 (w1.alloc (.cells #[.int .u64 ta, .int .u64 ts, .int .i64 tp] 37))) := Lib.hid ((Bel.refl _).alloc _ _)
  have HM : Hid ((w1.alloc (.cells #[.int .u64 ta, .int .u64 ts, .int .i64 tp] 37)).heap[w1.heap.size]? = some (.cells #[.int .u64 ta, .int .u64 ts, .int .i64 tp] 37 (0, 0))) := Lib.hid (heap_alloc_new _ _)
  have HQ3 := Lib.hid (C.bel hq HB3.out)
  have HGR : Hid (Grw f f' W (w1.alloc (.cells #[.int .u64 ta, .int .u64 ts, .int .i64 tp] 37))) := Lib.hid (fun j e => by
    rcases hff j e with e | e
    · exact .inl e
    · exact .inr ⟨e.1, Nat.lt_of_lt_of_le e.2 HB3.out.size⟩)
  have HO3 : Hid (Off f W (w1.alloc (.cells #[.int .u64 ta, .int .u64 ts, .int .i64 tp] 37))) := Lib.hid (ho.thenB HB3.out)
  have HN3 := Lib.hid (HB3.out.heap n2)
  clear hq ho n2
  go_upto_region 6 with (fail)
  generalize w1.alloc (.cells #[.int .u64 ta, .int .u64 ts, .int .i64 tp] 37) = W3 at *
  obtain ⟨⟨m0, m1, m2⟩, _⟩ := box3 HM.out
  obtain ⟨⟨y0, y1, y2, y3, y4⟩, g0, g1, g2, g3, g4⟩ := box5 HN3.out
  have HE : Hid (DidW Qu f w (((((W3.setCell ⟨b1, 0, none⟩ (.int .i64 er)).setCell ⟨b1, 1, none⟩ (.int .u64 ta)).setCell ⟨b1, 2, none⟩ (.int .u64 ts)).setCell ⟨b1, 3, none⟩ (.int .i64 tp)).setCell ⟨b1, 4, none⟩ (.slice none 0 0)) Q P b s kk (wo l t.p) none []) := Lib.hid (DidW.mk C HB.out HO3.out HGR.out HQ3.out ⟨by omega, by omega⟩ HLT.out (.inl rfl) (C.pos H.out))
  go_wp2
  exact bodyPost_ret (v := .agg #[.int .i64 er, .int .u64 ta, .int .u64 ts, .int .i64 tp, .slice none 0 0]) (by simp [results, Tryz.results9, go_sem, y0, y1, y2, y3, y4]) rfl ⟨none, 0, rfl, HE.out⟩
set_option maxHeartbeats 1000000 in
theorem do3 {Qu : QT} (C : Con Qu) (f : Nat → Prop) (Q P b : Nat) (s kk : Int) (l : List T) (t : T) (now : Int) (w : World) (h : Qu f w Q P b s kk l) (ht : Tk t.a) (hnw : Tk now) :
    Calls Tryz.prog 9 #[.pointer (some ⟨Q, 0, none⟩), akV 3 t now] w fun e w' => ∃ p c, e = .returned (tdV 0 default p (due l now true).length c) ∧ DidW Qu f w w' Q P b (max s now) (lks (slo b) s now l) (due l now false) p (due l now true) := by
  have H2 := Lib.hid (two_new w #[.int .i64 3, .int .u64 t.a, .int .u64 t.s, .int .i64 t.p, .int .u64 now] #[.int .i64 0, .int .u64 0, .int .u64 0, .int .i64 0, .slice none 0 0] 43 39)
  have HLT := Lib.hid (C.lt_ h)
  have H := Lib.hid h
  have K := Lib.hid (fun w' (h : Qu f w' Q P b s kk l) => C.due now w' h hnw)
  clear h
  unfold akV tdV
  simp only [default]
  go_enter Tryz.func9, Tryz.ntmps9
  go_upto_region 1 with (fail)
  obtain ⟨W, eW, hB, hz, n0, n1⟩ := H2.out
  rw [eW]
  clear H2 eW
  obtain ⟨b1, e1⟩ : ∃ b, w.heap.size + 1 = b := ⟨_, rfl⟩
  rw [e1] at n1 hz ⊢
  obtain ⟨⟨x0, x1, x2, x3, x4⟩, _⟩ := box5 n0
  have HB := Lib.hid hB
  have HN1 := Lib.hid n1
  have l1 : b1 < W.heap.size := by omega
  clear hB n0 n1
  go_wp2_with fail
  with_reducible refine (K.out _ (C.bel H.out HB.out)).mono ?_
  rintro e w1 ⟨p, c, f', rfl, hc, hl, hff, hq, ho⟩
  have n2 : w1.heap[b1]? = some (.cells #[.int .i64 0, .int .u64 0, .int .u64 0, .int .i64 0, .slice none 0 0] 39 (0, 0)) := (ho.block _ l1 (fun e => by have := HLT.out _ e; omega)).trans HN1.out
  obtain ⟨⟨y0, y1, y2, y3, y4⟩, g0, g1, g2, g3, g4⟩ := box5 n2
  have HE : Hid (DidW Qu f w (((((w1.setCell ⟨b1, 0, none⟩ (.int .i64 0)).setCell ⟨b1, 1, none⟩ (.int .u64 0)).setCell ⟨b1, 2, none⟩ (.int .u64 0)).setCell ⟨b1, 3, none⟩ (.int .i64 0)).setCell ⟨b1, 4, none⟩ (.slice p (due l now true).length c)) Q P b (max s now) (lks (slo b) s now l) (due l now false) p (due l now true)) := Lib.hid (DidW.mk C HB.out ho hff hq ⟨by omega, by omega⟩ HLT.out (.inr hl) (C.pos H.out))
  clear hq ho n2 hl
  go_wp2
  exact bodyPost_ret (v := .agg #[.int .i64 0, .int .u64 0, .int .u64 0, .int .i64 0, .slice p (due l now true).length c]) (by simp [results, Tryz.results9, go_sem, y0, y1, y2, y3, y4]) rfl ⟨p, c, rfl, HE.out⟩
set_option maxHeartbeats 1000000 in
theorem do9 {Qu : QT} (C : Con Qu) (f : Nat → Prop) (Q P b : Nat) (s kk : Int) (l : List T) (k : Int) (t : T) (now : Int) (w : World) (h : Qu f w Q P b s kk l) (ht : Tk t.a) (hnw : Tk now) (h0 : ¬ k = 0) (h1 : ¬ k = 1) (h2 : ¬ k = 2) (h3 : ¬ k = 3) :
    Calls Tryz.prog 9 #[.pointer (some ⟨Q, 0, none⟩), akV k t now] w fun e w' => ∃ p c, e = .returned (tdV 0 default p 0 c) ∧ DidW Qu f w w' Q P b s kk l p [] := by
  have H2 := Lib.hid (two_new w #[.int .i64 k, .int .u64 t.a, .int .u64 t.s, .int .i64 t.p, .int .u64 now] #[.int .i64 0, .int .u64 0, .int .u64 0, .int .i64 0, .slice none 0 0] 43 39)
  have HLT := Lib.hid (C.lt_ h)
  have H := Lib.hid h
  have k0 : (k == 0) = false := by simpa using h0
  have k1 : (k == 1) = false := by simpa using h1
  have k2 : (k == 2) = false := by simpa using h2
  have k3 : (k == 3) = false := by simpa using h3
  clear h h0 h1 h2 h3
  unfold akV tdV
  simp only [default]
  go_enter Tryz.func9, Tryz.ntmps9
  go_upto_region 1 with (fail)
  obtain ⟨W, eW, hB, hz, n0, n1⟩ := H2.out
  rw [eW]
  clear H2 eW
  obtain ⟨b1, e1⟩ : ∃ b, w.heap.size + 1 = b := ⟨_, rfl⟩
  rw [e1] at n1 hz ⊢
  obtain ⟨⟨x0, x1, x2, x3, x4⟩, _⟩ := box5 n0
  have HB := Lib.hid hB
  have HN1 := Lib.hid n1
  have l1 : b1 < W.heap.size := by omega
  clear hB n0 n1
  obtain ⟨⟨y0, y1, y2, y3, y4⟩, g0, g1, g2, g3, g4⟩ := box5 HN1.out
  have HE : Hid (DidW Qu f w (((((W.setCell ⟨b1, 0, none⟩ (.int .i64 0)).setCell ⟨b1, 1, none⟩ (.int .u64 0)).setCell ⟨b1, 2, none⟩ (.int .u64 0)).setCell ⟨b1, 3, none⟩ (.int .i64 0)).setCell ⟨b1, 4, none⟩ (.slice none 0 0)) Q P b s kk l none []) := Lib.hid (DidW.mk C HB.out (Off.refl _ _) (fun j e => .inl e) (C.bel H.out HB.out) ⟨by omega, by omega⟩ HLT.out (.inl rfl) (C.pos H.out))
  go_wp2
  exact bodyPost_ret (v := .agg #[.int .i64 0, .int .u64 0, .int .u64 0, .int .i64 0, .slice none 0 0]) (by simp [results, Tryz.results9, go_sem, y0, y1, y2, y3, y4]) rfl ⟨none, 0, rfl, HE.out⟩
theorem do_any {Qu : QT} (C : Con Qu) (f : Nat → Prop) (Q P b : Nat) (s kk : Int) (l : List T) (a : Ak) (w : World) (h : Qu f w Q P b s kk l) (ht : Tk a.t.a) (hnw : Tk a.now) :
    Calls Tryz.prog 9 #[.pointer (some ⟨Q, 0, none⟩), akV a.k a.t a.now] w fun e w' => ∃ p c, e = .returned (tdV (stE P l a) (stT l a) p (stD l a).length c) ∧ DidW Qu f w w' Q P b (stB s a) (stK b s kk l a) (stL P l a) p (stD l a) := by
  obtain ⟨k, t, now⟩ := a
  by_cases h0 : k = 0
  · subst h0; exact do0 C f Q P b s kk l t now w h ht hnw
  · by_cases h1 : k = 1
    · subst h1; exact do1 C f Q P b s kk l t now w h ht hnw
    · by_cases h2 : k = 2
      · subst h2; exact do2 C f Q P b s kk l t now w h ht hnw
      · by_cases h3 : k = 3
        · subst h3; exact do3 C f Q P b s kk l t now w h ht hnw
        · have e1 : stE P l ⟨k, t, now⟩ = 0 := by unfold stE; simp [h0, h1, h2]
          have e2 : stT l ⟨k, t, now⟩ = default := by unfold stT; simp [h1]
          have e3 : stD l ⟨k, t, now⟩ = [] := by unfold stD; simp [h3]
          have e4 : stL P l ⟨k, t, now⟩ = l := by unfold stL; simp [h0, h1, h2, h3]
          have e5 : stB s ⟨k, t, now⟩ = s := by unfold stB; simp [h3]
          have e6 : stK b s kk l ⟨k, t, now⟩ = kk := by unfold stK; simp [h3]
          rw [e1, e2, e3, e4, e5, e6]
          exact do9 C f Q P b s kk l k t now w h ht hnw h0 h1 h2 h3
end Go.Proofs.YtllohpojajijjaaGreatDoor
set_option linter.unusedSectionVars false
namespace Go.Proofs.YtllohpojajijjaaGreatDoor
open Go.RowKit
/-- The list and the base behind acts. -/
def pla (P : Nat) (al : List Ak) : List T := al.foldl (fun l a => stL P l a) []
def pba (s : Int) (al : List Ak) : Int := al.foldl (fun s a => stB s a) s
theorem pla_next (P : Nat) (al : List Ak) (m : Nat) (a : Ak) (h : al[m]? = some a) : pla P (al.take (m + 1)) = stL P (pla P (al.take m)) a := by
  obtain ⟨h1, h2⟩ := List.getElem?_eq_some_iff.1 h
  unfold pla
  rw [List.take_succ_eq_append_getElem h1, List.foldl_append, h2]
  rfl
theorem pba_next (s : Int) (al : List Ak) (m : Nat) (a : Ak) (h : al[m]? = some a) : pba s (al.take (m + 1)) = stB (pba s (al.take m)) a := by
  obtain ⟨h1, h2⟩ := List.getElem?_eq_some_iff.1 h
  unfold pba
  rw [List.take_succ_eq_append_getElem h1, List.foldl_append, h2]
  rfl
/-- Acts whose ticks are ticks. -/
def Aks (al : List Ak) : Prop := ∀ a ∈ al, Tk a.t.a ∧ Tk a.now
theorem Aks.at_ {al : List Ak} (h : Aks al) {m : Nat} {a : Ak} (ha : al[m]? = some a) : Tk a.t.a ∧ Tk a.now := h a (List.mem_of_getElem? ha)
/-- A queue of new blocks. -/
structure Bu (Qu : QT) (w w' : World) (Q P b : Nat) (s : Int) (l : List T) : Prop where
  ex : ∃ f kk, Qu f w' Q P b s kk l ∧ ∀ k, f k → w.heap.size ≤ k
  bel : Bel w w'
theorem bu_do {Qu : QT} (C : Con Qu) {w wr : World} {Q P b : Nat} {s : Int} {l : List T} (h : Bu Qu w wr Q P b s l) (a : Ak) (ht : Tk a.t.a) (hn : Tk a.now) :
    Calls Tryz.prog 9 #[.pointer (some ⟨Q, 0, none⟩), akV a.k a.t a.now] wr fun e w' => ∃ v, e = .returned v ∧ Bu Qu w w' Q P b (stB s a) (stL P l a) := by
  obtain ⟨⟨f, kk, h1, h2⟩, h3⟩ := h
  refine (do_any C f Q P b s kk l a wr h1 ht hn).mono fun e w' ⟨p, c, he, ⟨f', hf', hq', _⟩, ho⟩ => ⟨_, he, ⟨f', _, hq', fun k e => ?_⟩, Off.trans h3 ho (fun i e => .inr (h2 i e))⟩
  rcases hf' k e with e | e
  · exact h2 k e
  · exact Nat.le_trans h3.size e.1
section
variable {Qu : QT} (C : Con Qu) {w wr : World} {Q P b : Nat} {s : Int} {l : List T}
include C
theorem bu_le (h : Bu Qu w wr Q P b s l) {w2 : World} (k : Bel wr w2) : Bu Qu w w2 Q P b s l := by
  obtain ⟨⟨f, kk, h1, h2⟩, h3⟩ := h
  exact ⟨⟨f, kk, C.bel h1 k, h2⟩, h3.trans k⟩
theorem bu_len (h : Bu Qu w wr Q P b s l) : l.length ≤ 1024 := by
  obtain ⟨⟨f, kk, h1, h2⟩, h3⟩ := h
  exact Nat.le_trans (C.len h1) (C.hP h1)
theorem bu_so (h : Bu Qu w wr Q P b s l) : So l := by
  obtain ⟨⟨f, kk, h1, h2⟩, h3⟩ := h
  exact C.so h1
theorem bu_tk (h : Bu Qu w wr Q P b s l) : Tk s := by
  obtain ⟨⟨f, kk, h1, h2⟩, h3⟩ := h
  exact C.base h1
theorem bu_count (h : Bu Qu w wr Q P b s l) {n : Nat} (e : l.length = n) : Calls Tryz.prog 12 #[.pointer (some ⟨Q, 0, none⟩)] wr fun e w2 => e = .returned (.int .i64 n) ∧ Bel wr w2 := by
  subst e
  obtain ⟨⟨f, kk, h1, h2⟩, h3⟩ := h
  exact C.count wr h1
theorem bu_based (h : Bu Qu w wr Q P b s l) : Calls Tryz.prog 10 #[.pointer (some ⟨Q, 0, none⟩)] wr fun e w2 => e = .returned (.int .u64 s) ∧ Bel wr w2 := by
  obtain ⟨⟨f, kk, h1, h2⟩, h3⟩ := h
  exact C.based wr h1
theorem bu_all (h : Bu Qu w wr Q P b s l) {n : Nat} (e : l.length = n) : Calls Tryz.prog 18 #[.pointer (some ⟨Q, 0, none⟩)] wr fun e w2 => ∃ p c, e = .returned (.slice p n c) ∧ Has w2 p l ∧ Bel wr w2 := by
  subst e
  obtain ⟨⟨f, kk, h1, h2⟩, h3⟩ := h
  exact (C.all wr h1).mono fun e w2 ⟨p, c, he, hc, hl, hb⟩ => ⟨p, c, he, hl.has, hb⟩
end
end Go.Proofs.YtllohpojajijjaaGreatDoor
set_option linter.unusedSectionVars false
namespace Go.Proofs.YtllohpojajijjaaGreatDoor
open Go.RowKit
theorem three_new (w : World) (a b c : Array Value) (ta tb tc : TypeId) : ∃ W, ((w.alloc (.cells a ta)).alloc (.cells b tb)).alloc (.cells c tc) = W ∧ Bel w W ∧ W.heap.size = w.heap.size + 1 + 1 + 1 ∧
    W.heap[w.heap.size]? = some (.cells a ta (0, 0)) ∧ W.heap[w.heap.size + 1]? = some (.cells b tb (0, 0)) ∧ W.heap[w.heap.size + 1 + 1]? = some (.cells c tc (0, 0)) := by
  refine ⟨_, rfl, (((Bel.refl w).alloc _ _).alloc _ _).alloc _ _, by simp, ?_, ?_, ?_⟩
  · rw [Below.heap_alloc _ _ _ (by simp only [World.size_alloc]; omega), Below.heap_alloc _ _ _ (by simp), heap_alloc_new]
  · rw [Below.heap_alloc _ _ _ (by simp only [World.size_alloc]; omega)]
    have := heap_alloc_new (w.alloc (.cells a ta)) (.cells b tb)
    simpa using this
  · have := heap_alloc_new ((w.alloc (.cells a ta)).alloc (.cells b tb)) (.cells c tc)
    simpa using this
/-- A timer's box. -/
abbrev tb (t : T) : Obj := .cells #[.int .u64 t.a, .int .u64 t.s, .int .i64 t.p] 37
structure Ow (Qu : QT) (w : World) (Q P b : Nat) (s kk : Int) (l : List T) (bx : List (Nat × Obj)) (wx : World) : Prop where
  ex : ∃ f, Qu f wx Q P b s kk l ∧ (∀ j, f j → w.heap.size ≤ j) ∧ ∀ x ∈ bx, ¬ f x.1
  bel : Bel w wx
  at_ : ∀ x ∈ bx, wx.heap[x.1]? = some x.2
theorem Ow.c3 {Qu : QT} {w : World} {Q P b : Nat} {s kk : Int} {l : List T} {bx : List (Nat × Obj)} {w1 : World} (h : Ow Qu w Q P b s kk l bx w1) {j : Nat} {x y z : Value} {ty : TypeId} (hm : (j, .cells #[x, y, z] ty) ∈ bx) : w1.cell? ⟨j, 0, none⟩ = some x ∧ w1.cell? ⟨j, 1, none⟩ = some y ∧ w1.cell? ⟨j, 2, none⟩ = some z := (box3 (h.at_ _ hm)).1
theorem Ow.less {Qu : QT} {w : World} {Q P b : Nat} {s kk : Int} {l : List T} {bx : List (Nat × Obj)} {w1 : World} {x : Nat × Obj} (h : Ow Qu w Q P b s kk l (x :: bx) w1) : Ow Qu w Q P b s kk l bx w1 := by
  obtain ⟨⟨f, h1, h2, h3⟩, h4, h5⟩ := h
  exact ⟨⟨f, h1, h2, fun y hy => h3 y (List.mem_cons_of_mem _ hy)⟩, h4, fun y hy => h5 y (List.mem_cons_of_mem _ hy)⟩
section
variable {Qu : QT} (C : Con Qu) {w : World} {Q P b : Nat} {s kk : Int} {l : List T} {bx : List (Nat × Obj)}
include C
theorem ow_le {w1 w2 : World} (h : Ow Qu w Q P b s kk l bx w1) (k : Bel w1 w2) : Ow Qu w Q P b s kk l bx w2 := by
  obtain ⟨⟨f, h1, h2, h3⟩, h4, h5⟩ := h
  exact ⟨⟨f, C.bel h1 k, h2, h3⟩, h4.trans k, fun x hx => k.heap (h5 x hx)⟩
theorem ow_step {f f' : Nat → Prop} {w1 w2 : World} {s' kk' : Int} {l' : List T} (h3 : ∀ k, f k → w.heap.size ≤ k) (h6 : ∀ x ∈ bx, ¬ f x.1) (h7 : Bel w w1) (h8 : ∀ x ∈ bx, w1.heap[x.1]? = some x.2)
    (hf : Grw f f' w1 w2) (hq : Qu f' w2 Q P b s' kk' l') (k : Off f w1 w2) : Ow Qu w Q P b s' kk' l' bx w2 := by
  refine ⟨⟨f', hq, fun j e => ?_, fun x hx e => ?_⟩, Off.trans h7 k (fun i e => .inr (h3 i e)), fun x hx => (k.block _ (Array.getElem?_eq_some_iff.1 (h8 x hx)).1 (h6 x hx)).trans (h8 x hx)⟩
  · rcases hf j e with e | e
    · exact h3 j e
    · exact Nat.le_trans h7.size e.1
  · rcases hf _ e with e | e
    · exact h6 x hx e
    · have := (Array.getElem?_eq_some_iff.1 (h8 x hx)).1
      omega
theorem ow_box {w1 : World} (h : Ow Qu w Q P b s kk l bx w1) (c : Array Value) (t : TypeId) : Ow Qu w Q P b s kk l ((w1.heap.size, .cells c t) :: bx) (w1.alloc (.cells c t)) := by
  have k : Bel w1 (w1.alloc (.cells c t)) := (Bel.refl w1).alloc c t
  obtain ⟨⟨f, h1, h2, h3⟩, h4, h5⟩ := h
  refine ⟨⟨f, C.bel h1 k, h2, fun x hx => ?_⟩, h4.trans k, fun x hx => ?_⟩
  · rcases List.mem_cons.1 hx with rfl | hx
    · exact fun e => Nat.lt_irrefl _ (C.lt_ h1 _ e)
    · exact h3 x hx
  · rcases List.mem_cons.1 hx with rfl | hx
    · exact heap_alloc_new _ _
    · exact k.heap (h5 x hx)
theorem ow_insert {l' : List T} {t : T} {er : Int} (e1 : insE P l t = er) (e2 : insL P l t = l') (ht : Tk t.a) {w1 : World} (h : Ow Qu w Q P b s kk l bx w1) :
    Calls Tryz.prog 19 #[.pointer (some ⟨Q, 0, none⟩), .agg #[.int .u64 t.a, .int .u64 t.s, .int .i64 t.p]] w1 fun e w2 => e = .returned (.int .i64 er) ∧ Ow Qu w Q P b s kk l' bx w2 := by
  subst e1 e2
  obtain ⟨⟨f, h1, h2, h3⟩, h4, h5⟩ := h
  exact (C.insert t w1 h1 ht).mono fun e w2 ⟨he, f', hf, hq, ho⟩ => ⟨he, ow_step C h2 h3 h4 h5 hf hq ho⟩
theorem ow_move {l' : List T} {t : T} {er : Int} (e1 : canE P l t.p = er) (e2 : movL P l t = l') (ht : Tk t.a) {w1 : World} (h : Ow Qu w Q P b s kk l bx w1) :
    Calls Tryz.prog 20 #[.pointer (some ⟨Q, 0, none⟩), .agg #[.int .u64 t.a, .int .u64 t.s, .int .i64 t.p]] w1 fun e w2 => e = .returned (.int .i64 er) ∧ Ow Qu w Q P b s kk l' bx w2 := by
  subst e1 e2
  obtain ⟨⟨f, h1, h2, h3⟩, h4, h5⟩ := h
  exact (C.move t w1 h1 ht).mono fun e w2 ⟨he, f', hf, hq, ho⟩ => ⟨he, ow_step C h2 h3 h4 h5 hf hq ho⟩
theorem ow_cancel {l' : List T} {k er : Int} {t : T} (e1 : canE P l k = er) (e2 : wo l k = l') (e3 : (fnd l k).getD default = t) {w1 : World} (h : Ow Qu w Q P b s kk l bx w1) :
    Calls Tryz.prog 21 #[.pointer (some ⟨Q, 0, none⟩), .int .i64 k] w1 fun e w2 => e = .returned (canV t er) ∧ Ow Qu w Q P b s kk l' bx w2 := by
  subst e1 e2 e3
  obtain ⟨⟨f, h1, h2, h3⟩, h4, h5⟩ := h
  exact (C.cancel k w1 h1).mono fun e w2 ⟨he, f', hf, hq, ho⟩ => ⟨he, ow_step C h2 h3 h4 h5 hf hq ho⟩
theorem ow_due {l' d : List T} {now s' k' : Int} {n : Nat} (e1 : due l now true = d) (e2 : due l now false = l') (e3 : max s now = s') (e4 : (lks (slo b) s now l : Int) = k') (e5 : d.length = n) (hn : Tk now) {w1 : World} (h : Ow Qu w Q P b s kk l bx w1) :
    Calls Tryz.prog 22 #[.pointer (some ⟨Q, 0, none⟩), .int .u64 now] w1 fun e w2 => ∃ p c, e = .returned (.slice p n c) ∧ Has w2 p d ∧ Ow Qu w Q P b s' k' l' bx w2 := by
  subst e1 e2 e3 e4 e5
  obtain ⟨⟨f, h1, h2, h3⟩, h4, h5⟩ := h
  exact (C.due now w1 h1 hn).mono fun e w2 ⟨p, c, f', he, _, hl, hf, hq, ho⟩ => ⟨p, c, he, hl.has, ow_step C h2 h3 h4 h5 hf hq ho⟩
theorem ow_all {n : Nat} (e : l.length = n) {w1 : World} (h : Ow Qu w Q P b s kk l bx w1) :
    Calls Tryz.prog 18 #[.pointer (some ⟨Q, 0, none⟩)] w1 fun e w2 => ∃ p c, e = .returned (.slice p n c) ∧ Has w2 p l ∧ Bel w1 w2 := by
  subst e
  obtain ⟨⟨f, h1, _⟩, _⟩ := h
  exact (C.all w1 h1).mono fun e w2 ⟨p, c, he, _, hl, hb⟩ => ⟨p, c, he, hl.has, hb⟩
theorem ow_min {t : T} (e : l.head? = some t) {w1 : World} (h : Ow Qu w Q P b s kk l bx w1) :
    Calls Tryz.prog 15 #[.pointer (some ⟨Q, 0, none⟩)] w1 fun e w2 => e = .returned (.tuple #[.agg #[.int .u64 t.a, .int .u64 t.s, .int .i64 t.p], .bool true]) ∧ Bel w1 w2 := by
  obtain ⟨⟨f, h1, _⟩, _⟩ := h
  have k := C.min w1 h1
  rw [e] at k
  exact k
theorem ow_get {t : T} {k : Int} (e : fnd l k = some t) {w1 : World} (h : Ow Qu w Q P b s kk l bx w1) :
    Calls Tryz.prog 13 #[.pointer (some ⟨Q, 0, none⟩), .int .i64 k] w1 fun e w2 => e = .returned (.tuple #[.agg #[.int .u64 t.a, .int .u64 t.s, .int .i64 t.p], .bool true]) ∧ Bel w1 w2 := by
  obtain ⟨⟨f, h1, _⟩, _⟩ := h
  have k := C.get k w1 h1
  rw [e] at k
  exact k
theorem ow_len {n : Nat} (e : l.length = n) {w1 : World} (h : Ow Qu w Q P b s kk l bx w1) :
    Calls Tryz.prog 12 #[.pointer (some ⟨Q, 0, none⟩)] w1 fun e w2 => e = .returned (.int .i64 n) ∧ Bel w1 w2 := by
  subst e
  obtain ⟨⟨f, h1, _⟩, _⟩ := h
  exact C.count w1 h1
theorem ow_base {w1 : World} (h : Ow Qu w Q P b s kk l bx w1) :
    Calls Tryz.prog 10 #[.pointer (some ⟨Q, 0, none⟩)] w1 fun e w2 => e = .returned (.int .u64 s) ∧ Bel w1 w2 := by
  obtain ⟨⟨f, h1, _⟩, _⟩ := h
  exact C.based w1 h1
theorem ow_looked {w1 : World} (h : Ow Qu w Q P b s kk l bx w1) :
    Calls Tryz.prog 11 #[.pointer (some ⟨Q, 0, none⟩)] w1 fun e w2 => e = .returned (.int .i64 kk) ∧ Bel w1 w2 := by
  obtain ⟨⟨f, h1, _⟩, _⟩ := h
  exact C.looked w1 h1
theorem ow_new {w1 : World} {f : Nat → Prop} (h1 : Qu f w1 Q P b s kk l) (hf : ∀ k, f k → w.heap.size ≤ k) (b1 : Bel w w1) : Ow Qu w Q P b s kk l [] w1 :=
  ⟨⟨f, h1, hf, fun x hx => by simp at hx⟩, b1, fun x hx => by simp at hx⟩
end
theorem has_row {w : World} {b : Nat} {l : List T} {cs : Array Value} (h : w.heap[b]? = some (.cells cs 37 (0, 0))) (e : cs = (encs l).toArray) : Has w (some ⟨b, 0, none⟩) l := by
  by_cases h0 : l = []
  · exact .inl h0
  refine .inr ⟨b, 0, rfl, fun i hi => ?_⟩
  have hg := encs_get l i hi
  have c : ∀ j, w.cell? ⟨b, j, none⟩ = (encs l)[j]? := fun j => by rw [cell_of_row w b _ _ 37 (0, 0) h, e, List.getElem?_toArray]
  rw [Nat.zero_add, c, c, c]
  exact hg
theorem same_yes (p q : Option Addr) (c d : Nat) (l : List T) (w : World) (hm : l.length ≤ 5000) (h1 : Has w p l) (h2 : Has w q l) :
    Calls Tryz.prog 17 #[.slice p l.length c, .slice q l.length d] w fun e w' => e = .returned (.bool true) ∧ Bel w w' := by
  have K := same_any p q l.length c d l l w rfl rfl hm h1 h2
  rw [decide_eq_true rfl] at K
  exact K
theorem new3 (w : World) (a b c : Array Value) (ta tb tc : TypeId) : ∃ W, ((w.alloc (.cells a ta)).alloc (.cells b tb)).alloc (.cells c tc) = W ∧ Bel w W ∧ W.heap.size = w.heap.size + 1 + 1 + 1 ∧ W.heap[w.heap.size]? = some (.cells a ta (0, 0)) ∧ W.heap[w.heap.size + 1]? = some (.cells b tb (0, 0)) ∧ W.heap[w.heap.size + 1 + 1]? = some (.cells c tc (0, 0)) := three_new w a b c ta tb tc
end Go.Proofs.YtllohpojajijjaaGreatDoor
