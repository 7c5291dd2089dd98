/-
  Contract of the law's do: what an act does to a queue, and what it tells.
-/
import Derived.Test.YtdlfppdekllloaaAkt
import Derived.Test.YtdlfppdekllloaaPdue
set_option linter.unusedVariables false
set_option linter.unusedSimpArgs false
namespace Go.Proofs.Ytdlfppdekllloaa
open Go.RowKit
/-- Behind an act: the queue, and what was told. -/
structure DidQ (f : Nat → Prop) (w w' : World) (Q P : Nat) (l : List T) (p : Option Addr) (d : List T) : Prop where
  intro ::
  ex : ∃ f', (∀ j, f' j → f j ∨ (w.heap.size ≤ j ∧ j < w'.heap.size)) ∧ Qu f' w' Q P l ∧ Lies f' w' p (encs d)
  off : Off f w w'
theorem DidQ.mk' {f f' : Nat → Prop} {w W w1 w2 : World} {Q P b1 : Nat} {l : List T} {p : Option Addr} {d : List T} (hB : Bel w W) (ho : Off f W w1) (hff : ∀ j, f' j → f j ∨ (W.heap.size ≤ j ∧ j < w1.heap.size)) (hq : Qu f' w1 Q P l) (hb : w.heap.size ≤ b1 ∧ b1 < W.heap.size) (hlt : ∀ k, f k → k < w.heap.size)
    (hd : d = [] ∨ f' = f ∧ Lies (old W) w1 p (encs d)) (o5 : Off (fun k => k = b1) w1 w2) : DidQ f w w2 Q P l p d := by
  have nb : ∀ i, f' i → ¬ i = b1 := fun i e e2 => by
    rcases hff i e with h | h
    · have := hlt i h; omega
    · omega
  refine ⟨⟨f', fun j e => ?_, hq.off o5 nb, ?_⟩, Off.trans ((hB.off f).then ho) o5 (fun i e => .inr (by have : i = b1 := e; omega))⟩
  · rcases hff j e with h | h
    · exact .inl h
    · exact .inr ⟨Nat.le_trans hB.size h.1, Nat.lt_of_lt_of_le h.2 o5.size⟩
  · rcases hd with rfl | ⟨rfl, h⟩
    · exact .inl rfl
    · exact (h.off (o5.mono (g := old W) (fun i _ e => by unfold old; have : i = b1 := e; omega)) (fun i e => e)).mono (fun b _ e => Nat.lt_of_lt_of_le (hlt b e) hB.size)
theorem DidQ.mk {f f' : Nat → Prop} {w W w1 : World} {Q P b1 : Nat} {l : List T} {p : Option Addr} {d : List T} {x0 x1 x2 x3 x4 : Value} (hB : Bel w W) (ho : Off f W w1) (hff : ∀ j, f' j → f j ∨ (W.heap.size ≤ j ∧ j < w1.heap.size)) (hq : Qu f' w1 Q P l) (hb : w.heap.size ≤ b1 ∧ b1 < W.heap.size) (hlt : ∀ k, f k → k < w.heap.size)
    (hd : d = [] ∨ f' = f ∧ Lies (old W) w1 p (encs d)) : DidQ f w (sto5 w1 b1 x0 x1 x2 x3 x4) Q P l p d := DidQ.mk' hB ho hff hq hb hlt hd (offs5 _ _ _ _ _ _ _)
set_option maxHeartbeats 1000000 in
theorem do0 (f : Nat → Prop) (Q P : Nat) (l : List T) (t : T) (now : Int) (w : World) (h : Qu f w Q P l) :
    Calls Try.prog 13 #[.pointer (some ⟨Q, 0, none⟩), akV 0 t now] w fun e w' => ∃ p c, e = .returned (tdV (insE P l t) default p 0 c) ∧ DidQ f w w' Q P (insL P l t) p [] := by
  have H2 := Lib.hid (two_new w #[.int .i64 0, .int .u64 t.a, .int .u64 t.s, .int .i64 t.p, .int .u64 now] #[.int .i64 0, .int .u64 0, .int .u64 0, .int .i64 0, .slice none 0 0] 41 37)
  have HLT := Lib.hid h.lt_
  have H := Lib.hid h
  have K := Lib.hid (fun w' (h : Qu f w' Q P l) => insert_any f Q P l t w' h)
  clear h
  unfold akV tdV
  generalize insE P l t = er at *
  simp only [default]
  go_enter Try.func13, Try.ntmps13
  go_upto_region 1 with (fail)
  obtain ⟨W, eW, hB, hz, n0, n1⟩ := H2.out
  rw [eW]
  clear H2 eW
  obtain ⟨b1, e1⟩ : ∃ b, w.heap.size + 1 = b := ⟨_, rfl⟩
  rw [e1] at n1 hz ⊢
  obtain ⟨⟨x0, x1, x2, x3, x4⟩, _⟩ := box5 n0
  have HB := Lib.hid hB
  have HN1 := Lib.hid n1
  have l1 : b1 < W.heap.size := by omega
  clear hB n0 n1
  go_wp2_with fail
  with_reducible refine (K.out _ (H.out.bel HB.out)).mono ?_
  rintro e w1 ⟨rfl, f', hff, hq, ho⟩
  have n2 : w1.heap[b1]? = some (.cells #[.int .i64 0, .int .u64 0, .int .u64 0, .int .i64 0, .slice none 0 0] 37 (0, 0)) := (ho.block _ l1 (fun e => by have := HLT.out _ e; omega)).trans HN1.out
  obtain ⟨⟨y0, y1, y2, y3, y4⟩, g0, g1, g2, g3, g4⟩ := box5 n2
  have HE : Hid (DidQ f w (((((w1.setCell ⟨b1, 0, none⟩ (.int .i64 er)).setCell ⟨b1, 1, none⟩ (.int .u64 0)).setCell ⟨b1, 2, none⟩ (.int .u64 0)).setCell ⟨b1, 3, none⟩ (.int .i64 0)).setCell ⟨b1, 4, none⟩ (.slice none 0 0)) Q P (insL P l t) none []) := Lib.hid (DidQ.mk HB.out ho hff hq ⟨by omega, by omega⟩ HLT.out (.inl rfl))
  clear hq ho n2
  go_wp2
  exact bodyPost_ret (v := .agg #[.int .i64 er, .int .u64 0, .int .u64 0, .int .i64 0, .slice none 0 0]) (by simp [results, Try.results13, go_sem, y0, y1, y2, y3, y4]) rfl ⟨none, 0, rfl, HE.out⟩
set_option maxHeartbeats 1000000 in
theorem do2 (f : Nat → Prop) (Q P : Nat) (l : List T) (t : T) (now : Int) (w : World) (h : Qu f w Q P l) :
    Calls Try.prog 13 #[.pointer (some ⟨Q, 0, none⟩), akV 2 t now] w fun e w' => ∃ p c, e = .returned (tdV (canE P l t.p) default p 0 c) ∧ DidQ f w w' Q P (movL P l t) p [] := by
  have H2 := Lib.hid (two_new w #[.int .i64 2, .int .u64 t.a, .int .u64 t.s, .int .i64 t.p, .int .u64 now] #[.int .i64 0, .int .u64 0, .int .u64 0, .int .i64 0, .slice none 0 0] 41 37)
  have HLT := Lib.hid h.lt_
  have H := Lib.hid h
  have K := Lib.hid (fun w' (h : Qu f w' Q P l) => move_any f Q P l t w' h)
  clear h
  unfold akV tdV
  generalize canE P l t.p = er at *
  simp only [default]
  go_enter Try.func13, Try.ntmps13
  go_upto_region 1 with (fail)
  obtain ⟨W, eW, hB, hz, n0, n1⟩ := H2.out
  rw [eW]
  clear H2 eW
  obtain ⟨b1, e1⟩ : ∃ b, w.heap.size + 1 = b := ⟨_, rfl⟩
  rw [e1] at n1 hz ⊢
  obtain ⟨⟨x0, x1, x2, x3, x4⟩, _⟩ := box5 n0
  have HB := Lib.hid hB
  have HN1 := Lib.hid n1
  have l1 : b1 < W.heap.size := by omega
  clear hB n0 n1
  go_wp2_with fail
  with_reducible refine (K.out _ (H.out.bel HB.out)).mono ?_
  rintro e w1 ⟨rfl, f', hff, hq, ho⟩
  have n2 : w1.heap[b1]? = some (.cells #[.int .i64 0, .int .u64 0, .int .u64 0, .int .i64 0, .slice none 0 0] 37 (0, 0)) := (ho.block _ l1 (fun e => by have := HLT.out _ e; omega)).trans HN1.out
  obtain ⟨⟨y0, y1, y2, y3, y4⟩, g0, g1, g2, g3, g4⟩ := box5 n2
  have HE : Hid (DidQ f w (((((w1.setCell ⟨b1, 0, none⟩ (.int .i64 er)).setCell ⟨b1, 1, none⟩ (.int .u64 0)).setCell ⟨b1, 2, none⟩ (.int .u64 0)).setCell ⟨b1, 3, none⟩ (.int .i64 0)).setCell ⟨b1, 4, none⟩ (.slice none 0 0)) Q P (movL P l t) none []) := Lib.hid (DidQ.mk HB.out ho hff hq ⟨by omega, by omega⟩ HLT.out (.inl rfl))
  clear hq ho n2
  go_wp2
  exact bodyPost_ret (v := .agg #[.int .i64 er, .int .u64 0, .int .u64 0, .int .i64 0, .slice none 0 0]) (by simp [results, Try.results13, go_sem, y0, y1, y2, y3, y4]) rfl ⟨none, 0, rfl, HE.out⟩
set_option maxHeartbeats 1000000 in
theorem do1 (f : Nat → Prop) (Q P : Nat) (l : List T) (t : T) (now : Int) (w : World) (h : Qu f w Q P l) :
    Calls Try.prog 13 #[.pointer (some ⟨Q, 0, none⟩), akV 1 t now] w fun e w' => ∃ p c, e = .returned (tdV (canE P l t.p) ((fnd l t.p).getD default) p 0 c) ∧ DidQ f w w' Q P (wo l t.p) p [] := by
  have H2 := Lib.hid (two_new w #[.int .i64 1, .int .u64 t.a, .int .u64 t.s, .int .i64 t.p, .int .u64 now] #[.int .i64 0, .int .u64 0, .int .u64 0, .int .i64 0, .slice none 0 0] 41 37)
  have HLT := Lib.hid h.lt_
  have H := Lib.hid h
  have K := Lib.hid (fun w' (h : Qu f w' Q P l) => cancel_any f Q P l t.p w' h)
  clear h
  unfold akV tdV
  unfold canV at K
  generalize canE P l t.p = er at *
  generalize ((fnd l t.p).getD default).a = ta at *
  generalize ((fnd l t.p).getD default).s = ts at *
  generalize ((fnd l t.p).getD default).p = tp at *
  go_enter Try.func13, Try.ntmps13
  go_upto_region 1 with (fail)
  obtain ⟨W, eW, hB, hz, n0, n1⟩ := H2.out
  rw [eW]
  clear H2 eW
  obtain ⟨b1, e1⟩ : ∃ b, w.heap.size + 1 = b := ⟨_, rfl⟩
  rw [e1] at n1 hz ⊢
  obtain ⟨⟨x0, x1, x2, x3, x4⟩, _⟩ := box5 n0
  have HB := Lib.hid hB
  have HN1 := Lib.hid n1
  have l1 : b1 < W.heap.size := by omega
  clear hB n0 n1
  go_wp2_with fail
  with_reducible refine (K.out _ (H.out.bel HB.out)).mono ?_
  rintro e w1 ⟨rfl, hq, ho⟩
  have n2 : w1.heap[b1]? = some (.cells #[.int .i64 0, .int .u64 0, .int .u64 0, .int .i64 0, .slice none 0 0] 37 (0, 0)) := (ho.block _ l1 (fun e => by have := HLT.out _ e; omega)).trans HN1.out
  have HB3 : Hid (Bel w1 (w1.alloc (.cells #[.int .u64 ta, .int .u64 ts, .int .i64 tp] 35))) := Lib.hid ((Bel.refl _).alloc _ _)
  have HM : Hid ((w1.alloc (.cells #[.int .u64 ta, .int .u64 ts, .int .i64 tp] 35)).heap[w1.heap.size]? = some (.cells #[.int .u64 ta, .int .u64 ts, .int .i64 tp] 35 (0, 0))) := Lib.hid (heap_alloc_new _ _)
  have HQ3 := Lib.hid (hq.bel HB3.out)
  have HO3 : Hid (Off f W (w1.alloc (.cells #[.int .u64 ta, .int .u64 ts, .int .i64 tp] 35))) := Lib.hid (ho.thenB HB3.out)
  have HN3 := Lib.hid (HB3.out.heap n2)
  clear hq ho n2
  go_upto_region 6 with (fail)
  generalize w1.alloc (.cells #[.int .u64 ta, .int .u64 ts, .int .i64 tp] 35) = W3 at *
  obtain ⟨⟨m0, m1, m2⟩, _⟩ := box3 HM.out
  obtain ⟨⟨y0, y1, y2, y3, y4⟩, g0, g1, g2, g3, g4⟩ := box5 HN3.out
  have HE : Hid (DidQ f w (((((W3.setCell ⟨b1, 0, none⟩ (.int .i64 er)).setCell ⟨b1, 1, none⟩ (.int .u64 ta)).setCell ⟨b1, 2, none⟩ (.int .u64 ts)).setCell ⟨b1, 3, none⟩ (.int .i64 tp)).setCell ⟨b1, 4, none⟩ (.slice none 0 0)) Q P (wo l t.p) none []) := Lib.hid (DidQ.mk HB.out HO3.out (fun j e => .inl e) HQ3.out ⟨by omega, by omega⟩ HLT.out (.inl rfl))
  go_wp2
  exact bodyPost_ret (v := .agg #[.int .i64 er, .int .u64 ta, .int .u64 ts, .int .i64 tp, .slice none 0 0]) (by simp [results, Try.results13, go_sem, y0, y1, y2, y3, y4]) rfl ⟨none, 0, rfl, HE.out⟩
set_option maxHeartbeats 1000000 in
theorem do3 (f : Nat → Prop) (Q P : Nat) (l : List T) (t : T) (now : Int) (w : World) (h : Qu f w Q P l) :
    Calls Try.prog 13 #[.pointer (some ⟨Q, 0, none⟩), akV 3 t now] w fun e w' => ∃ p c, e = .returned (tdV 0 default p (due l now true).length c) ∧ DidQ f w w' Q P (due l now false) p (due l now true) := by
  have H2 := Lib.hid (two_new w #[.int .i64 3, .int .u64 t.a, .int .u64 t.s, .int .i64 t.p, .int .u64 now] #[.int .i64 0, .int .u64 0, .int .u64 0, .int .i64 0, .slice none 0 0] 41 37)
  have HLT := Lib.hid h.lt_
  have H := Lib.hid h
  have K := Lib.hid (fun w' (h : Qu f w' Q P l) => due_any f Q P l now w' h)
  clear h
  unfold akV tdV
  simp only [default]
  go_enter Try.func13, Try.ntmps13
  go_upto_region 1 with (fail)
  obtain ⟨W, eW, hB, hz, n0, n1⟩ := H2.out
  rw [eW]
  clear H2 eW
  obtain ⟨b1, e1⟩ : ∃ b, w.heap.size + 1 = b := ⟨_, rfl⟩
  rw [e1] at n1 hz ⊢
  obtain ⟨⟨x0, x1, x2, x3, x4⟩, _⟩ := box5 n0
  have HB := Lib.hid hB
  have HN1 := Lib.hid n1
  have l1 : b1 < W.heap.size := by omega
  clear hB n0 n1
  go_wp2_with fail
  with_reducible refine (K.out _ (H.out.bel HB.out)).mono ?_
  rintro e w1 ⟨⟨p, c, rfl, hc, hl⟩, hq, ho⟩
  have n2 : w1.heap[b1]? = some (.cells #[.int .i64 0, .int .u64 0, .int .u64 0, .int .i64 0, .slice none 0 0] 37 (0, 0)) := (ho.block _ l1 (fun e => by have := HLT.out _ e; omega)).trans HN1.out
  obtain ⟨⟨y0, y1, y2, y3, y4⟩, g0, g1, g2, g3, g4⟩ := box5 n2
  have HE : Hid (DidQ f w (((((w1.setCell ⟨b1, 0, none⟩ (.int .i64 0)).setCell ⟨b1, 1, none⟩ (.int .u64 0)).setCell ⟨b1, 2, none⟩ (.int .u64 0)).setCell ⟨b1, 3, none⟩ (.int .i64 0)).setCell ⟨b1, 4, none⟩ (.slice p (due l now true).length c)) Q P (due l now false) p (due l now true)) := Lib.hid (DidQ.mk HB.out ho (fun j e => .inl e) hq ⟨by omega, by omega⟩ HLT.out (.inr ⟨rfl, hl⟩))
  clear hq ho n2 hl
  go_wp2
  exact bodyPost_ret (v := .agg #[.int .i64 0, .int .u64 0, .int .u64 0, .int .i64 0, .slice p (due l now true).length c]) (by simp [results, Try.results13, go_sem, y0, y1, y2, y3, y4]) rfl ⟨p, c, rfl, HE.out⟩
set_option maxHeartbeats 1000000 in
theorem do9 (f : Nat → Prop) (Q P : Nat) (l : List T) (k : Int) (t : T) (now : Int) (w : World) (h : Qu f w Q P l) (h0 : ¬ k = 0) (h1 : ¬ k = 1) (h2 : ¬ k = 2) (h3 : ¬ k = 3) :
    Calls Try.prog 13 #[.pointer (some ⟨Q, 0, none⟩), akV k t now] w fun e w' => ∃ p c, e = .returned (tdV 0 default p 0 c) ∧ DidQ f w w' Q P l p [] := by
  have H2 := Lib.hid (two_new w #[.int .i64 k, .int .u64 t.a, .int .u64 t.s, .int .i64 t.p, .int .u64 now] #[.int .i64 0, .int .u64 0, .int .u64 0, .int .i64 0, .slice none 0 0] 41 37)
  have HLT := Lib.hid h.lt_
  have H := Lib.hid h
  have k0 : (k == 0) = false := by simpa using h0
  have k1 : (k == 1) = false := by simpa using h1
  have k2 : (k == 2) = false := by simpa using h2
  have k3 : (k == 3) = false := by simpa using h3
  clear h h0 h1 h2 h3
  unfold akV tdV
  simp only [default]
  go_enter Try.func13, Try.ntmps13
  go_upto_region 1 with (fail)
  obtain ⟨W, eW, hB, hz, n0, n1⟩ := H2.out
  rw [eW]
  clear H2 eW
  obtain ⟨b1, e1⟩ : ∃ b, w.heap.size + 1 = b := ⟨_, rfl⟩
  rw [e1] at n1 hz ⊢
  obtain ⟨⟨x0, x1, x2, x3, x4⟩, _⟩ := box5 n0
  have HB := Lib.hid hB
  have HN1 := Lib.hid n1
  have l1 : b1 < W.heap.size := by omega
  clear hB n0 n1
  obtain ⟨⟨y0, y1, y2, y3, y4⟩, g0, g1, g2, g3, g4⟩ := box5 HN1.out
  have HE : Hid (DidQ f w (((((W.setCell ⟨b1, 0, none⟩ (.int .i64 0)).setCell ⟨b1, 1, none⟩ (.int .u64 0)).setCell ⟨b1, 2, none⟩ (.int .u64 0)).setCell ⟨b1, 3, none⟩ (.int .i64 0)).setCell ⟨b1, 4, none⟩ (.slice none 0 0)) Q P l none []) := Lib.hid (DidQ.mk HB.out (Off.refl _ _) (fun j e => .inl e) (H.out.bel HB.out) ⟨by omega, by omega⟩ HLT.out (.inl rfl))
  go_wp2
  exact bodyPost_ret (v := .agg #[.int .i64 0, .int .u64 0, .int .u64 0, .int .i64 0, .slice none 0 0]) (by simp [results, Try.results13, go_sem, y0, y1, y2, y3, y4]) rfl ⟨none, 0, rfl, HE.out⟩
theorem do_any (f : Nat → Prop) (Q P : Nat) (l : List T) (a : Ak) (w : World) (h : Qu f w Q P l) :
    Calls Try.prog 13 #[.pointer (some ⟨Q, 0, none⟩), akV a.k a.t a.now] w fun e w' => ∃ p c, e = .returned (tdV (stE P l a) (stT l a) p (stD l a).length c) ∧ DidQ f w w' Q P (stL P l a) p (stD l a) := by
  obtain ⟨k, t, now⟩ := a
  by_cases h0 : k = 0
  · subst h0; exact do0 f Q P l t now w h
  · by_cases h1 : k = 1
    · subst h1; exact do1 f Q P l t now w h
    · by_cases h2 : k = 2
      · subst h2; exact do2 f Q P l t now w h
      · by_cases h3 : k = 3
        · subst h3; exact do3 f Q P l t now w h
        · have e1 : stE P l ⟨k, t, now⟩ = 0 := by unfold stE; simp [h0, h1, h2]
          have e2 : stT l ⟨k, t, now⟩ = default := by unfold stT; simp [h1]
          have e3 : stD l ⟨k, t, now⟩ = [] := by unfold stD; simp [h3]
          have e4 : stL P l ⟨k, t, now⟩ = l := by unfold stL; simp [h0, h1, h2, h3]
          rw [e1, e2, e3, e4]
          exact do9 f Q P l k t now w h h0 h1 h2 h3
end Go.Proofs.Ytdlfppdekllloaa
