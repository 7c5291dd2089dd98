/-
  Contract of the law's works: a few timers, in and out.
-/
import Derived.Test.YtaabalkfpjeheaaHdue
import Derived.Test.YtaabalkfpjeheaaHnew
import Derived.Test.YtaabalkfpjeheaaSame
import Derived.Deep.Cut
namespace Go.Proofs.Ytaabalkfpjeheaa
open Go.RowKit
abbrev xa : T := ⟨5, 2, 0⟩
abbrev xb : T := ⟨3, 1, 1⟩
abbrev xc : T := ⟨5, 1, 2⟩
abbrev xe : T := ⟨1, 0, 0⟩
abbrev xz : T := ⟨0, 0, 0⟩
/-- A timer's box. -/
abbrev tb (t : T) : Obj := .cells #[.int .u64 t.a, .int .u64 t.s, .int .i64 t.p] 25
/-- What holds on the way: the queue, and blocks outside it. -/
structure Wk (w : World) (Q : Nat) (l : List T) (bx : List (Nat × Obj)) (wx : World) : Prop where
  ex : ∃ f, Qu f wx Q 4 l ∧ (∀ k, f k → w.heap.size ≤ k) ∧ ∀ x ∈ bx, ¬ f x.1
  bel : Bel w wx
  at_ : ∀ x ∈ bx, wx.heap[x.1]? = some x.2
theorem Wk.le {w : World} {Q : Nat} {l : List T} {bx : List (Nat × Obj)} {w1 w2 : World} (h : Wk w Q l bx w1) (k : Bel w1 w2) : Wk w Q l bx w2 := by
  obtain ⟨⟨f, h1, h2, h3⟩, h4, h5⟩ := h
  exact ⟨⟨f, h1.bel k, h2, h3⟩, h4.trans k, fun x hx => k.heap (h5 x hx)⟩
theorem Wk.step {w : World} {Q : Nat} {l' : List T} {bx : List (Nat × Obj)} {w1 w2 : World} {f f' : Nat → Prop} (h2 : ∀ k, f k → w.heap.size ≤ k) (h3 : ∀ x ∈ bx, ¬ f x.1) (h4 : Bel w w1) (h5 : ∀ x ∈ bx, w1.heap[x.1]? = some x.2)
    (hf : ∀ j, f' j → f j ∨ (w1.heap.size ≤ j ∧ j < w2.heap.size)) (hq : Qu f' w2 Q 4 l') (k : Off f w1 w2) : Wk w Q l' bx w2 := by
  refine ⟨⟨f', hq, fun j e => ?_, fun x hx e => ?_⟩, Off.trans h4 k (fun i e => .inr (h2 i e)), fun x hx => (k.block _ (Array.getElem?_eq_some_iff.1 (h5 x hx)).1 (h3 x hx)).trans (h5 x hx)⟩
  · rcases hf j e with e | e
    · exact h2 j e
    · exact Nat.le_trans h4.size e.1
  · rcases hf _ e with e | e
    · exact h3 x hx e
    · have := (Array.getElem?_eq_some_iff.1 (h5 x hx)).1
      omega
theorem Wk.box {w : World} {Q : Nat} {l : List T} {bx : List (Nat × Obj)} {w1 : World} (h : Wk w Q l bx w1) (c : Array Value) (t : TypeId) : Wk w Q l ((w1.heap.size, .cells c t) :: bx) (w1.alloc (.cells c t)) := by
  have k := h.le ((Bel.refl w1).alloc c t)
  obtain ⟨f, h1, _⟩ := h.ex
  obtain ⟨⟨g, g1, g2, g3⟩, g4, g5⟩ := k
  obtain ⟨⟨f, f1, f2, f3⟩, _, _⟩ := h
  refine ⟨⟨f, f1.bel ((Bel.refl w1).alloc c t), f2, fun x hx => ?_⟩, g4, fun x hx => ?_⟩
  · rcases List.mem_cons.1 hx with rfl | hx
    · exact fun e => Nat.lt_irrefl _ (f1.lt_ _ e)
    · exact f3 x hx
  · rcases List.mem_cons.1 hx with rfl | hx
    · exact heap_alloc_new _ _
    · exact g5 x hx
theorem Wk.c3 {w : World} {Q : Nat} {l : List T} {bx : List (Nat × Obj)} {w1 : World} (h : Wk w Q l bx w1) {b : Nat} {x y z : Value} {ty : TypeId} (hm : (b, .cells #[x, y, z] ty) ∈ bx) : w1.cell? ⟨b, 0, none⟩ = some x ∧ w1.cell? ⟨b, 1, none⟩ = some y ∧ w1.cell? ⟨b, 2, none⟩ = some z := (box3 (h.at_ _ hm)).1
theorem has_row {w : World} {b : Nat} {l : List T} {cs : Array Value} (h : w.heap[b]? = some (.cells cs 25 (0, 0))) (e : cs = (encs l).toArray) : Has w (some ⟨b, 0, none⟩) l := by
  by_cases h0 : l = []
  · exact .inl h0
  refine .inr ⟨b, 0, rfl, fun i hi => ?_⟩
  have hg := encs_get l i hi
  have c : ∀ j, w.cell? ⟨b, j, none⟩ = (encs l)[j]? := fun j => by rw [cell_of_row w b _ _ 25 (0, 0) h, e, List.getElem?_toArray]
  rw [Nat.zero_add, c, c, c]
  exact hg
section
variable {w : World} {Q : Nat} {bx : List (Nat × Obj)}
theorem wk_insert {l l' : List T} {t : T} {er : Int} (e1 : insE 4 l t = er) (e2 : insL 4 l t = l') {w1 : World} (h : Wk w Q l bx w1) :
    Calls Try.prog 22 #[.pointer (some ⟨Q, 0, none⟩), .agg #[.int .u64 t.a, .int .u64 t.s, .int .i64 t.p]] w1 fun e w2 => e = .returned (.int .i64 er) ∧ Wk w Q l' bx w2 := by
  subst e1 e2
  obtain ⟨⟨f, h1, h2, h3⟩, h4, h5⟩ := h
  exact (insert_any f Q 4 l t w1 h1).mono fun e w2 ⟨he, f', hf, hq, ho⟩ => ⟨he, Wk.step h2 h3 h4 h5 hf hq ho⟩
theorem wk_move {l l' : List T} {t : T} {er : Int} (e1 : canE 4 l t.p = er) (e2 : movL 4 l t = l') {w1 : World} (h : Wk w Q l bx w1) :
    Calls Try.prog 25 #[.pointer (some ⟨Q, 0, none⟩), .agg #[.int .u64 t.a, .int .u64 t.s, .int .i64 t.p]] w1 fun e w2 => e = .returned (.int .i64 er) ∧ Wk w Q l' bx w2 := by
  subst e1 e2
  obtain ⟨⟨f, h1, h2, h3⟩, h4, h5⟩ := h
  exact (move_any f Q 4 l t w1 h1).mono fun e w2 ⟨he, hq, ho⟩ => ⟨he, Wk.step h2 h3 h4 h5 (fun j e => .inl e) hq ho⟩
theorem wk_cancel {l l' : List T} {k er : Int} {t : T} (e1 : canE 4 l k = er) (e2 : wo l k = l') (e3 : (fnd l k).getD default = t) {w1 : World} (h : Wk w Q l bx w1) :
    Calls Try.prog 23 #[.pointer (some ⟨Q, 0, none⟩), .int .i64 k] w1 fun e w2 => e = .returned (canV t er) ∧ Wk w Q l' bx w2 := by
  subst e1 e2 e3
  obtain ⟨⟨f, h1, h2, h3⟩, h4, h5⟩ := h
  exact (cancel_any f Q 4 l k w1 h1).mono fun e w2 ⟨he, hq, ho⟩ => ⟨he, Wk.step h2 h3 h4 h5 (fun j e => .inl e) hq ho⟩
theorem wk_due {l l' d : List T} {now : Int} (e1 : due l now true = d) (e2 : due l now false = l') {w1 : World} (h : Wk w Q l bx w1) :
    Calls Try.prog 27 #[.pointer (some ⟨Q, 0, none⟩), .int .u64 now] w1 fun e w2 => ∃ p c, e = .returned (.slice p d.length c) ∧ Has w2 p d ∧ Wk w Q l' bx w2 := by
  subst e1 e2
  obtain ⟨⟨f, h1, h2, h3⟩, h4, h5⟩ := h
  exact (due_any f Q 4 l now w1 h1).mono fun e w2 ⟨⟨p, c, he, _, hl⟩, hq, ho⟩ => ⟨p, c, he, hl.has, Wk.step h2 h3 h4 h5 (fun j e => .inl e) hq ho⟩
theorem wk_all {l : List T} {w1 : World} (h : Wk w Q l bx w1) :
    Calls Try.prog 19 #[.pointer (some ⟨Q, 0, none⟩)] w1 fun e w2 => ∃ p c, e = .returned (.slice p l.length c) ∧ Has w2 p l ∧ Bel w1 w2 := by
  obtain ⟨⟨f, h1, _⟩, _⟩ := h
  exact (all_any f Q 4 l w1 h1).mono fun e w2 ⟨⟨p, c, he, _, hl⟩, hb⟩ => ⟨p, c, he, hl.has, hb⟩
theorem wk_min {l : List T} {t : T} (e : l.head? = some t) {w1 : World} (h : Wk w Q l bx w1) :
    Calls Try.prog 16 #[.pointer (some ⟨Q, 0, none⟩)] w1 fun e w2 => e = .returned (.tuple #[.agg #[.int .u64 t.a, .int .u64 t.s, .int .i64 t.p], .bool true]) ∧ Bel w1 w2 := by
  obtain ⟨⟨f, h1, _⟩, _⟩ := h
  have k := min_any f Q 4 l w1 h1
  rw [e] at k
  exact k
theorem wk_get {l : List T} {k : Int} (e : fnd l k = none) {w1 : World} (h : Wk w Q l bx w1) :
    Calls Try.prog 14 #[.pointer (some ⟨Q, 0, none⟩), .int .i64 k] w1 fun e w2 => e = .returned (.tuple #[.agg #[.int .u64 0, .int .u64 0, .int .i64 0], .bool false]) ∧ Bel w1 w2 := by
  obtain ⟨⟨f, h1, _⟩, _⟩ := h
  have k := get_any f Q 4 l k w1 h1
  rw [e] at k
  exact k
theorem wk_len {l : List T} {n : Nat} (e : l.length = n) {w1 : World} (h : Wk w Q l bx w1) :
    Calls Try.prog 20 #[.pointer (some ⟨Q, 0, none⟩)] w1 fun e w2 => e = .returned (.int .i64 n) ∧ w1 = w2 := by
  obtain ⟨⟨f, h1, _⟩, _⟩ := h
  have k := len_any f Q 4 l w1 h1
  rw [e] at k
  exact k
end
theorem same_yes (p q : Option Addr) (c d : Nat) (l : List T) (w : World) (hm : l.length ≤ 5000) (h1 : Has w p l) (h2 : Has w q l) :
    Calls Try.prog 18 #[.slice p l.length c, .slice q l.length d] w fun e w' => e = .returned (.bool true) ∧ Bel w w' := by
  have K := same_any p q l.length c d l l w rfl rfl hm h1 h2
  rw [decide_eq_true rfl] at K
  exact K
theorem new3 (w : World) (a b c : Array Value) (ta tb tc : TypeId) : ∃ W, ((w.alloc (.cells a ta)).alloc (.cells b tb)).alloc (.cells c tc) = W ∧ Bel w W ∧ W.heap.size = w.heap.size + 1 + 1 + 1 ∧ W.heap[w.heap.size]? = some (.cells a ta (0, 0)) ∧ W.heap[w.heap.size + 1]? = some (.cells b tb (0, 0)) ∧ W.heap[w.heap.size + 1 + 1]? = some (.cells c tc (0, 0)) := by
  refine ⟨_, rfl, (((Bel.refl w).alloc _ _).alloc _ _).alloc _ _, by simp, ?_, ?_, ?_⟩
  · rw [Below.heap_alloc _ _ _ (by simp; omega), Below.heap_alloc _ _ _ (by simp), heap_alloc_new]
  · rw [Below.heap_alloc _ _ _ (by simp)]
    have := heap_alloc_new (w.alloc (.cells a ta)) (.cells b tb)
    simpa using this
  · have := heap_alloc_new ((w.alloc (.cells a ta)).alloc (.cells b tb)) (.cells c tc)
    simpa using this
set_option maxHeartbeats 8000000 in
set_option maxRecDepth 100000 in
theorem works_any (w : World) : Calls Try.prog 8 #[] w fun e w' => e = .returned (.bool true) ∧ Bel w w' := by
  have K0 := Lib.hid (qnew_yes 4 w (by omega))
  have e3 : ((4 : Nat) : Int) = 4 := rfl
  rw [e3] at K0
  clear e3
  go_enter Try.func8, Try.ntmps8
  go_wp2_with fail
  with_reducible refine K0.out.mono ?_
  rintro e w1 ⟨Q, f, rfl, hq, hf, hb⟩
  have H3 := Lib.hid (new3 w1 #[.int .u64 5, .int .u64 2, .int .i64 0] #[.int .u64 3, .int .u64 1, .int .i64 1] #[.int .u64 5, .int .u64 1, .int .i64 2] 25 25 25)
  have HQ := Lib.hid hq
  have HF := Lib.hid hf
  have HB := Lib.hid hb
  clear hq hf hb K0
  go_upto_region 5 with (fail)
  obtain ⟨W, eW, hB, hz, n3, n4, n5⟩ := H3.out
  rw [eW]
  clear eW H3
  obtain ⟨b4, e4⟩ : ∃ b, w1.heap.size + 1 = b := ⟨_, rfl⟩
  rw [e4] at n4 n5 hz ⊢
  obtain ⟨b5, e5⟩ : ∃ b, b4 + 1 = b := ⟨_, rfl⟩
  rw [e5] at n5 hz ⊢
  obtain ⟨b3, e3⟩ : ∃ b, w1.heap.size = b := ⟨_, rfl⟩
  rw [e3] at n3 ⊢
  have W0 : Hid (Wk w Q [] [(b3, tb xa), (b4, tb xb), (b5, tb xc)] W) := Lib.hid (by
    refine ⟨⟨f, HQ.out.bel hB, HF.out, fun x hx e => ?_⟩, HB.out.trans hB, fun x hx => ?_⟩
    · have := HQ.out.lt_ _ e
      simp at hx
      rcases hx with rfl | rfl | rfl <;> (simp only at this; omega)
    · simp at hx
      rcases hx with rfl | rfl | rfl
      · exact n3
      · exact n4
      · exact n5)
  clear hB n3 n4 n5 e3 e4 e5 hz HF HQ HB
  obtain ⟨bx, ebx⟩ : ∃ bx, [(b3, tb xa), (b4, tb xb), (b5, tb xc)] = bx := ⟨_, rfl⟩
  have m3 : Hid ((b3, tb xa) ∈ bx) := Lib.hid (by rw [← ebx]; simp)
  have m4 : Hid ((b4, tb xb) ∈ bx) := Lib.hid (by rw [← ebx]; simp)
  have m5 : Hid ((b5, tb xc) ∈ bx) := Lib.hid (by rw [← ebx]; simp)
  rw [ebx] at W0
  clear ebx
  have W0d : Hid (Wk w Q [] bx W.drew) := Lib.hid (W0.out.le (Bel.refl _).drew)
  have NN : Hid (∀ l w', Wk w Q l bx w' → (w'.cell? ⟨b3, 0, none⟩ = some (.int .u64 5) ∧ w'.cell? ⟨b3, 1, none⟩ = some (.int .u64 2) ∧ w'.cell? ⟨b3, 2, none⟩ = some (.int .i64 0)) ∧ (w'.cell? ⟨b4, 0, none⟩ = some (.int .u64 3) ∧ w'.cell? ⟨b4, 1, none⟩ = some (.int .u64 1) ∧ w'.cell? ⟨b4, 2, none⟩ = some (.int .i64 1)) ∧ (w'.cell? ⟨b5, 0, none⟩ = some (.int .u64 5) ∧ w'.cell? ⟨b5, 1, none⟩ = some (.int .u64 1) ∧ w'.cell? ⟨b5, 2, none⟩ = some (.int .i64 2))) := Lib.hid (fun l w' h => ⟨h.c3 m3.out, h.c3 m4.out, h.c3 m5.out⟩)
  have K1 : Hid (∀ w1, Wk w Q [] bx w1 → Calls Try.prog 22 #[.pointer (some ⟨Q, 0, none⟩), .agg #[.int .u64 5, .int .u64 2, .int .i64 0]] w1 fun e w2 => e = .returned (.int .i64 0) ∧ Wk w Q [xa] bx w2) := Lib.hid (fun w1 h => wk_insert (t := xa) (by decide) (by decide) h)
  have K2 : Hid (∀ w1, Wk w Q [xa] bx w1 → Calls Try.prog 22 #[.pointer (some ⟨Q, 0, none⟩), .agg #[.int .u64 3, .int .u64 1, .int .i64 1]] w1 fun e w2 => e = .returned (.int .i64 0) ∧ Wk w Q [xb, xa] bx w2) := Lib.hid (fun w1 h => wk_insert (t := xb) (by decide) (by decide) h)
  have K3 : Hid (∀ w1, Wk w Q [xb, xa] bx w1 → Calls Try.prog 22 #[.pointer (some ⟨Q, 0, none⟩), .agg #[.int .u64 5, .int .u64 1, .int .i64 2]] w1 fun e w2 => e = .returned (.int .i64 0) ∧ Wk w Q [xb, xc, xa] bx w2) := Lib.hid (fun w1 h => wk_insert (t := xc) (by decide) (by decide) h)
  go_cut [6, 7, 8] from 19 (fun f g h wx => f = .int .i64 0 ∧ g = .int .i64 0 ∧ h = .int .i64 0 ∧ Wk w Q [xb, xc, xa] bx wx)
  case first =>
    obtain ⟨⟨a0, a1, a2⟩, ⟨c0, c1, c2⟩, ⟨d0, d1, d2⟩⟩ := NN.out _ _ W0.out
    go_wp2
    go_region_held3 (fun w' => (w'.cell? ⟨b3, 0, none⟩ = some (.int .u64 5) ∧ w'.cell? ⟨b3, 1, none⟩ = some (.int .u64 2) ∧ w'.cell? ⟨b3, 2, none⟩ = some (.int .i64 0)) ∧ (w'.cell? ⟨b4, 0, none⟩ = some (.int .u64 3) ∧ w'.cell? ⟨b4, 1, none⟩ = some (.int .u64 1) ∧ w'.cell? ⟨b4, 2, none⟩ = some (.int .i64 1)) ∧ (w'.cell? ⟨b5, 0, none⟩ = some (.int .u64 5) ∧ w'.cell? ⟨b5, 1, none⟩ = some (.int .u64 1) ∧ w'.cell? ⟨b5, 2, none⟩ = some (.int .i64 2)))
      (first | (with_reducible exact NN.out _ _ W0d.out) | (with_reducible exact NN.out _ _ hw1) | (with_reducible exact NN.out _ _ hw2) | (with_reducible exact NN.out _ _ hw3))
      (first | (go_at_call 22; (with_reducible refine (K1.out _ W0d.out).mono ?_); rintro e w2 ⟨rfl, hw1⟩) | (go_at_call 22; (with_reducible refine (K2.out _ hw1).mono ?_); rintro e w3 ⟨rfl, hw2⟩) | (go_at_call 22; (with_reducible refine (K3.out _ hw2).mono ?_); rintro e w4 ⟨rfl, hw3⟩))
    all_goals
      go_wp2_with fail
      go_meet
      case rel => exact ⟨rfl, rfl, rfl, hw3⟩
  case rest =>
    obtain ⟨rfl, rfl, rfl, hw⟩ := hcut
    clear W0 W0d K1 K2 K3
    have W1 := Lib.hid hw
    clear hw
    go_upto_region 6 with (fail)
    go_cut [9] from 19 (fun v wx => v = .bool true ∧ Wk w Q [xb, xc, xa] bx wx)
    case first =>
      have NB : Hid (∀ w', Bel wc w' → Bel wc w' ∧ (w'.cell? ⟨b3, 0, none⟩ = some (.int .u64 5) ∧ w'.cell? ⟨b3, 1, none⟩ = some (.int .u64 2) ∧ w'.cell? ⟨b3, 2, none⟩ = some (.int .i64 0)) ∧ (w'.cell? ⟨b4, 0, none⟩ = some (.int .u64 3) ∧ w'.cell? ⟨b4, 1, none⟩ = some (.int .u64 1) ∧ w'.cell? ⟨b4, 2, none⟩ = some (.int .i64 1)) ∧ (w'.cell? ⟨b5, 0, none⟩ = some (.int .u64 5) ∧ w'.cell? ⟨b5, 1, none⟩ = some (.int .u64 1) ∧ w'.cell? ⟨b5, 2, none⟩ = some (.int .i64 2))) := Lib.hid (fun w' hb => ⟨hb, NN.out _ _ (W1.out.le hb)⟩)
      obtain ⟨_, ⟨a0, a1, a2⟩, ⟨c0, c1, c2⟩, ⟨d0, d1, d2⟩⟩ := NB.out _ (Bel.refl _)
      have A1 := Lib.hid (wk_all (W1.out.le (Bel.refl wc).drew))
      have A2 := Lib.hid (wk_all (W1.out.le ((Bel.refl wc).alloc #[.int .u64 3, .int .u64 1, .int .i64 1, .int .u64 5, .int .u64 1, .int .i64 2, .int .u64 5, .int .u64 2, .int .i64 0] 25).drew))
      have E1 : Hid (∀ w3 : World, Has (w3.alloc (.cells #[.int .u64 3, .int .u64 1, .int .i64 1, .int .u64 5, .int .u64 1, .int .i64 2, .int .u64 5, .int .u64 2, .int .i64 0] 25)) (some ⟨w3.heap.size, 0, none⟩) [xb, xc, xa]) := Lib.hid (fun w3 => has_row (heap_alloc_new _ _) rfl)
      have E2 : Hid (∀ w3 : World, Bel (wc.alloc (.cells #[.int .u64 3, .int .u64 1, .int .i64 1, .int .u64 5, .int .u64 1, .int .i64 2, .int .u64 5, .int .u64 2, .int .i64 0] 25)).drew w3 → Has w3 (some ⟨wc.heap.size, 0, none⟩) [xb, xc, xa]) := Lib.hid (fun w3 hg => (has_row (heap_alloc_new _ _) rfl).bel ((Bel.refl _).drew.trans hg))
      have KS : Hid (∀ p q c d w', Has w' p [xb, xc, xa] → Has w' q [xb, xc, xa] → Calls Try.prog 18 #[.slice p 3 c, .slice q 3 d] w' fun e w2 => e = .returned (.bool true) ∧ Bel w' w2) := Lib.hid (fun p q c d w' h1 h2 => same_yes p q c d [xb, xc, xa] w' (by decide) h1 h2)
      have BD : Hid (Bel wc wc.drew) := Lib.hid (Bel.refl wc).drew
      have BA : Hid (Bel wc (wc.alloc (.cells #[.int .u64 3, .int .u64 1, .int .i64 1, .int .u64 5, .int .u64 1, .int .i64 2, .int .u64 5, .int .u64 2, .int .i64 0] 25)).drew) := Lib.hid ((Bel.refl wc).alloc _ _).drew
      have el : [xb, xc, xa].length = 3 := rfl
      rw [el] at A1 A2
      clear el
      go_wp2
      go_region_held3 (fun w' => Bel wc w' ∧ (w'.cell? ⟨b3, 0, none⟩ = some (.int .u64 5) ∧ w'.cell? ⟨b3, 1, none⟩ = some (.int .u64 2) ∧ w'.cell? ⟨b3, 2, none⟩ = some (.int .i64 0)) ∧ (w'.cell? ⟨b4, 0, none⟩ = some (.int .u64 3) ∧ w'.cell? ⟨b4, 1, none⟩ = some (.int .u64 1) ∧ w'.cell? ⟨b4, 2, none⟩ = some (.int .i64 1)) ∧ (w'.cell? ⟨b5, 0, none⟩ = some (.int .u64 5) ∧ w'.cell? ⟨b5, 1, none⟩ = some (.int .u64 1) ∧ w'.cell? ⟨b5, 2, none⟩ = some (.int .i64 2)))
        (first | (with_reducible exact NB.out _ BD.out) | (with_reducible exact NB.out _ BA.out) | exact NB.out _ (Bel.trans (And.left (by assumption)) hg1) | exact NB.out _ (Bel.trans (And.left (by assumption)) hg2) | exact NB.out _ (Bel.alloc (w := w3) (And.left (by assumption)) _ _))
        (first | (go_at_call 19; (with_reducible refine (A1.out).mono ?_); rintro e w3 ⟨q, k, rfl, hq, hg1⟩) | (go_at_call 19; (with_reducible refine (A2.out).mono ?_); rintro e w3 ⟨q, k, rfl, hq, hg1⟩) | (go_at_call 18; (with_reducible refine (KS.out _ _ _ _ _ (hq.bel ((Bel.refl _).alloc _ _)) (E1.out w3)).mono ?_); rintro e w4 ⟨rfl, hg2⟩) | (go_at_call 18; (with_reducible refine (KS.out _ _ _ _ _ hq (E2.out _ hg1)).mono ?_); rintro e w4 ⟨rfl, hg2⟩))
      all_goals
        go_wp2_with fail
        go_meet
        case rel => exact ⟨rfl, W1.out.le (And.left (by assumption))⟩
    case rest =>
      obtain ⟨rfl, hw⟩ := hcut
      clear W1
      have W1 := Lib.hid hw
      clear hw
      go_wp2_with fail
      with_reducible refine (wk_min (t := xb) rfl W1.out).mono ?_
      rintro e w2 ⟨rfl, hb⟩
      have W2 := Lib.hid ((W1.out.le hb).box #[.int .u64 3, .int .u64 1, .int .i64 1] 25)
      clear hb W1
      go_upto_region 8 with (fail)
      generalize w2.alloc (.cells #[.int .u64 3, .int .u64 1, .int .i64 1] 25) = V2 at *
      generalize w2.heap.size = b10 at *
      have KM := Lib.hid (wk_move (t := xe) (er := 0) (l' := [xe, xb, xc]) (by decide) (by decide) W2.out)
      go_wp2_with fail
      with_reducible refine (KM.out).mono ?_
      rintro e w3 ⟨rfl, hw⟩
      have W3 := Lib.hid hw
      clear hw KM W2
      go_upto_region 9 with (fail)
      obtain ⟨by_, eby⟩ : ∃ b, (b10, Obj.cells #[.int .u64 3, .int .u64 1, .int .i64 1] 25) :: bx = b := ⟨_, rfl⟩
      rw [eby] at W3
      have m10 : Hid ((b10, tb xb) ∈ by_) := Lib.hid (by rw [← eby]; simp)
      have m3 : Hid ((b3, tb xa) ∈ by_) := Lib.hid (by rw [← eby]; exact List.mem_cons_of_mem _ m3.out)
      have m4 : Hid ((b4, tb xb) ∈ by_) := Lib.hid (by rw [← eby]; exact List.mem_cons_of_mem _ m4.out)
      have m5 : Hid ((b5, tb xc) ∈ by_) := Lib.hid (by rw [← eby]; exact List.mem_cons_of_mem _ m5.out)
      clear eby
      go_cut [13] from 19 (fun v wx => v = .bool true ∧ Wk w Q [xc] by_ wx)
      case first =>
        have NB : Hid (∀ l bz w', Wk w Q l bz w' → (b4, tb xb) ∈ bz → (w'.cell? ⟨b4, 0, none⟩ = some (.int .u64 3) ∧ w'.cell? ⟨b4, 1, none⟩ = some (.int .u64 1) ∧ w'.cell? ⟨b4, 2, none⟩ = some (.int .i64 1))) := Lib.hid (fun l bz w' h hm => h.c3 hm)
        obtain ⟨c0, c1, c2⟩ := NB.out _ _ _ W3.out m4.out
        have A1 := Lib.hid (wk_due (now := 4) (d := [xe, xb]) (l' := [xc]) (by decide) (by decide) (W3.out.le (Bel.refl w3).drew))
        have W3b := Lib.hid ((W3.out.box #[.int .u64 1, .int .u64 0, .int .i64 0, .int .u64 3, .int .u64 1, .int .i64 1] 25).le (Bel.refl _).drew)
        have A2 := Lib.hid (wk_due (now := 4) (d := [xe, xb]) (l' := [xc]) (by decide) (by decide) W3b.out)
        have E1 : Hid (∀ w4 : World, Has (w4.alloc (.cells #[.int .u64 1, .int .u64 0, .int .i64 0, .int .u64 3, .int .u64 1, .int .i64 1] 25)) (some ⟨w4.heap.size, 0, none⟩) [xe, xb]) := Lib.hid (fun w4 => has_row (heap_alloc_new _ _) rfl)
        have E2 : Hid (∀ w4 : World, Wk w Q [xc] ((w3.heap.size, .cells #[.int .u64 1, .int .u64 0, .int .i64 0, .int .u64 3, .int .u64 1, .int .i64 1] 25) :: by_) w4 → Has w4 (some ⟨w3.heap.size, 0, none⟩) [xe, xb] ∧ Wk w Q [xc] by_ w4) := Lib.hid (fun w4 hk => ⟨has_row (hk.at_ _ (List.mem_cons_self ..)) rfl, by
          obtain ⟨⟨f, h1, h2, h3⟩, h4, h5⟩ := hk
          exact ⟨⟨f, h1, h2, fun x hx => h3 x (List.mem_cons_of_mem _ hx)⟩, h4, fun x hx => h5 x (List.mem_cons_of_mem _ hx)⟩⟩)
        have KS : Hid (∀ p q c d w', Has w' p [xe, xb] → Has w' q [xe, xb] → Calls Try.prog 18 #[.slice p 2 c, .slice q 2 d] w' fun e w2 => e = .returned (.bool true) ∧ Bel w' w2) := Lib.hid (fun p q c d w' h1 h2 => same_yes p q c d [xe, xb] w' (by decide) h1 h2)
        have el : [xe, xb].length = 2 := rfl
        rw [el] at A1 A2
        clear el NN
        go_wp2
        go_region_with (first | (go_at_call 27; (with_reducible refine (A1.out).mono ?_); rintro e w4 ⟨q, k, rfl, hq, hw3⟩; have hn3 := NB.out _ _ _ hw3 m4.out; obtain ⟨c0, c1, c2⟩ := hn3) | (go_at_call 27; (with_reducible refine (A2.out).mono ?_); rintro e w4 ⟨q, k, rfl, hq, hw3⟩; have hk3 := E2.out _ hw3; have hn3 := NB.out _ _ _ hk3.2 m4.out; obtain ⟨c0, c1, c2⟩ := hn3) | (go_at_call 18; (with_reducible refine (KS.out _ _ _ _ _ (hq.bel ((Bel.refl _).alloc _ _)) (E1.out w4)).mono ?_); rintro e w5 ⟨rfl, hg2⟩; have hw4 := hw3.le ((Bel.alloc (Bel.refl w4) _ _).trans hg2)) | (go_at_call 18; (with_reducible refine (KS.out _ _ _ _ _ hq hk3.1).mono ?_); rintro e w5 ⟨rfl, hg2⟩; have hw4 := hk3.2.le hg2))
        all_goals
          go_wp2_with fail
          go_meet
          case rel => exact ⟨rfl, hw4⟩
      case rest =>
        obtain ⟨rfl, hw⟩ := hcut
        clear W3
        have W4 := Lib.hid hw
        clear hw NN
        have KC := Lib.hid (wk_cancel (k := 2) (t := xc) (er := 0) (l' := []) (by decide) (by decide) (by decide) W4.out)
        unfold canV at KC
        go_wp2_with fail
        with_reducible refine (KC.out).mono ?_
        rintro e w5 ⟨rfl, hw⟩
        have W5 := Lib.hid (hw.box #[.int .u64 5, .int .u64 1, .int .i64 2] 25)
        clear hw KC W4
        go_upto_region 11 with (fail)
        generalize w5.alloc (.cells #[.int .u64 5, .int .u64 1, .int .i64 2] 25) = V5 at *
        generalize w5.heap.size = b14 at *
        go_wp2_with fail
        with_reducible refine (wk_get (k := 2) (by decide) W5.out).mono ?_
        rintro e w6 ⟨rfl, hb⟩
        have W6 := Lib.hid ((W5.out.le hb).box #[.int .u64 0, .int .u64 0, .int .i64 0] 25)
        clear hb W5
        go_upto_region 12 with (fail)
        generalize w6.alloc (.cells #[.int .u64 0, .int .u64 0, .int .i64 0] 25) = V6 at *
        generalize w6.heap.size = b16 at *
        obtain ⟨bz, ebz⟩ : ∃ b, (b16, Obj.cells #[.int .u64 0, .int .u64 0, .int .i64 0] 25) :: (b14, Obj.cells #[.int .u64 5, .int .u64 1, .int .i64 2] 25) :: by_ = b := ⟨_, rfl⟩
        rw [ebz] at W6
        have m14 : Hid ((b14, tb xc) ∈ bz) := Lib.hid (by rw [← ebz]; simp)
        have m10 : Hid ((b10, tb xb) ∈ bz) := Lib.hid (by rw [← ebz]; exact List.mem_cons_of_mem _ (List.mem_cons_of_mem _ m10.out))
        have m3 : Hid ((b3, tb xa) ∈ bz) := Lib.hid (by rw [← ebz]; exact List.mem_cons_of_mem _ (List.mem_cons_of_mem _ m3.out))
        have m4 : Hid ((b4, tb xb) ∈ bz) := Lib.hid (by rw [← ebz]; exact List.mem_cons_of_mem _ (List.mem_cons_of_mem _ m4.out))
        have m5 : Hid ((b5, tb xc) ∈ bz) := Lib.hid (by rw [← ebz]; exact List.mem_cons_of_mem _ (List.mem_cons_of_mem _ m5.out))
        clear ebz
        obtain ⟨r0, r1, r2⟩ := W6.out.c3 m10.out
        obtain ⟨r3, r4, r5⟩ := W6.out.c3 m4.out
        obtain ⟨r6, r7, r8⟩ := W6.out.c3 m14.out
        obtain ⟨r9, r10, r11⟩ := W6.out.c3 m5.out
        obtain ⟨r12, r13, r14⟩ := W6.out.c3 m3.out
        have KL := Lib.hid (wk_len (n := 0) rfl W6.out)
        have KV := Lib.hid (wk_move (t := xa) (er := 5) (l' := []) (by decide) (by decide) W6.out)
        have KI : Hid (∀ w1, Wk w Q [] bz w1 → Calls Try.prog 22 #[.pointer (some ⟨Q, 0, none⟩), .agg #[.int .u64 0, .int .u64 0, .int .i64 4]] w1 fun e w2 => e = .returned (.int .i64 1) ∧ Wk w Q [] bz w2) := Lib.hid (fun w1 h => wk_insert (t := ⟨0, 0, 4⟩) (by decide) (by decide) h)
        clear m3 m4 m5 m10 m14
        go_wp2_with fail
        with_reducible refine (KL.out).mono ?_
        rintro e w7 ⟨rfl, rfl⟩
        go_wp2_with fail
        with_reducible refine (KV.out).mono ?_
        rintro e w8 ⟨rfl, hw8⟩
        have W8 := Lib.hid hw8
        clear hw8 r0 r1 r2 r3 r4 r5 r6 r7 r8 r9 r10 r11 r12 r13 r14
        go_wp2_with fail
        with_reducible refine (KI.out _ W8.out).mono ?_
        rintro e w9 ⟨rfl, hw9⟩
        have W9 := Lib.hid hw9.bel
        clear hw9
        go_wp2
        go_ret
        exact ⟨rfl, W9.out⟩
end Go.Proofs.Ytaabalkfpjeheaa
