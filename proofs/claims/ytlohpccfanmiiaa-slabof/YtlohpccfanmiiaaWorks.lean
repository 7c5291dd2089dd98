/-
  Contract of the law's works: the document's example holds.
-/
import Derived.Test.YtlohpccfanmiiaaAny
namespace Go.Proofs.Ytlohpccfanmiiaa
open Go.RowKit
/-- A block outside the footprint. -/
def Keep (f : Nat → Prop) (w : World) (T : Nat) (o : Obj) : Prop := ¬ f T ∧ w.heap[T]? = some o
theorem Keep.steps {f f' : Nat → Prop} {w w' : World} {T : Nat} {o : Obj} (h : Keep f w T o) (k : Steps f w f' w') : Keep f' w' T o := by
  have hlt := (Array.getElem?_eq_some_iff.1 h.2).1
  refine ⟨fun e => ?_, (k.1.block T hlt h.1).trans h.2⟩
  rcases k.2 T e with e | e
  · exact h.1 e
  · omega
theorem Keep.bel {f : Nat → Prop} {w w' : World} {T : Nat} {o : Obj} (h : Keep f w T o) (k : Bel w w') : Keep f w' T o := ⟨h.1, k.heap h.2⟩
theorem Keep.new {f : Nat → Prop} {w : World} (o : Obj) (hf : ∀ k, f k → k < w.heap.size) : Keep f (w.alloc o) w.heap.size o := ⟨fun e => by have := hf _ e; omega, heap_alloc_new _ _⟩
theorem Keep.lt {f : Nat → Prop} {w : World} {T : Nat} {o : Obj} (h : Keep f w T o) : T < w.heap.size := (Array.getElem?_eq_some_iff.1 h.2).1
def s0 : St := ⟨2, 2, [], []⟩
def s1 : St := ⟨2, 2, [⟨1, true⟩], []⟩
def s2 : St := ⟨2, 2, [⟨1, true⟩, ⟨1, true⟩], []⟩
def s3 : St := ⟨2, 2, [⟨1, false⟩, ⟨1, true⟩], [0]⟩
def s4 : St := ⟨2, 2, [⟨1, false⟩, ⟨1, false⟩], [0, 1]⟩
def s5 : St := ⟨2, 2, [⟨1, false⟩, ⟨2, true⟩], [0]⟩
def s6 : St := ⟨2, 2, [⟨1, false⟩, ⟨2, false⟩], [0]⟩
theorem t0 : takeS s0 = (⟨0, 1⟩, 0, s1) := rfl
theorem t1 : takeS s1 = (⟨1, 1⟩, 0, s2) := rfl
theorem t2 : takeS s2 = (⟨0, 0⟩, 6, s2) := rfl
theorem t3 : freeA s2 ⟨0, 1⟩ = (0, s3) := rfl
theorem t4 : freeA s3 ⟨1, 1⟩ = (0, s4) := rfl
theorem t5 : takeS s4 = (⟨1, 2⟩, 0, s5) := rfl
theorem t6 : freeA s5 ⟨1, 2⟩ = (0, s6) := rfl
theorem t7 : freeA s6 ⟨1, 2⟩ = (5, s6) := rfl
theorem f0 : Wf s0 := wf_new 2 2 (by decide) (by decide) (by decide) (by decide)
theorem f1 : Wf s1 := by have := wf_take f0; rw [t0] at this; exact this
theorem f2 : Wf s2 := by have := wf_take f1; rw [t1] at this; exact this
theorem f3 : Wf s3 := by have := wf_free f2 ⟨0, 1⟩; rw [t3] at this; exact this
theorem f4 : Wf s4 := by have := wf_free f3 ⟨1, 1⟩; rw [t4] at this; exact this
theorem f5 : Wf s5 := by have := wf_take f4; rw [t5] at this; exact this
theorem f6 : Wf s6 := by have := wf_free f5 ⟨1, 2⟩; rw [t6] at this; exact this
theorem do_take {S S' : St} {p g e : Int} (h : Wf S) (ht : takeS S = (⟨p, g⟩, e, S')) (B : Nat) (f : Nat → Prop) (w : World) (hS : Slb w B f S) :
    Calls Try.prog 15 #[.pointer (some ⟨B, 0, none⟩)] w fun r w' => r = .returned (.tuple #[.agg #[.int .i64 p, .int .i64 g], .int .i64 e]) ∧ ∃ f', Slb w' B f' S' ∧ Steps f w f' w' := by
  have K := take_any B f S w hS h
  rw [ht] at K
  exact K
theorem do_free {S S' : St} {q : Hd} {e : Int} (h : Wf S) (ht : freeA S q = (e, S')) (B : Nat) (f : Nat → Prop) (w : World) (hS : Slb w B f S) :
    Calls Try.prog 13 #[.pointer (some ⟨B, 0, none⟩), .agg #[.int .i64 q.p, .int .i64 q.g]] w fun r w' => r = .returned (.int .i64 e) ∧ ∃ f', Slb w' B f' S' ∧ Steps f w f' w' := by
  have K := free_any B f S q w hS h
  rw [ht] at K
  exact K
theorem do_alive {S : St} {q : Hd} {b : Bool} (h : Wf S) (ht : lv S q = b) (B : Nat) (f : Nat → Prop) (w : World) (hS : Slb w B f S) :
    Calls Try.prog 16 #[.pointer (some ⟨B, 0, none⟩), .agg #[.int .i64 q.p, .int .i64 q.g]] w fun r w' => r = .returned (.bool b) ∧ Bel w w' := by
  have K := alive_any B f S q w hS h.sm
  rw [ht] at K
  exact K
theorem do_len {S : St} {b : Nat} (h : Wf S) (ht : lenS S = b) (B : Nat) (f : Nat → Prop) (w : World) (hS : Slb w B f S) :
    Calls Try.prog 17 #[.pointer (some ⟨B, 0, none⟩)] w fun r w' => r = .returned (.int .i64 b) ∧ Bel w w' := by
  have K := len_any B f S w hS h.sm
  rw [ht] at K
  exact K
theorem do_left {S : St} {b : Int} (h : Wf S) (ht : leftS S = b) (B : Nat) (f : Nat → Prop) (w : World) (hS : Slb w B f S) :
    Calls Try.prog 18 #[.pointer (some ⟨B, 0, none⟩)] w fun r w' => r = .returned (.int .i64 b) ∧ Bel w w' := by
  have K := left_bel B f S w hS h.sm
  rw [ht] at K
  exact K
theorem do_worn {S : St} {b : Int} (h : Wf S) (ht : wornS S = b) (B : Nat) (f : Nat → Prop) (w : World) (hS : Slb w B f S) :
    Calls Try.prog 19 #[.pointer (some ⟨B, 0, none⟩)] w fun r w' => r = .returned (.int .i64 b) ∧ Bel w w' := by
  have K := worn_any B f S w hS h.sm
  rw [ht] at K
  exact K
/-- A new slab, somewhere. -/
theorem new_ok (P G : Int) (w : World) (h0 : 0 ≤ P) (h1 : P ≤ 1024) (h2 : 1 ≤ G) (h3 : G ≤ 65535) :
    Calls Try.prog 10 #[.int .i64 P, .int .i64 G] w fun e w' => ∃ B f, e = .returned (.tuple #[.pointer (some ⟨B, 0, none⟩), .int .i64 0]) ∧ Slb w' B f (newS P G) ∧ Bel w w' ∧ ∀ k, f k → w.heap.size ≤ k :=
  (new_yes P G w h0 h1 h2 h3).mono fun _ _ ⟨he, hs, hb, _⟩ => ⟨w.heap.size, (· = w.heap.size), he, hs, hb, fun k e => by omega⟩
theorem at6 (B : Nat) (f : Nat → Prop) (w : World) (h : Slb w B f s6) : Calls Try.prog 24 #[.pointer (some ⟨B, 0, none⟩), .int .i64 1] w fun e w' => e = .returned (.tuple #[.agg #[.int .i64 0, .int .i64 0], .bool false]) ∧ Bel w w' :=
  at_dead B f s6 1 2 w h f6.sm rfl
/-- What is held of the slab on the way. -/
structure Way (w : World) (B : Nat) (f : Nat → Prop) (S : St) (w' : World) : Prop where
  sl : Slb w' B f S
  off : Bel w w'
  ge : ∀ k, f k → w.heap.size ≤ k
theorem Way.bel {w w1 w2 : World} {B : Nat} {f : Nat → Prop} {S : St} (h : Way w B f S w1) (k : Bel w1 w2) : Way w B f S w2 := ⟨h.sl.bel k, h.off.trans k, h.ge⟩
theorem Way.steps {w w1 w2 : World} {B : Nat} {f f' : Nat → Prop} {S S' : St} (h : Way w B f S w1) (hs : Slb w2 B f' S') (k : Steps f w1 f' w2) : Way w B f' S' w2 :=
  ⟨hs, Off.trans h.off k.1 (fun i e => .inr (h.ge i e)), fun i e => by
    rcases k.2 i e with e | e
    · exact h.ge i e
    · exact Nat.le_trans h.off.size e⟩
set_option maxHeartbeats 4000000 in
set_option maxRecDepth 100000 in
theorem works_any (w : World) : Calls Try.prog 9 #[] w fun e w' => e = .returned (.bool true) ∧ Bel w w' := by
  go_enter Try.func9, Try.ntmps9
  go_wp2_with fail
  with_reducible refine (new_ok 2 2 _ (by decide) (by decide) (by decide) (by decide)).mono ?_
  rintro e w1 ⟨B, fa, rfl, hS1, hb1, hf1⟩
  have W1 : Hid (Way w B fa s0 w1) := Lib.hid ⟨hS1, hb1, hf1⟩
  clear hS1 hb1 hf1
  go_wp2_with fail
  with_reducible refine (do_take f0 t0 B fa _ W1.out.sl).mono ?_
  rintro e w2 ⟨rfl, fb, hs, hst⟩
  have W2 := Lib.hid ((W1.out.steps hs hst).bel ((Bel.refl w2).alloc #[.int .i64 0, .int .i64 1] 38))
  have KA := Lib.hid (Keep.new (.cells #[.int .i64 0, .int .i64 1] 38) hs.lt)
  clear hs hst
  go_wp2_with fail
  with_reducible refine (do_take f1 t1 B fb _ W2.out.sl).mono ?_
  rintro e w3 ⟨rfl, fc, hs, hst⟩
  have W3 := Lib.hid ((W2.out.steps hs hst).bel ((Bel.refl w3).alloc #[.int .i64 1, .int .i64 1] 38))
  have KB := Lib.hid (Keep.new (.cells #[.int .i64 1, .int .i64 1] 38) hs.lt)
  have KA := Lib.hid ((KA.out.steps hst).bel ((Bel.refl w3).alloc #[.int .i64 1, .int .i64 1] 38))
  clear hs hst
  go_wp2_with fail
  with_reducible refine (do_take f2 t2 B fc _ W3.out.sl).mono ?_
  rintro e w4 ⟨rfl, fd, hs, hst⟩
  have W4 := Lib.hid ((W3.out.steps hs hst).bel ((Bel.refl w4).alloc #[.int .i64 0, .int .i64 0] 38))
  have KA := Lib.hid ((KA.out.steps hst).bel ((Bel.refl w4).alloc #[.int .i64 0, .int .i64 0] 38))
  have KB := Lib.hid ((KB.out.steps hst).bel ((Bel.refl w4).alloc #[.int .i64 0, .int .i64 0] 38))
  clear hs hst
  obtain ⟨⟨a0, a1⟩, _⟩ := box2 KA.out.2
  obtain ⟨⟨b0, b1⟩, _⟩ := box2 KB.out.2
  go_wp2_with fail
  with_reducible refine (do_alive (q := ⟨0, 1⟩) (b := true) f2 rfl B fd _ W4.out.sl).mono ?_
  rintro e w5 ⟨rfl, hb⟩
  have W5 := Lib.hid (W4.out.bel hb)
  have KA := Lib.hid (KA.out.bel hb)
  have KB := Lib.hid (KB.out.bel hb)
  clear hb a0 a1 b0 b1
  go_wp2_with fail
  with_reducible refine (do_len (b := 2) f2 rfl B fd _ W5.out.sl).mono ?_
  rintro e w6 ⟨rfl, hb⟩
  have W6 := Lib.hid (W5.out.bel hb)
  have KA := Lib.hid (KA.out.bel hb)
  have KB := Lib.hid (KB.out.bel hb)
  clear hb
  go_wp2
  have HSl : Hid (Slb w6.drew B fd s2) := Lib.hid (W6.out.sl.bel (Bel.refl _).drew)
  have HC : Hid (∀ f' w', Steps fd w6.drew f' w' → (w'.cell? ⟨w2.heap.size, 0, none⟩ = some (.int .i64 0) ∧ w'.cell? ⟨w2.heap.size, 1, none⟩ = some (.int .i64 1)) ∧ (w'.cell? ⟨w3.heap.size, 0, none⟩ = some (.int .i64 1) ∧ w'.cell? ⟨w3.heap.size, 1, none⟩ = some (.int .i64 1))) :=
    Lib.hid (fun f' w' hst => ⟨(box2 ((KA.out.bel (Bel.refl _).drew).steps hst).2).1, (box2 ((KB.out.bel (Bel.refl _).drew).steps hst).2).1⟩)
  go_region_held3 (fun w' => (w'.cell? ⟨w2.heap.size, 0, none⟩ = some (.int .i64 0) ∧ w'.cell? ⟨w2.heap.size, 1, none⟩ = some (.int .i64 1)) ∧ (w'.cell? ⟨w3.heap.size, 0, none⟩ = some (.int .i64 1) ∧ w'.cell? ⟨w3.heap.size, 1, none⟩ = some (.int .i64 1)))
    (first | (with_reducible exact HC.out _ _ (Steps.refl _ _)) | (with_reducible exact HC.out _ _ hstA) | (with_reducible exact HC.out _ _ (hstA.trans hstB)))
    (first | (go_at_call 13; (with_reducible refine (do_free (q := ⟨0, 1⟩) f2 t3 B fd _ HSl.out).mono ?_); rintro e wA ⟨rfl, fe, hsA, hstA⟩) | (go_at_call 13; (with_reducible refine (do_free (q := ⟨1, 1⟩) f3 t4 B fe _ hsA).mono ?_); rintro e wB ⟨rfl, ff, hsB, hstB⟩))
  have W7 := Lib.hid (((W6.out.bel (Bel.refl _).drew).steps hsA hstA).steps hsB hstB)
  have KA := Lib.hid (((KA.out.bel (Bel.refl _).drew).steps hstA).steps hstB)
  have KB := Lib.hid (((KB.out.bel (Bel.refl _).drew).steps hstA).steps hstB)
  clear hsA hstA hsB hstB
  go_wp2_with fail
  with_reducible refine (do_take f4 t5 B ff _ W7.out.sl).mono ?_
  rintro e w8 ⟨rfl, fg, hs, hst⟩
  have W8 := Lib.hid ((W7.out.steps hs hst).bel ((Bel.refl w8).alloc #[.int .i64 1, .int .i64 2] 38))
  have KC := Lib.hid (Keep.new (.cells #[.int .i64 1, .int .i64 2] 38) hs.lt)
  have KB := Lib.hid ((KB.out.steps hst).bel ((Bel.refl w8).alloc #[.int .i64 1, .int .i64 2] 38))
  clear hs hst
  obtain ⟨⟨b0, b1⟩, _⟩ := box2 KB.out.2
  go_wp2_with fail
  with_reducible refine (do_alive (q := ⟨1, 1⟩) (b := false) f5 rfl B fg _ W8.out.sl).mono ?_
  rintro e w9 ⟨rfl, hb⟩
  have W9 := Lib.hid (W8.out.bel hb)
  have KC := Lib.hid (KC.out.bel hb)
  clear hb b0 b1
  go_wp2_with fail
  with_reducible refine (do_left (b := 1) f5 rfl B fg _ W9.out.sl).mono ?_
  rintro e w10 ⟨rfl, hb⟩
  have W10 := Lib.hid (W9.out.bel hb)
  have KC := Lib.hid (KC.out.bel hb)
  clear hb
  go_wp2_with fail
  with_reducible refine (do_worn (b := 0) f5 rfl B fg _ W10.out.sl).mono ?_
  rintro e w11 ⟨rfl, hb⟩
  have W11 := Lib.hid (W10.out.bel hb)
  have KC := Lib.hid (KC.out.bel hb)
  clear hb
  obtain ⟨⟨c0, c1⟩, _⟩ := box2 KC.out.2
  go_wp2_with fail
  with_reducible refine (do_free (q := ⟨1, 2⟩) f5 t6 B fg _ W11.out.sl).mono ?_
  rintro e w12 ⟨rfl, fh, hs, hst⟩
  have W12 := Lib.hid (W11.out.steps hs hst)
  have KC := Lib.hid (KC.out.steps hst)
  clear hs hst c0 c1
  go_wp2_with fail
  with_reducible refine (at6 B fh _ W12.out.sl).mono ?_
  rintro e w13 ⟨rfl, hb⟩
  have W13 := Lib.hid ((W12.out.bel hb).bel ((Bel.refl w13).alloc #[.int .i64 0, .int .i64 0] 38))
  have KC := Lib.hid ((KC.out.bel hb).bel ((Bel.refl w13).alloc #[.int .i64 0, .int .i64 0] 38))
  have KD := Lib.hid (Keep.new (.cells #[.int .i64 0, .int .i64 0] 38) (W12.out.sl.bel hb).lt)
  clear hb
  go_wp2_with fail
  with_reducible refine (do_worn (b := 1) f6 rfl B fh _ W13.out.sl).mono ?_
  rintro e w14 ⟨rfl, hb⟩
  have W14 := Lib.hid (W13.out.bel hb)
  have KC := Lib.hid (KC.out.bel hb)
  have KD := Lib.hid (KD.out.bel hb)
  clear hb
  obtain ⟨⟨c0, c1⟩, _⟩ := box2 KC.out.2
  obtain ⟨⟨d0, d1⟩, _⟩ := box2 KD.out.2
  go_wp2_with fail
  with_reducible refine (do_free (q := ⟨1, 2⟩) f6 t7 B fh _ W14.out.sl).mono ?_
  rintro e w15 ⟨rfl, fi, hs, hst⟩
  have W15 := Lib.hid (W14.out.steps hs hst)
  clear hs hst c0 c1 d0 d1
  go_wp2
  go_ret
  exact ⟨rfl, W15.out.off⟩
end Go.Proofs.Ytlohpccfanmiiaa
