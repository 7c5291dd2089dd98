/-
  Contract of the law's alike: a queue tells what the document's own tells.
-/
import Derived.Test.YtdlfppdekllloaaTw
import Derived.Test.YtdlfppdekllloaaDoc
set_option linter.unusedVariables false
set_option linter.unusedSimpArgs false
namespace Go.Proofs.Ytdlfppdekllloaa
open Go.RowKit
theorem ansT_eq (o : Option T) : ansT o = .tuple #[.agg #[.int .u64 (o.getD default).a, .int .u64 (o.getD default).s, .int .i64 (o.getD default).p], .bool o.isSome] := by cases o <;> rfl
set_option maxHeartbeats 4000000 in
set_option maxRecDepth 100000 in
theorem alike_any (f : Nat → Prop) (Q P : Nat) (l : List T) (p : Option Addr) (c : Nat) (k : Int) (w : World) (h : Qu f w Q P l) (hl : Has w p l) (hm : l.length ≤ 1024) :
    Calls Try.prog 14 #[.pointer (some ⟨Q, 0, none⟩), .agg #[.int .i64 P, .slice p l.length c], .int .i64 k] w fun e w' => e = .returned (.bool true) ∧ Bel w w' := by
  have K1 := Lib.hid (fun w' (h : Qu f w' Q P l) => get_any f Q P l k w' h)
  have K2 := Lib.hid (fun w' (h : Has w' p l) => dget_any P p l.length c l k w' rfl (by omega) h)
  have K3 := Lib.hid (fun w' (h : Qu f w' Q P l) => min_any f Q P l w' h)
  have K4 := Lib.hid (fun w' (h : Has w' p l) => dmin_any P p l.length c l w' rfl h)
  have K5 : Hid (∀ w', Qu f w' Q P l → Calls Try.prog 20 #[.pointer (some ⟨Q, 0, none⟩)] w' fun e w2 => ∃ q d, e = .returned (.slice q l.length d) ∧ Has w2 q l ∧ Bel w' w2) := Lib.hid (fun w' h => (all_any f Q P l w' h).mono fun e w2 ⟨⟨q, d, he, _, hh⟩, hb⟩ => ⟨q, d, he, hh.has, hb⟩)
  have K6 := Lib.hid (fun q d w' (h1 : Has w' q l) (h2 : Has w' p l) => same_yes q p d c l w' (by omega) h1 h2)
  have K7 := Lib.hid (fun w' (h : Qu f w' Q P l) => len_any f Q P l w' h)
  simp only [ansT_eq] at K1 K2 K3 K4
  have hE1 := eql_yes ((fnd l k).getD default) ((fnd l k).getD default) rfl
  have hE2 := eql_yes (l.head?.getD default) (l.head?.getD default) rfl
  have HQ : Hid (∀ w', Bel w w' → Qu f w' Q P l ∧ Has w' p l) := Lib.hid (fun w' hb => ⟨h.bel hb, hl.bel hb⟩)
  generalize ((fnd l k).getD default).a = x0 at *
  generalize ((fnd l k).getD default).s = x1 at *
  generalize ((fnd l k).getD default).p = x2 at *
  generalize (fnd l k).isSome = xs at *
  generalize (l.head?.getD default).a = z0 at *
  generalize (l.head?.getD default).s = z1 at *
  generalize (l.head?.getD default).p = z2 at *
  generalize l.head?.isSome = zs at *
  have hS1 : (xs == xs) = true := by simp
  have hS2 : (zs == zs) = true := by simp
  have HB0 : Hid (Bel w (w.alloc (.cells #[.int .i64 P, .slice p l.length c] 30))) := Lib.hid ((Bel.refl _).alloc _ _)
  have M4 := Lib.hid (heap_alloc_new w (.cells #[.int .i64 P, .slice p l.length c] 30))
  clear h hl
  go_enter Try.func14, Try.ntmps14
  go_upto_region 1 with (fail)
  generalize w.alloc (.cells #[.int .i64 P, .slice p l.length c] 30) = W0 at *
  generalize hb4e : w.heap.size = b4 at *
  clear hb4e
  go_wp2_with fail
  with_reducible refine (K1.out _ (HQ.out _ HB0.out).1).mono ?_
  rintro e w1 ⟨rfl, hb⟩
  have HB1 := Lib.hid (HB0.out.trans (hb.alloc #[.int .u64 x0, .int .u64 x1, .int .i64 x2] 35))
  have M4 := Lib.hid ((hb.alloc #[.int .u64 x0, .int .u64 x1, .int .i64 x2] 35).heap M4.out)
  have M7 := Lib.hid (heap_alloc_new w1 (.cells #[.int .u64 x0, .int .u64 x1, .int .i64 x2] 35))
  clear hb
  go_upto_region 2 with (fail)
  generalize w1.alloc (.cells #[.int .u64 x0, .int .u64 x1, .int .i64 x2] 35) = W1 at *
  generalize w1.heap.size = b7 at *
  obtain ⟨⟨q0, q1⟩, _⟩ := box2 M4.out
  go_wp2_with fail
  with_reducible refine (K2.out _ (HQ.out _ HB1.out).2).mono ?_
  rintro e w2 ⟨rfl, hb⟩
  have HB2 := Lib.hid (HB1.out.trans (hb.alloc #[.int .u64 x0, .int .u64 x1, .int .i64 x2] 35))
  have M4 := Lib.hid ((hb.alloc #[.int .u64 x0, .int .u64 x1, .int .i64 x2] 35).heap M4.out)
  have M7 := Lib.hid ((hb.alloc #[.int .u64 x0, .int .u64 x1, .int .i64 x2] 35).heap M7.out)
  have M9 := Lib.hid (heap_alloc_new w2 (.cells #[.int .u64 x0, .int .u64 x1, .int .i64 x2] 35))
  clear hb q0 q1
  go_upto_region 3 with (fail)
  generalize w2.alloc (.cells #[.int .u64 x0, .int .u64 x1, .int .i64 x2] 35) = W2 at *
  generalize w2.heap.size = b9 at *
  go_wp2_with fail
  with_reducible refine (K3.out _ (HQ.out _ HB2.out).1).mono ?_
  rintro e w3 ⟨rfl, hb⟩
  have HB3 := Lib.hid (HB2.out.trans (hb.alloc #[.int .u64 z0, .int .u64 z1, .int .i64 z2] 35))
  have M4 := Lib.hid ((hb.alloc #[.int .u64 z0, .int .u64 z1, .int .i64 z2] 35).heap M4.out)
  have M7 := Lib.hid ((hb.alloc #[.int .u64 z0, .int .u64 z1, .int .i64 z2] 35).heap M7.out)
  have M9 := Lib.hid ((hb.alloc #[.int .u64 z0, .int .u64 z1, .int .i64 z2] 35).heap M9.out)
  have M11 := Lib.hid (heap_alloc_new w3 (.cells #[.int .u64 z0, .int .u64 z1, .int .i64 z2] 35))
  clear hb
  go_upto_region 4 with (fail)
  generalize w3.alloc (.cells #[.int .u64 z0, .int .u64 z1, .int .i64 z2] 35) = W3 at *
  generalize w3.heap.size = b11 at *
  obtain ⟨⟨q0, q1⟩, _⟩ := box2 M4.out
  go_wp2_with fail
  with_reducible refine (K4.out _ (HQ.out _ HB3.out).2).mono ?_
  rintro e w4 ⟨rfl, hb⟩
  have HB4 := Lib.hid (HB3.out.trans (hb.alloc #[.int .u64 z0, .int .u64 z1, .int .i64 z2] 35))
  have M4 := Lib.hid ((hb.alloc #[.int .u64 z0, .int .u64 z1, .int .i64 z2] 35).heap M4.out)
  have M7 := Lib.hid ((hb.alloc #[.int .u64 z0, .int .u64 z1, .int .i64 z2] 35).heap M7.out)
  have M9 := Lib.hid ((hb.alloc #[.int .u64 z0, .int .u64 z1, .int .i64 z2] 35).heap M9.out)
  have M11 := Lib.hid ((hb.alloc #[.int .u64 z0, .int .u64 z1, .int .i64 z2] 35).heap M11.out)
  have M13 := Lib.hid (heap_alloc_new w4 (.cells #[.int .u64 z0, .int .u64 z1, .int .i64 z2] 35))
  clear hb q0 q1
  go_upto_region 5 with (fail)
  generalize w4.alloc (.cells #[.int .u64 z0, .int .u64 z1, .int .i64 z2] 35) = W4 at *
  generalize w4.heap.size = b13 at *
  have HC : Hid (∀ w', Bel W4 w' → w'.cell? ⟨b4, 1, none⟩ = some (.slice p l.length c)) := Lib.hid (fun w' hb => (box2 (hb.heap M4.out)).1.2)
  have HD : Hid (Bel W4 W4.drew) := Lib.hid (Bel.refl W4).drew
  have HQ4 : Hid (∀ w', Bel W4 w' → Qu f w' Q P l ∧ Has w' p l) := Lib.hid (fun w' hb => HQ.out _ (HB4.out.trans hb))
  have c1 := HC.out _ (Bel.refl _)
  go_wp2
  go_region_held3 (fun w' => w'.cell? ⟨b4, 1, none⟩ = some (.slice p l.length c)) (first | (with_reducible exact HC.out _ HD.out) | exact HC.out _ (HD.out.trans hg1) | exact HC.out _ ((HD.out.trans hg1).trans hg2))
    (first | (go_at_call 20; (with_reducible refine (K5.out _ (HQ4.out _ HD.out).1).mono ?_); rintro e w5 ⟨q, d, rfl, hq, hg1⟩) | (go_at_call 23; (with_reducible refine (K6.out q d _ hq (HQ4.out _ (HD.out.trans hg1)).2).mono ?_); rintro e w6 ⟨rfl, hg2⟩))
  have HB6 : Hid (Bel W4 w6) := Lib.hid ((HD.out.trans hg1).trans hg2)
  clear hg1 hg2 hq c1
  have HS : Hid (∀ w', Bel w6 w' → (w'.cell? ⟨b7, 0, none⟩ = some (.int .u64 x0) ∧ w'.cell? ⟨b7, 1, none⟩ = some (.int .u64 x1) ∧ w'.cell? ⟨b7, 2, none⟩ = some (.int .i64 x2)) ∧ (w'.cell? ⟨b9, 0, none⟩ = some (.int .u64 x0) ∧ w'.cell? ⟨b9, 1, none⟩ = some (.int .u64 x1) ∧ w'.cell? ⟨b9, 2, none⟩ = some (.int .i64 x2)) ∧ (w'.cell? ⟨b11, 0, none⟩ = some (.int .u64 z0) ∧ w'.cell? ⟨b11, 1, none⟩ = some (.int .u64 z1) ∧ w'.cell? ⟨b11, 2, none⟩ = some (.int .i64 z2)) ∧ (w'.cell? ⟨b13, 0, none⟩ = some (.int .u64 z0) ∧ w'.cell? ⟨b13, 1, none⟩ = some (.int .u64 z1) ∧ w'.cell? ⟨b13, 2, none⟩ = some (.int .i64 z2)) ∧ w'.cell? ⟨b4, 1, none⟩ = some (.slice p l.length c)) := Lib.hid (fun w' hb =>
    ⟨(box3 ((HB6.out.trans hb).heap M7.out)).1, (box3 ((HB6.out.trans hb).heap M9.out)).1, (box3 ((HB6.out.trans hb).heap M11.out)).1, (box3 ((HB6.out.trans hb).heap M13.out)).1, (box2 ((HB6.out.trans hb).heap M4.out)).1.2⟩)
  have HBw : Hid (Bel w w6) := Lib.hid (HB4.out.trans HB6.out)
  have H6 : Hid (Bel w6 w6.drew) := Lib.hid (Bel.refl w6).drew
  have K7' := Lib.hid (K7.out _ (HQ4.out _ (HB6.out.trans H6.out)).1)
  obtain ⟨⟨r0, r1, r2⟩, ⟨r3, r4, r5⟩, ⟨r6, r7, r8⟩, ⟨r9, r10, r11⟩, r12⟩ := HS.out _ (Bel.refl _)
  clear K1 K2 K3 K4 K5 K6 K7 M4 M7 M9 M11 M13 HB0 HB1 HB2 HB3
  go_wp2
  go_region_held3 (fun w' => (w'.cell? ⟨b7, 0, none⟩ = some (.int .u64 x0) ∧ w'.cell? ⟨b7, 1, none⟩ = some (.int .u64 x1) ∧ w'.cell? ⟨b7, 2, none⟩ = some (.int .i64 x2)) ∧ (w'.cell? ⟨b9, 0, none⟩ = some (.int .u64 x0) ∧ w'.cell? ⟨b9, 1, none⟩ = some (.int .u64 x1) ∧ w'.cell? ⟨b9, 2, none⟩ = some (.int .i64 x2)) ∧ (w'.cell? ⟨b11, 0, none⟩ = some (.int .u64 z0) ∧ w'.cell? ⟨b11, 1, none⟩ = some (.int .u64 z1) ∧ w'.cell? ⟨b11, 2, none⟩ = some (.int .i64 z2)) ∧ (w'.cell? ⟨b13, 0, none⟩ = some (.int .u64 z0) ∧ w'.cell? ⟨b13, 1, none⟩ = some (.int .u64 z1) ∧ w'.cell? ⟨b13, 2, none⟩ = some (.int .i64 z2)) ∧ w'.cell? ⟨b4, 1, none⟩ = some (.slice p l.length c))
    (first | (with_reducible exact HS.out _ H6.out) | exact HS.out _ (H6.out.trans hg3))
    (first | (go_at_call 21; (with_reducible refine (K7'.out).mono ?_); rintro e w7 ⟨rfl, hg3⟩))
  have HBE := Lib.hid (HBw.out.trans (H6.out.trans hg3))
  clear hg3
  go_wp2
  go_ret
  exact ⟨rfl, HBE.out⟩
end Go.Proofs.Ytdlfppdekllloaa
