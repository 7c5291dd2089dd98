/-
  The walk of ListqMoves.
-/
import Derived.Test.YtmkpnojojkgmiaaMadeOk
import Derived.Test.YtmkpnojojkgmiaaAlike
namespace Go.Proofs.Ytmkpnojojkgmiaa
open Go.RowKit
theorem moves_long (P : Int) (pa : Option Addr) (N ca : Nat) (t : T) (w : World) (h : 60 < N) :
    Calls Try.prog 5 #[.int .i64 P, .slice pa N ca, .agg #[.int .u64 t.a, .int .u64 t.s, .int .i64 t.p]] w fun e w' => e = .returned (.bool true) ∧ Bel w w' := by
  have h' : (60 : Int) < N := by omega
  have HB0 : Hid (Bel w (w.alloc (.cells #[.int .u64 t.a, .int .u64 t.s, .int .i64 t.p] 38))) := Lib.hid ((Bel.refl _).alloc _ _)
  go_enter Try.func5, Try.ntmps5
  go_wp2_with fail
  with_reducible refine (works_any _).mono ?_
  rintro e w1 ⟨rfl, hb⟩
  have HB := Lib.hid (HB0.out.trans hb)
  clear hb
  go_wp2
  go_ret
  exact ⟨rfl, HB.out⟩
theorem moves_no (P : Int) (pa : Option Addr) (N ca : Nat) (t : T) (w : World) (h : N ≤ 60) (hP : ¬ (0 ≤ P ∧ P ≤ 1024)) :
    Calls Try.prog 5 #[.int .i64 P, .slice pa N ca, .agg #[.int .u64 t.a, .int .u64 t.s, .int .i64 t.p]] w fun e w' => e = .returned (.bool true) ∧ Bel w w' := by
  have h' : ¬ (60 : Int) < N := by omega
  have HB0 : Hid (Bel w (w.alloc (.cells #[.int .u64 t.a, .int .u64 t.s, .int .i64 t.p] 38))) := Lib.hid ((Bel.refl _).alloc _ _)
  have K := Lib.hid (fun w => made_no P pa N ca w hP)
  clear hP
  go_enter Try.func5, Try.ntmps5
  go_wp2_with fail
  with_reducible refine (works_any _).mono ?_
  rintro e w1 ⟨rfl, hb⟩
  have HB := Lib.hid (HB0.out.trans hb)
  clear hb
  go_wp2_with fail
  with_reducible refine (K.out _).mono ?_
  rintro e w2 ⟨rfl, hb⟩
  have HB2 := Lib.hid (HB.out.trans (hb.alloc #[.int .i64 0, .slice none 0 0] 27))
  clear hb
  go_wp2_with fail
  with_reducible refine (K.out _).mono ?_
  rintro e w3 ⟨rfl, hb⟩
  have HB3 := Lib.hid (HB2.out.trans (hb.alloc #[.int .i64 0, .slice none 0 0] 27))
  clear hb
  go_wp2
  go_ret
  exact ⟨rfl, HB3.out⟩
/-- Two queues, with their lists, side by side. -/
structure Two (w : World) (Q B G R Q2 B2 G2 R2 P : Nat) (l l2 : List T) (w1 : World) : Prop where
  a : Qu w1 Q B G R P l
  b : Qu w1 Q2 B2 G2 R2 P l2
  bel : Bel w w1
  ge : (w.heap.size ≤ G ∧ w.heap.size ≤ R) ∧ (w.heap.size ≤ G2 ∧ w.heap.size ≤ R2)
  ap : ∀ k, Foot G R k → ¬ (k = Q2 ∨ k = B2 ∨ k = G2 ∨ k = R2)
  bp : ∀ k, Foot G2 R2 k → ¬ (k = Q ∨ k = B ∨ k = G ∨ k = R)
section
variable {w : World} {Q B G R Q2 B2 G2 R2 P : Nat} {l l2 : List T} {w1 w2 : World}
theorem Two.le (h : Two w Q B G R Q2 B2 G2 R2 P l l2 w1) (k : Bel w1 w2) : Two w Q B G R Q2 B2 G2 R2 P l l2 w2 := ⟨h.a.bel k, h.b.bel k, h.bel.trans k, h.ge, h.ap, h.bp⟩
theorem Two.stepA {l' : List T} (h : Two w Q B G R Q2 B2 G2 R2 P l l2 w1) (hq : Qu w2 Q B G R P l') (k : Off (Foot G R) w1 w2) : Two w Q B G R Q2 B2 G2 R2 P l' l2 w2 :=
  ⟨hq, h.b.off k (fun e => h.ap _ e (.inl rfl)) (fun e => h.ap _ e (.inr (.inl rfl))) (fun e => h.ap _ e (.inr (.inr (.inl rfl)))) (fun e => h.ap _ e (.inr (.inr (.inr rfl)))), Off.trans h.bel k (fun i e => .inr (by have := h.ge; rcases e with e | e <;> omega)), h.ge, h.ap, h.bp⟩
theorem Two.stepB {l' : List T} (h : Two w Q B G R Q2 B2 G2 R2 P l l2 w1) (hq : Qu w2 Q2 B2 G2 R2 P l') (k : Off (Foot G2 R2) w1 w2) : Two w Q B G R Q2 B2 G2 R2 P l l' w2 :=
  ⟨h.a.off k (fun e => h.bp _ e (.inl rfl)) (fun e => h.bp _ e (.inr (.inl rfl))) (fun e => h.bp _ e (.inr (.inr (.inl rfl)))) (fun e => h.bp _ e (.inr (.inr (.inr rfl)))), hq, Off.trans h.bel k (fun i e => .inr (by have := h.ge; rcases e with e | e <;> omega)), h.ge, h.ap, h.bp⟩
theorem Two.mk' {wa wb : World} (hb : Bel w wa) (h1 : Fresh wa w1 Q B G R P l) (hab : Bel w1 wb) (h2 : Fresh wb w2 Q2 B2 G2 R2 P l2) : Two w Q B G R Q2 B2 G2 R2 P l l2 w2 := by
  have q1 := h1.qu.lts
  have z1 := hb.size
  have z2 := h1.bel.size
  have z3 := hab.size
  have g1 := h1.geG
  have g2 := h1.geR
  have g3 := h2.geG
  have g4 := h2.geR
  have g5 := h2.geQ
  have g6 := h2.geB
  refine ⟨(h1.qu.bel hab).bel h2.bel, h2.qu, ((hb.trans h1.bel).trans hab).trans h2.bel, ⟨⟨by omega, by omega⟩, by omega, by omega⟩, fun k e => ?_, fun k e => ?_⟩
  · rcases e with e | e <;> omega
  · rcases e with e | e <;> omega
end
/-- What an object of the caller's keeps while queues turn. -/
theorem Two.keepA {w : World} {Q B G R Q2 B2 G2 R2 P : Nat} {l l2 : List T} {w1 w2 : World} (h : Two w Q B G R Q2 B2 G2 R2 P l l2 w1) (k : Off (Foot G R) w1 w2) {b : Nat} {o : Obj} (hb : b < w.heap.size) (ho : w1.heap[b]? = some o) : w2.heap[b]? = some o :=
  (k.block b (Array.getElem?_eq_some_iff.1 ho).1 (fun e => by have := h.ge; rcases e with e | e <;> omega)).trans ho
theorem fnd_put {l : List T} {t : T} (hf : fnd l t.p = none) : fnd (put l t) t.p = some t := by
  have h1 : ∀ x ∈ put l t, x.p = t.p → x = t := fun x hx e => by
    rcases List.mem_cons.1 ((put_perm l t).subset hx) with rfl | hx
    · rfl
    · exact absurd e (fnd_none hf x hx)
  cases e : fnd (put l t) t.p with
  | none =>
    exact absurd rfl (fnd_none e t ((put_perm l t).symm.subset (by simp)))
  | some x =>
    obtain ⟨h2, h3⟩ := fnd_some e
    rw [h1 x h2 h3]
theorem all_has (Q B G R P : Nat) (l : List T) (w : World) (h : Qu w Q B G R P l) :
    Calls Try.prog 10 #[.pointer (some ⟨Q, 0, none⟩)] w fun e w2 => (∃ q d, e = .returned (.slice q l.length d) ∧ Has w2 q l) ∧ Bel w w2 :=
  (all_any Q B G R P l w h).mono fun e w2 ⟨⟨q, d, he, _, hh⟩, hb⟩ => ⟨⟨q, d, he, hh.has⟩, hb⟩
set_option maxHeartbeats 4000000 in
set_option maxRecDepth 100000 in
theorem moves_yes (P : Nat) (pa : Option Addr) (N ca : Nat) (al : List Ak) (t : T) (w : World) (h : N ≤ 60) (hl : al.length = N) (hA : Lies nof w pa (encK al)) (hP : P ≤ 1024) :
    Calls Try.prog 5 #[.int .i64 P, .slice pa N ca, .agg #[.int .u64 t.a, .int .u64 t.s, .int .i64 t.p]] w fun e w' => e = .returned (.bool true) ∧ Bel w w' := by
  have h' : ¬ (60 : Int) < N := by omega
  have HB0 : Hid (Bel w (w.alloc (.cells #[.int .u64 t.a, .int .u64 t.s, .int .i64 t.p] 38))) := Lib.hid ((Bel.refl _).alloc _ _)
  have M5 := Lib.hid (heap_alloc_new w (.cells #[.int .u64 t.a, .int .u64 t.s, .int .i64 t.p] 38))
  have K := Lib.hid (fun w' (hb : Bel w w') => made_yes P pa N ca al w' hP hl h (hA.bel hb))
  clear hl hA
  generalize pla P al = l at *
  go_enter Try.func5, Try.ntmps5
  go_wp2_with fail
  with_reducible refine (works_any _).mono ?_
  rintro e w1 ⟨rfl, hb⟩
  have HB := Lib.hid (HB0.out.trans hb)
  have M5 := Lib.hid (hb.heap M5.out)
  clear hb
  generalize w.heap.size = b5 at *
  go_wp2_with fail
  with_reducible refine (K.out _ HB.out).mono ?_
  rintro e w2 ⟨Q, B, G, R, p, c, rfl, hF, _, _⟩
  have HF := Lib.hid hF
  have HBA : Hid (Bel w2 (w2.alloc (.cells #[.int .i64 P, .slice p l.length c] 27))) := Lib.hid ((Bel.refl _).alloc _ _)
  clear hF
  go_upto_region 7 with (fail)
  generalize w2.alloc (.cells #[.int .i64 P, .slice p l.length c] 27) = W2 at *
  go_wp2_with fail
  with_reducible refine (K.out _ ((HB.out.trans HF.out.bel).trans HBA.out)).mono ?_
  rintro e w3 ⟨Q2, B2, G2, R2, p2, c2, rfl, hF2, _, _⟩
  have HT := Lib.hid ((Two.mk' (Bel.refl w1) HF.out HBA.out hF2).le ((Bel.refl w3).alloc #[.int .i64 P, .slice p2 l.length c2] 27))
  clear hF2 HF HBA K
  go_upto_region 8 with (fail)
  generalize w3.alloc (.cells #[.int .i64 P, .slice p2 l.length c2] 27) = W3 at *
  obtain ⟨⟨x0, x1, x2⟩, _⟩ := box3 (HT.out.bel.heap M5.out)
  have KM := Lib.hid (move_any Q B G R P l t W3 HT.out.a)
  have hcs := canE_cases P l t.p
  have HWO : Hid (¬ canE P l t.p = 0 → wo l t.p = movL P l t) := Lib.hid (fun hn => by
    unfold movL
    rw [if_neg hn]
    rcases hcs with ⟨_, ⟨_, hk⟩ | ⟨_, _, hf⟩⟩ | ⟨h0, _⟩
    · refine wo_none ?_
      obtain ⟨⟨g, r, h1, h2⟩, _⟩ := HT.out.a
      exact h2.outside hk
    · exact wo_none hf
    · exact absurd h0 hn)
  have HMV : Hid (canE P l t.p = 0 → movL P l t = put (wo l t.p) t ∧ insE P (wo l t.p) t = 0 ∧ fnd (movL P l t) t.p = some t ∧ ((fnd l t.p).getD default).p = t.p) := Lib.hid (fun hz => by
    rcases hcs with ⟨hn, _⟩ | ⟨_, j, ej, hj, x, hfd⟩
    · exact absurd hz hn
    · have e1 : movL P l t = put (wo l t.p) t := by unfold movL; rw [if_pos hz]
      refine ⟨e1, insE_wo ej hj, by rw [e1]; exact fnd_put (fnd_wo l t.p), ?_⟩
      rw [ej, hfd]
      exact (fnd_some hfd).2)
  go_wp2_with fail
  with_reducible refine KM.out.mono ?_
  rintro e w4 ⟨rfl, hq4, ho4⟩
  have HT4 := Lib.hid (HT.out.stepA hq4 ho4)
  clear hq4 ho4 KM x0 x1 x2 hcs
  obtain ⟨⟨x0, x1, x2⟩, _⟩ := box3 (HT4.out.bel.heap M5.out)
  have KC := Lib.hid (cancel_any Q2 B2 G2 R2 P l t.p w4 HT4.out.b)
  unfold canV at KC
  go_wp2_with fail
  with_reducible refine KC.out.mono ?_
  rintro e w5 ⟨rfl, hq5, ho5⟩
  have HT5 := Lib.hid ((HT4.out.stepB hq5 ho5).le ((Bel.refl w5).alloc #[.int .u64 ((fnd l t.p).getD default).a, .int .u64 ((fnd l t.p).getD default).s, .int .i64 ((fnd l t.p).getD default).p] 38))
  have M15 := Lib.hid (heap_alloc_new w5 (.cells #[.int .u64 ((fnd l t.p).getD default).a, .int .u64 ((fnd l t.p).getD default).s, .int .i64 ((fnd l t.p).getD default).p] 38))
  have hz5 : (Q2 < w5.heap.size ∧ B2 < w5.heap.size) ∧ G2 < w5.heap.size ∧ R2 < w5.heap.size := hq5.lts
  clear hq5 ho5 KC x0 x1 x2 HT HT4
  generalize hx : (fnd l t.p).getD default = x at *
  go_upto_region 12 with (fail)
  generalize w5.alloc (.cells #[.int .u64 x.a, .int .u64 x.s, .int .i64 x.p] 38) = W5 at *
  generalize w5.heap.size = b15 at *
  have nF : Hid (¬ Foot G2 R2 b15) := Lib.hid (fun e => by rcases e with e | e <;> omega)
  obtain ⟨⟨x0, x1, x2⟩, _⟩ := box3 (HT5.out.bel.heap M5.out)
  by_cases hz : canE P l t.p = 0
  · obtain ⟨e1, e2, e3, e4⟩ := HMV.out hz
    rw [hz]
    have KI := Lib.hid (insert_any Q2 B2 G2 R2 P (wo l t.p) t W5 HT5.out.b)
    have eL : insL P (wo l t.p) t = movL P l t := by unfold insL; rw [if_pos e2, e1]
    rw [e2, eL] at KI
    go_wp2_with fail
    with_reducible refine KI.out.mono ?_
    rintro e w6 ⟨rfl, hq6, ho6⟩
    have HT6 := Lib.hid (HT5.out.stepB hq6 ho6)
    have M15 := Lib.hid ((ho6.block b15 (Array.getElem?_eq_some_iff.1 M15.out).1 nF.out).trans M15.out)
    clear hq6 ho6 KI x0 x1 x2 HT5
    obtain ⟨⟨x0, x1, x2⟩, _⟩ := box3 (HT6.out.bel.heap M5.out)
    have KG := Lib.hid (get_any Q B G R P (movL P l t) t.p w6 HT6.out.a)
    rw [e3] at KG
    unfold ansT at KG
    have HX4 := Lib.hid e4
    clear e1 e2 e3 e4 eL hz HWO HMV hx
    generalize movL P l t = ll at *
    go_wp2_with fail
    with_reducible refine KG.out.mono ?_
    rintro e w7 ⟨rfl, hb7⟩
    have hbA : Bel w6 (w7.alloc (.cells #[.int .u64 t.a, .int .u64 t.s, .int .i64 t.p] 38)) := hb7.alloc _ _
    have HT7 := Lib.hid (HT6.out.le hbA)
    have M15 := Lib.hid (hbA.heap M15.out)
    have M18 := Lib.hid (heap_alloc_new w7 (.cells #[.int .u64 t.a, .int .u64 t.s, .int .i64 t.p] 38))
    clear hb7 hbA KG x0 x1 x2 HT6
    go_upto_region 17 with (fail)
    generalize w7.alloc (.cells #[.int .u64 t.a, .int .u64 t.s, .int .i64 t.p] 38) = W7 at *
    generalize w7.heap.size = b18 at *
    have KA1 := Lib.hid (all_has Q B G R P ll W7 HT7.out.a)
    go_wp2_with fail
    with_reducible refine KA1.out.mono ?_
    rintro e w8 ⟨⟨q1, d1, rfl, hh1⟩, hb8⟩
    have KA2 := Lib.hid (all_has Q2 B2 G2 R2 P ll w8 (HT7.out.le hb8).b)
    have HH1 := Lib.hid hh1
    have HB8 := Lib.hid hb8
    clear hb8 hh1 KA1
    go_wp2_with fail
    with_reducible refine KA2.out.mono ?_
    rintro e w9 ⟨⟨q2, d2, rfl, hh2⟩, hb9⟩
    have KS := Lib.hid (same_yes q1 q2 d1 d2 ll w9 (Nat.le_trans HT7.out.a.len (by omega)) (HH1.out.bel hb9) hh2)
    have HB9 := Lib.hid (HB8.out.trans hb9)
    clear hb9 hh2 KA2
    go_wp2_with fail
    with_reducible refine KS.out.mono ?_
    rintro e w10 ⟨rfl, hb10⟩
    have HB10 := Lib.hid (HB9.out.trans hb10)
    clear hb10 KS
    obtain ⟨⟨x0, x1, x2⟩, _⟩ := box3 ((HT7.out.bel.trans HB10.out).heap M5.out)
    obtain ⟨⟨y0, y1, y2⟩, _⟩ := box3 (HB10.out.heap M18.out)
    obtain ⟨⟨z0, z1, z2⟩, _⟩ := box3 (HB10.out.heap M15.out)
    have hE := eql_yes t t rfl
    have hP4 : (x.p == t.p) = true := by rw [HX4.out]; simp
    have HE := Lib.hid ((HB.out.trans HT7.out.bel).trans HB10.out)
    go_wp2
    go_ret
    exact ⟨rfl, HE.out⟩
  · have hzb : (canE P l t.p == 0) = false := by simpa using hz
    have eW := HWO.out hz
    rw [eW] at HT5
    have KG := Lib.hid (get_any Q B G R P (movL P l t) t.p W5 HT5.out.a)
    rw [ansT_eq] at KG
    have hEE : (canE P l t.p == canE P l t.p) = true := by simp
    have HZ := Lib.hid hz
    clear eW hz HWO HMV hx
    generalize ((fnd (movL P l t) t.p).getD default).a = u0 at *
    generalize ((fnd (movL P l t) t.p).getD default).s = u1 at *
    generalize ((fnd (movL P l t) t.p).getD default).p = u2 at *
    generalize (fnd (movL P l t) t.p).isSome = us at *
    generalize movL P l t = ll at *
    generalize canE P l t.p = er at *
    go_wp2_with fail
    with_reducible refine KG.out.mono ?_
    rintro e w7 ⟨rfl, hb7⟩
    have hbA : Bel W5 (w7.alloc (.cells #[.int .u64 u0, .int .u64 u1, .int .i64 u2] 38)) := hb7.alloc _ _
    have HT7 := Lib.hid (HT5.out.le hbA)
    clear hb7 hbA KG x0 x1 x2 HT5
    go_upto_region 17 with (fail)
    generalize w7.alloc (.cells #[.int .u64 u0, .int .u64 u1, .int .i64 u2] 38) = W7 at *
    have KA1 := Lib.hid (all_has Q B G R P ll W7 HT7.out.a)
    go_wp2_with fail
    with_reducible refine KA1.out.mono ?_
    rintro e w8 ⟨⟨q1, d1, rfl, hh1⟩, hb8⟩
    have KA2 := Lib.hid (all_has Q2 B2 G2 R2 P ll w8 (HT7.out.le hb8).b)
    have HH1 := Lib.hid hh1
    have HB8 := Lib.hid hb8
    clear hb8 hh1 KA1
    go_wp2_with fail
    with_reducible refine KA2.out.mono ?_
    rintro e w9 ⟨⟨q2, d2, rfl, hh2⟩, hb9⟩
    have KS := Lib.hid (same_yes q1 q2 d1 d2 ll w9 (Nat.le_trans HT7.out.a.len (by omega)) (HH1.out.bel hb9) hh2)
    have HB9 := Lib.hid (HB8.out.trans hb9)
    clear hb9 hh2 KA2
    go_wp2_with fail
    with_reducible refine KS.out.mono ?_
    rintro e w10 ⟨rfl, hb10⟩
    have HE := Lib.hid ((HB.out.trans HT7.out.bel).trans (HB9.out.trans hb10))
    clear hb10 KS
    have hz1 := HZ.out
    have hz2 : (er == 0) = false := by simpa using hz1
    have hz3 : (er != 0) = true := by simpa using hz1
    have hE3 : (er == er) = true := by simp
    go_wp2
    go_ret
    exact ⟨rfl, HE.out⟩
end Go.Proofs.Ytmkpnojojkgmiaa
