/-
  Contracts of a wheel of four levels: Insert, Cancel, Move.
-/
import Derived.Test.YtdoceldofkaapaaGreatDoorXat
set_option linter.unusedVariables false
set_option linter.unusedSimpArgs false
namespace Go.Proofs.YtdoceldofkaapaaGreatDoor
open Go.RowKit
section
variable {Q Z B G R P b : Nat} {s k : Int} {l : List T}
theorem Rest.put {w : World} {x : T} (h : Rest w Q Z B G R b s l) (hx : Tk x.a) : Rest w Q Z B G R b s (put l x) :=
  ⟨h.hb, h.ts, fun t ht => by
    rcases List.mem_cons.1 ((put_perm l x).mem_iff.1 ht) with rfl | ht
    · exact hx
    · exact h.tl t ht, h.tab, h.zs⟩
set_option maxHeartbeats 1000000 in
theorem rins_no (x : T) (w : World) (q : Wr w Q Z B G R P b s k l) (hx : Tk x.a) (hn : ¬ insE P l x = 0) :
    Calls Tryz.prog 37 #[.pointer (some ⟨Q, 0, none⟩), .agg #[.int .u64 x.a, .int .u64 x.s, .int .i64 x.p]] w fun e w' => e = .returned (.int .i64 (insE P l x)) ∧ Bel w w' := by
  obtain ⟨⟨ls, r, F, q1, q2, q4⟩, q3⟩ := q
  have HB0 : Hid (Bel w (w.alloc (.cells #[.int .u64 x.a, .int .u64 x.s, .int .i64 x.p] 37))) := Lib.hid ((Bel.refl _).alloc _ _)
  have HN : Hid ((w.alloc (.cells #[.int .u64 x.a, .int .u64 x.s, .int .i64 x.p] 37)).heap[w.heap.size]? = some (.cells #[.int .u64 x.a, .int .u64 x.s, .int .i64 x.p] 37 (0, 0))) := Lib.hid (heap_alloc_new _ _)
  have qa := q1.bel HB0.out
  have K1 := Lib.hid (spot_at Q b s x _ q3.ts hx q3.hb (qa.cell (i := 21) rfl) (qa.cell (i := 22) rfl))
  have K2 : Hid (∀ w', Bel w w' → Calls Tryz.prog 66 #[.pointer (some ⟨Q, 0, none⟩), spV (lv b s x.a) (sv b s x.a), .agg #[.int .u64 x.a, .int .u64 x.s, .int .i64 x.p]] w' fun e w2 => e = .returned (.int .i64 (insE P l x)) ∧ Bel w' w2) := Lib.hid (fun w' hw => rput_no x w' (q1.bel hw) q3.hb.2 q4 hn)
  have hne : (insE P l x == 0) = false := by simpa using hn
  have lQ := q1.ltQ
  generalize insE P l x = er at *
  generalize lv b s x.a = v at *
  generalize sv b s x.a = u at *
  clear q1 q2 q3 q4 qa hn
  go_enter Tryz.func37, Tryz.ntmps37
  go_wp2_with fail
  with_reducible refine K1.out.mono ?_
  rintro e w1 ⟨rfl, hb1⟩
  have HB1 := Lib.hid ((HB0.out.trans hb1).alloc #[.int .i64 v, .int .i64 u] 109)
  have HN1 := Lib.hid ((hb1.alloc #[.int .i64 v, .int .i64 u] 109).heap HN.out)
  have HM1 : Hid ((w1.alloc (.cells #[.int .i64 v, .int .i64 u] 109)).heap[w1.heap.size]? = some (.cells #[.int .i64 v, .int .i64 u] 109 (0, 0))) := Lib.hid (heap_alloc_new _ _)
  clear hb1
  go_upto_region 2 with (fail)
  generalize w1.alloc (.cells #[.int .i64 v, .int .i64 u] 109) = W2 at *
  generalize w1.heap.size = N2 at *
  obtain ⟨⟨x0, x1, x2⟩, _⟩ := box3 HN1.out
  obtain ⟨⟨y0, y1⟩, _⟩ := box2 HM1.out
  go_wp2_with fail
  with_reducible refine (K2.out _ HB1.out).mono ?_
  rintro e w3 ⟨rfl, hb3⟩
  have HB3 := Lib.hid (HB1.out.trans hb3)
  clear hb3
  go_wp2
  go_ret
  exact ⟨rfl, HB3.out⟩
set_option maxHeartbeats 1000000 in
theorem rins_ok (x : T) (w : World) (q : Wr w Q Z B G R P b s k l) (hx : Tk x.a) {j : Nat} (e : x.p = j) (hj : j < P) (hf : fnd l j = none) :
    Calls Tryz.prog 37 #[.pointer (some ⟨Q, 0, none⟩), .agg #[.int .u64 x.a, .int .u64 x.s, .int .i64 x.p]] w fun e w' => e = .returned (.int .i64 0) ∧ Wr w' Q Z B G R P b s k (put l x) ∧ Off (Fo Q G R) w w' := by
  obtain ⟨⟨ls, r, F, q1, q2, q4⟩, q3⟩ := q
  have HB0 : Hid (Bel w (w.alloc (.cells #[.int .u64 x.a, .int .u64 x.s, .int .i64 x.p] 37))) := Lib.hid ((Bel.refl _).alloc _ _)
  have HN : Hid ((w.alloc (.cells #[.int .u64 x.a, .int .u64 x.s, .int .i64 x.p] 37)).heap[w.heap.size]? = some (.cells #[.int .u64 x.a, .int .u64 x.s, .int .i64 x.p] 37 (0, 0))) := Lib.hid (heap_alloc_new _ _)
  have qa := q1.bel HB0.out
  have K1 := Lib.hid (spot_at Q b s x _ q3.ts hx q3.hb (qa.cell (i := 21) rfl) (qa.cell (i := 22) rfl))
  have K2 : Hid (∀ w', Bel w w' → Calls Tryz.prog 66 #[.pointer (some ⟨Q, 0, none⟩), spV (lv b s x.a) (sv b s x.a), .agg #[.int .u64 x.a, .int .u64 x.s, .int .i64 x.p]] w' fun e w2 => e = .returned (.int .i64 0) ∧ Pt w2 Q Z B G R P b s k F ls x (put l x) ∧ Off (Fo2 G R) w' w2) := Lib.hid (fun w' hw => rput_ok x w' (q1.bel hw) q3.hb.2 q4 e hj hf)
  have K3 : Hid (∀ w', Pt w' Q Z B G R P b s k F ls x (put l x) → Off (Fo2 G R) w w' → Calls Tryz.prog 67 #[.pointer (some ⟨Q, 0, none⟩), spV (lv b s x.a) (sv b s x.a)] w' fun e w2 => e = .returned (.tuple #[]) ∧ Wr w2 Q Z B G R P b s k (put l x) ∧ Off (Fo Q G R) w' w2) :=
    Lib.hid (fun w' ⟨⟨ls', r', h1, h2, h3⟩⟩ ho => mark_wr w' h1 q2 (spot_cases b s x.a) h2 h3 ((q3.put hx).off ho q3.fo2))
  obtain ⟨lQ, lZ, lB, lG, lR⟩ := q1.lt
  have HLT : Hid (∀ i, Fo2 G R i → i < w.heap.size) := Lib.hid (fun i e => by rcases e with e | e <;> omega)
  generalize lv b s x.a = v at *
  generalize sv b s x.a = u at *
  clear q1 q2 q3 q4 qa e hf
  go_enter Tryz.func37, Tryz.ntmps37
  go_wp2_with fail
  with_reducible refine K1.out.mono ?_
  rintro e w1 ⟨rfl, hb1⟩
  have HB1 := Lib.hid ((HB0.out.trans hb1).alloc #[.int .i64 v, .int .i64 u] 109)
  have HN1 := Lib.hid ((hb1.alloc #[.int .i64 v, .int .i64 u] 109).heap HN.out)
  have HM1 : Hid ((w1.alloc (.cells #[.int .i64 v, .int .i64 u] 109)).heap[w1.heap.size]? = some (.cells #[.int .i64 v, .int .i64 u] 109 (0, 0))) := Lib.hid (heap_alloc_new _ _)
  have HZ1 : Hid (w.heap.size ≤ w1.heap.size) := Lib.hid (HB0.out.trans hb1).size
  clear hb1
  go_upto_region 2 with (fail)
  generalize w1.alloc (.cells #[.int .i64 v, .int .i64 u] 109) = W2 at *
  generalize w1.heap.size = N2 at *
  obtain ⟨⟨x0, x1, x2⟩, _⟩ := box3 HN1.out
  obtain ⟨⟨y0, y1⟩, _⟩ := box2 HM1.out
  go_wp2_with fail
  with_reducible refine (K2.out _ HB1.out).mono ?_
  rintro e w3 ⟨rfl, hp, ho⟩
  have HO3 : Hid (Off (Fo2 G R) w w3) := Lib.hid ((HB1.out.off _).then ho)
  have hm3 : w3.heap[N2]? = some (.cells #[.int .i64 v, .int .i64 u] 109 (0, 0)) := (ho.block _ (Array.getElem?_eq_some_iff.1 HM1.out).1 (fun e => by have := HLT.out _ e; have := HZ1.out; omega)).trans HM1.out
  have KX := Lib.hid (K3.out w3 hp HO3.out)
  clear x0 x1 x2 y0 y1 hp ho
  obtain ⟨⟨y0, y1⟩, _⟩ := box2 hm3
  clear hm3
  go_wp2_with fail
  with_reducible refine KX.out.mono ?_
  rintro e w4 ⟨rfl, hq4, ho4⟩
  have HQ4 := Lib.hid hq4
  have HO4 := Lib.hid (HO3.out.foG.then ho4)
  clear hq4 ho4
  go_wp2
  go_ret
  exact ⟨rfl, HQ4.out, HO4.out⟩
theorem rins_any (x : T) (w : World) (q : Wr w Q Z B G R P b s k l) (hx : Tk x.a) :
    Calls Tryz.prog 37 #[.pointer (some ⟨Q, 0, none⟩), .agg #[.int .u64 x.a, .int .u64 x.s, .int .i64 x.p]] w fun e w' => e = .returned (.int .i64 (insE P l x)) ∧ Wr w' Q Z B G R P b s k (insL P l x) ∧ Off (Fo Q G R) w w' := by
  by_cases h : insE P l x = 0
  · unfold insL
    rw [if_pos h, h]
    rcases insE_cases P l x with ⟨e, _⟩ | ⟨j, e, hj, (⟨e2, _⟩ | ⟨_, hf⟩)⟩
    · omega
    · omega
    · exact rins_ok x w q hx e hj hf
  · unfold insL
    rw [if_neg h]
    exact (rins_no x w q hx h).mono fun e w' ⟨h1, h2⟩ => ⟨h1, q.bel h2, h2.off _⟩
set_option maxHeartbeats 1000000 in
theorem rcan_no (p : Int) (w : World) (q : Wr w Q Z B G R P b s k l) (hn : ¬ canE P l p = 0) :
    Calls Tryz.prog 56 #[.pointer (some ⟨Q, 0, none⟩), .int .i64 p] w fun e w' => e = .returned (canV default (canE P l p)) ∧ Bel w w' := by
  obtain ⟨⟨ls, r, F, q1, q2, q4⟩, q3⟩ := q
  have HB0 : Hid (Bel w (w.alloc (.cells #[.int .u64 0, .int .u64 0, .int .i64 0] 37))) := Lib.hid ((Bel.refl _).alloc _ _)
  have HN : Hid ((w.alloc (.cells #[.int .u64 0, .int .u64 0, .int .i64 0] 37)).heap[w.heap.size]? = some (.cells #[.int .u64 0, .int .u64 0, .int .i64 0] 37 (0, 0))) := Lib.hid (heap_alloc_new _ _)
  have K1 := Lib.hid (take_no p _ (q1.ql.bel HB0.out) hn)
  have hne2 : (canE P l p == 0) = false := by simpa using hn
  have lQ := q1.ltQ
  have c0 : w.cell? ⟨Q, 0, none⟩ = some (.pointer (some ⟨Z, 0, none⟩)) := q1.cell rfl
  generalize canE P l p = er at *
  clear q1 q2 q3 q4 hn
  unfold canV at K1
  simp only [default] at K1
  go_enter Tryz.func56, Tryz.ntmps56
  go_wp2_with fail
  with_reducible refine K1.out.mono ?_
  rintro e w1 ⟨rfl, hb⟩
  have HB1 : Hid (Bel w (w1.alloc (.cells #[.int .u64 0, .int .u64 0, .int .i64 0] 37))) := Lib.hid ((HB0.out.trans hb).alloc _ _)
  obtain ⟨⟨b0, b1, b2⟩, f0, f1, f2⟩ := box3 ((hb.alloc #[.int .u64 0, .int .u64 0, .int .i64 0] 37).heap HN.out)
  have HE := Lib.hid (bel3 HB1.out (Nat.le_refl _) (.int .u64 0) (.int .u64 0) (.int .i64 0))
  have lN : w.heap.size < w1.heap.size := by have := hb.size; simp at this; omega
  clear hb
  go_upto_region 2 with (fail)
  generalize w1.alloc (.cells #[.int .u64 0, .int .u64 0, .int .i64 0] 37) = W2 at *
  go_wp2
  exact bodyPost_ret (v := canV default er) (by simp [results, Tryz.results56, go_sem, b0, b1, b2, canV, default]) rfl ⟨rfl, HE.out⟩
set_option maxHeartbeats 2000000 in
theorem rcan_ok {j : Nat} {x : T} (w : World) (q : Wr w Q Z B G R P b s k l) (hf : fnd l j = some x) :
    Calls Tryz.prog 56 #[.pointer (some ⟨Q, 0, none⟩), .int .i64 j] w fun e w' => e = .returned (canV x 0) ∧ Wr w' Q Z B G R P b s k (wo l j) ∧ Off (Fo Q G R) w w' := by
  obtain ⟨⟨ls, r, F, q1, q2, q4⟩, q3⟩ := q
  have hpw := pow_le q3.hb.2
  have HB0 : Hid (Bel w (w.alloc (.cells #[.int .u64 0, .int .u64 0, .int .i64 0] 37))) := Lib.hid ((Bel.refl _).alloc _ _)
  have HN : Hid ((w.alloc (.cells #[.int .u64 0, .int .u64 0, .int .i64 0] 37)).heap[w.heap.size]? = some (.cells #[.int .u64 0, .int .u64 0, .int .i64 0] 37 (0, 0))) := Lib.hid (heap_alloc_new _ _)
  obtain ⟨a, c, hl, k1⟩ := take_ok _ (q1.ql.bel HB0.out) hf
  have K1 := Lib.hid k1
  have hx := (fnd_some hf).1
  have hta := q3.tl x hx
  have hlo := lw_lt b s x
  have hsub : ∀ y ∈ wo l j, y ∈ l := fun y hy => (List.mem_filter.1 hy).1
  have hso : So (((upd ls (lw b s x) (a ++ c)) 1).map (upT r j ⟨0, 0, 0⟩)) := q4.sublist (Sb.drop q1.ql.is hf (q1.ql.rep hlo).1 hl 1 (by omega))
  have c0 : w.cell? ⟨Q, 0, none⟩ = some (.pointer (some ⟨Z, 0, none⟩)) := q1.cell rfl
  obtain ⟨lQ, lZ, lB, lG, lR⟩ := q1.lt
  have KQ : Hid (∀ w1, Off (Fo2 G R) w w1 → Qp w1 Z B G R P (2 + 4 * 2 ^ b) (lw b s) (upd ls (lw b s x) (a ++ c)) (upT r j ⟨0, 0, 0⟩) (wo l j) → Qw w1 Q Z B G R P (2 + 4 * 2 ^ b) (lw b s) (upd ls (lw b s x) (a ++ c)) (upT r j ⟨0, 0, 0⟩) 78 (rcells Z b (fst4 b) F s k) (wo l j)) := Lib.hid (fun w1 ho hq => q1.put ho hq)
  have K2 : Hid (∀ w1, Qw w1 Q Z B G R P (2 + 4 * 2 ^ b) (lw b s) (upd ls (lw b s x) (a ++ c)) (upT r j ⟨0, 0, 0⟩) 78 (rcells Z b (fst4 b) F s k) (wo l j) → Calls Tryz.prog 59 #[.pointer (some ⟨Q, 0, none⟩), .agg #[.int .u64 x.a, .int .u64 x.s, .int .i64 x.p]] w1 fun e w' => e = .returned (spV (lv b s x.a) (sv b s x.a)) ∧ Bel w1 w') :=
    Lib.hid (fun w1 h => spot_at Q b s x w1 q3.ts hta q3.hb (h.cell (i := 21) rfl) (h.cell (i := 22) rfl))
  have K3 : Hid (∀ w1, Qw w1 Q Z B G R P (2 + 4 * 2 ^ b) (lw b s) (upd ls (lw b s x) (a ++ c)) (upT r j ⟨0, 0, 0⟩) 78 (rcells Z b (fst4 b) F s k) (wo l j) → Off (Fo2 G R) w w1 →
      Calls Tryz.prog 67 #[.pointer (some ⟨Q, 0, none⟩), spV (lv b s x.a) (sv b s x.a)] w1 fun e w' => e = .returned (.tuple #[]) ∧ Wr w' Q Z B G R P b s k (wo l j) ∧ Off (Fo Q G R) w1 w') :=
    Lib.hid (fun w1 h ho => mark_wr w1 h q2 (spot_cases b s x.a) (fun t ht => upd_other _ _ ht) hso ((q3.sub hsub).off ho q3.fo2))
  generalize lv b s x.a = v at *
  generalize sv b s x.a = u at *
  generalize upd ls (lw b s x) (a ++ c) = ls1 at *
  have nF : Hid (∀ i, Fo5 Q Z B G R i → ¬ i = w.heap.size) := Lib.hid (fun i e => by rcases e with e | e | e | e | e <;> omega)
  have HFL : Hid (∀ i, Fo Q G R i → i < w.heap.size) := Lib.hid (fun i e => by rcases e with e | e | e <;> omega)
  have n0 : Hid (¬ (0 : Nat) = w.heap.size) := Lib.hid (by omega)
  unfold canV at K1
  clear q1 q2 q3 q4 hf hl k1 hx hta hsub hlo hso
  obtain ⟨xa, xs, xp⟩ := x
  simp only at *
  go_enter Tryz.func56, Tryz.ntmps56
  go_wp2_with fail
  with_reducible refine K1.out.mono ?_
  rintro e w1 ⟨rfl, hq, ho⟩
  have HO1 : Hid (Off (Fo2 G R) w (w1.alloc (.cells #[.int .u64 xa, .int .u64 xs, .int .i64 xp] 37))) := Lib.hid (((HB0.out.off (Fo2 G R)).then ho).then (((Bel.refl w1).alloc _ _).off _))
  have HQ1 := Lib.hid (KQ.out _ HO1.out (hq.bel ((Bel.refl w1).alloc #[.int .u64 xa, .int .u64 xs, .int .i64 xp] 37)))
  have lN : w.heap.size < w1.heap.size := by have := ho.size; simp at this; omega
  have HN1 : Hid ((w1.alloc (.cells #[.int .u64 xa, .int .u64 xs, .int .i64 xp] 37)).heap[w.heap.size]? = some (.cells #[.int .u64 0, .int .u64 0, .int .i64 0] 37 (0, 0))) :=
    Lib.hid ((((Bel.refl w1).alloc #[.int .u64 xa, .int .u64 xs, .int .i64 xp] 37).block _ lN (fun e => e)).trans ((ho.block _ (by simp) (fun e => by have := HFL.out _ (.inr e); omega)).trans HN.out))
  have HM : Hid ((w1.alloc (.cells #[.int .u64 xa, .int .u64 xs, .int .i64 xp] 37)).heap[w1.heap.size]? = some (.cells #[.int .u64 xa, .int .u64 xs, .int .i64 xp] 37 (0, 0))) := Lib.hid (heap_alloc_new _ _)
  clear hq ho c0
  go_upto_region 2 with (fail)
  generalize w1.alloc (.cells #[.int .u64 xa, .int .u64 xs, .int .i64 xp] 37) = W2 at *
  generalize w1.heap.size = N2 at *
  obtain ⟨⟨m0, m1, m2⟩, _⟩ := box3 HM.out
  have KA := Lib.hid (K2.out _ HQ1.out)
  go_wp2_with fail
  with_reducible refine KA.out.mono ?_
  rintro e w3 ⟨rfl, hb3⟩
  have HO3 : Hid (Off (Fo2 G R) w w3) := Lib.hid (HO1.out.then (hb3.off _))
  have KB := Lib.hid (K3.out _ (HQ1.out.bel hb3) HO3.out)
  have HN3 := Lib.hid (hb3.heap HN1.out)
  have HM3 := Lib.hid (hb3.heap HM.out)
  clear hb3 m0 m1 m2
  go_wp2_with fail
  with_reducible refine KB.out.mono ?_
  rintro e w4 ⟨rfl, hq4, ho4⟩
  have hn4 : w4.heap[w.heap.size]? = some (.cells #[.int .u64 0, .int .u64 0, .int .i64 0] 37 (0, 0)) := (ho4.block _ (Array.getElem?_eq_some_iff.1 HN3.out).1 (fun e => by have := HFL.out _ e; omega)).trans HN3.out
  have hm4 : w4.heap[N2]? = some (.cells #[.int .u64 xa, .int .u64 xs, .int .i64 xp] 37 (0, 0)) := (ho4.block _ (Array.getElem?_eq_some_iff.1 HM3.out).1 (fun e => by have := HFL.out _ e; omega)).trans HM3.out
  obtain ⟨⟨b0, b1, b2⟩, f0, f1, f2⟩ := box3 hn4
  obtain ⟨⟨m0, m1, m2⟩, _⟩ := box3 hm4
  have o4 := off3 w4 w.heap.size (.int .u64 xa) (.int .u64 xs) (.int .i64 xp)
  have HQ4 := Lib.hid (hq4.off o4 nF.out n0.out)
  have HO4 := Lib.hid (Off.trans (HO3.out.foG.then ho4) o4 (fun i e => .inr (Nat.le_of_eq e.symm)))
  clear hq4 ho4 hn4 hm4 o4
  go_wp2
  exact bodyPost_ret (v := canV ⟨xa, xs, xp⟩ 0) (by simp [results, Tryz.results56, go_sem, b0, b1, b2, canV]) rfl ⟨rfl, HQ4.out, HO4.out⟩
theorem rcan_any (p : Int) (w : World) (q : Wr w Q Z B G R P b s k l) :
    Calls Tryz.prog 56 #[.pointer (some ⟨Q, 0, none⟩), .int .i64 p] w fun e w' => e = .returned (canV ((fnd l p).getD default) (canE P l p)) ∧ Wr w' Q Z B G R P b s k (wo l p) ∧ Off (Fo Q G R) w w' := by
  rcases canE_cases P l p with ⟨h, hc⟩ | ⟨h, j, rfl, hj, x, hf⟩
  · have hf : fnd l p = none := by
      rcases hc with ⟨_, hk⟩ | ⟨_, _, hf⟩
      · obtain ⟨⟨ls, r, F, q1, q2⟩, q3⟩ := q
        exact q1.ql.is.outside hk
      · exact hf
    rw [hf, wo_none hf]
    exact (rcan_no p w q h).mono fun e w' ⟨h1, h2⟩ => ⟨h1, q.bel h2, h2.off _⟩
  · rw [h, hf]
    exact rcan_ok w q hf
set_option maxHeartbeats 1000000 in
theorem rmov_no (x : T) (w : World) (q : Wr w Q Z B G R P b s k l) (hn : ¬ canE P l x.p = 0) :
    Calls Tryz.prog 55 #[.pointer (some ⟨Q, 0, none⟩), .agg #[.int .u64 x.a, .int .u64 x.s, .int .i64 x.p]] w fun e w' => e = .returned (.int .i64 (canE P l x.p)) ∧ Bel w w' := by
  have HB0 : Hid (Bel w (w.alloc (.cells #[.int .u64 x.a, .int .u64 x.s, .int .i64 x.p] 37))) := Lib.hid ((Bel.refl _).alloc _ _)
  have K1 := Lib.hid (rcan_no x.p _ (q.bel HB0.out) hn)
  have hne2 : (canE P l x.p == 0) = false := by simpa using hn
  generalize canE P l x.p = er at *
  clear q hn
  unfold canV at K1
  simp only [default] at K1
  obtain ⟨xa, xs, xp⟩ := x
  simp only at *
  go_enter Tryz.func55, Tryz.ntmps55
  go_wp2_with fail
  with_reducible refine K1.out.mono ?_
  rintro e w1 ⟨rfl, hb⟩
  have HB1 := Lib.hid ((HB0.out.trans hb).alloc #[.int .u64 0, .int .u64 0, .int .i64 0] 37)
  clear hb
  go_wp2
  go_ret
  exact ⟨rfl, HB1.out⟩
set_option maxHeartbeats 1000000 in
theorem rmov_ok (x : T) (w : World) (q : Wr w Q Z B G R P b s k l) (hx : Tk x.a) {j : Nat} {y : T} (e : x.p = j) (hj : j < P) (hf : fnd l j = some y) :
    Calls Tryz.prog 55 #[.pointer (some ⟨Q, 0, none⟩), .agg #[.int .u64 x.a, .int .u64 x.s, .int .i64 x.p]] w fun e w' => e = .returned (.int .i64 0) ∧ Wr w' Q Z B G R P b s k (put (wo l j) x) ∧ Off (Fo Q G R) w w' := by
  have HB0 : Hid (Bel w (w.alloc (.cells #[.int .u64 x.a, .int .u64 x.s, .int .i64 x.p] 37))) := Lib.hid ((Bel.refl _).alloc _ _)
  have HN : Hid ((w.alloc (.cells #[.int .u64 x.a, .int .u64 x.s, .int .i64 x.p] 37)).heap[w.heap.size]? = some (.cells #[.int .u64 x.a, .int .u64 x.s, .int .i64 x.p] 37 (0, 0))) := Lib.hid (heap_alloc_new _ _)
  have K1 := Lib.hid (rcan_ok _ (q.bel HB0.out) hf)
  have K2 : Hid (∀ w1, Wr w1 Q Z B G R P b s k (wo l j) → Calls Tryz.prog 37 #[.pointer (some ⟨Q, 0, none⟩), .agg #[.int .u64 x.a, .int .u64 x.s, .int .i64 x.p]] w1 fun e w' => e = .returned (.int .i64 0) ∧ Wr w' Q Z B G R P b s k (put (wo l j) x) ∧ Off (Fo Q G R) w1 w') :=
    Lib.hid (fun w1 q1 => rins_ok x w1 q1 hx e hj (fnd_wo l j))
  have HFL : Hid (∀ i, Fo Q G R i → i < w.heap.size) := Lib.hid (by
    obtain ⟨lQ, lZ, lB, lG, lR⟩ := q.lt
    intro i e
    rcases e with e | e | e <;> omega)
  have HE := Lib.hid e
  clear q hf e
  unfold canV at K1
  obtain ⟨xa, xs, xp⟩ := x
  simp only at *
  obtain rfl : xp = (j : Int) := HE.out
  clear HE
  go_enter Tryz.func55, Tryz.ntmps55
  go_wp2_with fail
  with_reducible refine K1.out.mono ?_
  rintro e w1 ⟨rfl, hq, ho⟩
  have hb2 : Bel w1 (w1.alloc (.cells #[.int .u64 y.a, .int .u64 y.s, .int .i64 y.p] 37)) := (Bel.refl _).alloc _ _
  have KA := Lib.hid (K2.out _ (hq.bel hb2))
  have hn1 : w1.heap[w.heap.size]? = some (.cells #[.int .u64 xa, .int .u64 xs, .int .i64 (j : Int)] 37 (0, 0)) := (ho.block _ (by simp) (fun e => by have := HFL.out _ e; omega)).trans HN.out
  obtain ⟨⟨b0, b1, b2⟩, f0, f1, f2⟩ := box3 hn1
  have lN : w.heap.size < w1.heap.size := (Array.getElem?_eq_some_iff.1 hn1).1
  have HO1 : Hid (Off (Fo Q G R) w (w1.alloc (.cells #[.int .u64 y.a, .int .u64 y.s, .int .i64 y.p] 37))) := Lib.hid (((HB0.out.off _).then ho).then (hb2.off _))
  clear hq ho hb2 hn1
  obtain ⟨ya, ys, yp⟩ := y
  simp only at *
  go_wp2_with fail
  with_reducible refine KA.out.mono ?_
  rintro e w2 ⟨rfl, hq2, ho2⟩
  have HQ2 := Lib.hid hq2
  have HO2 := Lib.hid (HO1.out.then ho2)
  clear hq2 ho2
  go_wp2
  go_ret
  exact ⟨rfl, HQ2.out, HO2.out⟩
theorem rmov_any (x : T) (w : World) (q : Wr w Q Z B G R P b s k l) (hx : Tk x.a) :
    Calls Tryz.prog 55 #[.pointer (some ⟨Q, 0, none⟩), .agg #[.int .u64 x.a, .int .u64 x.s, .int .i64 x.p]] w fun e w' => e = .returned (.int .i64 (canE P l x.p)) ∧ Wr w' Q Z B G R P b s k (movL P l x) ∧ Off (Fo Q G R) w w' := by
  unfold movL
  rcases canE_cases P l x.p with ⟨h, hc⟩ | ⟨h, j, e, hj, y, hf⟩
  · rw [if_neg h]
    exact (rmov_no x w q h).mono fun e w' ⟨h1, h2⟩ => ⟨h1, q.bel h2, h2.off _⟩
  · rw [if_pos h, h, e]
    rw [← e]
    have := rmov_ok x w q hx e hj hf
    rw [← e] at this
    exact this
end
end Go.Proofs.YtdoceldofkaapaaGreatDoor
