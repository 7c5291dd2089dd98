/-
  Contracts of a wheel: Insert, Cancel, Move.
-/
import Derived.Test.YtdoceldofkaapaaDoorXao
set_option linter.unusedVariables false
set_option linter.unusedSimpArgs false
namespace Go.Proofs.YtdoceldofkaapaaDoor.Ha
open Go.RowKit
section
variable {Q Z B G R P b : Nat} {s k : Int} {l : List T}
/-- A list was marked. -/
theorem mark_wh {ls ls' : Ls} {r : Nat → T} {F : Nat → Nat} {l' : List T} {t : Nat} (w : World) (q : Qw w Q Z B G R P (slo b + 1) (lof (slo b) s) ls' r 34 (hcells Z (slo b) (s) (F) k) l') (hF : Fl (slo b) ls F)
    (ht : t < slo b + 1) (ho : ∀ i, i ≠ t → ls' i = ls i) (hr : Rest w Q Z B G R b s l') :
    Calls Tryd.prog 33 #[.pointer (some ⟨Q, 0, none⟩), .int .i64 t] w fun e w' => e = .returned (.tuple #[]) ∧ Wh w' Q Z B G R P b s k l' ∧ Off (Fo Q G R) w w' := by
  obtain ⟨h1, h2⟩ := slo_le hr.hb.2
  by_cases h : t = slo b
  · subst h
    exact (mark_ready w q).mono fun e w' ⟨a1, a2⟩ => ⟨a1, ⟨⟨ls', r, F, q.bel a2, hF.same (fun i hi => ho i (by omega))⟩, hr.off a2 (fun e => e)⟩, a2.off _⟩
  · exact (mark_slot rfl h2 (by omega) hF.wd w q).mono fun e w' ⟨a1, a2, a3⟩ => ⟨a1, ⟨⟨ls', r, _, a2, hF.mark h2 (by omega) ho⟩, hr.off a3 hr.only⟩, a3.foQ⟩
set_option maxHeartbeats 1000000 in
theorem insert_no (x : T) (w : World) (q : Wh w Q Z B G R P b s k l) (hx : Tk x.a) (hn : ¬ insE P l x = 0) :
    Calls Tryd.prog 15 #[.pointer (some ⟨Q, 0, none⟩), .agg #[.int .u64 x.a, .int .u64 x.s, .int .i64 x.p]] w fun e w' => e = .returned (.int .i64 (insE P l x)) ∧ Bel w w' := by
  obtain ⟨⟨ls, r, F, q1, q2⟩, q3⟩ := q
  obtain ⟨h1, h2⟩ := slo_le q3.hb.2
  have HB0 : Hid (Bel w (w.alloc (.cells #[.int .u64 x.a, .int .u64 x.s, .int .i64 x.p] 41))) := Lib.hid ((Bel.refl _).alloc _ _)
  have qa := q1.bel HB0.out
  have qb := q1.bel HB0.out.drew
  have K1 := Lib.hid (list_any Q (slo b) s x.a _ (qa.cell rfl) (qa.cell rfl) h1 h2 hx)
  have K2 := Lib.hid (put_no (lof_lt (by omega) s x) x _ qb.ql hn)
  rw [lof_eq] at K2
  have HBd := Lib.hid HB0.out.drew
  have c0 : (w.alloc (.cells #[.int .u64 x.a, .int .u64 x.s, .int .i64 x.p] 41)).cell? ⟨Q, 0, none⟩ = some (.pointer (some ⟨Z, 0, none⟩)) := qa.cell rfl
  have hne : (insE P l x == 0) = false := by simpa using hn
  have lQ := q1.ltQ
  generalize insE P l x = er at *
  generalize lofN (slo b) s x.a = t at *
  clear q1 q2 q3 qa qb hn
  go_enter Tryd.func15, Tryd.ntmps15
  go_wp2_with fail
  with_reducible refine K1.out.mono ?_
  rintro e w' ⟨rfl, rfl⟩
  go_wp2
  go_region_with (go_at_call 32; (with_reducible refine K2.out.mono ?_); rintro e w1 ⟨rfl, hb⟩)
  all_goals
    go_wp2
    go_ret
    exact ⟨rfl, HBd.out.trans hb⟩
set_option maxHeartbeats 1000000 in
theorem insert_ok (x : T) (w : World) (q : Wh w Q Z B G R P b s k l) (hx : Tk x.a) {j : Nat} (e : x.p = j) (hj : j < P) (hf : fnd l j = none) :
    Calls Tryd.prog 15 #[.pointer (some ⟨Q, 0, none⟩), .agg #[.int .u64 x.a, .int .u64 x.s, .int .i64 x.p]] w fun e w' => e = .returned (.int .i64 0) ∧ Wh w' Q Z B G R P b s k (put l x) ∧ Off (Fo Q G R) w w' := by
  obtain ⟨⟨ls, r, F, q1, q2⟩, q3⟩ := q
  obtain ⟨h1, h2⟩ := slo_le q3.hb.2
  have HB0 : Hid (Bel w (w.alloc (.cells #[.int .u64 x.a, .int .u64 x.s, .int .i64 x.p] 41))) := Lib.hid ((Bel.refl _).alloc _ _)
  have HBd := Lib.hid HB0.out.drew
  have qa := q1.bel HB0.out
  have qb := q1.bel HBd.out
  have HQb := Lib.hid qb
  have c0 : (w.alloc (.cells #[.int .u64 x.a, .int .u64 x.s, .int .i64 x.p] 41)).cell? ⟨Q, 0, none⟩ = some (.pointer (some ⟨Z, 0, none⟩)) := qa.cell rfl
  have hlt := lof_lt (S := slo b) (by omega) s x
  have K1 := Lib.hid (list_any Q (slo b) s x.a _ (qa.cell rfl) (qa.cell rfl) h1 h2 hx)
  have K2 := Lib.hid (put_ok hlt x _ qb.ql e hj hf rfl)
  have KR : Hid (∀ w1, Off (Fo2 G R) (w.alloc (.cells #[.int .u64 x.a, .int .u64 x.s, .int .i64 x.p] 41)).drew w1 → Rest w1 Q Z B G R b s (put l x)) := Lib.hid (fun w1 ho =>
    have r1 : Rest (w.alloc (.cells #[.int .u64 x.a, .int .u64 x.s, .int .i64 x.p] 41)).drew Q Z B G R b s (put l x) := ⟨q3.hb, q3.ts, fun t ht => by
      rcases List.mem_cons.1 ((put_perm l x).mem_iff.1 ht) with rfl | ht
      · exact hx
      · exact q3.tl t ht, (q3.off HBd.out (fun e => e)).tab, q3.zs⟩
    r1.off ho (fun e => by obtain ⟨z1, z2, z3, z4, z5⟩ := q3.zs; rcases e with e | e <;> omega))
  have K3 : Hid (∀ w1, Qw w1 Q Z B G R P (slo b + 1) (lof (slo b) s) (upd ls (lof (slo b) s x) (ls (lof (slo b) s x) ++ [j])) (upT r j x) 34 (hcells Z (slo b) (s) (F) k) (put l x) → Rest w1 Q Z B G R b s (put l x) →
      Calls Tryd.prog 33 #[.pointer (some ⟨Q, 0, none⟩), .int .i64 (lof (slo b) s x : Nat)] w1 fun e w' => e = .returned (.tuple #[]) ∧ Wh w' Q Z B G R P b s k (put l x) ∧ Off (Fo Q G R) w1 w') :=
    Lib.hid (fun w1 k1 k2 => mark_wh w1 k1 q2 hlt (fun i hi => upd_other _ _ hi) k2)
  have lQ := q1.ltQ
  generalize upd ls (lof (slo b) s x) (ls (lof (slo b) s x) ++ [j]) = ls1 at *
  rw [lof_eq] at *
  generalize lofN (slo b) s x.a = t at *
  clear q1 q2 q3 qa qb hf e
  go_enter Tryd.func15, Tryd.ntmps15
  go_wp2_with fail
  with_reducible refine K1.out.mono ?_
  rintro e w' ⟨rfl, rfl⟩
  go_wp2
  go_region_with (go_at_call 32; (with_reducible refine K2.out.mono ?_); rintro e w1 ⟨rfl, hq, ho⟩)
  all_goals
    have KX := Lib.hid (K3.out w1 (HQb.out.put ho hq) (KR.out w1 ho))
    have HO := Lib.hid ((HBd.out.off (Fo Q G R)).then ho.foG)
    clear hq ho
    go_wp2_with fail
    with_reducible refine KX.out.mono ?_
    rintro e w2 ⟨rfl, hq2, ho2⟩
    have HQ2 := Lib.hid hq2
    have HO2 := Lib.hid (HO.out.then ho2)
    clear hq2 ho2
    go_wp2
    go_ret
    exact ⟨rfl, HQ2.out, HO2.out⟩
theorem insert_any (x : T) (w : World) (q : Wh w Q Z B G R P b s k l) (hx : Tk x.a) :
    Calls Tryd.prog 15 #[.pointer (some ⟨Q, 0, none⟩), .agg #[.int .u64 x.a, .int .u64 x.s, .int .i64 x.p]] w fun e w' => e = .returned (.int .i64 (insE P l x)) ∧ Wh w' Q Z B G R P b s k (insL P l x) ∧ Off (Fo Q G R) w w' := by
  by_cases h : insE P l x = 0
  · unfold insL
    rw [if_pos h, h]
    rcases insE_cases P l x with ⟨e, _⟩ | ⟨j, e, hj, (⟨e2, _⟩ | ⟨_, hf⟩)⟩
    · omega
    · omega
    · exact insert_ok x w q hx e hj hf
  · unfold insL
    rw [if_neg h]
    exact (insert_no x w q hx h).mono fun e w' ⟨h1, h2⟩ => ⟨h1, q.bel h2, h2.off _⟩
set_option maxHeartbeats 1000000 in
theorem cancel_no (p : Int) (w : World) (q : Wh w Q Z B G R P b s k l) (hn : ¬ canE P l p = 0) :
    Calls Tryd.prog 22 #[.pointer (some ⟨Q, 0, none⟩), .int .i64 p] w fun e w' => e = .returned (canV default (canE P l p)) ∧ Bel w w' := by
  obtain ⟨⟨ls, r, F, q1, q2⟩, q3⟩ := q
  have HB0 : Hid (Bel w (w.alloc (.cells #[.int .u64 0, .int .u64 0, .int .i64 0] 41))) := Lib.hid ((Bel.refl _).alloc _ _)
  have HN : Hid ((w.alloc (.cells #[.int .u64 0, .int .u64 0, .int .i64 0] 41)).heap[w.heap.size]? = some (.cells #[.int .u64 0, .int .u64 0, .int .i64 0] 41 (0, 0))) := Lib.hid (heap_alloc_new _ _)
  have K1 := Lib.hid (take_no p _ (q1.bel HB0.out).ql hn)
  have hne2 : (canE P l p == 0) = false := by simpa using hn
  have c0 : (w.alloc (.cells #[.int .u64 0, .int .u64 0, .int .i64 0] 41)).cell? ⟨Q, 0, none⟩ = some (.pointer (some ⟨Z, 0, none⟩)) := (q1.bel HB0.out).cell rfl
  have lQ := q1.ltQ
  generalize canE P l p = er at *
  clear q1 q2 q3 hn
  unfold canV at K1
  simp only [default] at K1
  go_enter Tryd.func22, Tryd.ntmps22
  go_wp2_with fail
  with_reducible refine K1.out.mono ?_
  rintro e w1 ⟨rfl, hb⟩
  have HB1 : Hid (Bel w (w1.alloc (.cells #[.int .u64 0, .int .u64 0, .int .i64 0] 41))) := Lib.hid ((HB0.out.trans hb).alloc _ _)
  obtain ⟨⟨b0, b1, b2⟩, f0, f1, f2⟩ := box3 ((hb.alloc #[.int .u64 0, .int .u64 0, .int .i64 0] 41).heap HN.out)
  have HE := Lib.hid (bel3 HB1.out (Nat.le_refl _) (.int .u64 0) (.int .u64 0) (.int .i64 0))
  have lN : w.heap.size < w1.heap.size := by have := hb.size; simp at this; omega
  clear hb
  go_upto_region 2 with (fail)
  generalize w1.alloc (.cells #[.int .u64 0, .int .u64 0, .int .i64 0] 41) = W2 at *
  go_wp2
  exact bodyPost_ret (v := canV default er) (by simp [results, Tryd.results22, go_sem, b0, b1, b2, canV, default]) rfl ⟨rfl, HE.out⟩
set_option maxHeartbeats 2000000 in
theorem cancel_ok {j : Nat} {x : T} (w : World) (q : Wh w Q Z B G R P b s k l) (hf : fnd l j = some x) :
    Calls Tryd.prog 22 #[.pointer (some ⟨Q, 0, none⟩), .int .i64 j] w fun e w' => e = .returned (canV x 0) ∧ Wh w' Q Z B G R P b s k (wo l j) ∧ Off (Fo Q G R) w w' := by
  obtain ⟨⟨ls, r, F, q1, q2⟩, q3⟩ := q
  obtain ⟨h1, h2⟩ := slo_le q3.hb.2
  have HB0 : Hid (Bel w (w.alloc (.cells #[.int .u64 0, .int .u64 0, .int .i64 0] 41))) := Lib.hid ((Bel.refl _).alloc _ _)
  have HN : Hid ((w.alloc (.cells #[.int .u64 0, .int .u64 0, .int .i64 0] 41)).heap[w.heap.size]? = some (.cells #[.int .u64 0, .int .u64 0, .int .i64 0] 41 (0, 0))) := Lib.hid (heap_alloc_new _ _)
  obtain ⟨a, c, hl, k1⟩ := take_ok _ (q1.bel HB0.out).ql hf
  have K1 := Lib.hid k1
  have HQa := Lib.hid (q1.bel HB0.out)
  have c0 : (w.alloc (.cells #[.int .u64 0, .int .u64 0, .int .i64 0] 41)).cell? ⟨Q, 0, none⟩ = some (.pointer (some ⟨Z, 0, none⟩)) := HQa.out.cell rfl
  have hx := (fnd_some hf).1
  have hta := q3.tl x hx
  have hlt := lof_lt (S := slo b) (by omega) s x
  have hsub : ∀ y ∈ wo l j, y ∈ l := fun y hy => (List.mem_filter.1 hy).1
  obtain ⟨lQ, lZ, lB, lG, lR⟩ := q1.lt
  have KR : Hid (∀ w1, Off (Fo2 G R) w w1 → Rest w1 Q Z B G R b s (wo l j)) := Lib.hid (fun w1 ho => (q3.sub hsub).off ho (fun e => by obtain ⟨z1, z2, z3, z4, z5⟩ := q3.zs; rcases e with e | e <;> omega))
  have K3 : Hid (∀ w1, Qw w1 Q Z B G R P (slo b + 1) (lof (slo b) s) (upd ls (lof (slo b) s x) (a ++ c)) (upT r j ⟨0, 0, 0⟩) 34 (hcells Z (slo b) (s) (F) k) (wo l j) → Rest w1 Q Z B G R b s (wo l j) →
      Calls Tryd.prog 33 #[.pointer (some ⟨Q, 0, none⟩), .int .i64 (lof (slo b) s x : Nat)] w1 fun e w' => e = .returned (.tuple #[]) ∧ Wh w' Q Z B G R P b s k (wo l j) ∧ Off (Fo Q G R) w1 w') :=
    Lib.hid (fun w1 k1 k2 => mark_wh w1 k1 q2 hlt (fun i hi => upd_other _ _ hi) k2)
  have K2 : Hid (∀ w1, Qw w1 Q Z B G R P (slo b + 1) (lof (slo b) s) (upd ls (lof (slo b) s x) (a ++ c)) (upT r j ⟨0, 0, 0⟩) 34 (hcells Z (slo b) (s) (F) k) (wo l j) →
      Calls Tryd.prog 31 #[.pointer (some ⟨Q, 0, none⟩), .int .u64 x.a] w1 fun e w' => e = .returned (.int .i64 (lof (slo b) s x : Nat)) ∧ w1 = w') :=
    Lib.hid (fun w1 k1 => list_any Q (slo b) s x.a w1 (k1.cell rfl) (k1.cell rfl) h1 h2 hta)
  generalize upd ls (lof (slo b) s x) (a ++ c) = ls1 at *
  generalize lof (slo b) s x = t at *
  have nN : Hid (¬ w.heap.size = Q ∧ ¬ w.heap.size = G ∧ ¬ w.heap.size = R) := Lib.hid ⟨by omega, by omega, by omega⟩
  have nF : Hid (∀ i, Fo5 Q Z B G R i → ¬ i = w.heap.size) := Lib.hid (fun i e => by rcases e with e | e | e | e | e <;> omega)
  have n0 : Hid (¬ (0 : Nat) = w.heap.size) := Lib.hid (by omega)
  unfold canV at K1
  clear q1 q2 q3 hf hl k1 hx hta hsub hlt
  obtain ⟨xa, xs, xp⟩ := x
  simp only at *
  go_enter Tryd.func22, Tryd.ntmps22
  go_wp2_with fail
  with_reducible refine K1.out.mono ?_
  rintro e w1 ⟨rfl, hq0, ho⟩
  have hq := HQa.out.put ho hq0
  clear hq0
  have hb2 : Bel w1 (w1.alloc (.cells #[.int .u64 xa, .int .u64 xs, .int .i64 xp] 41)) := (Bel.refl _).alloc _ _
  have HO1 : Hid (Off (Fo2 G R) w (w1.alloc (.cells #[.int .u64 xa, .int .u64 xs, .int .i64 xp] 41))) := Lib.hid (((HB0.out.off (Fo2 G R)).then ho).then (hb2.off _))
  have KA := Lib.hid (K2.out _ (hq.bel hb2))
  have KB := Lib.hid (K3.out _ (hq.bel hb2) (KR.out _ HO1.out))
  have HN1 : Hid ((w1.alloc (.cells #[.int .u64 xa, .int .u64 xs, .int .i64 xp] 41)).heap[w.heap.size]? = some (.cells #[.int .u64 0, .int .u64 0, .int .i64 0] 41 (0, 0))) :=
    Lib.hid ((hb2.block _ (by have := ho.size; simp at this; omega) (fun e => e)).trans ((ho.block _ (by simp) (fun e => by have := nN.out; rcases e with e | e <;> omega)).trans HN.out))
  have HM : Hid ((w1.alloc (.cells #[.int .u64 xa, .int .u64 xs, .int .i64 xp] 41)).heap[w1.heap.size]? = some (.cells #[.int .u64 xa, .int .u64 xs, .int .i64 xp] 41 (0, 0))) := Lib.hid (heap_alloc_new _ _)
  have lN : w.heap.size < w1.heap.size := by have := ho.size; simp at this; omega
  have lM : Hid (¬ w1.heap.size = Q ∧ ¬ w1.heap.size = G ∧ ¬ w1.heap.size = R) := Lib.hid ⟨by omega, by omega, by omega⟩
  clear hq ho hb2
  go_wp2_with fail
  with_reducible refine KA.out.mono ?_
  rintro e w2 ⟨rfl, rfl⟩
  go_wp2_with fail
  with_reducible refine KB.out.mono ?_
  rintro e w3 ⟨rfl, hq3, ho3⟩
  have hn3 : w3.heap[w.heap.size]? = some (.cells #[.int .u64 0, .int .u64 0, .int .i64 0] 41 (0, 0)) := (ho3.block _ (by simp; omega) (fun e => by have := nN.out; rcases e with e | e | e <;> omega)).trans HN1.out
  have hm3 : w3.heap[w1.heap.size]? = some (.cells #[.int .u64 xa, .int .u64 xs, .int .i64 xp] 41 (0, 0)) := (ho3.block _ (by simp) (fun e => by have := lM.out; rcases e with e | e | e <;> omega)).trans HM.out
  obtain ⟨⟨b0, b1, b2⟩, f0, f1, f2⟩ := box3 hn3
  obtain ⟨⟨m0, m1, m2⟩, _⟩ := box3 hm3
  have o4 := off3 w3 w.heap.size (.int .u64 xa) (.int .u64 xs) (.int .i64 xp)
  have HQ4 := Lib.hid (hq3.off o4 nF.out n0.out)
  have HO4 := Lib.hid (Off.trans ((HO1.out.mono (fun _ _ e => .inr e)).then ho3) o4 (fun i e => .inr (Nat.le_of_eq e.symm)))
  clear hq3 ho3 hn3 hm3 o4
  go_wp2
  exact bodyPost_ret (v := canV ⟨xa, xs, xp⟩ 0) (by simp [results, Tryd.results22, go_sem, b0, b1, b2, canV]) rfl ⟨rfl, HQ4.out, HO4.out⟩
theorem cancel_any (p : Int) (w : World) (q : Wh w Q Z B G R P b s k l) :
    Calls Tryd.prog 22 #[.pointer (some ⟨Q, 0, none⟩), .int .i64 p] w fun e w' => e = .returned (canV ((fnd l p).getD default) (canE P l p)) ∧ Wh w' Q Z B G R P b s k (wo l p) ∧ Off (Fo Q G R) w w' := by
  rcases canE_cases P l p with ⟨h, hc⟩ | ⟨h, j, rfl, hj, x, hf⟩
  · have hf : fnd l p = none := by
      rcases hc with ⟨_, hk⟩ | ⟨_, _, hf⟩
      · obtain ⟨⟨ls, r, F, q1, q2⟩, q3⟩ := q
        exact q1.ql.is.outside hk
      · exact hf
    rw [hf, wo_none hf]
    exact (cancel_no p w q h).mono fun e w' ⟨h1, h2⟩ => ⟨h1, q.bel h2, h2.off _⟩
  · rw [h, hf]
    exact cancel_ok w q hf
set_option maxHeartbeats 1000000 in
theorem move_no (x : T) (w : World) (q : Wh w Q Z B G R P b s k l) (hn : ¬ canE P l x.p = 0) :
    Calls Tryd.prog 21 #[.pointer (some ⟨Q, 0, none⟩), .agg #[.int .u64 x.a, .int .u64 x.s, .int .i64 x.p]] w fun e w' => e = .returned (.int .i64 (canE P l x.p)) ∧ Bel w w' := by
  have HB0 : Hid (Bel w (w.alloc (.cells #[.int .u64 x.a, .int .u64 x.s, .int .i64 x.p] 41))) := Lib.hid ((Bel.refl _).alloc _ _)
  have K1 := Lib.hid (cancel_no x.p _ (q.bel HB0.out) hn)
  have hne2 : (canE P l x.p == 0) = false := by simpa using hn
  generalize canE P l x.p = er at *
  clear q hn
  unfold canV at K1
  simp only [default] at K1
  obtain ⟨xa, xs, xp⟩ := x
  simp only at *
  go_enter Tryd.func21, Tryd.ntmps21
  go_wp2_with fail
  with_reducible refine K1.out.mono ?_
  rintro e w1 ⟨rfl, hb⟩
  have HB1 := Lib.hid ((HB0.out.trans hb).alloc #[.int .u64 0, .int .u64 0, .int .i64 0] 41)
  clear hb
  go_wp2
  go_ret
  exact ⟨rfl, HB1.out⟩
set_option maxHeartbeats 1000000 in
theorem move_ok (x : T) (w : World) (q : Wh w Q Z B G R P b s k l) (hx : Tk x.a) {j : Nat} {y : T} (e : x.p = j) (hj : j < P) (hf : fnd l j = some y) :
    Calls Tryd.prog 21 #[.pointer (some ⟨Q, 0, none⟩), .agg #[.int .u64 x.a, .int .u64 x.s, .int .i64 x.p]] w fun e w' => e = .returned (.int .i64 0) ∧ Wh w' Q Z B G R P b s k (put (wo l j) x) ∧ Off (Fo Q G R) w w' := by
  have HB0 : Hid (Bel w (w.alloc (.cells #[.int .u64 x.a, .int .u64 x.s, .int .i64 x.p] 41))) := Lib.hid ((Bel.refl _).alloc _ _)
  have HN : Hid ((w.alloc (.cells #[.int .u64 x.a, .int .u64 x.s, .int .i64 x.p] 41)).heap[w.heap.size]? = some (.cells #[.int .u64 x.a, .int .u64 x.s, .int .i64 x.p] 41 (0, 0))) := Lib.hid (heap_alloc_new _ _)
  have K1 := Lib.hid (cancel_ok _ (q.bel HB0.out) hf)
  have K2 : Hid (∀ w1, Wh w1 Q Z B G R P b s k (wo l j) → Calls Tryd.prog 15 #[.pointer (some ⟨Q, 0, none⟩), .agg #[.int .u64 x.a, .int .u64 x.s, .int .i64 x.p]] w1 fun e w' => e = .returned (.int .i64 0) ∧ Wh w' Q Z B G R P b s k (put (wo l j) x) ∧ Off (Fo Q G R) w1 w') :=
    Lib.hid (fun w1 q1 => insert_ok x w1 q1 hx e hj (fnd_wo l j))
  have nN : Hid (¬ w.heap.size = Q ∧ ¬ w.heap.size = G ∧ ¬ w.heap.size = R) := Lib.hid (by
    obtain ⟨⟨ls, r, F, q1, q2⟩, q3⟩ := q
    obtain ⟨lQ, lZ, lB, lG, lR⟩ := q1.lt
    exact ⟨by omega, by omega, by omega⟩)
  have HE := Lib.hid e
  clear q hf e
  unfold canV at K1
  obtain ⟨xa, xs, xp⟩ := x
  simp only at *
  obtain rfl : xp = (j : Int) := HE.out
  clear HE
  go_enter Tryd.func21, Tryd.ntmps21
  go_wp2_with fail
  with_reducible refine K1.out.mono ?_
  rintro e w1 ⟨rfl, hq, ho⟩
  have hb2 : Bel w1 (w1.alloc (.cells #[.int .u64 y.a, .int .u64 y.s, .int .i64 y.p] 41)) := (Bel.refl _).alloc _ _
  have KA := Lib.hid (K2.out _ (hq.bel hb2))
  have hn1 : w1.heap[w.heap.size]? = some (.cells #[.int .u64 xa, .int .u64 xs, .int .i64 (j : Int)] 41 (0, 0)) := (ho.block _ (by simp) (fun e => by have := nN.out; rcases e with e | e | e <;> omega)).trans HN.out
  obtain ⟨⟨b0, b1, b2⟩, f0, f1, f2⟩ := box3 hn1
  have lN : w.heap.size < w1.heap.size := (Array.getElem?_eq_some_iff.1 hn1).1
  have HO1 : Hid (Off (Fo Q G R) w (w1.alloc (.cells #[.int .u64 y.a, .int .u64 y.s, .int .i64 y.p] 41))) := Lib.hid (((HB0.out.off _).then ho).then (hb2.off _))
  clear hq ho hb2 hn1
  obtain ⟨ya, ys, yp⟩ := y
  simp only at *
  go_wp2_with fail
  with_reducible refine KA.out.mono ?_
  rintro e w2 ⟨rfl, hq2, ho2⟩
  have HQ2 := Lib.hid hq2
  have HO2 := Lib.hid (HO1.out.then ho2)
  clear hq2 ho2
  go_wp2
  go_ret
  exact ⟨rfl, HQ2.out, HO2.out⟩
theorem move_any (x : T) (w : World) (q : Wh w Q Z B G R P b s k l) (hx : Tk x.a) :
    Calls Tryd.prog 21 #[.pointer (some ⟨Q, 0, none⟩), .agg #[.int .u64 x.a, .int .u64 x.s, .int .i64 x.p]] w fun e w' => e = .returned (.int .i64 (canE P l x.p)) ∧ Wh w' Q Z B G R P b s k (movL P l x) ∧ Off (Fo Q G R) w w' := by
  unfold movL
  rcases canE_cases P l x.p with ⟨h, hc⟩ | ⟨h, j, e, hj, y, hf⟩
  · rw [if_neg h]
    exact (move_no x w q h).mono fun e w' ⟨h1, h2⟩ => ⟨h1, q.bel h2, h2.off _⟩
  · rw [if_pos h, h, e]
    rw [← e]
    have := move_ok x w q hx e hj hf
    rw [← e] at this
    exact this
end
end Go.Proofs.YtdoceldofkaapaaDoor.Ha
