/-
  Contract of a wheel of four levels: mark.
-/
import Derived.Test.YtdoceldofkaapaaGreatDoorXar
import Derived.BigRegion
set_option linter.unusedVariables false
set_option linter.unusedSimpArgs false
namespace Go.Proofs.YtdoceldofkaapaaGreatDoor
open Go.RowKit
def upF (F : Nat → Nat → Nat) (m : Nat) (X : Nat → Nat) : Nat → Nat → Nat := fun n => if n = m then X else F n
/-- A level's bits are others. -/
abbrev set4 (w : World) (Q o : Nat) (X : Nat → Nat) : World := (((w.setCell ⟨Q, o, none⟩ (.int .u64 (X 0))).setCell ⟨Q, o + 1, none⟩ (.int .u64 (X 1))).setCell ⟨Q, o + 2, none⟩ (.int .u64 (X 2))).setCell ⟨Q, o + 3, none⟩ (.int .u64 (X 3))
section
variable {w : World} {Q Z B G R P L b : Nat} {lo : T → Nat} {ls : Ls} {r : Nat → T} {f : Nat → Int} {F : Nat → Nat → Nat} {s k : Int} {l : List T}
theorem Qw.set4 {t : TypeId} {cs cs' : List Value} (q : Qw w Q Z B G R P L lo ls r t cs l) {o : Nat} (X : Nat → Nat) (ho : 1 ≤ o) (he : (((cs.set o (.int .u64 (X 0))).set (o + 1) (.int .u64 (X 1))).set (o + 2) (.int .u64 (X 2))).set (o + 3) (.int .u64 (X 3)) = cs') : Qw (set4 w Q o X) Q Z B G R P L lo ls r t cs' l ∧ Off (Only Q) w (set4 w Q o X) := by
  obtain ⟨q1, o1⟩ := q.own (i := o) (v := .int .u64 (X 0)) (by omega) rfl
  obtain ⟨q2, o2⟩ := q1.own (i := o + 1) (v := .int .u64 (X 1)) (by omega) rfl
  obtain ⟨q3, o3⟩ := q2.own (i := o + 2) (v := .int .u64 (X 2)) (by omega) rfl
  obtain ⟨q4, o4⟩ := q3.own (i := o + 3) (v := .int .u64 (X 3)) (by omega) he
  exact ⟨q4, ((o1.then o2).then o3).then o4⟩
theorem mark_out (v u : Int) (h : v = -1 ∨ v = 4) (w : World) :
    Calls Tryz.prog 67 #[.pointer (some ⟨Q, 0, none⟩), spV v u] w fun e w' => e = .returned (.tuple #[]) ∧ Bel w w' := by
  have K := Lib.hid (fun w' => isSlot_any v u w')
  have hd : (decide (-1 < v) && decide (v < 4)) = false := by rcases h with rfl | rfl <;> rfl
  rw [hd] at K
  clear hd h
  go_enter Tryz.func67, Tryz.ntmps67
  go_wp2_with fail
  with_reducible refine (K.out _).mono ?_
  rintro e w1 ⟨rfl, hb⟩
  have HB := Lib.hid (((Bel.refl w).alloc _ _).trans hb)
  clear hb
  go_wp2
  refine bodyPost_ret (results_none rfl _ _ _) rfl ?_
  exact ⟨rfl, HB.out⟩
theorem pti_nat (F : Nat → Nat) {t : Nat} (h : t < 256) : Bm.pti F (t : Int) = Bm.pt F t := by
  unfold Bm.pti
  rw [if_pos (by omega)]
  simp
theorem dpi_nat (F : Nat → Nat) {t : Nat} (h : t < 256) : Bm.dpi F (t : Int) = Bm.dp F t := by
  unfold Bm.dpi
  rw [if_pos (by omega)]
  simp
end
section
variable {Q Z B G R P b : Nat} {lo : T → Nat} {ls : Ls} {r : Nat → T} {F : Nat → Nat → Nat} {s k : Int} {l : List T}
set_option maxHeartbeats 2000000 in
theorem mark_0e {i : Nat} (hi : i < 2 ^ b) (hb6 : b ≤ 6) (hF : Bm.Wd (F 0)) (w : World) (q : Qw w Q Z B G R P (2 + 4 * 2 ^ b) lo ls r 78 (rcells Z b (fst4 b) F s k) l) (he : ls (2 + 0 * 2 ^ b + i) = []) :
    Calls Tryz.prog 67 #[.pointer (some ⟨Q, 0, none⟩), spV 0 i] w fun e w' => e = .returned (.tuple #[]) ∧ Qw w' Q Z B G R P (2 + 4 * 2 ^ b) lo ls r 78 (rcells Z b (fst4 b) (upF F 0 (Bm.dp (F 0) i)) s k) l ∧ Off (Only Q) w w' := by
  have hp := pow_le hb6
  have K0 := Lib.hid (fun w' => isSlot_any 0 i w')
  have hfst : fst4 b 0 = ((2 + 0 * 2 ^ b : Nat) : Int) := rfl
  have KL : Hid (∀ w', Bel w w' → Calls Tryz.prog 61 #[.pointer (some ⟨Q, 0, none⟩), spV 0 i] w' fun e w2 => e = .returned (.int .i64 (2 + 0 * 2 ^ b + i : Nat)) ∧ Bel w' w2) := Lib.hid (fun w' hb => list_in Q 0 i (fst4 b 0) _ (by omega) w' ((q.bel hb).cell rfl) (by rw [hfst, IntKind.wrap_i64]; omega))
  have KS : Hid (∀ w', Bel w w' → Calls Tryz.prog 96 #[.pointer (some ⟨Z, 0, none⟩), .int .i64 (2 + 0 * 2 ^ b + i : Nat)] w' fun e w2 => e = .returned (.bool (has1 (ls (2 + 0 * 2 ^ b + i)))) ∧ Bel w' w2) := Lib.hid (fun w' hb => some_any (code_lt (by omega) hi) w' (q.ql.bel hb))
  have h1 : has1 (ls (2 + 0 * 2 ^ b + i)) = false := by rw [he]; rfl
  rw [h1] at KS
  generalize ((2 + 0 * 2 ^ b + i : Nat) : Int) = t at *
  have KX := Lib.hid (fun w' => Bm.drop_any (F 0) hF (i : Int) w')
  rw [dpi_nat (F 0) (by omega)] at KX
  have HA := Lib.hid q
  have lQ := q.ltQ
  have hQn : ¬ w.heap.size = Q := by omega
  have hQn' : ¬ Q = w.heap.size := by omega
  have HB0 : Hid (Bel w (w.alloc (.cells #[.int .i64 0, .int .i64 i] 109))) := Lib.hid ((Bel.refl _).alloc _ _)
  have HN : Hid ((w.alloc (.cells #[.int .i64 0, .int .i64 i] 109)).heap[w.heap.size]? = some (.cells #[.int .i64 0, .int .i64 i] 109 (0, 0))) := Lib.hid (heap_alloc_new _ _)
  have HX : Hid (∀ w', Bel (w.alloc (.cells #[.int .i64 0, .int .i64 i] 109)) w' → w'.cell? ⟨Q, 0, none⟩ = some (.pointer (some ⟨Z, 0, none⟩)) ∧ w'.cell? ⟨w.heap.size, 0, none⟩ = some (.int .i64 0) ∧ w'.cell? ⟨w.heap.size, 1, none⟩ = some (.int .i64 i)) := Lib.hid (fun w' hb => ⟨(HA.out.bel (HB0.out.trans hb)).cell rfl, (box2 (hb.heap HN.out)).1.1, (box2 (hb.heap HN.out)).1.2⟩)
  have hdec : (decide (-1 < (0 : Int)) && decide ((0 : Int) < 4)) = true := rfl
  rw [hdec] at K0
  have HF4 : Hid (∀ w' X, Off (Only Q) w w' → Qw w' Q Z B G R P (2 + 4 * 2 ^ b) lo ls r 78 (rcells Z b (fst4 b) F s k) l → Qw (set4 w' Q 2 X) Q Z B G R P (2 + 4 * 2 ^ b) lo ls r 78 (rcells Z b (fst4 b) (upF F 0 X) s k) l ∧ Off (Only Q) w (set4 w' Q 2 X)) := Lib.hid (fun w' X ho q' => by
    obtain ⟨a1, a2⟩ := q'.set4 (o := 2) (cs' := rcells Z b (fst4 b) (upF F 0 X) s k) X (by omega) rfl
    exact ⟨a1, ho.then a2⟩)
  generalize hX : Bm.dp (F 0) i = X at *
  have HXX := Lib.hid hX
  clear q hF h1 he hi hX hdec hfst
  go_enter Tryz.func67, Tryz.ntmps67
  go_wp2_with fail
  with_reducible refine (K0.out _).mono ?_
  rintro e w1 ⟨rfl, hb1⟩
  have HD1 := Lib.hid hb1
  obtain ⟨c0, y0, y1⟩ := HX.out _ hb1
  have lQ1 : Q < w1.heap.size := (HA.out.bel (HB0.out.trans hb1)).ltQ
  clear hb1 K0
  go_wp2
  go_quiet (fail)
  have HDn : Hid (Bel (w.alloc (.cells #[.int .i64 0, .int .i64 i] 109)) (w1.drewN nq)) := Lib.hid (HD1.out.drewN nq)
  generalize w1.drewN nq = w2 at *
  clear c0 y0 y1 lQ1
  obtain ⟨c0, y0, y1⟩ := HX.out _ HDn.out
  have lQ2 : Q < w2.heap.size := (HA.out.bel (HB0.out.trans HDn.out)).ltQ
  have HD3 : Hid (Bel (w.alloc (.cells #[.int .i64 0, .int .i64 i] 109)) w2.drew) := Lib.hid HDn.out.drew
  go_wp2
  go_region_held3 (fun w' => w'.cell? ⟨Q, 0, none⟩ = some (.pointer (some ⟨Z, 0, none⟩)) ∧ w'.cell? ⟨w.heap.size, 0, none⟩ = some (.int .i64 0) ∧ w'.cell? ⟨w.heap.size, 1, none⟩ = some (.int .i64 i))
    (first | (with_reducible exact HX.out _ HD3.out) | (with_reducible exact HX.out _ (HD3.out.trans hb3)) | exact HX.out _ ((HD3.out.trans hb3).trans hb4))
    (first
      | (go_at_call 61; (with_reducible refine (KL.out _ (HB0.out.trans HD3.out)).mono ?_); rintro e w3 ⟨rfl, hb3⟩)
      | (go_at_call 96; (with_reducible refine (KS.out _ ((HB0.out.trans HD3.out).trans hb3)).mono ?_); rintro e w4 ⟨rfl, hb4⟩))
  have HD4 : Hid (Bel (w.alloc (.cells #[.int .i64 0, .int .i64 i] 109)) w4) := Lib.hid ((HD3.out.trans hb3).trans hb4)
  clear c0 y0 y1 lQ2 hb3 hb4 KL KS HD3 HDn HD1
  have q1 := HA.out.bel (HB0.out.trans HD4.out)
  have lQ4 : Q < w4.heap.size := q1.ltQ
  obtain ⟨c0, y0, y1⟩ := HX.out _ HD4.out
  have d0 : w4.cell? ⟨Q, 2, none⟩ = some (.int .u64 (F 0 0)) := q1.cell rfl
  have d1 : w4.cell? ⟨Q, 2 + 1, none⟩ = some (.int .u64 (F 0 1)) := q1.cell rfl
  have d2 : w4.cell? ⟨Q, 2 + 2, none⟩ = some (.int .u64 (F 0 2)) := q1.cell rfl
  have d3 : w4.cell? ⟨Q, 2 + 3, none⟩ = some (.int .u64 (F 0 3)) := q1.cell rfl
  have HD5 : Hid (Bel w w4.drew) := Lib.hid (HB0.out.trans HD4.out).drew
  clear q1
  go_wp2
  go_region_with (go_at_call 104; (with_reducible refine (KX.out _).mono ?_); rintro e w5 ⟨rfl, hb5⟩; have HB5 := Lib.hid (HD5.out.trans (bm_bel hb5)); have q1 := HA.out.bel HB5.out; have lQ5 : Q < w5.heap.size := q1.ltQ; have e0 : w5.cell? ⟨Q, 2, none⟩ = some (.int .u64 (F 0 0)) := q1.cell rfl ; have e1 : w5.cell? ⟨Q, 2 + 1, none⟩ = some (.int .u64 (F 0 1)) := q1.cell rfl ; have e2 : w5.cell? ⟨Q, 2 + 2, none⟩ = some (.int .u64 (F 0 2)) := q1.cell rfl ; have e3 : w5.cell? ⟨Q, 2 + 3, none⟩ = some (.int .u64 (F 0 3)) := q1.cell rfl; have z0 := q1.froz (2) ; have z1 := q1.froz (2 + 1) ; have z2 := q1.froz (2 + 2) ; have z3 := q1.froz (2 + 3); have HQ5 := Lib.hid (HF4.out _ X (HB5.out.off _) q1); clear q1 hb5)
  all_goals
    go_wp2
    go_end0
    exact ⟨rfl, HQ5.out.1, HQ5.out.2⟩
set_option maxHeartbeats 2000000 in
theorem mark_0f {i : Nat} (hi : i < 2 ^ b) (hb6 : b ≤ 6) (hF : Bm.Wd (F 0)) (w : World) (q : Qw w Q Z B G R P (2 + 4 * 2 ^ b) lo ls r 78 (rcells Z b (fst4 b) F s k) l) (he : ¬ ls (2 + 0 * 2 ^ b + i) = []) :
    Calls Tryz.prog 67 #[.pointer (some ⟨Q, 0, none⟩), spV 0 i] w fun e w' => e = .returned (.tuple #[]) ∧ Qw w' Q Z B G R P (2 + 4 * 2 ^ b) lo ls r 78 (rcells Z b (fst4 b) (upF F 0 (Bm.pt (F 0) i)) s k) l ∧ Off (Only Q) w w' := by
  have hp := pow_le hb6
  have K0 := Lib.hid (fun w' => isSlot_any 0 i w')
  have hfst : fst4 b 0 = ((2 + 0 * 2 ^ b : Nat) : Int) := rfl
  have KL : Hid (∀ w', Bel w w' → Calls Tryz.prog 61 #[.pointer (some ⟨Q, 0, none⟩), spV 0 i] w' fun e w2 => e = .returned (.int .i64 (2 + 0 * 2 ^ b + i : Nat)) ∧ Bel w' w2) := Lib.hid (fun w' hb => list_in Q 0 i (fst4 b 0) _ (by omega) w' ((q.bel hb).cell rfl) (by rw [hfst, IntKind.wrap_i64]; omega))
  have KS : Hid (∀ w', Bel w w' → Calls Tryz.prog 96 #[.pointer (some ⟨Z, 0, none⟩), .int .i64 (2 + 0 * 2 ^ b + i : Nat)] w' fun e w2 => e = .returned (.bool (has1 (ls (2 + 0 * 2 ^ b + i)))) ∧ Bel w' w2) := Lib.hid (fun w' hb => some_any (code_lt (by omega) hi) w' (q.ql.bel hb))
  have h1 : has1 (ls (2 + 0 * 2 ^ b + i)) = true := by 
    unfold has1
    cases e : ls (2 + 0 * 2 ^ b + i) with
    | nil => exact absurd e he
    | cons y ys => rfl
  rw [h1] at KS
  generalize ((2 + 0 * 2 ^ b + i : Nat) : Int) = t at *
  have KX := Lib.hid (fun w' => Bm.put_any (F 0) hF (i : Int) w')
  rw [pti_nat (F 0) (by omega)] at KX
  have HA := Lib.hid q
  have lQ := q.ltQ
  have hQn : ¬ w.heap.size = Q := by omega
  have hQn' : ¬ Q = w.heap.size := by omega
  have HB0 : Hid (Bel w (w.alloc (.cells #[.int .i64 0, .int .i64 i] 109))) := Lib.hid ((Bel.refl _).alloc _ _)
  have HN : Hid ((w.alloc (.cells #[.int .i64 0, .int .i64 i] 109)).heap[w.heap.size]? = some (.cells #[.int .i64 0, .int .i64 i] 109 (0, 0))) := Lib.hid (heap_alloc_new _ _)
  have HX : Hid (∀ w', Bel (w.alloc (.cells #[.int .i64 0, .int .i64 i] 109)) w' → w'.cell? ⟨Q, 0, none⟩ = some (.pointer (some ⟨Z, 0, none⟩)) ∧ w'.cell? ⟨w.heap.size, 0, none⟩ = some (.int .i64 0) ∧ w'.cell? ⟨w.heap.size, 1, none⟩ = some (.int .i64 i)) := Lib.hid (fun w' hb => ⟨(HA.out.bel (HB0.out.trans hb)).cell rfl, (box2 (hb.heap HN.out)).1.1, (box2 (hb.heap HN.out)).1.2⟩)
  have hdec : (decide (-1 < (0 : Int)) && decide ((0 : Int) < 4)) = true := rfl
  rw [hdec] at K0
  have HF4 : Hid (∀ w' X, Off (Only Q) w w' → Qw w' Q Z B G R P (2 + 4 * 2 ^ b) lo ls r 78 (rcells Z b (fst4 b) F s k) l → Qw (set4 w' Q 2 X) Q Z B G R P (2 + 4 * 2 ^ b) lo ls r 78 (rcells Z b (fst4 b) (upF F 0 X) s k) l ∧ Off (Only Q) w (set4 w' Q 2 X)) := Lib.hid (fun w' X ho q' => by
    obtain ⟨a1, a2⟩ := q'.set4 (o := 2) (cs' := rcells Z b (fst4 b) (upF F 0 X) s k) X (by omega) rfl
    exact ⟨a1, ho.then a2⟩)
  generalize hX : Bm.pt (F 0) i = X at *
  have HXX := Lib.hid hX
  clear q hF h1 he hi hX hdec hfst
  go_enter Tryz.func67, Tryz.ntmps67
  go_wp2_with fail
  with_reducible refine (K0.out _).mono ?_
  rintro e w1 ⟨rfl, hb1⟩
  have HD1 := Lib.hid hb1
  obtain ⟨c0, y0, y1⟩ := HX.out _ hb1
  have lQ1 : Q < w1.heap.size := (HA.out.bel (HB0.out.trans hb1)).ltQ
  clear hb1 K0
  go_wp2
  go_quiet (fail)
  have HDn : Hid (Bel (w.alloc (.cells #[.int .i64 0, .int .i64 i] 109)) (w1.drewN nq)) := Lib.hid (HD1.out.drewN nq)
  generalize w1.drewN nq = w2 at *
  clear c0 y0 y1 lQ1
  obtain ⟨c0, y0, y1⟩ := HX.out _ HDn.out
  have lQ2 : Q < w2.heap.size := (HA.out.bel (HB0.out.trans HDn.out)).ltQ
  have HD3 : Hid (Bel (w.alloc (.cells #[.int .i64 0, .int .i64 i] 109)) w2.drew) := Lib.hid HDn.out.drew
  go_wp2
  go_region_held3 (fun w' => w'.cell? ⟨Q, 0, none⟩ = some (.pointer (some ⟨Z, 0, none⟩)) ∧ w'.cell? ⟨w.heap.size, 0, none⟩ = some (.int .i64 0) ∧ w'.cell? ⟨w.heap.size, 1, none⟩ = some (.int .i64 i))
    (first | (with_reducible exact HX.out _ HD3.out) | (with_reducible exact HX.out _ (HD3.out.trans hb3)) | exact HX.out _ ((HD3.out.trans hb3).trans hb4))
    (first
      | (go_at_call 61; (with_reducible refine (KL.out _ (HB0.out.trans HD3.out)).mono ?_); rintro e w3 ⟨rfl, hb3⟩)
      | (go_at_call 96; (with_reducible refine (KS.out _ ((HB0.out.trans HD3.out).trans hb3)).mono ?_); rintro e w4 ⟨rfl, hb4⟩))
  have HD4 : Hid (Bel (w.alloc (.cells #[.int .i64 0, .int .i64 i] 109)) w4) := Lib.hid ((HD3.out.trans hb3).trans hb4)
  clear c0 y0 y1 lQ2 hb3 hb4 KL KS HD3 HDn HD1
  have q1 := HA.out.bel (HB0.out.trans HD4.out)
  have lQ4 : Q < w4.heap.size := q1.ltQ
  obtain ⟨c0, y0, y1⟩ := HX.out _ HD4.out
  have d0 : w4.cell? ⟨Q, 2, none⟩ = some (.int .u64 (F 0 0)) := q1.cell rfl
  have d1 : w4.cell? ⟨Q, 2 + 1, none⟩ = some (.int .u64 (F 0 1)) := q1.cell rfl
  have d2 : w4.cell? ⟨Q, 2 + 2, none⟩ = some (.int .u64 (F 0 2)) := q1.cell rfl
  have d3 : w4.cell? ⟨Q, 2 + 3, none⟩ = some (.int .u64 (F 0 3)) := q1.cell rfl
  have HD5 : Hid (Bel w w4.drew) := Lib.hid (HB0.out.trans HD4.out).drew
  clear q1
  go_wp2
  go_region_with (go_at_call 103; (with_reducible refine (KX.out _).mono ?_); rintro e w5 ⟨rfl, hb5⟩; have HB5 := Lib.hid (HD5.out.trans (bm_bel hb5)); have q1 := HA.out.bel HB5.out; have lQ5 : Q < w5.heap.size := q1.ltQ; have e0 : w5.cell? ⟨Q, 2, none⟩ = some (.int .u64 (F 0 0)) := q1.cell rfl ; have e1 : w5.cell? ⟨Q, 2 + 1, none⟩ = some (.int .u64 (F 0 1)) := q1.cell rfl ; have e2 : w5.cell? ⟨Q, 2 + 2, none⟩ = some (.int .u64 (F 0 2)) := q1.cell rfl ; have e3 : w5.cell? ⟨Q, 2 + 3, none⟩ = some (.int .u64 (F 0 3)) := q1.cell rfl; have z0 := q1.froz (2) ; have z1 := q1.froz (2 + 1) ; have z2 := q1.froz (2 + 2) ; have z3 := q1.froz (2 + 3); have HQ5 := Lib.hid (HF4.out _ X (HB5.out.off _) q1); clear q1 hb5)
  all_goals
    go_wp2
    go_end0
    exact ⟨rfl, HQ5.out.1, HQ5.out.2⟩
set_option maxHeartbeats 2000000 in
theorem mark_1e {i : Nat} (hi : i < 2 ^ b) (hb6 : b ≤ 6) (hF : Bm.Wd (F 1)) (w : World) (q : Qw w Q Z B G R P (2 + 4 * 2 ^ b) lo ls r 78 (rcells Z b (fst4 b) F s k) l) (he : ls (2 + 1 * 2 ^ b + i) = []) :
    Calls Tryz.prog 67 #[.pointer (some ⟨Q, 0, none⟩), spV 1 i] w fun e w' => e = .returned (.tuple #[]) ∧ Qw w' Q Z B G R P (2 + 4 * 2 ^ b) lo ls r 78 (rcells Z b (fst4 b) (upF F 1 (Bm.dp (F 1) i)) s k) l ∧ Off (Only Q) w w' := by
  have hp := pow_le hb6
  have K0 := Lib.hid (fun w' => isSlot_any 1 i w')
  have hfst : fst4 b 1 = ((2 + 1 * 2 ^ b : Nat) : Int) := rfl
  have KL : Hid (∀ w', Bel w w' → Calls Tryz.prog 61 #[.pointer (some ⟨Q, 0, none⟩), spV 1 i] w' fun e w2 => e = .returned (.int .i64 (2 + 1 * 2 ^ b + i : Nat)) ∧ Bel w' w2) := Lib.hid (fun w' hb => list_in Q 1 i (fst4 b 1) _ (by omega) w' ((q.bel hb).cell rfl) (by rw [hfst, IntKind.wrap_i64]; omega))
  have KS : Hid (∀ w', Bel w w' → Calls Tryz.prog 96 #[.pointer (some ⟨Z, 0, none⟩), .int .i64 (2 + 1 * 2 ^ b + i : Nat)] w' fun e w2 => e = .returned (.bool (has1 (ls (2 + 1 * 2 ^ b + i)))) ∧ Bel w' w2) := Lib.hid (fun w' hb => some_any (code_lt (by omega) hi) w' (q.ql.bel hb))
  have h1 : has1 (ls (2 + 1 * 2 ^ b + i)) = false := by rw [he]; rfl
  rw [h1] at KS
  generalize ((2 + 1 * 2 ^ b + i : Nat) : Int) = t at *
  have KX := Lib.hid (fun w' => Bm.drop_any (F 1) hF (i : Int) w')
  rw [dpi_nat (F 1) (by omega)] at KX
  have HA := Lib.hid q
  have lQ := q.ltQ
  have hQn : ¬ w.heap.size = Q := by omega
  have hQn' : ¬ Q = w.heap.size := by omega
  have HB0 : Hid (Bel w (w.alloc (.cells #[.int .i64 1, .int .i64 i] 109))) := Lib.hid ((Bel.refl _).alloc _ _)
  have HN : Hid ((w.alloc (.cells #[.int .i64 1, .int .i64 i] 109)).heap[w.heap.size]? = some (.cells #[.int .i64 1, .int .i64 i] 109 (0, 0))) := Lib.hid (heap_alloc_new _ _)
  have HX : Hid (∀ w', Bel (w.alloc (.cells #[.int .i64 1, .int .i64 i] 109)) w' → w'.cell? ⟨Q, 0, none⟩ = some (.pointer (some ⟨Z, 0, none⟩)) ∧ w'.cell? ⟨w.heap.size, 0, none⟩ = some (.int .i64 1) ∧ w'.cell? ⟨w.heap.size, 1, none⟩ = some (.int .i64 i)) := Lib.hid (fun w' hb => ⟨(HA.out.bel (HB0.out.trans hb)).cell rfl, (box2 (hb.heap HN.out)).1.1, (box2 (hb.heap HN.out)).1.2⟩)
  have hdec : (decide (-1 < (1 : Int)) && decide ((1 : Int) < 4)) = true := rfl
  rw [hdec] at K0
  have HF4 : Hid (∀ w' X, Off (Only Q) w w' → Qw w' Q Z B G R P (2 + 4 * 2 ^ b) lo ls r 78 (rcells Z b (fst4 b) F s k) l → Qw (set4 w' Q 7 X) Q Z B G R P (2 + 4 * 2 ^ b) lo ls r 78 (rcells Z b (fst4 b) (upF F 1 X) s k) l ∧ Off (Only Q) w (set4 w' Q 7 X)) := Lib.hid (fun w' X ho q' => by
    obtain ⟨a1, a2⟩ := q'.set4 (o := 7) (cs' := rcells Z b (fst4 b) (upF F 1 X) s k) X (by omega) rfl
    exact ⟨a1, ho.then a2⟩)
  generalize hX : Bm.dp (F 1) i = X at *
  have HXX := Lib.hid hX
  clear q hF h1 he hi hX hdec hfst
  go_enter Tryz.func67, Tryz.ntmps67
  go_wp2_with fail
  with_reducible refine (K0.out _).mono ?_
  rintro e w1 ⟨rfl, hb1⟩
  have HD1 := Lib.hid hb1
  obtain ⟨c0, y0, y1⟩ := HX.out _ hb1
  have lQ1 : Q < w1.heap.size := (HA.out.bel (HB0.out.trans hb1)).ltQ
  clear hb1 K0
  go_wp2
  go_quiet (fail)
  have HDn : Hid (Bel (w.alloc (.cells #[.int .i64 1, .int .i64 i] 109)) (w1.drewN nq)) := Lib.hid (HD1.out.drewN nq)
  generalize w1.drewN nq = w2 at *
  clear c0 y0 y1 lQ1
  obtain ⟨c0, y0, y1⟩ := HX.out _ HDn.out
  have lQ2 : Q < w2.heap.size := (HA.out.bel (HB0.out.trans HDn.out)).ltQ
  have HD3 : Hid (Bel (w.alloc (.cells #[.int .i64 1, .int .i64 i] 109)) w2.drew) := Lib.hid HDn.out.drew
  go_wp2
  go_region_held3 (fun w' => w'.cell? ⟨Q, 0, none⟩ = some (.pointer (some ⟨Z, 0, none⟩)) ∧ w'.cell? ⟨w.heap.size, 0, none⟩ = some (.int .i64 1) ∧ w'.cell? ⟨w.heap.size, 1, none⟩ = some (.int .i64 i))
    (first | (with_reducible exact HX.out _ HD3.out) | (with_reducible exact HX.out _ (HD3.out.trans hb3)) | exact HX.out _ ((HD3.out.trans hb3).trans hb4))
    (first
      | (go_at_call 61; (with_reducible refine (KL.out _ (HB0.out.trans HD3.out)).mono ?_); rintro e w3 ⟨rfl, hb3⟩)
      | (go_at_call 96; (with_reducible refine (KS.out _ ((HB0.out.trans HD3.out).trans hb3)).mono ?_); rintro e w4 ⟨rfl, hb4⟩))
  have HD4 : Hid (Bel (w.alloc (.cells #[.int .i64 1, .int .i64 i] 109)) w4) := Lib.hid ((HD3.out.trans hb3).trans hb4)
  clear c0 y0 y1 lQ2 hb3 hb4 KL KS HD3 HDn HD1
  have q1 := HA.out.bel (HB0.out.trans HD4.out)
  have lQ4 : Q < w4.heap.size := q1.ltQ
  obtain ⟨c0, y0, y1⟩ := HX.out _ HD4.out
  have d0 : w4.cell? ⟨Q, 7, none⟩ = some (.int .u64 (F 1 0)) := q1.cell rfl
  have d1 : w4.cell? ⟨Q, 7 + 1, none⟩ = some (.int .u64 (F 1 1)) := q1.cell rfl
  have d2 : w4.cell? ⟨Q, 7 + 2, none⟩ = some (.int .u64 (F 1 2)) := q1.cell rfl
  have d3 : w4.cell? ⟨Q, 7 + 3, none⟩ = some (.int .u64 (F 1 3)) := q1.cell rfl
  have HD5 : Hid (Bel w w4.drew) := Lib.hid (HB0.out.trans HD4.out).drew
  clear q1
  go_wp2
  go_region_with (go_at_call 104; (with_reducible refine (KX.out _).mono ?_); rintro e w5 ⟨rfl, hb5⟩; have HB5 := Lib.hid (HD5.out.trans (bm_bel hb5)); have q1 := HA.out.bel HB5.out; have lQ5 : Q < w5.heap.size := q1.ltQ; have e0 : w5.cell? ⟨Q, 7, none⟩ = some (.int .u64 (F 1 0)) := q1.cell rfl ; have e1 : w5.cell? ⟨Q, 7 + 1, none⟩ = some (.int .u64 (F 1 1)) := q1.cell rfl ; have e2 : w5.cell? ⟨Q, 7 + 2, none⟩ = some (.int .u64 (F 1 2)) := q1.cell rfl ; have e3 : w5.cell? ⟨Q, 7 + 3, none⟩ = some (.int .u64 (F 1 3)) := q1.cell rfl; have z0 := q1.froz (7) ; have z1 := q1.froz (7 + 1) ; have z2 := q1.froz (7 + 2) ; have z3 := q1.froz (7 + 3); have HQ5 := Lib.hid (HF4.out _ X (HB5.out.off _) q1); clear q1 hb5)
  all_goals
    go_wp2
    go_end0
    exact ⟨rfl, HQ5.out.1, HQ5.out.2⟩
set_option maxHeartbeats 2000000 in
theorem mark_1f {i : Nat} (hi : i < 2 ^ b) (hb6 : b ≤ 6) (hF : Bm.Wd (F 1)) (w : World) (q : Qw w Q Z B G R P (2 + 4 * 2 ^ b) lo ls r 78 (rcells Z b (fst4 b) F s k) l) (he : ¬ ls (2 + 1 * 2 ^ b + i) = []) :
    Calls Tryz.prog 67 #[.pointer (some ⟨Q, 0, none⟩), spV 1 i] w fun e w' => e = .returned (.tuple #[]) ∧ Qw w' Q Z B G R P (2 + 4 * 2 ^ b) lo ls r 78 (rcells Z b (fst4 b) (upF F 1 (Bm.pt (F 1) i)) s k) l ∧ Off (Only Q) w w' := by
  have hp := pow_le hb6
  have K0 := Lib.hid (fun w' => isSlot_any 1 i w')
  have hfst : fst4 b 1 = ((2 + 1 * 2 ^ b : Nat) : Int) := rfl
  have KL : Hid (∀ w', Bel w w' → Calls Tryz.prog 61 #[.pointer (some ⟨Q, 0, none⟩), spV 1 i] w' fun e w2 => e = .returned (.int .i64 (2 + 1 * 2 ^ b + i : Nat)) ∧ Bel w' w2) := Lib.hid (fun w' hb => list_in Q 1 i (fst4 b 1) _ (by omega) w' ((q.bel hb).cell rfl) (by rw [hfst, IntKind.wrap_i64]; omega))
  have KS : Hid (∀ w', Bel w w' → Calls Tryz.prog 96 #[.pointer (some ⟨Z, 0, none⟩), .int .i64 (2 + 1 * 2 ^ b + i : Nat)] w' fun e w2 => e = .returned (.bool (has1 (ls (2 + 1 * 2 ^ b + i)))) ∧ Bel w' w2) := Lib.hid (fun w' hb => some_any (code_lt (by omega) hi) w' (q.ql.bel hb))
  have h1 : has1 (ls (2 + 1 * 2 ^ b + i)) = true := by 
    unfold has1
    cases e : ls (2 + 1 * 2 ^ b + i) with
    | nil => exact absurd e he
    | cons y ys => rfl
  rw [h1] at KS
  generalize ((2 + 1 * 2 ^ b + i : Nat) : Int) = t at *
  have KX := Lib.hid (fun w' => Bm.put_any (F 1) hF (i : Int) w')
  rw [pti_nat (F 1) (by omega)] at KX
  have HA := Lib.hid q
  have lQ := q.ltQ
  have hQn : ¬ w.heap.size = Q := by omega
  have hQn' : ¬ Q = w.heap.size := by omega
  have HB0 : Hid (Bel w (w.alloc (.cells #[.int .i64 1, .int .i64 i] 109))) := Lib.hid ((Bel.refl _).alloc _ _)
  have HN : Hid ((w.alloc (.cells #[.int .i64 1, .int .i64 i] 109)).heap[w.heap.size]? = some (.cells #[.int .i64 1, .int .i64 i] 109 (0, 0))) := Lib.hid (heap_alloc_new _ _)
  have HX : Hid (∀ w', Bel (w.alloc (.cells #[.int .i64 1, .int .i64 i] 109)) w' → w'.cell? ⟨Q, 0, none⟩ = some (.pointer (some ⟨Z, 0, none⟩)) ∧ w'.cell? ⟨w.heap.size, 0, none⟩ = some (.int .i64 1) ∧ w'.cell? ⟨w.heap.size, 1, none⟩ = some (.int .i64 i)) := Lib.hid (fun w' hb => ⟨(HA.out.bel (HB0.out.trans hb)).cell rfl, (box2 (hb.heap HN.out)).1.1, (box2 (hb.heap HN.out)).1.2⟩)
  have hdec : (decide (-1 < (1 : Int)) && decide ((1 : Int) < 4)) = true := rfl
  rw [hdec] at K0
  have HF4 : Hid (∀ w' X, Off (Only Q) w w' → Qw w' Q Z B G R P (2 + 4 * 2 ^ b) lo ls r 78 (rcells Z b (fst4 b) F s k) l → Qw (set4 w' Q 7 X) Q Z B G R P (2 + 4 * 2 ^ b) lo ls r 78 (rcells Z b (fst4 b) (upF F 1 X) s k) l ∧ Off (Only Q) w (set4 w' Q 7 X)) := Lib.hid (fun w' X ho q' => by
    obtain ⟨a1, a2⟩ := q'.set4 (o := 7) (cs' := rcells Z b (fst4 b) (upF F 1 X) s k) X (by omega) rfl
    exact ⟨a1, ho.then a2⟩)
  generalize hX : Bm.pt (F 1) i = X at *
  have HXX := Lib.hid hX
  clear q hF h1 he hi hX hdec hfst
  go_enter Tryz.func67, Tryz.ntmps67
  go_wp2_with fail
  with_reducible refine (K0.out _).mono ?_
  rintro e w1 ⟨rfl, hb1⟩
  have HD1 := Lib.hid hb1
  obtain ⟨c0, y0, y1⟩ := HX.out _ hb1
  have lQ1 : Q < w1.heap.size := (HA.out.bel (HB0.out.trans hb1)).ltQ
  clear hb1 K0
  go_wp2
  go_quiet (fail)
  have HDn : Hid (Bel (w.alloc (.cells #[.int .i64 1, .int .i64 i] 109)) (w1.drewN nq)) := Lib.hid (HD1.out.drewN nq)
  generalize w1.drewN nq = w2 at *
  clear c0 y0 y1 lQ1
  obtain ⟨c0, y0, y1⟩ := HX.out _ HDn.out
  have lQ2 : Q < w2.heap.size := (HA.out.bel (HB0.out.trans HDn.out)).ltQ
  have HD3 : Hid (Bel (w.alloc (.cells #[.int .i64 1, .int .i64 i] 109)) w2.drew) := Lib.hid HDn.out.drew
  go_wp2
  go_region_held3 (fun w' => w'.cell? ⟨Q, 0, none⟩ = some (.pointer (some ⟨Z, 0, none⟩)) ∧ w'.cell? ⟨w.heap.size, 0, none⟩ = some (.int .i64 1) ∧ w'.cell? ⟨w.heap.size, 1, none⟩ = some (.int .i64 i))
    (first | (with_reducible exact HX.out _ HD3.out) | (with_reducible exact HX.out _ (HD3.out.trans hb3)) | exact HX.out _ ((HD3.out.trans hb3).trans hb4))
    (first
      | (go_at_call 61; (with_reducible refine (KL.out _ (HB0.out.trans HD3.out)).mono ?_); rintro e w3 ⟨rfl, hb3⟩)
      | (go_at_call 96; (with_reducible refine (KS.out _ ((HB0.out.trans HD3.out).trans hb3)).mono ?_); rintro e w4 ⟨rfl, hb4⟩))
  have HD4 : Hid (Bel (w.alloc (.cells #[.int .i64 1, .int .i64 i] 109)) w4) := Lib.hid ((HD3.out.trans hb3).trans hb4)
  clear c0 y0 y1 lQ2 hb3 hb4 KL KS HD3 HDn HD1
  have q1 := HA.out.bel (HB0.out.trans HD4.out)
  have lQ4 : Q < w4.heap.size := q1.ltQ
  obtain ⟨c0, y0, y1⟩ := HX.out _ HD4.out
  have d0 : w4.cell? ⟨Q, 7, none⟩ = some (.int .u64 (F 1 0)) := q1.cell rfl
  have d1 : w4.cell? ⟨Q, 7 + 1, none⟩ = some (.int .u64 (F 1 1)) := q1.cell rfl
  have d2 : w4.cell? ⟨Q, 7 + 2, none⟩ = some (.int .u64 (F 1 2)) := q1.cell rfl
  have d3 : w4.cell? ⟨Q, 7 + 3, none⟩ = some (.int .u64 (F 1 3)) := q1.cell rfl
  have HD5 : Hid (Bel w w4.drew) := Lib.hid (HB0.out.trans HD4.out).drew
  clear q1
  go_wp2
  go_region_with (go_at_call 103; (with_reducible refine (KX.out _).mono ?_); rintro e w5 ⟨rfl, hb5⟩; have HB5 := Lib.hid (HD5.out.trans (bm_bel hb5)); have q1 := HA.out.bel HB5.out; have lQ5 : Q < w5.heap.size := q1.ltQ; have e0 : w5.cell? ⟨Q, 7, none⟩ = some (.int .u64 (F 1 0)) := q1.cell rfl ; have e1 : w5.cell? ⟨Q, 7 + 1, none⟩ = some (.int .u64 (F 1 1)) := q1.cell rfl ; have e2 : w5.cell? ⟨Q, 7 + 2, none⟩ = some (.int .u64 (F 1 2)) := q1.cell rfl ; have e3 : w5.cell? ⟨Q, 7 + 3, none⟩ = some (.int .u64 (F 1 3)) := q1.cell rfl; have z0 := q1.froz (7) ; have z1 := q1.froz (7 + 1) ; have z2 := q1.froz (7 + 2) ; have z3 := q1.froz (7 + 3); have HQ5 := Lib.hid (HF4.out _ X (HB5.out.off _) q1); clear q1 hb5)
  all_goals
    go_wp2
    go_end0
    exact ⟨rfl, HQ5.out.1, HQ5.out.2⟩
set_option maxHeartbeats 2000000 in
theorem mark_2e {i : Nat} (hi : i < 2 ^ b) (hb6 : b ≤ 6) (hF : Bm.Wd (F 2)) (w : World) (q : Qw w Q Z B G R P (2 + 4 * 2 ^ b) lo ls r 78 (rcells Z b (fst4 b) F s k) l) (he : ls (2 + 2 * 2 ^ b + i) = []) :
    Calls Tryz.prog 67 #[.pointer (some ⟨Q, 0, none⟩), spV 2 i] w fun e w' => e = .returned (.tuple #[]) ∧ Qw w' Q Z B G R P (2 + 4 * 2 ^ b) lo ls r 78 (rcells Z b (fst4 b) (upF F 2 (Bm.dp (F 2) i)) s k) l ∧ Off (Only Q) w w' := by
  have hp := pow_le hb6
  have K0 := Lib.hid (fun w' => isSlot_any 2 i w')
  have hfst : fst4 b 2 = ((2 + 2 * 2 ^ b : Nat) : Int) := rfl
  have KL : Hid (∀ w', Bel w w' → Calls Tryz.prog 61 #[.pointer (some ⟨Q, 0, none⟩), spV 2 i] w' fun e w2 => e = .returned (.int .i64 (2 + 2 * 2 ^ b + i : Nat)) ∧ Bel w' w2) := Lib.hid (fun w' hb => list_in Q 2 i (fst4 b 2) _ (by omega) w' ((q.bel hb).cell rfl) (by rw [hfst, IntKind.wrap_i64]; omega))
  have KS : Hid (∀ w', Bel w w' → Calls Tryz.prog 96 #[.pointer (some ⟨Z, 0, none⟩), .int .i64 (2 + 2 * 2 ^ b + i : Nat)] w' fun e w2 => e = .returned (.bool (has1 (ls (2 + 2 * 2 ^ b + i)))) ∧ Bel w' w2) := Lib.hid (fun w' hb => some_any (code_lt (by omega) hi) w' (q.ql.bel hb))
  have h1 : has1 (ls (2 + 2 * 2 ^ b + i)) = false := by rw [he]; rfl
  rw [h1] at KS
  generalize ((2 + 2 * 2 ^ b + i : Nat) : Int) = t at *
  have KX := Lib.hid (fun w' => Bm.drop_any (F 2) hF (i : Int) w')
  rw [dpi_nat (F 2) (by omega)] at KX
  have HA := Lib.hid q
  have lQ := q.ltQ
  have hQn : ¬ w.heap.size = Q := by omega
  have hQn' : ¬ Q = w.heap.size := by omega
  have HB0 : Hid (Bel w (w.alloc (.cells #[.int .i64 2, .int .i64 i] 109))) := Lib.hid ((Bel.refl _).alloc _ _)
  have HN : Hid ((w.alloc (.cells #[.int .i64 2, .int .i64 i] 109)).heap[w.heap.size]? = some (.cells #[.int .i64 2, .int .i64 i] 109 (0, 0))) := Lib.hid (heap_alloc_new _ _)
  have HX : Hid (∀ w', Bel (w.alloc (.cells #[.int .i64 2, .int .i64 i] 109)) w' → w'.cell? ⟨Q, 0, none⟩ = some (.pointer (some ⟨Z, 0, none⟩)) ∧ w'.cell? ⟨w.heap.size, 0, none⟩ = some (.int .i64 2) ∧ w'.cell? ⟨w.heap.size, 1, none⟩ = some (.int .i64 i)) := Lib.hid (fun w' hb => ⟨(HA.out.bel (HB0.out.trans hb)).cell rfl, (box2 (hb.heap HN.out)).1.1, (box2 (hb.heap HN.out)).1.2⟩)
  have hdec : (decide (-1 < (2 : Int)) && decide ((2 : Int) < 4)) = true := rfl
  rw [hdec] at K0
  have HF4 : Hid (∀ w' X, Off (Only Q) w w' → Qw w' Q Z B G R P (2 + 4 * 2 ^ b) lo ls r 78 (rcells Z b (fst4 b) F s k) l → Qw (set4 w' Q 12 X) Q Z B G R P (2 + 4 * 2 ^ b) lo ls r 78 (rcells Z b (fst4 b) (upF F 2 X) s k) l ∧ Off (Only Q) w (set4 w' Q 12 X)) := Lib.hid (fun w' X ho q' => by
    obtain ⟨a1, a2⟩ := q'.set4 (o := 12) (cs' := rcells Z b (fst4 b) (upF F 2 X) s k) X (by omega) rfl
    exact ⟨a1, ho.then a2⟩)
  generalize hX : Bm.dp (F 2) i = X at *
  have HXX := Lib.hid hX
  clear q hF h1 he hi hX hdec hfst
  go_enter Tryz.func67, Tryz.ntmps67
  go_wp2_with fail
  with_reducible refine (K0.out _).mono ?_
  rintro e w1 ⟨rfl, hb1⟩
  have HD1 := Lib.hid hb1
  obtain ⟨c0, y0, y1⟩ := HX.out _ hb1
  have lQ1 : Q < w1.heap.size := (HA.out.bel (HB0.out.trans hb1)).ltQ
  clear hb1 K0
  go_wp2
  go_quiet (fail)
  have HDn : Hid (Bel (w.alloc (.cells #[.int .i64 2, .int .i64 i] 109)) (w1.drewN nq)) := Lib.hid (HD1.out.drewN nq)
  generalize w1.drewN nq = w2 at *
  clear c0 y0 y1 lQ1
  obtain ⟨c0, y0, y1⟩ := HX.out _ HDn.out
  have lQ2 : Q < w2.heap.size := (HA.out.bel (HB0.out.trans HDn.out)).ltQ
  have HD3 : Hid (Bel (w.alloc (.cells #[.int .i64 2, .int .i64 i] 109)) w2.drew) := Lib.hid HDn.out.drew
  go_wp2
  go_region_held3 (fun w' => w'.cell? ⟨Q, 0, none⟩ = some (.pointer (some ⟨Z, 0, none⟩)) ∧ w'.cell? ⟨w.heap.size, 0, none⟩ = some (.int .i64 2) ∧ w'.cell? ⟨w.heap.size, 1, none⟩ = some (.int .i64 i))
    (first | (with_reducible exact HX.out _ HD3.out) | (with_reducible exact HX.out _ (HD3.out.trans hb3)) | exact HX.out _ ((HD3.out.trans hb3).trans hb4))
    (first
      | (go_at_call 61; (with_reducible refine (KL.out _ (HB0.out.trans HD3.out)).mono ?_); rintro e w3 ⟨rfl, hb3⟩)
      | (go_at_call 96; (with_reducible refine (KS.out _ ((HB0.out.trans HD3.out).trans hb3)).mono ?_); rintro e w4 ⟨rfl, hb4⟩))
  have HD4 : Hid (Bel (w.alloc (.cells #[.int .i64 2, .int .i64 i] 109)) w4) := Lib.hid ((HD3.out.trans hb3).trans hb4)
  clear c0 y0 y1 lQ2 hb3 hb4 KL KS HD3 HDn HD1
  have q1 := HA.out.bel (HB0.out.trans HD4.out)
  have lQ4 : Q < w4.heap.size := q1.ltQ
  obtain ⟨c0, y0, y1⟩ := HX.out _ HD4.out
  have d0 : w4.cell? ⟨Q, 12, none⟩ = some (.int .u64 (F 2 0)) := q1.cell rfl
  have d1 : w4.cell? ⟨Q, 12 + 1, none⟩ = some (.int .u64 (F 2 1)) := q1.cell rfl
  have d2 : w4.cell? ⟨Q, 12 + 2, none⟩ = some (.int .u64 (F 2 2)) := q1.cell rfl
  have d3 : w4.cell? ⟨Q, 12 + 3, none⟩ = some (.int .u64 (F 2 3)) := q1.cell rfl
  have HD5 : Hid (Bel w w4.drew) := Lib.hid (HB0.out.trans HD4.out).drew
  clear q1
  go_wp2
  go_region_with (go_at_call 104; (with_reducible refine (KX.out _).mono ?_); rintro e w5 ⟨rfl, hb5⟩; have HB5 := Lib.hid (HD5.out.trans (bm_bel hb5)); have q1 := HA.out.bel HB5.out; have lQ5 : Q < w5.heap.size := q1.ltQ; have e0 : w5.cell? ⟨Q, 12, none⟩ = some (.int .u64 (F 2 0)) := q1.cell rfl ; have e1 : w5.cell? ⟨Q, 12 + 1, none⟩ = some (.int .u64 (F 2 1)) := q1.cell rfl ; have e2 : w5.cell? ⟨Q, 12 + 2, none⟩ = some (.int .u64 (F 2 2)) := q1.cell rfl ; have e3 : w5.cell? ⟨Q, 12 + 3, none⟩ = some (.int .u64 (F 2 3)) := q1.cell rfl; have z0 := q1.froz (12) ; have z1 := q1.froz (12 + 1) ; have z2 := q1.froz (12 + 2) ; have z3 := q1.froz (12 + 3); have HQ5 := Lib.hid (HF4.out _ X (HB5.out.off _) q1); clear q1 hb5)
  all_goals
    go_wp2
    go_end0
    exact ⟨rfl, HQ5.out.1, HQ5.out.2⟩
set_option maxHeartbeats 2000000 in
theorem mark_2f {i : Nat} (hi : i < 2 ^ b) (hb6 : b ≤ 6) (hF : Bm.Wd (F 2)) (w : World) (q : Qw w Q Z B G R P (2 + 4 * 2 ^ b) lo ls r 78 (rcells Z b (fst4 b) F s k) l) (he : ¬ ls (2 + 2 * 2 ^ b + i) = []) :
    Calls Tryz.prog 67 #[.pointer (some ⟨Q, 0, none⟩), spV 2 i] w fun e w' => e = .returned (.tuple #[]) ∧ Qw w' Q Z B G R P (2 + 4 * 2 ^ b) lo ls r 78 (rcells Z b (fst4 b) (upF F 2 (Bm.pt (F 2) i)) s k) l ∧ Off (Only Q) w w' := by
  have hp := pow_le hb6
  have K0 := Lib.hid (fun w' => isSlot_any 2 i w')
  have hfst : fst4 b 2 = ((2 + 2 * 2 ^ b : Nat) : Int) := rfl
  have KL : Hid (∀ w', Bel w w' → Calls Tryz.prog 61 #[.pointer (some ⟨Q, 0, none⟩), spV 2 i] w' fun e w2 => e = .returned (.int .i64 (2 + 2 * 2 ^ b + i : Nat)) ∧ Bel w' w2) := Lib.hid (fun w' hb => list_in Q 2 i (fst4 b 2) _ (by omega) w' ((q.bel hb).cell rfl) (by rw [hfst, IntKind.wrap_i64]; omega))
  have KS : Hid (∀ w', Bel w w' → Calls Tryz.prog 96 #[.pointer (some ⟨Z, 0, none⟩), .int .i64 (2 + 2 * 2 ^ b + i : Nat)] w' fun e w2 => e = .returned (.bool (has1 (ls (2 + 2 * 2 ^ b + i)))) ∧ Bel w' w2) := Lib.hid (fun w' hb => some_any (code_lt (by omega) hi) w' (q.ql.bel hb))
  have h1 : has1 (ls (2 + 2 * 2 ^ b + i)) = true := by 
    unfold has1
    cases e : ls (2 + 2 * 2 ^ b + i) with
    | nil => exact absurd e he
    | cons y ys => rfl
  rw [h1] at KS
  generalize ((2 + 2 * 2 ^ b + i : Nat) : Int) = t at *
  have KX := Lib.hid (fun w' => Bm.put_any (F 2) hF (i : Int) w')
  rw [pti_nat (F 2) (by omega)] at KX
  have HA := Lib.hid q
  have lQ := q.ltQ
  have hQn : ¬ w.heap.size = Q := by omega
  have hQn' : ¬ Q = w.heap.size := by omega
  have HB0 : Hid (Bel w (w.alloc (.cells #[.int .i64 2, .int .i64 i] 109))) := Lib.hid ((Bel.refl _).alloc _ _)
  have HN : Hid ((w.alloc (.cells #[.int .i64 2, .int .i64 i] 109)).heap[w.heap.size]? = some (.cells #[.int .i64 2, .int .i64 i] 109 (0, 0))) := Lib.hid (heap_alloc_new _ _)
  have HX : Hid (∀ w', Bel (w.alloc (.cells #[.int .i64 2, .int .i64 i] 109)) w' → w'.cell? ⟨Q, 0, none⟩ = some (.pointer (some ⟨Z, 0, none⟩)) ∧ w'.cell? ⟨w.heap.size, 0, none⟩ = some (.int .i64 2) ∧ w'.cell? ⟨w.heap.size, 1, none⟩ = some (.int .i64 i)) := Lib.hid (fun w' hb => ⟨(HA.out.bel (HB0.out.trans hb)).cell rfl, (box2 (hb.heap HN.out)).1.1, (box2 (hb.heap HN.out)).1.2⟩)
  have hdec : (decide (-1 < (2 : Int)) && decide ((2 : Int) < 4)) = true := rfl
  rw [hdec] at K0
  have HF4 : Hid (∀ w' X, Off (Only Q) w w' → Qw w' Q Z B G R P (2 + 4 * 2 ^ b) lo ls r 78 (rcells Z b (fst4 b) F s k) l → Qw (set4 w' Q 12 X) Q Z B G R P (2 + 4 * 2 ^ b) lo ls r 78 (rcells Z b (fst4 b) (upF F 2 X) s k) l ∧ Off (Only Q) w (set4 w' Q 12 X)) := Lib.hid (fun w' X ho q' => by
    obtain ⟨a1, a2⟩ := q'.set4 (o := 12) (cs' := rcells Z b (fst4 b) (upF F 2 X) s k) X (by omega) rfl
    exact ⟨a1, ho.then a2⟩)
  generalize hX : Bm.pt (F 2) i = X at *
  have HXX := Lib.hid hX
  clear q hF h1 he hi hX hdec hfst
  go_enter Tryz.func67, Tryz.ntmps67
  go_wp2_with fail
  with_reducible refine (K0.out _).mono ?_
  rintro e w1 ⟨rfl, hb1⟩
  have HD1 := Lib.hid hb1
  obtain ⟨c0, y0, y1⟩ := HX.out _ hb1
  have lQ1 : Q < w1.heap.size := (HA.out.bel (HB0.out.trans hb1)).ltQ
  clear hb1 K0
  go_wp2
  go_quiet (fail)
  have HDn : Hid (Bel (w.alloc (.cells #[.int .i64 2, .int .i64 i] 109)) (w1.drewN nq)) := Lib.hid (HD1.out.drewN nq)
  generalize w1.drewN nq = w2 at *
  clear c0 y0 y1 lQ1
  obtain ⟨c0, y0, y1⟩ := HX.out _ HDn.out
  have lQ2 : Q < w2.heap.size := (HA.out.bel (HB0.out.trans HDn.out)).ltQ
  have HD3 : Hid (Bel (w.alloc (.cells #[.int .i64 2, .int .i64 i] 109)) w2.drew) := Lib.hid HDn.out.drew
  go_wp2
  go_region_held3 (fun w' => w'.cell? ⟨Q, 0, none⟩ = some (.pointer (some ⟨Z, 0, none⟩)) ∧ w'.cell? ⟨w.heap.size, 0, none⟩ = some (.int .i64 2) ∧ w'.cell? ⟨w.heap.size, 1, none⟩ = some (.int .i64 i))
    (first | (with_reducible exact HX.out _ HD3.out) | (with_reducible exact HX.out _ (HD3.out.trans hb3)) | exact HX.out _ ((HD3.out.trans hb3).trans hb4))
    (first
      | (go_at_call 61; (with_reducible refine (KL.out _ (HB0.out.trans HD3.out)).mono ?_); rintro e w3 ⟨rfl, hb3⟩)
      | (go_at_call 96; (with_reducible refine (KS.out _ ((HB0.out.trans HD3.out).trans hb3)).mono ?_); rintro e w4 ⟨rfl, hb4⟩))
  have HD4 : Hid (Bel (w.alloc (.cells #[.int .i64 2, .int .i64 i] 109)) w4) := Lib.hid ((HD3.out.trans hb3).trans hb4)
  clear c0 y0 y1 lQ2 hb3 hb4 KL KS HD3 HDn HD1
  have q1 := HA.out.bel (HB0.out.trans HD4.out)
  have lQ4 : Q < w4.heap.size := q1.ltQ
  obtain ⟨c0, y0, y1⟩ := HX.out _ HD4.out
  have d0 : w4.cell? ⟨Q, 12, none⟩ = some (.int .u64 (F 2 0)) := q1.cell rfl
  have d1 : w4.cell? ⟨Q, 12 + 1, none⟩ = some (.int .u64 (F 2 1)) := q1.cell rfl
  have d2 : w4.cell? ⟨Q, 12 + 2, none⟩ = some (.int .u64 (F 2 2)) := q1.cell rfl
  have d3 : w4.cell? ⟨Q, 12 + 3, none⟩ = some (.int .u64 (F 2 3)) := q1.cell rfl
  have HD5 : Hid (Bel w w4.drew) := Lib.hid (HB0.out.trans HD4.out).drew
  clear q1
  go_wp2
  go_region_with (go_at_call 103; (with_reducible refine (KX.out _).mono ?_); rintro e w5 ⟨rfl, hb5⟩; have HB5 := Lib.hid (HD5.out.trans (bm_bel hb5)); have q1 := HA.out.bel HB5.out; have lQ5 : Q < w5.heap.size := q1.ltQ; have e0 : w5.cell? ⟨Q, 12, none⟩ = some (.int .u64 (F 2 0)) := q1.cell rfl ; have e1 : w5.cell? ⟨Q, 12 + 1, none⟩ = some (.int .u64 (F 2 1)) := q1.cell rfl ; have e2 : w5.cell? ⟨Q, 12 + 2, none⟩ = some (.int .u64 (F 2 2)) := q1.cell rfl ; have e3 : w5.cell? ⟨Q, 12 + 3, none⟩ = some (.int .u64 (F 2 3)) := q1.cell rfl; have z0 := q1.froz (12) ; have z1 := q1.froz (12 + 1) ; have z2 := q1.froz (12 + 2) ; have z3 := q1.froz (12 + 3); have HQ5 := Lib.hid (HF4.out _ X (HB5.out.off _) q1); clear q1 hb5)
  all_goals
    go_wp2
    go_end0
    exact ⟨rfl, HQ5.out.1, HQ5.out.2⟩
set_option maxHeartbeats 2000000 in
theorem mark_3e {i : Nat} (hi : i < 2 ^ b) (hb6 : b ≤ 6) (hF : Bm.Wd (F 3)) (w : World) (q : Qw w Q Z B G R P (2 + 4 * 2 ^ b) lo ls r 78 (rcells Z b (fst4 b) F s k) l) (he : ls (2 + 3 * 2 ^ b + i) = []) :
    Calls Tryz.prog 67 #[.pointer (some ⟨Q, 0, none⟩), spV 3 i] w fun e w' => e = .returned (.tuple #[]) ∧ Qw w' Q Z B G R P (2 + 4 * 2 ^ b) lo ls r 78 (rcells Z b (fst4 b) (upF F 3 (Bm.dp (F 3) i)) s k) l ∧ Off (Only Q) w w' := by
  have hp := pow_le hb6
  have K0 := Lib.hid (fun w' => isSlot_any 3 i w')
  have hfst : fst4 b 3 = ((2 + 3 * 2 ^ b : Nat) : Int) := rfl
  have KL : Hid (∀ w', Bel w w' → Calls Tryz.prog 61 #[.pointer (some ⟨Q, 0, none⟩), spV 3 i] w' fun e w2 => e = .returned (.int .i64 (2 + 3 * 2 ^ b + i : Nat)) ∧ Bel w' w2) := Lib.hid (fun w' hb => list_in Q 3 i (fst4 b 3) _ (by omega) w' ((q.bel hb).cell rfl) (by rw [hfst, IntKind.wrap_i64]; omega))
  have KS : Hid (∀ w', Bel w w' → Calls Tryz.prog 96 #[.pointer (some ⟨Z, 0, none⟩), .int .i64 (2 + 3 * 2 ^ b + i : Nat)] w' fun e w2 => e = .returned (.bool (has1 (ls (2 + 3 * 2 ^ b + i)))) ∧ Bel w' w2) := Lib.hid (fun w' hb => some_any (code_lt (by omega) hi) w' (q.ql.bel hb))
  have h1 : has1 (ls (2 + 3 * 2 ^ b + i)) = false := by rw [he]; rfl
  rw [h1] at KS
  generalize ((2 + 3 * 2 ^ b + i : Nat) : Int) = t at *
  have KX := Lib.hid (fun w' => Bm.drop_any (F 3) hF (i : Int) w')
  rw [dpi_nat (F 3) (by omega)] at KX
  have HA := Lib.hid q
  have lQ := q.ltQ
  have hQn : ¬ w.heap.size = Q := by omega
  have hQn' : ¬ Q = w.heap.size := by omega
  have HB0 : Hid (Bel w (w.alloc (.cells #[.int .i64 3, .int .i64 i] 109))) := Lib.hid ((Bel.refl _).alloc _ _)
  have HN : Hid ((w.alloc (.cells #[.int .i64 3, .int .i64 i] 109)).heap[w.heap.size]? = some (.cells #[.int .i64 3, .int .i64 i] 109 (0, 0))) := Lib.hid (heap_alloc_new _ _)
  have HX : Hid (∀ w', Bel (w.alloc (.cells #[.int .i64 3, .int .i64 i] 109)) w' → w'.cell? ⟨Q, 0, none⟩ = some (.pointer (some ⟨Z, 0, none⟩)) ∧ w'.cell? ⟨w.heap.size, 0, none⟩ = some (.int .i64 3) ∧ w'.cell? ⟨w.heap.size, 1, none⟩ = some (.int .i64 i)) := Lib.hid (fun w' hb => ⟨(HA.out.bel (HB0.out.trans hb)).cell rfl, (box2 (hb.heap HN.out)).1.1, (box2 (hb.heap HN.out)).1.2⟩)
  have hdec : (decide (-1 < (3 : Int)) && decide ((3 : Int) < 4)) = true := rfl
  rw [hdec] at K0
  have HF4 : Hid (∀ w' X, Off (Only Q) w w' → Qw w' Q Z B G R P (2 + 4 * 2 ^ b) lo ls r 78 (rcells Z b (fst4 b) F s k) l → Qw (set4 w' Q 17 X) Q Z B G R P (2 + 4 * 2 ^ b) lo ls r 78 (rcells Z b (fst4 b) (upF F 3 X) s k) l ∧ Off (Only Q) w (set4 w' Q 17 X)) := Lib.hid (fun w' X ho q' => by
    obtain ⟨a1, a2⟩ := q'.set4 (o := 17) (cs' := rcells Z b (fst4 b) (upF F 3 X) s k) X (by omega) rfl
    exact ⟨a1, ho.then a2⟩)
  generalize hX : Bm.dp (F 3) i = X at *
  have HXX := Lib.hid hX
  clear q hF h1 he hi hX hdec hfst
  go_enter Tryz.func67, Tryz.ntmps67
  go_wp2_with fail
  with_reducible refine (K0.out _).mono ?_
  rintro e w1 ⟨rfl, hb1⟩
  have HD1 := Lib.hid hb1
  obtain ⟨c0, y0, y1⟩ := HX.out _ hb1
  have lQ1 : Q < w1.heap.size := (HA.out.bel (HB0.out.trans hb1)).ltQ
  clear hb1 K0
  go_wp2
  go_quiet (fail)
  have HDn : Hid (Bel (w.alloc (.cells #[.int .i64 3, .int .i64 i] 109)) (w1.drewN nq)) := Lib.hid (HD1.out.drewN nq)
  generalize w1.drewN nq = w2 at *
  clear c0 y0 y1 lQ1
  obtain ⟨c0, y0, y1⟩ := HX.out _ HDn.out
  have lQ2 : Q < w2.heap.size := (HA.out.bel (HB0.out.trans HDn.out)).ltQ
  have HD3 : Hid (Bel (w.alloc (.cells #[.int .i64 3, .int .i64 i] 109)) w2.drew) := Lib.hid HDn.out.drew
  go_wp2
  go_region_held3 (fun w' => w'.cell? ⟨Q, 0, none⟩ = some (.pointer (some ⟨Z, 0, none⟩)) ∧ w'.cell? ⟨w.heap.size, 0, none⟩ = some (.int .i64 3) ∧ w'.cell? ⟨w.heap.size, 1, none⟩ = some (.int .i64 i))
    (first | (with_reducible exact HX.out _ HD3.out) | (with_reducible exact HX.out _ (HD3.out.trans hb3)) | exact HX.out _ ((HD3.out.trans hb3).trans hb4))
    (first
      | (go_at_call 61; (with_reducible refine (KL.out _ (HB0.out.trans HD3.out)).mono ?_); rintro e w3 ⟨rfl, hb3⟩)
      | (go_at_call 96; (with_reducible refine (KS.out _ ((HB0.out.trans HD3.out).trans hb3)).mono ?_); rintro e w4 ⟨rfl, hb4⟩))
  have HD4 : Hid (Bel (w.alloc (.cells #[.int .i64 3, .int .i64 i] 109)) w4) := Lib.hid ((HD3.out.trans hb3).trans hb4)
  clear c0 y0 y1 lQ2 hb3 hb4 KL KS HD3 HDn HD1
  have q1 := HA.out.bel (HB0.out.trans HD4.out)
  have lQ4 : Q < w4.heap.size := q1.ltQ
  obtain ⟨c0, y0, y1⟩ := HX.out _ HD4.out
  have d0 : w4.cell? ⟨Q, 17, none⟩ = some (.int .u64 (F 3 0)) := q1.cell rfl
  have d1 : w4.cell? ⟨Q, 17 + 1, none⟩ = some (.int .u64 (F 3 1)) := q1.cell rfl
  have d2 : w4.cell? ⟨Q, 17 + 2, none⟩ = some (.int .u64 (F 3 2)) := q1.cell rfl
  have d3 : w4.cell? ⟨Q, 17 + 3, none⟩ = some (.int .u64 (F 3 3)) := q1.cell rfl
  have HD5 : Hid (Bel w w4.drew) := Lib.hid (HB0.out.trans HD4.out).drew
  clear q1
  go_wp2
  go_region_with (go_at_call 104; (with_reducible refine (KX.out _).mono ?_); rintro e w5 ⟨rfl, hb5⟩; have HB5 := Lib.hid (HD5.out.trans (bm_bel hb5)); have q1 := HA.out.bel HB5.out; have lQ5 : Q < w5.heap.size := q1.ltQ; have e0 : w5.cell? ⟨Q, 17, none⟩ = some (.int .u64 (F 3 0)) := q1.cell rfl ; have e1 : w5.cell? ⟨Q, 17 + 1, none⟩ = some (.int .u64 (F 3 1)) := q1.cell rfl ; have e2 : w5.cell? ⟨Q, 17 + 2, none⟩ = some (.int .u64 (F 3 2)) := q1.cell rfl ; have e3 : w5.cell? ⟨Q, 17 + 3, none⟩ = some (.int .u64 (F 3 3)) := q1.cell rfl; have z0 := q1.froz (17) ; have z1 := q1.froz (17 + 1) ; have z2 := q1.froz (17 + 2) ; have z3 := q1.froz (17 + 3); have HQ5 := Lib.hid (HF4.out _ X (HB5.out.off _) q1); clear q1 hb5)
  all_goals
    go_wp2
    go_end0
    exact ⟨rfl, HQ5.out.1, HQ5.out.2⟩
set_option maxHeartbeats 2000000 in
theorem mark_3f {i : Nat} (hi : i < 2 ^ b) (hb6 : b ≤ 6) (hF : Bm.Wd (F 3)) (w : World) (q : Qw w Q Z B G R P (2 + 4 * 2 ^ b) lo ls r 78 (rcells Z b (fst4 b) F s k) l) (he : ¬ ls (2 + 3 * 2 ^ b + i) = []) :
    Calls Tryz.prog 67 #[.pointer (some ⟨Q, 0, none⟩), spV 3 i] w fun e w' => e = .returned (.tuple #[]) ∧ Qw w' Q Z B G R P (2 + 4 * 2 ^ b) lo ls r 78 (rcells Z b (fst4 b) (upF F 3 (Bm.pt (F 3) i)) s k) l ∧ Off (Only Q) w w' := by
  have hp := pow_le hb6
  have K0 := Lib.hid (fun w' => isSlot_any 3 i w')
  have hfst : fst4 b 3 = ((2 + 3 * 2 ^ b : Nat) : Int) := rfl
  have KL : Hid (∀ w', Bel w w' → Calls Tryz.prog 61 #[.pointer (some ⟨Q, 0, none⟩), spV 3 i] w' fun e w2 => e = .returned (.int .i64 (2 + 3 * 2 ^ b + i : Nat)) ∧ Bel w' w2) := Lib.hid (fun w' hb => list_in Q 3 i (fst4 b 3) _ (by omega) w' ((q.bel hb).cell rfl) (by rw [hfst, IntKind.wrap_i64]; omega))
  have KS : Hid (∀ w', Bel w w' → Calls Tryz.prog 96 #[.pointer (some ⟨Z, 0, none⟩), .int .i64 (2 + 3 * 2 ^ b + i : Nat)] w' fun e w2 => e = .returned (.bool (has1 (ls (2 + 3 * 2 ^ b + i)))) ∧ Bel w' w2) := Lib.hid (fun w' hb => some_any (code_lt (by omega) hi) w' (q.ql.bel hb))
  have h1 : has1 (ls (2 + 3 * 2 ^ b + i)) = true := by 
    unfold has1
    cases e : ls (2 + 3 * 2 ^ b + i) with
    | nil => exact absurd e he
    | cons y ys => rfl
  rw [h1] at KS
  generalize ((2 + 3 * 2 ^ b + i : Nat) : Int) = t at *
  have KX := Lib.hid (fun w' => Bm.put_any (F 3) hF (i : Int) w')
  rw [pti_nat (F 3) (by omega)] at KX
  have HA := Lib.hid q
  have lQ := q.ltQ
  have hQn : ¬ w.heap.size = Q := by omega
  have hQn' : ¬ Q = w.heap.size := by omega
  have HB0 : Hid (Bel w (w.alloc (.cells #[.int .i64 3, .int .i64 i] 109))) := Lib.hid ((Bel.refl _).alloc _ _)
  have HN : Hid ((w.alloc (.cells #[.int .i64 3, .int .i64 i] 109)).heap[w.heap.size]? = some (.cells #[.int .i64 3, .int .i64 i] 109 (0, 0))) := Lib.hid (heap_alloc_new _ _)
  have HX : Hid (∀ w', Bel (w.alloc (.cells #[.int .i64 3, .int .i64 i] 109)) w' → w'.cell? ⟨Q, 0, none⟩ = some (.pointer (some ⟨Z, 0, none⟩)) ∧ w'.cell? ⟨w.heap.size, 0, none⟩ = some (.int .i64 3) ∧ w'.cell? ⟨w.heap.size, 1, none⟩ = some (.int .i64 i)) := Lib.hid (fun w' hb => ⟨(HA.out.bel (HB0.out.trans hb)).cell rfl, (box2 (hb.heap HN.out)).1.1, (box2 (hb.heap HN.out)).1.2⟩)
  have hdec : (decide (-1 < (3 : Int)) && decide ((3 : Int) < 4)) = true := rfl
  rw [hdec] at K0
  have HF4 : Hid (∀ w' X, Off (Only Q) w w' → Qw w' Q Z B G R P (2 + 4 * 2 ^ b) lo ls r 78 (rcells Z b (fst4 b) F s k) l → Qw (set4 w' Q 17 X) Q Z B G R P (2 + 4 * 2 ^ b) lo ls r 78 (rcells Z b (fst4 b) (upF F 3 X) s k) l ∧ Off (Only Q) w (set4 w' Q 17 X)) := Lib.hid (fun w' X ho q' => by
    obtain ⟨a1, a2⟩ := q'.set4 (o := 17) (cs' := rcells Z b (fst4 b) (upF F 3 X) s k) X (by omega) rfl
    exact ⟨a1, ho.then a2⟩)
  generalize hX : Bm.pt (F 3) i = X at *
  have HXX := Lib.hid hX
  clear q hF h1 he hi hX hdec hfst
  go_enter Tryz.func67, Tryz.ntmps67
  go_wp2_with fail
  with_reducible refine (K0.out _).mono ?_
  rintro e w1 ⟨rfl, hb1⟩
  have HD1 := Lib.hid hb1
  obtain ⟨c0, y0, y1⟩ := HX.out _ hb1
  have lQ1 : Q < w1.heap.size := (HA.out.bel (HB0.out.trans hb1)).ltQ
  clear hb1 K0
  go_wp2
  go_quiet (fail)
  have HDn : Hid (Bel (w.alloc (.cells #[.int .i64 3, .int .i64 i] 109)) (w1.drewN nq)) := Lib.hid (HD1.out.drewN nq)
  generalize w1.drewN nq = w2 at *
  clear c0 y0 y1 lQ1
  obtain ⟨c0, y0, y1⟩ := HX.out _ HDn.out
  have lQ2 : Q < w2.heap.size := (HA.out.bel (HB0.out.trans HDn.out)).ltQ
  have HD3 : Hid (Bel (w.alloc (.cells #[.int .i64 3, .int .i64 i] 109)) w2.drew) := Lib.hid HDn.out.drew
  go_wp2
  go_region_held3 (fun w' => w'.cell? ⟨Q, 0, none⟩ = some (.pointer (some ⟨Z, 0, none⟩)) ∧ w'.cell? ⟨w.heap.size, 0, none⟩ = some (.int .i64 3) ∧ w'.cell? ⟨w.heap.size, 1, none⟩ = some (.int .i64 i))
    (first | (with_reducible exact HX.out _ HD3.out) | (with_reducible exact HX.out _ (HD3.out.trans hb3)) | exact HX.out _ ((HD3.out.trans hb3).trans hb4))
    (first
      | (go_at_call 61; (with_reducible refine (KL.out _ (HB0.out.trans HD3.out)).mono ?_); rintro e w3 ⟨rfl, hb3⟩)
      | (go_at_call 96; (with_reducible refine (KS.out _ ((HB0.out.trans HD3.out).trans hb3)).mono ?_); rintro e w4 ⟨rfl, hb4⟩))
  have HD4 : Hid (Bel (w.alloc (.cells #[.int .i64 3, .int .i64 i] 109)) w4) := Lib.hid ((HD3.out.trans hb3).trans hb4)
  clear c0 y0 y1 lQ2 hb3 hb4 KL KS HD3 HDn HD1
  have q1 := HA.out.bel (HB0.out.trans HD4.out)
  have lQ4 : Q < w4.heap.size := q1.ltQ
  obtain ⟨c0, y0, y1⟩ := HX.out _ HD4.out
  have d0 : w4.cell? ⟨Q, 17, none⟩ = some (.int .u64 (F 3 0)) := q1.cell rfl
  have d1 : w4.cell? ⟨Q, 17 + 1, none⟩ = some (.int .u64 (F 3 1)) := q1.cell rfl
  have d2 : w4.cell? ⟨Q, 17 + 2, none⟩ = some (.int .u64 (F 3 2)) := q1.cell rfl
  have d3 : w4.cell? ⟨Q, 17 + 3, none⟩ = some (.int .u64 (F 3 3)) := q1.cell rfl
  have HD5 : Hid (Bel w w4.drew) := Lib.hid (HB0.out.trans HD4.out).drew
  clear q1
  go_wp2
  go_region_with (go_at_call 103; (with_reducible refine (KX.out _).mono ?_); rintro e w5 ⟨rfl, hb5⟩; have HB5 := Lib.hid (HD5.out.trans (bm_bel hb5)); have q1 := HA.out.bel HB5.out; have lQ5 : Q < w5.heap.size := q1.ltQ; have e0 : w5.cell? ⟨Q, 17, none⟩ = some (.int .u64 (F 3 0)) := q1.cell rfl ; have e1 : w5.cell? ⟨Q, 17 + 1, none⟩ = some (.int .u64 (F 3 1)) := q1.cell rfl ; have e2 : w5.cell? ⟨Q, 17 + 2, none⟩ = some (.int .u64 (F 3 2)) := q1.cell rfl ; have e3 : w5.cell? ⟨Q, 17 + 3, none⟩ = some (.int .u64 (F 3 3)) := q1.cell rfl; have z0 := q1.froz (17) ; have z1 := q1.froz (17 + 1) ; have z2 := q1.froz (17 + 2) ; have z3 := q1.froz (17 + 3); have HQ5 := Lib.hid (HF4.out _ X (HB5.out.off _) q1); clear q1 hb5)
  all_goals
    go_wp2
    go_end0
    exact ⟨rfl, HQ5.out.1, HQ5.out.2⟩
end
end Go.Proofs.YtdoceldofkaapaaGreatDoor
