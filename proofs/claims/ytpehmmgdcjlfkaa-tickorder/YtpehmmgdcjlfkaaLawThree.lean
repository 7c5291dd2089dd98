/-
  The walk of TickOrder: whatever three timers it is given, the law returns true and turns nothing that was there.
-/
import Derived.Test.YtpehmmgdcjlfkaaLawOrder
namespace Go.Proofs.Ytpehmmgdcjlfkaa
open Go.RowKit
theorem held9 {w0 w w' : World} {N : Nat} {a1 s1 p1 a2 s2 p2 a3 s3 p3 : Int} (hg : Grew w w')
    (h : Grew w0 w ∧ w.cell? ⟨N, 0, none⟩ = some (.int .u64 a1) ∧ w.cell? ⟨N, 1, none⟩ = some (.int .u64 s1) ∧ w.cell? ⟨N, 2, none⟩ = some (.int .i64 p1) ∧
      w.cell? ⟨N + 1, 0, none⟩ = some (.int .u64 a2) ∧ w.cell? ⟨N + 1, 1, none⟩ = some (.int .u64 s2) ∧ w.cell? ⟨N + 1, 2, none⟩ = some (.int .i64 p2) ∧
      w.cell? ⟨N + 1 + 1, 0, none⟩ = some (.int .u64 a3) ∧ w.cell? ⟨N + 1 + 1, 1, none⟩ = some (.int .u64 s3) ∧ w.cell? ⟨N + 1 + 1, 2, none⟩ = some (.int .i64 p3)) :
    Grew w0 w' ∧ w'.cell? ⟨N, 0, none⟩ = some (.int .u64 a1) ∧ w'.cell? ⟨N, 1, none⟩ = some (.int .u64 s1) ∧ w'.cell? ⟨N, 2, none⟩ = some (.int .i64 p1) ∧
      w'.cell? ⟨N + 1, 0, none⟩ = some (.int .u64 a2) ∧ w'.cell? ⟨N + 1, 1, none⟩ = some (.int .u64 s2) ∧ w'.cell? ⟨N + 1, 2, none⟩ = some (.int .i64 p2) ∧
      w'.cell? ⟨N + 1 + 1, 0, none⟩ = some (.int .u64 a3) ∧ w'.cell? ⟨N + 1 + 1, 1, none⟩ = some (.int .u64 s3) ∧ w'.cell? ⟨N + 1 + 1, 2, none⟩ = some (.int .i64 p3) := by
  obtain ⟨h0, h1, h2, h3, h4, h5, h6, h7, h8, h9⟩ := h
  exact ⟨h0.trans hg, cell_later hg.2 h1, cell_later hg.2 h2, cell_later hg.2 h3, cell_later hg.2 h4, cell_later hg.2 h5, cell_later hg.2 h6, cell_later hg.2 h7, cell_later hg.2 h8, cell_later hg.2 h9⟩
theorem eql_no (a1 s1 p1 a2 s2 p2 : Int) (h : ¬ (a1 = a2 ∧ s1 = s2 ∧ p1 = p2)) (w : World) :
   (binOp .eql 33 (.agg #[.int .u64 a1, .int .u64 s1, .int .i64 p1]) (.agg #[.int .u64 a2, .int .u64 s2, .int .i64 p2])).run Try.prog w = .ok (.bool false) w := by
  by_cases ha : a1 = a2
  · subst ha
    by_cases hs : s1 = s2
    · subst hs
      have hp : p1 ≠ p2 := fun e => h ⟨rfl, rfl, e⟩
      simp [go_sem, hp]
    · simp [go_sem, hs]
  · simp [go_sem, ha]
set_option maxHeartbeats 2000000 in
theorem order_apart (a1 s1 p1 a2 s2 p2 a3 s3 p3 x y z : Int) (w : World)
    (K1 : Hid (∀ w, Calls Try.prog 20 #[.agg #[.int .u64 a1, .int .u64 s1, .int .i64 p1], .agg #[.int .u64 a2, .int .u64 s2, .int .i64 p2]] w fun e w' => e = .returned (.int .i64 x) ∧ Grew w w'))
    (K2 : Hid (∀ w, Calls Try.prog 20 #[.agg #[.int .u64 a2, .int .u64 s2, .int .i64 p2], .agg #[.int .u64 a3, .int .u64 s3, .int .i64 p3]] w fun e w' => e = .returned (.int .i64 y) ∧ Grew w w'))
    (K3 : Hid (∀ w, Calls Try.prog 20 #[.agg #[.int .u64 a1, .int .u64 s1, .int .i64 p1], .agg #[.int .u64 a3, .int .u64 s3, .int .i64 p3]] w fun e w' => e = .returned (.int .i64 z) ∧ Grew w w'))
    (R1 : Hid (∀ w, Calls Try.prog 21 #[.agg #[.int .u64 a1, .int .u64 s1, .int .i64 p1], .agg #[.int .u64 a2, .int .u64 s2, .int .i64 p2]] w fun e w' => e = .returned (.int .i64 x) ∧ Grew w w'))
    (R2 : Hid (∀ w, Calls Try.prog 21 #[.agg #[.int .u64 a2, .int .u64 s2, .int .i64 p2], .agg #[.int .u64 a3, .int .u64 s3, .int .i64 p3]] w fun e w' => e = .returned (.int .i64 y) ∧ Grew w w'))
    (R3 : Hid (∀ w, Calls Try.prog 21 #[.agg #[.int .u64 a1, .int .u64 s1, .int .i64 p1], .agg #[.int .u64 a3, .int .u64 s3, .int .i64 p3]] w fun e w' => e = .returned (.int .i64 z) ∧ Grew w w'))
    (K4 : Hid (∀ w, Calls Try.prog 20 #[.agg #[.int .u64 a2, .int .u64 s2, .int .i64 p2], .agg #[.int .u64 a1, .int .u64 s1, .int .i64 p1]] w fun e w' => e = .returned (.int .i64 (-x)) ∧ Grew w w'))
    (hx0 : -1 ≤ x) (hx1 : x ≤ 1) (hne : (x == 0) = false) (L : Hid (x ≠ 0 ∧ (x = -1 → y = 1 ∨ z = -1) ∧ (x = 1 → y = -1 ∨ z = 1)))
    (hE : ∀ w, (binOp .eql 33 (.agg #[.int .u64 a1, .int .u64 s1, .int .i64 p1]) (.agg #[.int .u64 a2, .int .u64 s2, .int .i64 p2])).run Try.prog w = .ok (.bool false) w) :
    Calls Try.prog 7 #[.agg #[.int .u64 a1, .int .u64 s1, .int .i64 p1], .agg #[.int .u64 a2, .int .u64 s2, .int .i64 p2], .agg #[.int .u64 a3, .int .u64 s3, .int .i64 p3]] w fun e w' => e = .returned (.bool true) ∧ Grown w w' := by
  go_enter Try.func7, Try.ntmps7
  go_wp2_with fail
  with_reducible refine (works_any _).mono ?_
  rintro e w1 ⟨rfl, hg⟩
  have hh := held9 (N := w.heap.size) (a1 := a1) (s1 := s1) (p1 := p1) (a2 := a2) (s2 := s2) (p2 := p2) (a3 := a3) (s3 := s3) (p3 := p3) hg ⟨(((Grew.refl w).alloc _ _).alloc _ _).alloc _ _, by simp [go_sem], by simp [go_sem], by simp [go_sem], by simp [go_sem], by simp [go_sem], by simp [go_sem], by simp [go_sem], by simp [go_sem], by simp [go_sem]⟩
  have HH := Lib.hid hh
  clear hh hg
  go_wp2_with fail
  go_region_held3 (fun w' => Grew w w' ∧ w'.cell? ⟨w.heap.size, 0, none⟩ = some (.int .u64 a1) ∧ w'.cell? ⟨w.heap.size, 1, none⟩ = some (.int .u64 s1) ∧ w'.cell? ⟨w.heap.size, 2, none⟩ = some (.int .i64 p1) ∧
      w'.cell? ⟨w.heap.size + 1, 0, none⟩ = some (.int .u64 a2) ∧ w'.cell? ⟨w.heap.size + 1, 1, none⟩ = some (.int .u64 s2) ∧ w'.cell? ⟨w.heap.size + 1, 2, none⟩ = some (.int .i64 p2) ∧
      w'.cell? ⟨w.heap.size + 1 + 1, 0, none⟩ = some (.int .u64 a3) ∧ w'.cell? ⟨w.heap.size + 1 + 1, 1, none⟩ = some (.int .u64 s3) ∧ w'.cell? ⟨w.heap.size + 1 + 1, 2, none⟩ = some (.int .i64 p3))
      (first | exact ⟨HH.out.1.drew, HH.out.2⟩ | exact held9 hg1 ‹_›)
    (first
      | (go_at_call 20; (with_reducible refine (K1.out _).mono ?_); rintro e w1 ⟨rfl, hg1⟩)
      | (go_at_call 20; (with_reducible refine (K2.out _).mono ?_); rintro e w1 ⟨rfl, hg1⟩)
      | (go_at_call 20; (with_reducible refine (K3.out _).mono ?_); rintro e w1 ⟨rfl, hg1⟩))
  rename_i hheld
  clear HH hg1
  have HH := Lib.hid hheld.1
  obtain ⟨_, c0, c1, c2, c3, c4, c5, c6, c7, c8⟩ := hheld
  go_wp2_with fail
  with_reducible refine (R1.out _).mono ?_
  rintro e w2 ⟨rfl, hg2⟩
  have d := held9 hg2 ⟨HH.out, c0, c1, c2, c3, c4, c5, c6, c7, c8⟩
  clear HH c0 c1 c2 c3 c4 c5 c6 c7 c8 hg2
  have HH := Lib.hid d.1
  obtain ⟨_, c0, c1, c2, c3, c4, c5, c6, c7, c8⟩ := d
  go_wp2_with fail
  with_reducible refine (R2.out _).mono ?_
  rintro e w3 ⟨rfl, hg2⟩
  have d := held9 hg2 ⟨HH.out, c0, c1, c2, c3, c4, c5, c6, c7, c8⟩
  clear HH c0 c1 c2 c3 c4 c5 c6 c7 c8 hg2
  have HH := Lib.hid d.1
  obtain ⟨_, c0, c1, c2, c3, c4, c5, c6, c7, c8⟩ := d
  go_wp2_with fail
  with_reducible refine (R3.out _).mono ?_
  rintro e w4 ⟨rfl, hg2⟩
  have d := held9 hg2 ⟨HH.out, c0, c1, c2, c3, c4, c5, c6, c7, c8⟩
  clear HH c0 c1 c2 c3 c4 c5 c6 c7 c8 hg2
  have HH := Lib.hid d.1
  obtain ⟨_, c0, c1, c2, c3, c4, c5, c6, c7, c8⟩ := d
  go_wp2_with fail
  with_reducible refine (K4.out _).mono ?_
  rintro e w5 ⟨rfl, hg2⟩
  have G := Lib.hid (HH.out.trans hg2)
  clear hg2 c0 c1 c2 c3 c4 c5 c6 c7 c8
  go_wp2
  all_goals first
    | (exfalso; have l := L.out; omega)
    | (go_ret; exact ⟨rfl, G.out.1⟩)
set_option maxHeartbeats 2000000 in
theorem order_same (a1 s1 p1 a3 s3 p3 y : Int) (w : World)
    (K1 : Hid (∀ w, Calls Try.prog 20 #[.agg #[.int .u64 a1, .int .u64 s1, .int .i64 p1], .agg #[.int .u64 a1, .int .u64 s1, .int .i64 p1]] w fun e w' => e = .returned (.int .i64 0) ∧ Grew w w'))
    (K2 : Hid (∀ w, Calls Try.prog 20 #[.agg #[.int .u64 a1, .int .u64 s1, .int .i64 p1], .agg #[.int .u64 a3, .int .u64 s3, .int .i64 p3]] w fun e w' => e = .returned (.int .i64 y) ∧ Grew w w'))
    (R1 : Hid (∀ w, Calls Try.prog 21 #[.agg #[.int .u64 a1, .int .u64 s1, .int .i64 p1], .agg #[.int .u64 a1, .int .u64 s1, .int .i64 p1]] w fun e w' => e = .returned (.int .i64 0) ∧ Grew w w'))
    (R2 : Hid (∀ w, Calls Try.prog 21 #[.agg #[.int .u64 a1, .int .u64 s1, .int .i64 p1], .agg #[.int .u64 a3, .int .u64 s3, .int .i64 p3]] w fun e w' => e = .returned (.int .i64 y) ∧ Grew w w')) :
    Calls Try.prog 7 #[.agg #[.int .u64 a1, .int .u64 s1, .int .i64 p1], .agg #[.int .u64 a1, .int .u64 s1, .int .i64 p1], .agg #[.int .u64 a3, .int .u64 s3, .int .i64 p3]] w fun e w' => e = .returned (.bool true) ∧ Grown w w' := by
  go_enter Try.func7, Try.ntmps7
  go_wp2_with fail
  with_reducible refine (works_any _).mono ?_
  rintro e w1 ⟨rfl, hg⟩
  have hh := held9 (N := w.heap.size) (a1 := a1) (s1 := s1) (p1 := p1) (a2 := a1) (s2 := s1) (p2 := p1) (a3 := a3) (s3 := s3) (p3 := p3) hg ⟨(((Grew.refl w).alloc _ _).alloc _ _).alloc _ _, by simp [go_sem], by simp [go_sem], by simp [go_sem], by simp [go_sem], by simp [go_sem], by simp [go_sem], by simp [go_sem], by simp [go_sem], by simp [go_sem]⟩
  have HH := Lib.hid hh
  clear hh hg
  go_wp2_with fail
  go_region_held3 (fun w' => Grew w w' ∧ w'.cell? ⟨w.heap.size, 0, none⟩ = some (.int .u64 a1) ∧ w'.cell? ⟨w.heap.size, 1, none⟩ = some (.int .u64 s1) ∧ w'.cell? ⟨w.heap.size, 2, none⟩ = some (.int .i64 p1) ∧
      w'.cell? ⟨w.heap.size + 1, 0, none⟩ = some (.int .u64 a1) ∧ w'.cell? ⟨w.heap.size + 1, 1, none⟩ = some (.int .u64 s1) ∧ w'.cell? ⟨w.heap.size + 1, 2, none⟩ = some (.int .i64 p1) ∧
      w'.cell? ⟨w.heap.size + 1 + 1, 0, none⟩ = some (.int .u64 a3) ∧ w'.cell? ⟨w.heap.size + 1 + 1, 1, none⟩ = some (.int .u64 s3) ∧ w'.cell? ⟨w.heap.size + 1 + 1, 2, none⟩ = some (.int .i64 p3))
      (first | exact ⟨HH.out.1.drew, HH.out.2⟩ | exact held9 hg1 ‹_›)
    (first
      | (go_at_call 20; (with_reducible refine (K1.out _).mono ?_); rintro e w1 ⟨rfl, hg1⟩)
      | (go_at_call 20; (with_reducible refine (K2.out _).mono ?_); rintro e w1 ⟨rfl, hg1⟩))
  rename_i hheld
  clear HH hg1
  have HH := Lib.hid hheld.1
  obtain ⟨_, c0, c1, c2, c3, c4, c5, c6, c7, c8⟩ := hheld
  go_wp2_with fail
  with_reducible refine (R1.out _).mono ?_
  rintro e w2 ⟨rfl, hg2⟩
  have d := held9 hg2 ⟨HH.out, c0, c1, c2, c3, c4, c5, c6, c7, c8⟩
  clear HH c0 c1 c2 c3 c4 c5 c6 c7 c8 hg2
  have HH := Lib.hid d.1
  obtain ⟨_, c0, c1, c2, c3, c4, c5, c6, c7, c8⟩ := d
  go_wp2_with fail
  with_reducible refine (R2.out _).mono ?_
  rintro e w3 ⟨rfl, hg2⟩
  have d := held9 hg2 ⟨HH.out, c0, c1, c2, c3, c4, c5, c6, c7, c8⟩
  clear HH c0 c1 c2 c3 c4 c5 c6 c7 c8 hg2
  have HH := Lib.hid d.1
  obtain ⟨_, c0, c1, c2, c3, c4, c5, c6, c7, c8⟩ := d
  go_wp2_with fail
  with_reducible refine (R2.out _).mono ?_
  rintro e w4 ⟨rfl, hg2⟩
  have d := held9 hg2 ⟨HH.out, c0, c1, c2, c3, c4, c5, c6, c7, c8⟩
  clear HH c0 c1 c2 c3 c4 c5 c6 c7 c8 hg2
  have HH := Lib.hid d.1
  obtain ⟨_, c0, c1, c2, c3, c4, c5, c6, c7, c8⟩ := d
  go_wp2_with fail
  with_reducible refine (K1.out _).mono ?_
  rintro e w5 ⟨rfl, hg2⟩
  have G := Lib.hid (HH.out.trans hg2)
  clear hg2 c0 c1 c2 c3 c4 c5 c6 c7 c8
  go_wp2
  go_ret
  exact ⟨rfl, G.out.1⟩
theorem order_walk (a1 s1 p1 a2 s2 p2 a3 s3 p3 : Int) (w : World) :
    Calls Try.prog 7 #[.agg #[.int .u64 a1, .int .u64 s1, .int .i64 p1], .agg #[.int .u64 a2, .int .u64 s2, .int .i64 p2], .agg #[.int .u64 a3, .int .u64 s3, .int .i64 p3]] w fun e w' => e = .returned (.bool true) ∧ Grown w w' := by
  have k1 := compare_any a1 s1 p1 a2 s2 p2
  have k4 := compare_any a2 s2 p2 a1 s1 p1
  have q := tcmp_cases a1 s1 p1 a2 s2 p2
  have q2 := tcmp_cases a2 s2 p2 a3 s3 p3
  have q3 := tcmp_cases a1 s1 p1 a3 s3 p3
  have q4 := tcmp_cases a2 s2 p2 a1 s1 p1
  by_cases hx : tcmp a1 s1 p1 a2 s2 p2 = 0
  · have hs : a1 = a2 ∧ s1 = s2 ∧ p1 = p2 := by omega
    obtain ⟨rfl, rfl, rfl⟩ := hs
    have r1 := rcompare_any a1 s1 p1 a1 s1 p1
    rw [hx] at k1 r1
    exact order_same a1 s1 p1 a3 s3 p3 _ w (Lib.hid k1) (Lib.hid (compare_any a1 s1 p1 a3 s3 p3)) (Lib.hid r1) (Lib.hid (rcompare_any a1 s1 p1 a3 s3 p3))
  · have e4 : tcmp a2 s2 p2 a1 s1 p1 = - tcmp a1 s1 p1 a2 s2 p2 := by omega
    rw [e4] at k4
    exact order_apart a1 s1 p1 a2 s2 p2 a3 s3 p3 _ _ _ w (Lib.hid k1) (Lib.hid (compare_any a2 s2 p2 a3 s3 p3)) (Lib.hid (compare_any a1 s1 p1 a3 s3 p3))
      (Lib.hid (rcompare_any a1 s1 p1 a2 s2 p2)) (Lib.hid (rcompare_any a2 s2 p2 a3 s3 p3)) (Lib.hid (rcompare_any a1 s1 p1 a3 s3 p3)) (Lib.hid k4)
      (by omega) (by omega) (by simpa using hx) (Lib.hid ⟨hx, by omega, by omega⟩) (eql_no a1 s1 p1 a2 s2 p2 (by omega))
end Go.Proofs.Ytpehmmgdcjlfkaa
