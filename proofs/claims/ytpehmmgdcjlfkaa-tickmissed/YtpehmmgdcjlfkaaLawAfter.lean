/-
  The walks of TickAfter and TickMissed: whatever the row and the tick, the law returns true and turns nothing that was there.
-/
import Derived.Test.YtpehmmgdcjlfkaaLawSums
namespace Go.Proofs.Ytpehmmgdcjlfkaa
open Go.RowKit

theorem after_walk (t p n : Int) (t0 : 0 ≤ t) (t1 : t < 18446744073709551616) (p0 : 0 ≤ p) (p1 : p < 18446744073709551616) (n0 : 0 ≤ n) (n1 : n < 18446744073709551616) (w : World) :
    Calls Try.prog 9 #[.int .u64 t, .int .u64 p, .int .u64 n] w fun e w' => e = .returned (.bool true) ∧ Grown w w' := by
  by_cases hp : p = 0
  · subst hp
    go_enter Try.func9, Try.ntmps9
    go_wp2_with fail
    with_reducible refine (works_any _).mono ?_
    rintro e w1 ⟨rfl, hg⟩
    go_wp2_with fail
    with_reducible refine (after_zero t n _).mono ?_
    rintro e w' ⟨rfl, rfl⟩
    go_wp2_with fail
    with_reducible refine (rafter_zero t n _).mono ?_
    rintro e w' ⟨rfl, rfl⟩
    go_wp2
    go_ret
    exact ⟨rfl, hg.1⟩
  · have p2 : 1 ≤ p := by omega
    clear hp p0
    by_cases h : t ≤ n
    · have K1 := Lib.hid (after_due t p n t0 h n1 p2 p1)
      have K2 := Lib.hid (rafter_due t p n t0 h n1 p2 p1)
      go_enter Try.func9, Try.ntmps9
      go_wp2_with fail
      with_reducible refine (works_any _).mono ?_
      rintro e w1 ⟨rfl, hg⟩
      go_wp2_with fail
      with_reducible refine (K1.out _).mono ?_
      rintro e w' ⟨rfl, rfl⟩
      go_wp2_with fail
      with_reducible refine (K2.out _).mono ?_
      rintro e w' ⟨rfl, m, rfl⟩
      go_wp2
      go_ret
      exact ⟨rfl, (hg.drewN m).1⟩
    · have K1 := Lib.hid (after_ahead t p n t1 (by omega) n0 p2 p1)
      have K2 := Lib.hid (rafter_ahead t p n t1 (by omega) n0 p2)
      go_enter Try.func9, Try.ntmps9
      go_wp2_with fail
      with_reducible refine (works_any _).mono ?_
      rintro e w1 ⟨rfl, hg⟩
      go_wp2_with fail
      with_reducible refine (K1.out _).mono ?_
      rintro e w' ⟨rfl, rfl⟩
      go_wp2_with fail
      with_reducible refine (K2.out _).mono ?_
      rintro e w' ⟨rfl, rfl⟩
      go_wp2
      go_ret
      exact ⟨rfl, hg.1⟩

theorem missed_zero (t n : Int) (w : World) :
    Calls Try.prog 10 #[.int .u64 t, .int .u64 0, .int .u64 n] w fun e w' => e = .returned (.bool true) ∧ Grown w w' := by
  go_enter Try.func10, Try.ntmps10
  go_wp2_with fail
  with_reducible refine (works_any _).mono ?_
  rintro e w1 ⟨rfl, hg⟩
  go_wp2_with fail
  with_reducible refine (after_zero t n _).mono ?_
  rintro e w' ⟨rfl, rfl⟩
  go_wp2
  go_ret
  exact ⟨rfl, hg.1⟩
theorem missed_ahead (t p n : Int) (t0 : 0 ≤ t) (t1 : t < 18446744073709551616) (p0 : 1 ≤ p) (p1 : p < 18446744073709551616) (n0 : 0 ≤ n) (h : n < t) (w : World) :
    Calls Try.prog 10 #[.int .u64 t, .int .u64 p, .int .u64 n] w fun e w' => e = .returned (.bool true) ∧ Grown w w' := by
  have k1 := after_ahead t p n t1 h n0 p0 p1
  have k2 := add_any t p t0 (by omega) t1 p1
  have hx : n < sat (t + p) := by
    by_cases hx : t + p < 18446744073709551616
    · rw [sat_fit hx]; omega
    · rw [sat_over (by omega)]; omega
  obtain ⟨X, hX⟩ : ∃ X, sat (t + p) = X := ⟨_, rfl⟩
  rw [hX] at k1 k2 hx
  have K1 := Lib.hid k1
  have K2 := Lib.hid k2
  have hq : (p == 0) = false := by simp; omega
  have hx' : ¬ X ≤ n := by omega
  clear k1 k2 hX
  go_enter Try.func10, Try.ntmps10
  go_wp2_with fail
  with_reducible refine (works_any _).mono ?_
  rintro e w1 ⟨rfl, hg⟩
  go_wp2_with fail
  with_reducible refine (K1.out _).mono ?_
  rintro e w' ⟨rfl, rfl⟩
  go_wp2_with fail
  with_reducible refine (K2.out _).mono ?_
  rintro e w' ⟨rfl, rfl⟩
  go_wp2
  go_ret
  exact ⟨rfl, hg.1⟩
theorem missed_never (t p n : Int) (t0 : 0 ≤ t) (p0 : 1 ≤ p) (p1 : p < 18446744073709551616) (n1 : n < 18446744073709551616) (h : t ≤ n) (hx : sat (t + (n - t) / p * p + p) ≤ n) (w : World) :
    Calls Try.prog 10 #[.int .u64 t, .int .u64 p, .int .u64 n] w fun e w' => e = .returned (.bool true) ∧ Grown w w' := by
  have k1 := after_due t p n t0 h n1 p0 p1
  obtain ⟨b0, b1, b2, b3, b4⟩ := row_bd (n - t) p (by omega) p0
  have hX : sat (t + (n - t) / p * p + p) = 18446744073709551615 := by
    by_cases hx' : t + (n - t) / p * p + p < 18446744073709551616
    · rw [sat_fit hx'] at hx; omega
    · exact sat_over (by omega)
  rw [hX] at k1 hx
  obtain ⟨q, hq'⟩ : ∃ q, (n - t) / p = q := ⟨_, rfl⟩
  rw [hq'] at k1
  have K1 := Lib.hid k1
  have hq : (p == 0) = false := by simp; omega
  clear k1 hX b0 b1 b2 b3 b4 hq'
  go_enter Try.func10, Try.ntmps10
  go_wp2_with fail
  with_reducible refine (works_any _).mono ?_
  rintro e w1 ⟨rfl, hg⟩
  go_wp2_with fail
  with_reducible refine (K1.out _).mono ?_
  rintro e w' ⟨rfl, rfl⟩
  go_wp2
  go_ret
  exact ⟨rfl, hg.1⟩
theorem missed_due (t p n : Int) (t0 : 0 ≤ t) (p0 : 1 ≤ p) (p1 : p < 18446744073709551616) (n1 : n < 18446744073709551616) (h : t ≤ n) (hx : ¬ sat (t + (n - t) / p * p + p) ≤ n) (w : World) :
    Calls Try.prog 10 #[.int .u64 t, .int .u64 p, .int .u64 n] w fun e w' => e = .returned (.bool true) ∧ Grown w w' := by
  have k1 := after_due t p n t0 h n1 p0 p1
  obtain ⟨b0, b1, b2, b3, b4⟩ := row_bd (n - t) p (by omega) p0
  have k2 := add_any (t + (n - t) / p * p) p (by omega) (by omega) (by omega) p1
  obtain ⟨X, hX⟩ : ∃ X, sat (t + (n - t) / p * p + p) = X := ⟨_, rfl⟩
  rw [hX] at k1 k2 hx
  have K1 := Lib.hid k1
  have K2 := Lib.hid k2
  have hq : (p == 0) = false := by simp; omega
  have c1 : ¬ p ≤ n - t - (n - t) / p * p := by omega
  have ht : ¬ n < t := by omega
  clear k1 k2 hX
  go_enter Try.func10, Try.ntmps10
  go_wp2_with fail
  with_reducible refine (works_any _).mono ?_
  rintro e w1 ⟨rfl, hg⟩
  go_wp2_with fail
  with_reducible refine (K1.out _).mono ?_
  rintro e w' ⟨rfl, rfl⟩
  go_wp2_with fail
  with_reducible refine (K2.out _).mono ?_
  rintro e w' ⟨rfl, rfl⟩
  go_wp2
  go_ret
  exact ⟨rfl, hg.1⟩
theorem missed_walk (t p n : Int) (t0 : 0 ≤ t) (t1 : t < 18446744073709551616) (p0 : 0 ≤ p) (p1 : p < 18446744073709551616) (n0 : 0 ≤ n) (n1 : n < 18446744073709551616) (w : World) :
    Calls Try.prog 10 #[.int .u64 t, .int .u64 p, .int .u64 n] w fun e w' => e = .returned (.bool true) ∧ Grown w w' := by
  by_cases hp : p = 0
  · subst hp; exact missed_zero t n w
  · by_cases h : t ≤ n
    · by_cases hx : sat (t + (n - t) / p * p + p) ≤ n
      · exact missed_never t p n t0 (by omega) p1 n1 h hx w
      · exact missed_due t p n t0 (by omega) p1 n1 h hx w
    · exact missed_ahead t p n t0 t1 (by omega) p1 n0 (by omega) w
end Go.Proofs.Ytpehmmgdcjlfkaa
