/-
  Contracts of tick.After and of the document's After.
-/
import Derived.Test.YtpehmmgdcjlfkaaSteps
import Derived.Deep.QuietTactic
import Derived.BigQuiet
import Derived.IntWalk
namespace Go.Proofs.Ytpehmmgdcjlfkaa
open Go.RowKit

/-- A number, but never if it is more than never. -/
def sat (x : Int) : Int := if x < 18446744073709551616 then x else 18446744073709551615
/-- Is it more than never? -/
def ovr (x : Int) : Bool := decide (18446744073709551616 ≤ x)
theorem sat_fit {x : Int} (h : x < 18446744073709551616) : sat x = x := by unfold sat; rw [if_pos h]
theorem sat_over {x : Int} (h : 18446744073709551616 ≤ x) : sat x = 18446744073709551615 := by unfold sat; rw [if_neg (by omega)]
theorem ovr_fit {x : Int} (h : x < 18446744073709551616) : ovr x = false := by unfold ovr; exact decide_eq_false (by omega)
theorem ovr_over {x : Int} (h : 18446744073709551616 ≤ x) : ovr x = true := by unfold ovr; exact decide_eq_true h
theorem sat_bd {x : Int} (h : 0 ≤ x) : 0 ≤ sat x ∧ sat x < 18446744073709551616 := by
  by_cases k : x < 18446744073709551616
  · rw [sat_fit k]; omega
  · rw [sat_over (by omega)]; omega
theorem add_any (t d : Int) (h1 : 0 ≤ t) (h2 : 0 ≤ d) (h3 : t < 18446744073709551616) (h4 : d < 18446744073709551616) (w : World) :
    Calls Try.prog 12 #[.int .u64 t, .int .u64 d] w fun e w' => e = .returned (.tuple #[.int .u64 (sat (t + d)), .bool (ovr (t + d))]) ∧ w = w' := by
  by_cases h : t + d < 18446744073709551616
  · rw [sat_fit h, ovr_fit h]; exact add_fit t d h1 h2 h w
  · rw [sat_over (by omega), ovr_over (by omega)]; exact add_over t d h1 h2 h3 h4 (by omega) w
theorem radd_any (t d : Int) (h1 : 0 ≤ t) (h2 : 0 ≤ d) (h3 : t < 18446744073709551616) (w : World) :
    Calls Try.prog 13 #[.int .u64 t, .int .u64 d] w fun e w' => e = .returned (.tuple #[.int .u64 (sat (t + d)), .bool (ovr (t + d))]) ∧ w = w' := by
  by_cases h : t + d < 18446744073709551616
  · rw [sat_fit h, ovr_fit h]; exact radd_fit t d h1 h2 h w
  · rw [sat_over (by omega), ovr_over (by omega)]; exact radd_over t d h1 h3 (by omega) w

/-! Rows. -/
theorem row_bd (a p : Int) (ha : 0 ≤ a) (hp : 1 ≤ p) : 0 ≤ a / p ∧ a / p ≤ a ∧ 0 ≤ a / p * p ∧ a / p * p ≤ a ∧ a < a / p * p + p := by
  have h1 := Int.emod_add_mul_ediv a p
  have h2 := Int.emod_nonneg a (show p ≠ 0 by omega)
  have h3 := Int.emod_lt_of_pos a (show 0 < p by omega)
  have h4 : 0 ≤ a / p := Int.ediv_nonneg ha (by omega)
  have h5 : a / p ≤ a := Int.ediv_le_self p ha
  have h6 : p * (a / p) = a / p * p := Int.mul_comm _ _
  have h7 : 0 ≤ a / p * p := Int.mul_nonneg h4 (by omega)
  omega
theorem row_rest (a p : Int) : a - a % p = a / p * p := by
  have h1 := Int.emod_add_mul_ediv a p
  have h6 : p * (a / p) = a / p * p := Int.mul_comm _ _
  omega
theorem row_div (a p : Int) (hp : 1 ≤ p) : (a - a % p) / p = a / p := by
  rw [row_rest, Int.mul_ediv_cancel _ (by omega)]

theorem after_zero (t n : Int) (w : World) :
    Calls Try.prog 24 #[.int .u64 t, .int .u64 0, .int .u64 n] w fun e w' => e = .returned (.tuple #[.int .u64 t, .int .u64 0]) ∧ w = w' := by
  go_enter Try.func24, Try.ntmps24
  go_wp2
  go_ret2
  exact ⟨rfl, rfl⟩
theorem rafter_zero (t n : Int) (w : World) :
    Calls Try.prog 25 #[.int .u64 t, .int .u64 0, .int .u64 n] w fun e w' => e = .returned (.tuple #[.int .u64 t, .int .u64 0]) ∧ w = w' := by
  go_enter Try.func25, Try.ntmps25
  go_wp2
  go_ret2
  exact ⟨rfl, rfl⟩
/-- tick.After where now is no less than at. -/
theorem after_due (t p n : Int) (h1 : 0 ≤ t) (h2 : t ≤ n) (h3 : n < 18446744073709551616) (h4 : 1 ≤ p) (h5 : p < 18446744073709551616) (w : World) :
    Calls Try.prog 24 #[.int .u64 t, .int .u64 p, .int .u64 n] w fun e w' => e = .returned (.tuple #[.int .u64 (sat (t + (n - t) / p * p + p)), .int .u64 ((n - t) / p)]) ∧ w = w' := by
  obtain ⟨b0, b1, b2, b3, b4⟩ := row_bd (n - t) p (by omega) h4
  go_enter Try.func24, Try.ntmps24
  go_wp2_with fail
  with_reducible refine (sub_fit n t h3 h1 h2 _).mono ?_
  rintro e w' ⟨rfl, rfl⟩
  go_wp2_with fail
  with_reducible refine (add_any (t + (n - t) / p * p) p (by omega) (by omega) (by omega) h5 _).mono ?_
  rintro e w' ⟨rfl, rfl⟩
  go_wp2
  go_ret2
  exact ⟨rfl, rfl⟩
/-- tick.After where at is more than now. -/
theorem after_ahead (t p n : Int) (h1 : t < 18446744073709551616) (h2 : n < t) (h3 : 0 ≤ n) (h4 : 1 ≤ p) (h5 : p < 18446744073709551616) (w : World) :
    Calls Try.prog 24 #[.int .u64 t, .int .u64 p, .int .u64 n] w fun e w' => e = .returned (.tuple #[.int .u64 (sat (t + p)), .int .u64 0]) ∧ w = w' := by
  go_enter Try.func24, Try.ntmps24
  go_wp2_with fail
  with_reducible refine (sub_low n t h3 h1 h2 _).mono ?_
  rintro e w' ⟨rfl, rfl⟩
  go_wp2_with fail
  with_reducible refine (add_any t p (by omega) (by omega) (by omega) h5 _).mono ?_
  rintro e w' ⟨rfl, rfl⟩
  go_wp2
  go_ret2
  exact ⟨rfl, rfl⟩
/-- The document's After where now is no less than at. -/
theorem rafter_due (t p n : Int) (h1 : 0 ≤ t) (h2 : t ≤ n) (h3 : n < 18446744073709551616) (h4 : 1 ≤ p) (h5 : p < 18446744073709551616) (w : World) :
    Calls Try.prog 25 #[.int .u64 t, .int .u64 p, .int .u64 n] w fun e w' => e = .returned (.tuple #[.int .u64 (sat (t + (n - t) / p * p + p)), .int .u64 ((n - t) / p)]) ∧ ∃ k, w' = w.drewN k := by
  obtain ⟨b0, b1, b2, b3, b4⟩ := row_bd (n - t) p (by omega) h4
  have e1 := row_rest (n - t) p
  have e2 := Lib.hid (row_div (n - t) p h4)
  obtain ⟨r, hr⟩ : ∃ r, (n - t) % p = r := ⟨_, rfl⟩
  rw [hr] at e1
  have r0 : 0 ≤ r := by omega
  have r1 : r ≤ n - t := by omega
  have e3 : Hid (t + (n - t) / p * p + p = n - r + p) := Lib.hid (by omega)
  have e4 : Hid ((n - t - r) / p = (n - t) / p) := Lib.hid (by rw [← hr]; exact e2.out)
  clear e1 e2 b0 b1 b2 b3 b4
  rw [e3.out, ← e4.out]
  go_enter Try.func25, Try.ntmps25
  go_wp2_with fail
  with_reducible refine (radd_any (n - r) p (by omega) (by omega) (by omega) _).mono ?_
  rintro e w' ⟨rfl, rfl⟩
  go_wp2
  go_quiet (fail)
  go_wp2
  go_ret2
  exact ⟨rfl, nq, rfl⟩
/-- The document's After where at is more than now. -/
theorem rafter_ahead (t p n : Int) (h1 : t < 18446744073709551616) (h2 : n < t) (h3 : 0 ≤ n) (h4 : 1 ≤ p) (w : World) :
    Calls Try.prog 25 #[.int .u64 t, .int .u64 p, .int .u64 n] w fun e w' => e = .returned (.tuple #[.int .u64 (sat (t + p)), .int .u64 0]) ∧ w = w' := by
  go_enter Try.func25, Try.ntmps25
  go_wp2_with fail
  with_reducible refine (radd_any t p (by omega) (by omega) (by omega) _).mono ?_
  rintro e w' ⟨rfl, rfl⟩
  go_wp2
  go_ret2
  exact ⟨rfl, rfl⟩
end Go.Proofs.Ytpehmmgdcjlfkaa
