/-
  The walks of TickSteps and TickRounds: whatever the tick and the power, the law returns true and turns nothing that was there.
-/
import Derived.Test.YtpehmmgdcjlfkaaLawSums
namespace Go.Proofs.Ytpehmmgdcjlfkaa
open Go.RowKit

/-- The document's Floor, of every b. -/
theorem rfloor_any (t b : Int) (h1 : 0 ≤ t) (h2 : t < 18446744073709551616) (w : World) :
    Calls Try.prog 19 #[.int .u64 t, .int .i64 b] w fun e w' => e = .returned (.int .u64 (t - t % pw b)) ∧ w = w' := by
  by_cases h : b ≤ 63
  · exact rfloor_fit t b h1 h2 w h
  · have e : t - t % pw b = 0 := by
      rw [pw_big (by omega), Int.emod_eq_of_lt h1 h2]; omega
    rw [e]
    exact rfloor_over t b w (by omega)
/-- The document's Ceil of a multiple. -/
theorem rceil_own (t b : Int) (h1 : 0 ≤ t) (h2 : t < 18446744073709551616) (h : t % pw b = 0) (w : World) :
    Calls Try.prog 17 #[.int .u64 t, .int .i64 b] w fun e w' => e = .returned (.tuple #[.int .u64 t, .bool false]) ∧ w = w' := by
  have k := rfloor_any t b h1 h2
  rw [h, Int.sub_zero] at k
  have K := Lib.hid k
  clear k h
  go_enter Try.func17, Try.ntmps17
  go_wp2_with fail
  with_reducible refine (K.out _).mono ?_
  rintro e w' ⟨rfl, rfl⟩
  go_wp2
  go_ret2
  exact ⟨rfl, rfl⟩
/-- The document's Ceil where the next multiple is a tick. -/
theorem rceil_fit (t b : Int) (h1 : 0 ≤ t) (h2 : t < 18446744073709551616) (h : t % pw b ≠ 0) (h3 : t - t % pw b + pw b < 18446744073709551616) (w : World) :
    Calls Try.prog 17 #[.int .u64 t, .int .i64 b] w fun e w' => e = .returned (.tuple #[.int .u64 (t - t % pw b + pw b), .bool false]) ∧ w = w' := by
  have k := rfloor_any t b h1 h2
  have m0 := mod_pw t b
  have m1 := mod_le t b h1
  have m2 := pw_pos b
  have hb : b ≤ 63 := by
    by_cases hb : b ≤ 63
    · exact hb
    · have := pw_big (b := b) (by omega); omega
  obtain ⟨f, hf⟩ : ∃ f, t - t % pw b = f := ⟨_, rfl⟩
  rw [hf] at k h3 ⊢
  have K := Lib.hid k
  have ht : (f == t) = false := by simp; omega
  have f0 : 0 ≤ f := by omega
  have g : ¬ 18446744073709551615 - f < pw b := by omega
  have h64 : b ≤ 64 := by omega
  clear k m0 m1 h hf
  go_enter Try.func17, Try.ntmps17
  go_wp2_with fail
  with_reducible refine (K.out _).mono ?_
  rintro e w' ⟨rfl, rfl⟩
  go_wp2_with fail
  with_reducible refine (power_fit b hb _).mono ?_
  rintro e w' ⟨rfl, rfl⟩
  go_wp2
  go_ret2
  exact ⟨rfl, rfl⟩
/-- The document's Ceil where the next multiple is more than never. -/
theorem rceil_over (t b : Int) (h1 : 0 ≤ t) (h2 : t < 18446744073709551616) (h : t % pw b ≠ 0) (h3 : 18446744073709551616 ≤ t - t % pw b + pw b) (w : World) :
    Calls Try.prog 17 #[.int .u64 t, .int .i64 b] w fun e w' => e = .returned (.tuple #[.int .u64 18446744073709551615, .bool true]) ∧ w = w' := by
  have k := rfloor_any t b h1 h2
  have m0 := mod_pw t b
  have m1 := mod_le t b h1
  have m2 := pw_pos b
  obtain ⟨f, hf⟩ : ∃ f, t - t % pw b = f := ⟨_, rfl⟩
  rw [hf] at k h3
  have K := Lib.hid k
  have ht : (f == t) = false := by simp; omega
  have f0 : 0 ≤ f := by omega
  have f1 : f < 18446744073709551616 := by omega
  have g : 18446744073709551615 - f < pw b := by omega
  clear k m0 m1 h hf
  by_cases hb : b ≤ 63
  · have h64 : b ≤ 64 := by omega
    go_enter Try.func17, Try.ntmps17
    go_wp2_with fail
    with_reducible refine (K.out _).mono ?_
    rintro e w' ⟨rfl, rfl⟩
    go_wp2_with fail
    with_reducible refine (power_fit b hb _).mono ?_
    rintro e w' ⟨rfl, rfl⟩
    go_wp2
    go_ret2
    exact ⟨rfl, rfl⟩
  · clear g h3 m2
    by_cases h64 : b ≤ 64
    · obtain rfl : b = 64 := by omega
      clear h64 hb
      go_enter Try.func17, Try.ntmps17
      go_wp2_with fail
      with_reducible refine (K.out _).mono ?_
      rintro e w' ⟨rfl, rfl⟩
      go_wp2_with fail
      with_reducible refine (power_over _).mono ?_
      rintro e w' ⟨rfl, rfl⟩
      go_wp2
      go_ret2
      exact ⟨rfl, rfl⟩
    · clear hb
      go_enter Try.func17, Try.ntmps17
      go_wp2_with fail
      with_reducible refine (K.out _).mono ?_
      rintro e w' ⟨rfl, rfl⟩
      go_wp2_with fail
      with_reducible refine (power_over _).mono ?_
      rintro e w' ⟨rfl, rfl⟩
      go_wp2
      go_ret2
      exact ⟨rfl, rfl⟩
/-- The next multiple, and whether it is more than never. -/
def cel (t b : Int) : Int := if t % pw b = 0 then t else sat (t - t % pw b + pw b)
def far (t b : Int) : Bool := if t % pw b = 0 then false else ovr (t - t % pw b + pw b)
theorem ceil_any (t b : Int) (h1 : 0 ≤ t) (h2 : t < 18446744073709551616) (w : World) :
    Calls Try.prog 16 #[.int .u64 t, .int .i64 b] w fun e w' => e = .returned (.tuple #[.int .u64 (cel t b), .bool (far t b)]) ∧ w = w' := by
  unfold cel far
  by_cases h : t % pw b = 0
  · rw [if_pos h, if_pos h]; exact ceil_own t b h1 h2 h w
  · rw [if_neg h, if_neg h]
    by_cases h3 : t - t % pw b + pw b < 18446744073709551616
    · rw [sat_fit h3, ovr_fit h3]; exact ceil_fit t b h1 h2 h h3 w
    · rw [sat_over (by omega), ovr_over (by omega)]; exact ceil_over t b h1 h2 h (by omega) w
theorem rceil_any (t b : Int) (h1 : 0 ≤ t) (h2 : t < 18446744073709551616) (w : World) :
    Calls Try.prog 17 #[.int .u64 t, .int .i64 b] w fun e w' => e = .returned (.tuple #[.int .u64 (cel t b), .bool (far t b)]) ∧ w = w' := by
  unfold cel far
  by_cases h : t % pw b = 0
  · rw [if_pos h, if_pos h]; exact rceil_own t b h1 h2 h w
  · rw [if_neg h, if_neg h]
    by_cases h3 : t - t % pw b + pw b < 18446744073709551616
    · rw [sat_fit h3, ovr_fit h3]; exact rceil_fit t b h1 h2 h h3 w
    · rw [sat_over (by omega), ovr_over (by omega)]; exact rceil_over t b h1 h2 h (by omega) w
theorem steps_walk (t b : Int) (t0 : 0 ≤ t) (t1 : t < 18446744073709551616) (w : World) :
    Calls Try.prog 5 #[.int .u64 t, .int .i64 b] w fun e w' => e = .returned (.bool true) ∧ Grown w w' := by
  go_enter Try.func5, Try.ntmps5
  go_wp2_with fail
  with_reducible refine (works_any _).mono ?_
  rintro e w1 ⟨rfl, hg⟩
  go_wp2_with fail
  with_reducible refine (ceil_any t b t0 t1 _).mono ?_
  rintro e w' ⟨rfl, rfl⟩
  go_wp2_with fail
  with_reducible refine (rceil_any t b t0 t1 _).mono ?_
  rintro e w' ⟨rfl, rfl⟩
  go_wp2_with fail
  with_reducible refine (floor_any t b t0 t1 _).mono ?_
  rintro e w' ⟨rfl, rfl⟩
  go_wp2_with fail
  with_reducible refine (rfloor_any t b t0 t1 _).mono ?_
  rintro e w' ⟨rfl, rfl⟩
  go_wp2
  go_ret
  exact ⟨rfl, hg.1⟩
end Go.Proofs.Ytpehmmgdcjlfkaa
