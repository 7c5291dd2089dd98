/-
  The walk of TickRounds: whatever the tick and the power, the law returns true and turns nothing that was there.
-/
import Derived.Test.YtpehmmgdcjlfkaaLawSteps
namespace Go.Proofs.Ytpehmmgdcjlfkaa
open Go.RowKit

theorem rounds_own (t b : Int) (t0 : 0 ≤ t) (t1 : t < 18446744073709551616) (h : t % pw b = 0) (w : World) :
    Calls Try.prog 6 #[.int .u64 t, .int .i64 b] w fun e w' => e = .returned (.bool true) ∧ Grown w w' := by
  have k := floor_any t b t0 t1
  rw [h, Int.sub_zero] at k
  have KF := Lib.hid k
  have KC := Lib.hid (ceil_own t b t0 t1 h)
  clear k h
  go_enter Try.func6, Try.ntmps6
  go_wp2_with fail
  with_reducible refine (works_any _).mono ?_
  rintro e w1 ⟨rfl, hg⟩
  go_wp2_with fail
  with_reducible refine (KF.out _).mono ?_
  rintro e w' ⟨rfl, rfl⟩
  go_wp2_with fail
  with_reducible refine (KC.out _).mono ?_
  rintro e w' ⟨rfl, rfl⟩
  go_wp2_with fail
  with_reducible refine (KC.out _).mono ?_
  rintro e w' ⟨rfl, rfl⟩
  go_wp2_with fail
  with_reducible refine (KF.out _).mono ?_
  rintro e w' ⟨rfl, rfl⟩
  go_wp2
  go_ret
  exact ⟨rfl, hg.1⟩
theorem rounds_over (t b : Int) (t0 : 0 ≤ t) (t1 : t < 18446744073709551616) (h : t % pw b ≠ 0) (h3 : 18446744073709551616 ≤ t - t % pw b + pw b) (w : World) :
    Calls Try.prog 6 #[.int .u64 t, .int .i64 b] w fun e w' => e = .returned (.bool true) ∧ Grown w w' := by
  have k := floor_any t b t0 t1
  have m0 := mod_pw t b
  have m1 := mod_le t b t0
  have fm := floor_mod t b
  have KC := Lib.hid (ceil_over t b t0 t1 h h3)
  obtain ⟨f, hf⟩ : ∃ f, t - t % pw b = f := ⟨_, rfl⟩
  rw [hf] at k fm
  have KF := Lib.hid k
  have f0 : 0 ≤ f := by omega
  have f1 : f < t := by omega
  have f2 : ¬ t < f := by omega
  have f3 : (f == t) = false := by simp; omega
  have f4 : (f != t) = true := by simp; omega
  have c0 : ¬ (18446744073709551615 : Int) < t := by omega
  have kf := floor_any f b f0 (by omega)
  rw [fm, Int.sub_zero] at kf
  have KFF := Lib.hid kf
  have KG := Lib.hid (ceil_own f b f0 (by omega) fm)
  clear k kf fm h h3 m0 m1 hf
  go_enter Try.func6, Try.ntmps6
  go_wp2_with fail
  with_reducible refine (works_any _).mono ?_
  rintro e w1 ⟨rfl, hg⟩
  go_wp2_with fail
  with_reducible refine (KF.out _).mono ?_
  rintro e w' ⟨rfl, rfl⟩
  go_wp2_with fail
  with_reducible refine (KC.out _).mono ?_
  rintro e w' ⟨rfl, rfl⟩
  go_wp2_with fail
  with_reducible refine (KG.out _).mono ?_
  rintro e w' ⟨rfl, rfl⟩
  go_wp2_with fail
  with_reducible refine (KFF.out _).mono ?_
  rintro e w' ⟨rfl, rfl⟩
  go_wp2
  go_ret
  exact ⟨rfl, hg.1⟩
theorem shl_pw (b : Int) (h : b < 64) : IntKind.u64.wrap (2 ^ b.toNat) = pw b := by
  have h1 := pw_pos b
  have h2 := pw_small h
  have e0 : min b.toNat 64 = b.toNat := by omega
  have e : (2 : Int) ^ b.toNat = pw b := by rw [pw_nat, e0]; simp
  rw [e, IntKind.wrap_u64]
  omega
theorem rounds_fit (t b : Int) (t0 : 0 ≤ t) (t1 : t < 18446744073709551616) (h : t % pw b ≠ 0) (h3 : t - t % pw b + pw b < 18446744073709551616) (w : World) :
    Calls Try.prog 6 #[.int .u64 t, .int .i64 b] w fun e w' => e = .returned (.bool true) ∧ Grown w w' := by
  have k := floor_any t b t0 t1
  have m0 := mod_pw t b
  have m1 := mod_le t b t0
  have m2 := pw_pos b
  have fm := floor_mod t b
  have cm := ceil_mod t b
  have cp := ceil_pred t b
  have kc := ceil_fit t b t0 t1 h h3
  have b0 : 0 < b := by
    by_cases hb : 0 < b
    · exact hb
    · have := pw_neg (b := b) (by omega); omega
  have b1 : b < 64 := by
    by_cases hb : b < 64
    · exact hb
    · have := pw_big (b := b) (by omega); omega
  have sh := shl_pw b b1
  obtain ⟨f, hf⟩ : ∃ f, t - t % pw b = f := ⟨_, rfl⟩
  rw [hf] at k fm cm cp kc h3
  have KF := Lib.hid k
  have KC := Lib.hid kc
  have f0 : 0 ≤ f := by omega
  have f1 : f < t := by omega
  have f2 : ¬ t < f := by omega
  have f3 : (f == t) = false := by simp; omega
  have kf := floor_any f b f0 (by omega)
  rw [fm, Int.sub_zero] at kf
  have KFF := Lib.hid kf
  have KG := Lib.hid (ceil_own f b f0 (by omega) fm)
  have c0 : ¬ f + pw b < t := by omega
  have kcf := floor_any (f + pw b) b (by omega) h3
  rw [cm, Int.sub_zero] at kcf
  have KCF := Lib.hid kcf
  have kcp := floor_any (f + pw b - 1) b (by omega) (by omega)
  have e1 : f + pw b - 1 - (f + pw b - 1) % pw b = f := by rw [cp]; omega
  rw [e1] at kcp
  have KCP := Lib.hid kcp
  have e2 : f + pw b - f = pw b := by omega
  clear k kf fm h m0 m1 hf kc cm cp kcf kcp e1
  go_enter Try.func6, Try.ntmps6
  go_wp2_with fail
  with_reducible refine (works_any _).mono ?_
  rintro e w1 ⟨rfl, hg⟩
  go_wp2_with fail
  with_reducible refine (KF.out _).mono ?_
  rintro e w' ⟨rfl, rfl⟩
  go_wp2_with fail
  with_reducible refine (KC.out _).mono ?_
  rintro e w' ⟨rfl, rfl⟩
  go_wp2_with fail
  with_reducible refine (KG.out _).mono ?_
  rintro e w' ⟨rfl, rfl⟩
  go_wp2_with fail
  with_reducible refine (KFF.out _).mono ?_
  rintro e w' ⟨rfl, rfl⟩
  go_wp2_with fail
  with_reducible refine (KCF.out _).mono ?_
  rintro e w' ⟨rfl, rfl⟩
  go_wp2_with fail
  with_reducible refine (KCP.out _).mono ?_
  rintro e w' ⟨rfl, rfl⟩
  go_wp2
  go_ret
  exact ⟨rfl, hg.1⟩
theorem rounds_walk (t b : Int) (t0 : 0 ≤ t) (t1 : t < 18446744073709551616) (w : World) :
    Calls Try.prog 6 #[.int .u64 t, .int .i64 b] w fun e w' => e = .returned (.bool true) ∧ Grown w w' := by
  by_cases h : t % pw b = 0
  · exact rounds_own t b t0 t1 h w
  · by_cases h3 : t - t % pw b + pw b < 18446744073709551616
    · exact rounds_fit t b t0 t1 h h3 w
    · exact rounds_over t b t0 t1 h (by omega) w
end Go.Proofs.Ytpehmmgdcjlfkaa
