/-
  The walks of TickBack and TickSums: whatever the two ticks, the law returns true and turns nothing that was there.
-/
import Derived.Test.YtpehmmgdcjlfkaaWorks
namespace Go.Proofs.Ytpehmmgdcjlfkaa
open Go.RowKit

theorem back_walk (t d : Int) (t0 : 0 ≤ t) (t1 : t < 18446744073709551616) (d0 : 0 ≤ d) (d1 : d < 18446744073709551616) (w : World) :
    Calls Try.prog 4 #[.int .u64 t, .int .u64 d] w fun e w' => e = .returned (.bool true) ∧ Grown w w' := by
  by_cases h : t + d < 18446744073709551616
  · have hs : d + t = t + d := Int.add_comm d t
    have k1 := Lib.hid (add_fit t d t0 d0 h)
    have k2 := add_fit d t d0 t0 (by omega)
    rw [hs] at k2
    have K2 := Lib.hid k2
    have k3 := sub_fit (t + d) t h t0 (by omega)
    have e3 : t + d - t = d := by omega
    rw [e3] at k3
    have K3 := Lib.hid k3
    have k4 := sub_fit (t + d) d h d0 (by omega)
    have e4 : t + d - d = t := by omega
    rw [e4] at k4
    have K4 := Lib.hid k4
    have K5 : Hid (∀ w, Calls Try.prog 14 #[.int .u64 t, .int .u64 (t + d)] w fun e w' => e = .returned (.int .u64 0) ∧ w = w') := Lib.hid (by
      intro w
      by_cases hd : 0 < d
      · exact sub_low t (t + d) t0 h (by omega) w
      · have := sub_fit t (t + d) t1 (by omega) (by omega) w
        have e5 : t - (t + d) = 0 := by omega
        rw [e5] at this
        exact this)
    have hge : t ≤ t + d := by omega
    clear hs e3 e4 k2 k3 k4
    go_enter Try.func4, Try.ntmps4
    go_wp2_with fail
    with_reducible refine (works_any _).mono ?_
    rintro e w1 ⟨rfl, hg⟩
    go_wp2_with fail
    with_reducible refine (k1.out _).mono ?_
    rintro e w' ⟨rfl, rfl⟩
    go_wp2_with fail
    with_reducible refine (K2.out _).mono ?_
    rintro e w' ⟨rfl, rfl⟩
    go_wp2_with fail
    with_reducible refine (K3.out _).mono ?_
    rintro e w' ⟨rfl, rfl⟩
    go_wp2_with fail
    with_reducible refine (K4.out _).mono ?_
    rintro e w' ⟨rfl, rfl⟩
    go_wp2_with fail
    with_reducible refine (K5.out _).mono ?_
    rintro e w' ⟨rfl, rfl⟩
    go_wp2
    go_ret
    exact ⟨rfl, hg.1⟩
  · have k1 := Lib.hid (add_over t d t0 d0 t1 d1 (by omega))
    have k2 := Lib.hid (add_over d t d0 t0 d1 t1 (by omega))
    have k3 := Lib.hid (sub_fit 18446744073709551615 t (by omega) t0 (by omega))
    have hlt : 18446744073709551615 - t < d := by omega
    clear h
    go_enter Try.func4, Try.ntmps4
    go_wp2_with fail
    with_reducible refine (works_any _).mono ?_
    rintro e w1 ⟨rfl, hg⟩
    go_wp2_with fail
    with_reducible refine (k1.out _).mono ?_
    rintro e w' ⟨rfl, rfl⟩
    go_wp2_with fail
    with_reducible refine (k2.out _).mono ?_
    rintro e w' ⟨rfl, rfl⟩
    go_wp2_with fail
    with_reducible refine (k3.out _).mono ?_
    rintro e w' ⟨rfl, rfl⟩
    go_wp2
    go_ret
    exact ⟨rfl, hg.1⟩

/-- A difference, no less than 0. -/
def dif (t d : Int) : Int := if d ≤ t then t - d else 0
theorem sub_any (t d : Int) (t0 : 0 ≤ t) (t1 : t < 18446744073709551616) (d0 : 0 ≤ d) (d1 : d < 18446744073709551616) (w : World) :
    Calls Try.prog 14 #[.int .u64 t, .int .u64 d] w fun e w' => e = .returned (.int .u64 (dif t d)) ∧ w = w' := by
  unfold dif
  split
  · exact sub_fit t d t1 d0 (by omega) w
  · exact sub_low t d t0 d1 (by omega) w
theorem rsub_any (t d : Int) (t1 : t < 18446744073709551616) (d0 : 0 ≤ d) (w : World) :
    Calls Try.prog 15 #[.int .u64 t, .int .u64 d] w fun e w' => e = .returned (.int .u64 (dif t d)) ∧ w = w' := by
  unfold dif
  split
  · exact rsub_fit t d t1 d0 (by omega) w
  · exact rsub_low t d (by omega) w
theorem sums_walk (t d : Int) (t0 : 0 ≤ t) (t1 : t < 18446744073709551616) (d0 : 0 ≤ d) (d1 : d < 18446744073709551616) (w : World) :
    Calls Try.prog 3 #[.int .u64 t, .int .u64 d] w fun e w' => e = .returned (.bool true) ∧ Grown w w' := by
  go_enter Try.func3, Try.ntmps3
  go_wp2_with fail
  with_reducible refine (works_any _).mono ?_
  rintro e w1 ⟨rfl, hg⟩
  go_wp2_with fail
  with_reducible refine (add_any t d t0 d0 t1 d1 _).mono ?_
  rintro e w' ⟨rfl, rfl⟩
  go_wp2_with fail
  with_reducible refine (radd_any t d t0 d0 t1 _).mono ?_
  rintro e w' ⟨rfl, rfl⟩
  go_wp2_with fail
  with_reducible refine (sub_any t d t0 t1 d0 d1 _).mono ?_
  rintro e w' ⟨rfl, rfl⟩
  go_wp2_with fail
  with_reducible refine (rsub_any t d t1 d0 _).mono ?_
  rintro e w' ⟨rfl, rfl⟩
  go_wp2
  go_ret
  exact ⟨rfl, hg.1⟩
end Go.Proofs.Ytpehmmgdcjlfkaa
