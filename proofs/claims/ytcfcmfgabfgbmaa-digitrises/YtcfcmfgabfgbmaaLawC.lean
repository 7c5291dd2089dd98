/-
  The walks of DigitRises and DigitLater: whatever they are given, they return true and turn nothing that was there.
-/
import Derived.Test.YtcfcmfgabfgbmaaWorks
import Derived.Test.YtcfcmfgabfgbmaaLawA
namespace Go.Proofs.Ytcfcmfgabfgbmaa
open Go.RowKit

theorem rises_not (b a d z : Int) (h : d < a) (w : World) :
    Calls Try.prog 7 #[.int .u64 b, .int .u64 a, .int .u64 d, .int .i64 z] w fun e w' => e = .returned (.bool true) ∧ Grew w w' := by
  go_enter Try.func7, Try.ntmps7
  go_wp2_with fail
  with_reducible refine (works_any _).mono ?_
  rintro e w1 ⟨rfl, g1⟩
  go_wp2
  go_ret
  exact ⟨rfl, g1⟩
theorem rises_less (b a d z : Int) (b0 : 0 ≤ b) (b1 : b < 18446744073709551616) (a0 : 0 ≤ a) (a1 : a < 18446744073709551616) (d0 : 0 ≤ d) (d1 : d < 18446744073709551616) (c : Nat) (hc : wi z 1 6 = c) (h : a ≤ d) (hl : lv c b a < lv c b d) (w : World) :
    Calls Try.prog 7 #[.int .u64 b, .int .u64 a, .int .u64 d, .int .i64 z] w fun e w' => e = .returned (.bool true) ∧ Grew w w' := by
  have K1 := Lib.hid (dLevel b a z b0 b1 a0 a1 c hc)
  have K2 := Lib.hid (dLevel b d z b0 b1 d0 d1 c hc)
  have h' : ¬ d < a := by omega
  clear hc b0 b1 a0 a1 d0 d1 h
  generalize lv c b a = v at *
  generalize lv c b d = u at *
  go_enter Try.func7, Try.ntmps7
  go_wp2_with fail
  with_reducible refine (works_any _).mono ?_
  rintro e w1 ⟨rfl, g1⟩
  go_wp2_with fail
  with_reducible refine (K1.out _).mono ?_
  rintro e w2 ⟨rfl, g2⟩
  go_wp2_with fail
  with_reducible refine (K2.out _).mono ?_
  rintro e w3 ⟨rfl, g3⟩
  go_wp2
  go_ret
  exact ⟨rfl, (g1.trans g2).trans g3⟩
theorem rises_same (b a d z : Int) (b0 : 0 ≤ b) (b1 : b < 18446744073709551616) (a0 : 0 ≤ a) (a1 : a < 18446744073709551616) (d0 : 0 ≤ d) (d1 : d < 18446744073709551616) (c : Nat) (hc : wi z 1 6 = c) (h : a ≤ d) (hl : lv c b a = lv c b d) (w : World) :
    Calls Try.prog 7 #[.int .u64 b, .int .u64 a, .int .u64 d, .int .i64 z] w fun e w' => e = .returned (.bool true) ∧ Grew w w' := by
  have K1 := Lib.hid (dLevel b a z b0 b1 a0 a1 c hc)
  have K := dLevel b d z b0 b1 d0 d1 c hc
  have K3 := Lib.hid (dSlot b a z b0 b1 a0 a1 c hc)
  have K4 := Lib.hid (dSlot b d z b0 b1 d0 d1 c hc)
  have hs := sv_rises c b a d h hl
  have h' : ¬ d < a := by omega
  rw [← hl] at K
  have K2 := Lib.hid K
  clear hc b0 b1 a0 a1 d0 d1 K hl h
  generalize lv c b a = v at *
  generalize sv c b a = s at *
  generalize sv c b d = u at *
  go_enter Try.func7, Try.ntmps7
  go_wp2_with fail
  with_reducible refine (works_any _).mono ?_
  rintro e w1 ⟨rfl, g1⟩
  go_wp2_with fail
  with_reducible refine (K1.out _).mono ?_
  rintro e w2 ⟨rfl, g2⟩
  go_wp2_with fail
  with_reducible refine (K2.out _).mono ?_
  rintro e w3 ⟨rfl, g3⟩
  go_wp2_with fail
  with_reducible refine (K3.out _).mono ?_
  rintro e w4 ⟨rfl, g4⟩
  go_wp2_with fail
  with_reducible refine (K4.out _).mono ?_
  rintro e w5 ⟨rfl, g5⟩
  go_wp2
  go_ret
  exact ⟨rfl, (((g1.trans g2).trans g3).trans g4).trans g5⟩
theorem rises_walk (b a d z : Int) (b0 : 0 ≤ b) (b1 : b < 18446744073709551616) (a0 : 0 ≤ a) (a1 : a < 18446744073709551616) (d0 : 0 ≤ d) (d1 : d < 18446744073709551616) (w : World) :
    Calls Try.prog 7 #[.int .u64 b, .int .u64 a, .int .u64 d, .int .i64 z] w fun e w' => e = .returned (.bool true) ∧ Grew w w' := by
  obtain ⟨c, hc, c1⟩ := bits_ex z
  by_cases h : d < a
  · exact rises_not b a d z h w
  · have hr := lv_rises c b a d (by omega)
    by_cases hl : lv c b a = lv c b d
    · exact rises_same b a d z b0 b1 a0 a1 d0 d1 c hc (by omega) hl w
    · exact rises_less b a d z b0 b1 a0 a1 d0 d1 c hc (by omega) (by omega) w
theorem later_not (b d a z : Int) (h : d < b) (w : World) :
    Calls Try.prog 8 #[.int .u64 b, .int .u64 d, .int .u64 a, .int .i64 z] w fun e w' => e = .returned (.bool true) ∧ Grew w w' := by
  go_enter Try.func8, Try.ntmps8
  go_wp2_with fail
  with_reducible refine (works_any _).mono ?_
  rintro e w1 ⟨rfl, g1⟩
  go_wp2
  go_ret
  exact ⟨rfl, g1⟩
theorem later_low (b d a z : Int) (b0 : 0 ≤ b) (b1 : b < 18446744073709551616) (d0 : 0 ≤ d) (d1 : d < 18446744073709551616) (a0 : 0 ≤ a) (a1 : a < 18446744073709551616) (c : Nat) (hc : wi z 1 6 = c) (h : b ≤ d) (hl : a ≤ d) (w : World) :
    Calls Try.prog 8 #[.int .u64 b, .int .u64 d, .int .u64 a, .int .i64 z] w fun e w' => e = .returned (.bool true) ∧ Grew w w' := by
  have K := dLevel d a z d0 d1 a0 a1 c hc
  have K2 := Lib.hid (dLevel b a z b0 b1 a0 a1 c hc)
  have h' : ¬ d < b := by omega
  have h1 := (lv_neg c d a).2 hl
  have h2 := lv_in c d a
  have h3 := lv_in c b a
  have h4 : lv c d a = -1 := by omega
  have h5 : -1 ≤ lv c b a := h3.1
  rw [h4] at K
  have K1 := Lib.hid K
  clear hc b0 b1 a0 a1 d0 d1 K h h1 h2 h3 h4
  generalize lv c b a = v at *
  go_enter Try.func8, Try.ntmps8
  go_wp2_with fail
  with_reducible refine (works_any _).mono ?_
  rintro e w1 ⟨rfl, g1⟩
  go_wp2_with fail
  with_reducible refine (K1.out _).mono ?_
  rintro e w2 ⟨rfl, g2⟩
  go_wp2_with fail
  with_reducible refine (K2.out _).mono ?_
  rintro e w3 ⟨rfl, g3⟩
  go_wp2
  go_ret
  exact ⟨rfl, (g1.trans g2).trans g3⟩
theorem ret_bool {a b : Bool} (h : a = b) : Ending.returned (.bool a) = .returned (.bool b) := by rw [h]
theorem later_high (b d a z : Int) (b0 : 0 ≤ b) (b1 : b < 18446744073709551616) (d0 : 0 ≤ d) (d1 : d < 18446744073709551616) (a0 : 0 ≤ a) (a1 : a < 18446744073709551616) (c : Nat) (hc : wi z 1 6 = c) (h : b ≤ d) (hl : d < a) (w : World) :
    Calls Try.prog 8 #[.int .u64 b, .int .u64 d, .int .u64 a, .int .i64 z] w fun e w' => e = .returned (.bool true) ∧ Grew w w' := by
  have K1 := Lib.hid (dLevel d a z d0 d1 a0 a1 c hc)
  have K2 := Lib.hid (dLevel b a z b0 b1 a0 a1 c hc)
  have h' : ¬ d < b := by omega
  have h1 := lv_neg c d a
  have h3 := lv_later c b d a h
  have h4 : ¬ a ≤ d := by omega
  have h5 : lv c d a ≠ -1 := by omega
  clear hc b0 b1 a0 a1 d0 d1 h h1
  generalize lv c b a = v at *
  generalize lv c d a = u at *
  have V : Hid ((decide (a ≤ d) == (u == -1)) = true) := Lib.hid (by simp [h4, h5])
  go_enter Try.func8, Try.ntmps8
  go_wp2_with fail
  with_reducible refine (works_any _).mono ?_
  rintro e w1 ⟨rfl, g1⟩
  go_wp2_with fail
  with_reducible refine (K1.out _).mono ?_
  rintro e w2 ⟨rfl, g2⟩
  go_wp2_with fail
  with_reducible refine (K2.out _).mono ?_
  rintro e w3 ⟨rfl, g3⟩
  go_wp2
  go_ret
  exact ⟨ret_bool V.out, (g1.trans g2).trans g3⟩
theorem later_walk (b d a z : Int) (b0 : 0 ≤ b) (b1 : b < 18446744073709551616) (d0 : 0 ≤ d) (d1 : d < 18446744073709551616) (a0 : 0 ≤ a) (a1 : a < 18446744073709551616) (w : World) :
    Calls Try.prog 8 #[.int .u64 b, .int .u64 d, .int .u64 a, .int .i64 z] w fun e w' => e = .returned (.bool true) ∧ Grew w w' := by
  obtain ⟨c, hc, c1⟩ := bits_ex z
  by_cases h : d < b
  · exact later_not b d a z h w
  · by_cases hl : a ≤ d
    · exact later_low b d a z b0 b1 d0 d1 a0 a1 c hc (by omega) hl w
    · exact later_high b d a z b0 b1 d0 d1 a0 a1 c hc (by omega) (by omega) w
end Go.Proofs.Ytcfcmfgabfgbmaa
