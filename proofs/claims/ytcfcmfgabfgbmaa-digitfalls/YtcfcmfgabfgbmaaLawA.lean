/-
  The walks of DigitTells and DigitBegins: whatever they are given, they return true and turn nothing that was there.
-/
import Derived.Test.YtcfcmfgabfgbmaaRef
import Derived.Test.YtcfcmfgabfgbmaaWorks
namespace Go.Proofs.Ytcfcmfgabfgbmaa
open Go.RowKit

theorem bits_ex (z : Int) : ∃ c : Nat, wi z 1 6 = c ∧ c ≤ 6 := ⟨(wi z 1 6).toNat, by unfold wi; omega, by unfold wi; omega⟩
theorem level_ex (x : Int) : ∃ l : Nat, wi x 0 3 = l ∧ l ≤ 3 := ⟨(wi x 0 3).toNat, by unfold wi; omega, by unfold wi; omega⟩
theorem tells_walk (b a z : Int) (b0 : 0 ≤ b) (b1 : b < 18446744073709551616) (a0 : 0 ≤ a) (a1 : a < 18446744073709551616) (w : World) :
    Calls Try.prog 3 #[.int .u64 b, .int .u64 a, .int .i64 z] w fun e w' => e = .returned (.bool true) ∧ Grew w w' := by
  obtain ⟨c, hc, c1⟩ := bits_ex z
  have K1 := Lib.hid (dLevel b a z b0 b1 a0 a1 c hc)
  have K2 := Lib.hid (rLevel b a z b0 b1 a0 a1 c hc)
  have K3 := Lib.hid (dSlot b a z b0 b1 a0 a1 c hc)
  have K4 := Lib.hid (rSlot b a z b0 b1 a0 a1 c hc)
  have K5 := Lib.hid (dHorizon b z b0 b1 c hc)
  have K6 := Lib.hid (rHorizon b z b0 b1 c hc)
  clear hc b0 b1 a0 a1
  generalize lv c b a = v at *
  generalize sv c b a = s at *
  generalize hz c b = h at *
  go_enter Try.func3, Try.ntmps3
  go_wp2_with fail
  with_reducible refine (works_any _).mono ?_
  rintro e w1 ⟨rfl, g1⟩
  go_wp2_with fail
  with_reducible refine (K1.out _).mono ?_
  rintro e w2 ⟨rfl, g2⟩
  go_wp2_with fail
  with_reducible refine (K2.out _).mono ?_
  rintro e w3 ⟨rfl, g3⟩
  go_wp2_with fail
  with_reducible refine (K3.out _).mono ?_
  rintro e w4 ⟨rfl, g4⟩
  go_wp2_with fail
  with_reducible refine (K4.out _).mono ?_
  rintro e w5 ⟨rfl, g5⟩
  go_wp2_with fail
  with_reducible refine (K5.out _).mono ?_
  rintro e w6 ⟨rfl, g6⟩
  go_wp2_with fail
  with_reducible refine (K6.out _).mono ?_
  rintro e w7 ⟨rfl, g7⟩
  go_wp2
  go_ret
  exact ⟨rfl, (((((g1.trans g2).trans g3).trans g4).trans g5).trans g6).trans g7⟩
theorem begins_walk (b x s z : Int) (b0 : 0 ≤ b) (b1 : b < 18446744073709551616) (w : World) :
    Calls Try.prog 4 #[.int .u64 b, .int .i64 x, .int .i64 s, .int .i64 z] w fun e w' => e = .returned (.bool true) ∧ Grew w w' := by
  obtain ⟨c, hc, c1⟩ := bits_ex z
  obtain ⟨l, hl, l3⟩ := level_ex x
  have K1 := Lib.hid (dBegin b x s z b0 b1 c l hc hl)
  have K2 := Lib.hid (rBegin b x s z b0 b1 c l hc hl)
  have K3 := Lib.hid (dReach x z c l hc hl)
  have K4 := Lib.hid (rReach x z c l hc hl)
  have K5 := Lib.hid (dDigit b x z b0 b1 c l hc hl)
  have K6 := Lib.hid (rDigit b x z b0 b1 c l hc hl)
  clear hc hl b0 b1
  generalize bg c b l (wi s 0 (q c 1 - 1)) = v at *
  generalize q c l = r at *
  generalize dg c b l = d at *
  go_enter Try.func4, Try.ntmps4
  go_wp2_with fail
  with_reducible refine (works_any _).mono ?_
  rintro e w1 ⟨rfl, g1⟩
  go_wp2_with fail
  with_reducible refine (K1.out _).mono ?_
  rintro e w2 ⟨rfl, g2⟩
  go_wp2_with fail
  with_reducible refine (K2.out _).mono ?_
  rintro e w3 ⟨rfl, g3⟩
  go_wp2_with fail
  with_reducible refine (K3.out _).mono ?_
  rintro e w4 ⟨rfl, g4⟩
  go_wp2_with fail
  with_reducible refine (K4.out _).mono ?_
  rintro e w' ⟨rfl, rfl⟩
  go_wp2_with fail
  with_reducible refine (K5.out _).mono ?_
  rintro e w6 ⟨rfl, g6⟩
  go_wp2_with fail
  with_reducible refine (K6.out _).mono ?_
  rintro e w7 ⟨rfl, g7⟩
  go_wp2
  go_ret
  exact ⟨rfl, ((((g1.trans g2).trans g3).trans g4).trans g6).trans g7⟩
end Go.Proofs.Ytcfcmfgabfgbmaa
