/-
  Contracts of tick.Add, tick.Sub and of the document's Add and Sub: what they return, and that they leave the world alone.
-/
import Derived.Test.YtpehmmgdcjlfkaaRows
import Derived.Shelf.Spec.BitsCarry
import Derived.WalkKit
import Derived.WalkSpells
import Derived.WalkLawsBesides
import Derived.StillTactics
import Derived.Lib.Hide
import Derived.RowKit3
namespace Go.Proofs.Ytpehmmgdcjlfkaa
open Go.RowKit

/-- Add64 without a carry in. -/
theorem add64_0 (x y : Int) (hx : 0 ≤ x) (hy : 0 ≤ y) (w : World) : (callFunc 26 #[.int .u64 x, .int .u64 y, .int .u64 0]).run Try.prog w =
    .ok (.value (.tuple #[.int .u64 ((x + y) % 18446744073709551616), .int .u64 ((x + y) / 18446744073709551616)])) w := by
  rw [run_callFunc_extern Try.func26 (by kernel_rfl) (by kernel_rfl) (by kernel_rfl) (e := add64Entry) (by kernel_rfl), run_add64 x y 0 hx hy (by omega) (by omega)]
  simp only [Result.andThen, Int.add_zero]
/-- Sub64 without a borrow in, where nothing is borrowed. -/
theorem sub64_fit (x y : Int) (hx : x < 18446744073709551616) (hy : 0 ≤ y) (h : y ≤ x) (w : World) : (callFunc 27 #[.int .u64 x, .int .u64 y, .int .u64 0]).run Try.prog w =
    .ok (.value (.tuple #[.int .u64 (x - y), .int .u64 0])) w := by
  obtain ⟨x, rfl⟩ := Int.eq_ofNat_of_zero_le (by omega : 0 ≤ x)
  obtain ⟨y, rfl⟩ := Int.eq_ofNat_of_zero_le hy
  rw [run_callFunc_extern Try.func27 (by kernel_rfl) (by kernel_rfl) (by kernel_rfl) (e := sub64Entry) (by kernel_rfl)]
  have := run_sub64 (P := Try.prog) x y 0 (by omega) w
  simp only [Int.natCast_zero] at this
  rw [this]
  have e1 : (((x + 18446744073709551616 - y - 0) % 18446744073709551616 : Nat) : Int) = (x : Int) - y := by omega
  rw [e1, if_neg (by omega)]
  rfl
/-- Sub64 without a borrow in, where something is borrowed. -/
theorem sub64_low (x y : Int) (hx : 0 ≤ x) (hy : y < 18446744073709551616) (h : x < y) (w : World) : (callFunc 27 #[.int .u64 x, .int .u64 y, .int .u64 0]).run Try.prog w =
    .ok (.value (.tuple #[.int .u64 (x - y + 18446744073709551616), .int .u64 1])) w := by
  obtain ⟨x, rfl⟩ := Int.eq_ofNat_of_zero_le hx
  obtain ⟨y, rfl⟩ := Int.eq_ofNat_of_zero_le (by omega : 0 ≤ y)
  rw [run_callFunc_extern Try.func27 (by kernel_rfl) (by kernel_rfl) (by kernel_rfl) (e := sub64Entry) (by kernel_rfl)]
  have := run_sub64 (P := Try.prog) x y 0 (by omega) w
  simp only [Int.natCast_zero] at this
  rw [this]
  have e1 : (((x + 18446744073709551616 - y - 0) % 18446744073709551616 : Nat) : Int) = (x : Int) - y + 18446744073709551616 := by omega
  rw [e1, if_pos (by omega)]
  rfl

/-- tick.Add where the sum is a tick. -/
theorem add_fit (t d : Int) (h1 : 0 ≤ t) (h2 : 0 ≤ d) (h : t + d < 18446744073709551616) (w : World) :
    Calls Try.prog 12 #[.int .u64 t, .int .u64 d] w fun e w' => e = .returned (.tuple #[.int .u64 (t + d), .bool false]) ∧ w = w' := by
  have e1 : (t + d) % 18446744073709551616 = t + d := by omega
  have e2 : (t + d) / 18446744073709551616 = 0 := by omega
  have k := add64_0 t d h1 h2
  rw [e1, e2] at k
  clear e1 e2
  go_enter Try.func12, Try.ntmps12
  go_wp2_with (simp only [k])
  go_ret2
  exact ⟨rfl, rfl⟩
/-- tick.Add where the sum is more than never. -/
theorem add_over (t d : Int) (h1 : 0 ≤ t) (h2 : 0 ≤ d) (h3 : t < 18446744073709551616) (h4 : d < 18446744073709551616) (h : 18446744073709551616 ≤ t + d) (w : World) :
    Calls Try.prog 12 #[.int .u64 t, .int .u64 d] w fun e w' => e = .returned (.tuple #[.int .u64 18446744073709551615, .bool true]) ∧ w = w' := by
  have e2 : (t + d) / 18446744073709551616 = 1 := by omega
  have k := add64_0 t d h1 h2
  rw [e2] at k
  clear e2
  go_enter Try.func12, Try.ntmps12
  go_wp2_with (simp only [k])
  go_ret2
  exact ⟨rfl, rfl⟩
/-- tick.Sub where nothing is borrowed. -/
theorem sub_fit (t d : Int) (h1 : t < 18446744073709551616) (h2 : 0 ≤ d) (h : d ≤ t) (w : World) :
    Calls Try.prog 14 #[.int .u64 t, .int .u64 d] w fun e w' => e = .returned (.int .u64 (t - d)) ∧ w = w' := by
  have k := sub64_fit t d h1 h2 h
  go_enter Try.func14, Try.ntmps14
  go_wp2_with (simp only [k])
  go_ret
  exact ⟨rfl, rfl⟩
/-- tick.Sub where the difference would be less than 0. -/
theorem sub_low (t d : Int) (h1 : 0 ≤ t) (h2 : d < 18446744073709551616) (h : t < d) (w : World) :
    Calls Try.prog 14 #[.int .u64 t, .int .u64 d] w fun e w' => e = .returned (.int .u64 0) ∧ w = w' := by
  have k := sub64_low t d h1 h2 h
  go_enter Try.func14, Try.ntmps14
  go_wp2_with (simp only [k])
  go_ret
  exact ⟨rfl, rfl⟩
/-- The document's Add where the sum is a tick. -/
theorem radd_fit (t d : Int) (h1 : 0 ≤ t) (h2 : 0 ≤ d) (h : t + d < 18446744073709551616) (w : World) :
    Calls Try.prog 13 #[.int .u64 t, .int .u64 d] w fun e w' => e = .returned (.tuple #[.int .u64 (t + d), .bool false]) ∧ w = w' := by
  have g : ¬ 18446744073709551615 - t < d := by omega
  go_enter Try.func13, Try.ntmps13
  go_wp2
  go_ret2
  exact ⟨rfl, rfl⟩
/-- The document's Add where the sum is more than never. -/
theorem radd_over (t d : Int) (h1 : 0 ≤ t) (h3 : t < 18446744073709551616) (h : 18446744073709551616 ≤ t + d) (w : World) :
    Calls Try.prog 13 #[.int .u64 t, .int .u64 d] w fun e w' => e = .returned (.tuple #[.int .u64 18446744073709551615, .bool true]) ∧ w = w' := by
  have g : 18446744073709551615 - t < d := by omega
  go_enter Try.func13, Try.ntmps13
  go_wp2
  go_ret2
  exact ⟨rfl, rfl⟩
/-- The document's Sub where nothing is borrowed. -/
theorem rsub_fit (t d : Int) (h1 : t < 18446744073709551616) (h2 : 0 ≤ d) (h : d ≤ t) (w : World) :
    Calls Try.prog 15 #[.int .u64 t, .int .u64 d] w fun e w' => e = .returned (.int .u64 (t - d)) ∧ w = w' := by
  have g : ¬ t < d := by omega
  go_enter Try.func15, Try.ntmps15
  go_wp2
  go_ret
  exact ⟨rfl, rfl⟩
/-- The document's Sub where the difference would be less than 0. -/
theorem rsub_low (t d : Int) (h : t < d) (w : World) :
    Calls Try.prog 15 #[.int .u64 t, .int .u64 d] w fun e w' => e = .returned (.int .u64 0) ∧ w = w' := by
  go_enter Try.func15, Try.ntmps15
  go_wp2
  go_ret
  exact ⟨rfl, rfl⟩
end Go.Proofs.Ytpehmmgdcjlfkaa
