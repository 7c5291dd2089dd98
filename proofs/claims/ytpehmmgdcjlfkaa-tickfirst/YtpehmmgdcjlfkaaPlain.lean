/-
  Plain arithmetic for layer 1: powers of two up to 2^64, masks below them, and multiples of them. Nothing of the program stands here.
-/
import Derived.WalkKit
import Derived.Laws.BitsAllLaws
namespace Go.Proofs.Ytpehmmgdcjlfkaa

/-- 2^b, where b below 0 counts as 0 and b above 64 as 64. -/
def pw (b : Int) : Int := ((2 ^ (min b.toNat 64) : Nat) : Int)

theorem pw_nat (b : Int) : pw b = ((2 ^ (min b.toNat 64) : Nat) : Int) := rfl
theorem pw_pos (b : Int) : 1 ≤ pw b := by
  have := Nat.two_pow_pos (min b.toNat 64)
  rw [pw_nat]; omega
theorem pw_le (b : Int) : pw b ≤ 18446744073709551616 := by
  have := Nat.pow_le_pow_right (show 0 < 2 by decide) (Nat.min_le_right b.toNat 64)
  rw [pw_nat]; simp only [Nat.reducePow] at this; omega
theorem pw_neg {b : Int} (h : b ≤ 0) : pw b = 1 := by
  have : b.toNat = 0 := by omega
  simp [pw, this]
theorem pw_big {b : Int} (h : 64 ≤ b) : pw b = 18446744073709551616 := by
  have : min b.toNat 64 = 64 := by omega
  simp [pw, this]
theorem pw_small {b : Int} (h : b < 64) : pw b ≤ 9223372036854775808 := by
  have := Nat.pow_le_pow_right (show 0 < 2 by decide) (show min b.toNat 64 ≤ 63 by omega)
  rw [pw_nat]; simp only [Nat.reducePow] at this; omega
theorem pw_two {b : Int} (h : 0 < b) : 2 ≤ pw b := by
  have := Nat.pow_le_pow_right (show 0 < 2 by decide) (show 1 ≤ min b.toNat 64 by omega)
  rw [pw_nat]; simp only [Nat.pow_one] at this; omega
theorem pw_succ (k : Nat) (h : k < 64) : pw ((k : Int) + 1) = 2 * pw k := by
  have e1 : min ((k : Int) + 1).toNat 64 = k + 1 := by omega
  have e2 : min ((k : Int)).toNat 64 = k := by omega
  rw [pw_nat, pw_nat, e1, e2, Nat.pow_succ]; omega
theorem pw_top (b : Int) : (18446744073709551616 : Int) % pw b = 0 := by
  rw [pw_nat]
  have h : (2 ^ (min b.toNat 64) : Nat) ∣ 2 ^ 64 := Nat.pow_dvd_pow 2 (Nat.min_le_right _ _)
  have h2 := Nat.mod_eq_zero_of_dvd h
  have h3 : ((2 ^ 64 % 2 ^ (min b.toNat 64) : Nat) : Int) = 0 := by rw [h2]; rfl
  rw [Int.natCast_emod] at h3
  simpa using h3

/-! Masks. -/
theorem and_low (x n : Nat) : x &&& (2 ^ n - 1) = x % 2 ^ n := Nat.and_two_pow_sub_one_eq_mod x n
theorem or_low (x n : Nat) : x ||| (2 ^ n - 1) = x - x % 2 ^ n + (2 ^ n - 1) := by
  have hp := Nat.two_pow_pos n
  have hm : (x - x % 2 ^ n) % 2 ^ n = 0 := by
    have h : x - x % 2 ^ n = 2 ^ n * (x / 2 ^ n) := by have := Nat.div_add_mod x (2 ^ n); omega
    rw [h, Nat.mul_mod_right]
  have h1 := nat_join n (x - x % 2 ^ n) (2 ^ n - 1) hm (by omega)
  have h2 := nat_join n (x - x % 2 ^ n) (x % 2 ^ n) hm (Nat.mod_lt _ hp)
  have h3 : x - x % 2 ^ n + x % 2 ^ n = x := by have := Nat.mod_le x (2 ^ n); omega
  rw [h3] at h2
  have h4 : x % 2 ^ n ||| (2 ^ n - 1) = 2 ^ n - 1 := by
    rw [← and_low]
    apply Nat.eq_of_testBit_eq
    intro i
    rw [Nat.testBit_or, Nat.testBit_and]
    cases x.testBit i <;> cases (2 ^ n - 1).testBit i <;> rfl
  rw [← h1]
  conv => lhs; rw [← h2]
  rw [Nat.or_assoc, h4]
theorem andNot_low (x n : Nat) (hn : n ≤ 64) (hx : x < 18446744073709551616) : x &&& (18446744073709551615 - (2 ^ n - 1)) = x - x % 2 ^ n := by
  have hp := Nat.two_pow_pos n
  have hle := Nat.pow_le_pow_right (show 0 < 2 by decide) hn
  simp only [Nat.reducePow] at hle
  have h : x - x % 2 ^ n = x / 2 ^ n * 2 ^ n := by have := Nat.div_add_mod x (2 ^ n); rw [Nat.mul_comm]; omega
  rw [h, ← Nat.shiftRight_eq_div_pow, ← Nat.shiftLeft_eq]
  apply Nat.eq_of_testBit_eq
  intro i
  have e : 18446744073709551615 - (2 ^ n - 1) = 2 ^ 64 - ((2 ^ n - 1) + 1) := by simp only [Nat.reducePow]; omega
  rw [e, Nat.testBit_and, Nat.testBit_two_pow_sub_succ (by simp only [Nat.reducePow]; omega), Nat.testBit_two_pow_sub_one, Nat.testBit_shiftLeft, Nat.testBit_shiftRight]
  by_cases hi : n ≤ i
  · have e2 : n + (i - n) = i := by omega
    rw [e2]
    by_cases h64 : i < 64
    · simp [hi, h64]
    · have hf : x.testBit i = false := Nat.testBit_lt_two_pow (Nat.lt_of_lt_of_le (show x < 2 ^ 64 by simpa using hx) (Nat.pow_le_pow_right (by decide) (by omega)))
      simp [hf]
  · simp [hi]
    intro _ _; omega

theorem low_toNat (b : Int) : (pw b - 1).toNat = 2 ^ (min b.toNat 64) - 1 := by
  rw [pw_nat]; have := Nat.two_pow_pos (min b.toNat 64); omega
theorem mod_toNat (t b : Int) (h : 0 ≤ t) : t % pw b = ((t.toNat % 2 ^ (min b.toNat 64) : Nat) : Int) := by
  rw [pw_nat, Int.natCast_emod, Int.toNat_of_nonneg h]
theorem and_pw (t b : Int) (h1 : 0 ≤ t) (h2 : t < 18446744073709551616) : bits .and .u64 t (pw b - 1) = t % pw b := by
  have := pw_pos b; have := pw_le b
  rw [u64_and t (pw b - 1) h1 h2 (by omega) (by omega), low_toNat, and_low, mod_toNat t b h1]
theorem or_pw (t b : Int) (h1 : 0 ≤ t) (h2 : t < 18446744073709551616) : bits .or .u64 t (pw b - 1) = t - t % pw b + pw b - 1 := by
  have := pw_pos b; have := pw_le b
  rw [u64_or t (pw b - 1) h1 h2 (by omega) (by omega), low_toNat, or_low, mod_toNat t b h1, pw_nat]
  have := Nat.mod_le t.toNat (2 ^ (min b.toNat 64)); have := Nat.two_pow_pos (min b.toNat 64)
  omega
theorem andNot_pw (t b : Int) (h1 : 0 ≤ t) (h2 : t < 18446744073709551616) : bits .andNot .u64 t (pw b - 1) = t - t % pw b := by
  have := pw_pos b; have := pw_le b
  rw [u64_andNot t (pw b - 1) h1 h2 (by omega) (by omega), low_toNat, andNot_low _ _ (Nat.min_le_right _ _) (by omega), mod_toNat t b h1]
  have := Nat.mod_le t.toNat (2 ^ (min b.toNat 64))
  omega

/-! Multiples. -/
theorem mod_pw (t b : Int) : 0 ≤ t % pw b ∧ t % pw b < pw b := by
  have := pw_pos b
  exact ⟨Int.emod_nonneg _ (by omega), Int.emod_lt_of_pos _ (by omega)⟩
theorem mod_le (t b : Int) (h : 0 ≤ t) : t % pw b ≤ t := by
  have h1 := Int.emod_add_mul_ediv t (pw b)
  have h2 : 0 ≤ t / pw b := Int.ediv_nonneg h (by have := pw_pos b; omega)
  have h3 : 0 ≤ pw b * (t / pw b) := Int.mul_nonneg (by have := pw_pos b; omega) h2
  omega
theorem floor_mod (t b : Int) : (t - t % pw b) % pw b = 0 := by
  have h1 := Int.emod_add_mul_ediv t (pw b)
  have : t - t % pw b = pw b * (t / pw b) := by omega
  rw [this, Int.mul_emod_right]
theorem ceil_mod (t b : Int) : (t - t % pw b + pw b) % pw b = 0 := by
  rw [Int.add_emod_right, floor_mod]
theorem ceil_pred (t b : Int) : (t - t % pw b + pw b - 1) % pw b = pw b - 1 := by
  have hp := pw_pos b
  have e : t - t % pw b + pw b - 1 = (pw b - 1) + pw b * (t / pw b) := by
    have h1 := Int.emod_add_mul_ediv t (pw b); omega
  rw [e, Int.add_mul_emod_self_left, Int.emod_eq_of_lt (by omega) (by omega)]
end Go.Proofs.Ytpehmmgdcjlfkaa
