/-
  Contracts of tick.below, tick.Floor, tick.Ceil and of the document's power, Floor and Ceil.
-/
import Derived.Test.YtpehmmgdcjlfkaaSums
import Derived.Test.YtpehmmgdcjlfkaaPlain
namespace Go.Proofs.Ytpehmmgdcjlfkaa
open Go.RowKit

theorem ret_int {k : IntKind} {a b : Int} (h : a = b) : Ending.returned (.int k a) = .returned (.int k b) := by rw [h]
theorem wrap_below (b : Int) : IntKind.u64.wrap (IntKind.u64.wrap (2 ^ min b.toNat 64) - 1) = pw b - 1 := by
  have h1 := pw_pos b
  have h2 := pw_le b
  have e : (2 : Int) ^ min b.toNat 64 = pw b := by rw [pw_nat]; simp
  rw [e, IntKind.wrap_u64, IntKind.wrap_u64]
  omega
theorem below_any (b : Int) (w : World) :
    Calls Try.prog 28 #[.int .i64 b] w fun e w' => e = .returned (.int .u64 (pw b - 1)) ∧ w = w' := by
  by_cases hb : 0 ≤ b
  · have k := Lib.hid (wrap_below b)
    go_enter Try.func28, Try.ntmps28
    go_wp2
    go_ret
    exact ⟨ret_int k.out, rfl⟩
  · have k := Lib.hid (pw_neg (b := b) (by omega))
    go_enter Try.func28, Try.ntmps28
    go_wp2
    go_ret
    exact ⟨ret_int (by rw [k.out]; rfl), rfl⟩
theorem floor_any (t b : Int) (h1 : 0 ≤ t) (h2 : t < 18446744073709551616) (w : World) :
    Calls Try.prog 18 #[.int .u64 t, .int .i64 b] w fun e w' => e = .returned (.int .u64 (t - t % pw b)) ∧ w = w' := by
  have k := Lib.hid (andNot_pw t b h1 h2)
  go_enter Try.func18, Try.ntmps18
  go_wp2_with (go_at_call 28; refine (below_any b _).mono ?_; rintro e w' ⟨rfl, rfl⟩)
  go_ret
  exact ⟨ret_int k.out, rfl⟩
/-- tick.Ceil of a multiple. -/
theorem ceil_own (t b : Int) (h1 : 0 ≤ t) (h2 : t < 18446744073709551616) (h : t % pw b = 0) (w : World) :
    Calls Try.prog 16 #[.int .u64 t, .int .i64 b] w fun e w' => e = .returned (.tuple #[.int .u64 t, .bool false]) ∧ w = w' := by
  have k2 := and_pw t b h1 h2
  rw [h] at k2
  clear h
  go_enter Try.func16, Try.ntmps16
  go_wp2_with (go_at_call 28; refine (below_any b _).mono ?_; rintro e w' ⟨rfl, rfl⟩)
  go_ret2
  exact ⟨rfl, rfl⟩
theorem ret_tick {a b : Int} {c : Bool} (h : a = b) : Ending.returned (.tuple #[.int .u64 a, .bool c]) = .returned (.tuple #[.int .u64 b, .bool c]) := by rw [h]
/-- tick.Ceil where the next multiple is a tick. -/
theorem ceil_fit (t b : Int) (h1 : 0 ≤ t) (h2 : t < 18446744073709551616) (h : t % pw b ≠ 0) (h3 : t - t % pw b + pw b < 18446744073709551616) (w : World) :
    Calls Try.prog 16 #[.int .u64 t, .int .i64 b] w fun e w' => e = .returned (.tuple #[.int .u64 (t - t % pw b + pw b), .bool false]) ∧ w = w' := by
  have k1 : (bits .and .u64 t (pw b - 1) == 0) = false := by rw [and_pw t b h1 h2]; simpa using h
  have m0 := mod_pw t b
  have m1 := mod_le t b h1
  have m2 := pw_pos b
  obtain ⟨g, hg⟩ : ∃ g, t - t % pw b + pw b = g + 1 := ⟨t - t % pw b + pw b - 1, by omega⟩
  have k2 : bits .or .u64 t (pw b - 1) = g := by rw [or_pw t b h1 h2]; omega
  have g0 : 0 ≤ g := by omega
  have g1 : g + 1 < 18446744073709551616 := by omega
  have hG := Lib.hid hg
  clear hg h h3 m0 m1 m2
  go_enter Try.func16, Try.ntmps16
  go_wp2_with (first | (go_at_call 28; refine (below_any b _).mono ?_; rintro e w' ⟨rfl, rfl⟩) | (go_at_call 12; refine (add_fit g 1 g0 (by omega) g1 _).mono ?_; rintro e w' ⟨rfl, rfl⟩))
  go_ret2
  exact ⟨ret_tick hG.out.symm, rfl⟩
/-- tick.Ceil where the next multiple is more than never. -/
theorem ceil_over (t b : Int) (h1 : 0 ≤ t) (h2 : t < 18446744073709551616) (h : t % pw b ≠ 0) (h3 : 18446744073709551616 ≤ t - t % pw b + pw b) (w : World) :
    Calls Try.prog 16 #[.int .u64 t, .int .i64 b] w fun e w' => e = .returned (.tuple #[.int .u64 18446744073709551615, .bool true]) ∧ w = w' := by
  have k1 : (bits .and .u64 t (pw b - 1) == 0) = false := by rw [and_pw t b h1 h2]; simpa using h
  have m0 := mod_pw t b
  have m1 := mod_le t b h1
  have m2 := pw_pos b
  have g1 : 18446744073709551616 ≤ 18446744073709551615 + (1 : Int) := by omega
  have k2 : bits .or .u64 t (pw b - 1) = 18446744073709551615 := by
    have := u64_or t (pw b - 1) h1 h2 (by omega) (by have := pw_le b; omega)
    have hlt : t.toNat ||| (pw b - 1).toNat < 2 ^ 64 := Nat.or_lt_two_pow (by simp only [Nat.reducePow]; omega) (by have := pw_le b; simp only [Nat.reducePow]; omega)
    simp only [Nat.reducePow] at hlt
    have e := or_pw t b h1 h2
    omega
  clear h h3 m0 m1 m2
  go_enter Try.func16, Try.ntmps16
  go_wp2_with (first | (go_at_call 28; refine (below_any b _).mono ?_; rintro e w' ⟨rfl, rfl⟩) | (go_at_call 12; refine (add_over 18446744073709551615 1 (by omega) (by omega) (by omega) (by omega) g1 _).mono ?_; rintro e w' ⟨rfl, rfl⟩))
  go_ret2
  exact ⟨rfl, rfl⟩

theorem wrap_twice (k : Nat) (h : k < 63) : IntKind.u64.wrap (2 * pw k) = pw ((k + 1 : Nat) : Int) := by
  have h1 := pw_succ k (by omega)
  have h2 := pw_small (b := (k : Int) + 1) (by omega)
  have h3 := pw_pos k
  rw [Int.natCast_add, Int.natCast_one, h1, IntKind.wrap_u64]
  omega
/-- The document's power, of b up to 63. -/
theorem power_fit (b : Int) (h : b ≤ 63) (w : World) :
    Calls Try.prog 29 #[.int .i64 b] w fun e w' => e = .returned (.tuple #[.int .u64 (pw b), .bool true]) ∧ w = w' := by
  go_enter Try.func29, Try.ntmps29
  go_wp2
  go_loop [4, 5] (fun p i => ∃ k : Nat, (k = 0 ∨ (k : Int) ≤ b) ∧ i = .int .i64 k ∧ p = .int .u64 (pw k)) (fun _ i => (b - intOf i).toNat)
  case atStart => exact ⟨0, .inl rfl, rfl, rfl⟩
  case round =>
    obtain ⟨k, hk, rfl, rfl⟩ := hrel
    by_cases hlt : (k : Int) < b
    · have hs := wrap_twice k (by omega)
      have h62 : (k : Int) < 63 := by omega
      go_wp2
      go_round
      case rel => exact ⟨k + 1, .inr (by omega), by go_num, rfl⟩
      case measure => simp [intOf]; omega
    · have e : Hid (pw k = pw b) := Lib.hid (by
        rcases hk with rfl | hk
        · exact (pw_neg (by omega)).trans (pw_neg (by omega)).symm
        · have : (k : Int) = b := by omega
          rw [this])
      go_wp2
      go_ret2
      exact ⟨ret_tick e.out, rfl⟩
/-- The document's power, of 64. -/
theorem power_over (w : World) :
    Calls Try.prog 29 #[.int .i64 64] w fun e w' => e = .returned (.tuple #[.int .u64 0, .bool false]) ∧ w = w' := by
  go_enter Try.func29, Try.ntmps29
  go_wp2
  go_loop [4, 5] (fun p i => ∃ k : Nat, k ≤ 63 ∧ i = .int .i64 k ∧ p = .int .u64 (pw k)) (fun _ i => (64 - intOf i).toNat)
  case atStart => exact ⟨0, by omega, rfl, rfl⟩
  case round =>
    obtain ⟨k, hk, rfl, rfl⟩ := hrel
    by_cases h62 : (k : Int) < 63
    · have hs := wrap_twice k (by omega)
      have hlt : (k : Int) < 64 := by omega
      go_wp2
      go_round
      case rel => exact ⟨k + 1, by omega, by go_num, rfl⟩
      case measure => simp [intOf]; omega
    · obtain rfl : k = 63 := by omega
      go_wp2
      go_ret2
      exact ⟨rfl, rfl⟩
/-- The document's Floor. -/
theorem rfloor_fit (t b : Int) (h1 : 0 ≤ t) (h2 : t < 18446744073709551616) (w : World) (h : b ≤ 63) :
    Calls Try.prog 19 #[.int .u64 t, .int .i64 b] w fun e w' => e = .returned (.int .u64 (t - t % pw b)) ∧ w = w' := by
  have m0 := mod_pw t b
  have m1 := mod_le t b h1
  have m2 := pw_pos b
  have m3 := pw_small (b := b) (by omega)
  have h64 : b ≤ 64 := by omega
  go_enter Try.func19, Try.ntmps19
  go_wp2_with (go_at_call 29; refine (power_fit b h _).mono ?_; rintro e w' ⟨rfl, rfl⟩)
  go_ret
  exact ⟨rfl, rfl⟩
theorem rfloor_over (t b : Int) (w : World) (h : 64 ≤ b) :
    Calls Try.prog 19 #[.int .u64 t, .int .i64 b] w fun e w' => e = .returned (.int .u64 0) ∧ w = w' := by
  by_cases h64 : b ≤ 64
  · obtain rfl : b = 64 := by omega
    clear h h64
    go_enter Try.func19, Try.ntmps19
    go_wp2_with (go_at_call 29; refine (power_over _).mono ?_; rintro e w' ⟨rfl, rfl⟩)
    go_ret
    exact ⟨rfl, rfl⟩
  · clear h
    go_enter Try.func19, Try.ntmps19
    go_wp2_with (go_at_call 29; refine (power_over _).mono ?_; rintro e w' ⟨rfl, rfl⟩)
    go_ret
    exact ⟨rfl, rfl⟩
end Go.Proofs.Ytpehmmgdcjlfkaa
