/-
  Contracts of digit.Begin and digit.Horizon.
-/
import Derived.Test.YtcfcmfgabfgbmaaTwo
namespace Go.Proofs.Ytcfcmfgabfgbmaa
open Go.RowKit

theorem wi_in (x a b : Int) (h : a ≤ b) : a ≤ wi x a b ∧ wi x a b ≤ b := by unfold wi; omega
theorem u64_in (x : Int) (h0 : 0 ≤ x) (h1 : x < 18446744073709551616) : IntKind.u64.wrap x = x := by rw [IntKind.wrap_u64]; omega
theorem i64_in (x : Int) (h0 : 0 ≤ x) (h1 : x < 9223372036854775808) : IntKind.i64.wrap x = x := by rw [IntKind.wrap_i64]; omega
/-- The sums on the way to a slot's beginning. -/
theorem begin_sums (c : Nat) (hc : c ≤ 6) (b : Int) (h0 : 0 ≤ b) (h1 : b < 18446744073709551616) (l : Nat) (hl : l ≤ 3) (s : Int) (s0 : 0 ≤ s) (s1 : s ≤ q c 1 - 1) :
    IntKind.u64.wrap (b / q c (l + 1) * q c 1) = b / q c (l + 1) * q c 1 ∧ IntKind.u64.wrap (b / q c (l + 1) * q c 1 + s) = b / q c (l + 1) * q c 1 + s ∧
    IntKind.u64.wrap ((b / q c (l + 1) * q c 1 + s) * q c l) = bg c b l s := by
  obtain ⟨g0, _, g2, _, g4⟩ := bg_in c hc b h0 h1 l hl s s0 s1
  have e := bg_other c b l s
  have r0 := q_pos c l
  have s2 := q_pos c 1
  have m0 : 0 ≤ b / q c (l + 1) * q c 1 := Int.mul_nonneg g0 (by omega)
  have m1 : (b / q c (l + 1) * q c 1 + s) * 1 ≤ (b / q c (l + 1) * q c 1 + s) * q c l := Int.mul_le_mul_of_nonneg_left r0 (by omega)
  rw [Int.mul_one] at m1
  refine ⟨u64_in _ m0 (by omega), u64_in _ (by omega) (by omega), ?_⟩
  rw [e]
  exact u64_in _ (by omega) g4
theorem dBegin (b x s z : Int) (b0 : 0 ≤ b) (b1 : b < 18446744073709551616) (c l : Nat) (hc : wi z 1 6 = c) (hl : wi x 0 3 = l) (w : World) :
    Calls Try.prog 16 #[.int .u64 b, .int .i64 x, .int .i64 s, .int .i64 z] w fun e w' => e = .returned (.int .u64 (bg c b l (wi s 0 (q c 1 - 1)))) ∧ Grew w w' := by
  have K1 := Lib.hid (wheel_any z c hc)
  have c1 : c ≤ 6 := by unfold wi at hc; omega
  have l3 : l ≤ 3 := by unfold wi at hl; omega
  have q1 := q_pos c 1
  have q2 := q_one c c1
  have e1 := i64_in (q c 1) (by omega) (by omega)
  have e2 := i64_in (q c 1 - 1) (by omega) (by omega)
  have hw := wi_in s 0 (q c 1 - 1) (by omega)
  have K2 := Lib.hid (within_any s 0 (q c 1 - 1))
  have K3 := Lib.hid (above_any c b x c1 b0 b1 l hl)
  have K0 := reach_any c (q c 1) x c1
  rw [hl, Int.toNat_natCast] at K0
  have K4 := Lib.hid K0
  obtain ⟨f1, f2, f3⟩ := begin_sums c c1 b b0 b1 l l3 _ hw.1 hw.2
  have f0 := u64_in _ hw.1 (by omega)
  clear K0 hc hl hw q1 b0 b1 l3
  generalize bg c b l (wi s 0 (q c 1 - 1)) = v at *
  generalize wi s 0 (q c 1 - 1) = s' at *
  generalize b / q c (l + 1) = u at *
  generalize hS : q c 1 = S at *
  have q3 : (0 : Int) ≤ S := by have := q_pos c 1; omega
  clear hS
  generalize q c l = R at *
  generalize hm : u * S = m at *
  generalize hn : m + s' = n at *
  go_enter Try.func16, Try.ntmps16
  go_wp2_with fail
  with_reducible refine (K1.out _).mono ?_
  rintro e w1 ⟨rfl, g1⟩
  go_wp2_with fail
  with_reducible refine (K2.out _).mono ?_
  rintro e w' ⟨rfl, rfl⟩
  have G := Lib.hid (g1.alloc #[.int .i64 c, .int .u64 S] 33)
  clear g1
  go_wp2
  go_region_held3 (fun w' => Grew w w' ∧ w'.cell? ⟨w1.heap.size, 0, none⟩ = some (.int .i64 c) ∧ w'.cell? ⟨w1.heap.size, 1, none⟩ = some (.int .u64 S))
    (first | exact ⟨G.out.drew, by simp [go_sem], by simp [go_sem]⟩ | exact held2 hg1 ‹_›)
    (first
      | (go_at_call 28; (with_reducible refine (K3.out _).mono ?_); rintro e w2 ⟨rfl, hg1⟩)
      | (go_at_call 26; (with_reducible refine (K4.out _).mono ?_); rintro e w3 ⟨rfl, hg1⟩))
  rename_i hheld
  go_wp2
  go_ret
  exact ⟨rfl, hheld.1⟩
theorem dHorizon (b z : Int) (b0 : 0 ≤ b) (b1 : b < 18446744073709551616) (c : Nat) (hc : wi z 1 6 = c) (w : World) :
    Calls Try.prog 14 #[.int .u64 b, .int .i64 z] w fun e w' => e = .returned (.int .u64 (hz c b)) ∧ Grew w w' := by
  have K1 := Lib.hid (wheel_any z c hc)
  have c1 : c ≤ 6 := by unfold wi at hc; omega
  have K2 := Lib.hid (reach_any c (q c 1) 3 c1)
  have e0 : q c (wi 3 0 3).toNat = q c 3 := rfl
  rw [e0] at K2
  have q4 := q_pos c 4
  have q5 := q_le c 4 c1 (by omega)
  have e1 : IntKind.u64.wrap (q c 3 * q c 1) = q c 4 := by rw [show q c 3 * q c 1 = q c 4 from (q_succ c 3).symm]; exact u64_in _ (by omega) (by omega)
  have e2 := u64_in (q c 4 - 1) (by omega) (by omega)
  have e3 := or_q c c1 b b0 b1
  clear hc e0 b0 b1 q4 q5
  generalize hz c b = v at *
  generalize q c 4 = T at *
  generalize q c 3 = R at *
  generalize q c 1 = S at *
  go_enter Try.func14, Try.ntmps14
  go_wp2_with fail
  with_reducible refine (K1.out _).mono ?_
  rintro e w1 ⟨rfl, g1⟩
  have G := Lib.hid (g1.alloc #[.int .i64 c, .int .u64 S] 33)
  clear g1
  go_wp2
  go_region_held3 (fun w' => Grew w w' ∧ w'.cell? ⟨w1.heap.size, 0, none⟩ = some (.int .i64 c) ∧ w'.cell? ⟨w1.heap.size, 1, none⟩ = some (.int .u64 S))
    (first | exact ⟨G.out.drew, by simp [go_sem], by simp [go_sem]⟩ | exact held2 hg1 ‹_›)
    (first
      | (go_at_call 26; (with_reducible refine (K2.out _).mono ?_); rintro e w2 ⟨rfl, hg1⟩))
  rename_i hheld
  go_wp2
  go_ret
  exact ⟨rfl, hheld.1⟩
end Go.Proofs.Ytcfcmfgabfgbmaa
