/-
  Contracts of a wheel's method level, and of digit.Level, Slot, Begin, Horizon, Reach and Digit.
  Contracts of digit.Begin and digit.Horizon.
  A wheel of four levels in memory.
  Contracts of a wheel of four levels: spot, list, isSlot.
-/
import Derived.Test.YtdoceldofkaapaaGreatDoorXaa
import Derived.Test.YtdoceldofkaapaaGreatDoorXap
import Derived.Test.YtdoceldofkaapaaGreatDoorXaq
import Derived.Test.YtdoceldofkaapaaGreatDoorHv
import Derived.BigQuiet
set_option linter.unusedVariables false
set_option linter.unusedSimpArgs false
namespace Go.Proofs.YtdoceldofkaapaaGreatDoor.D3
open Go.RowKit

theorem level_none (c : Nat) (b a : Int) (h : a ≤ b) (w : World) :
    Calls Tryz.prog 64 #[.agg #[.int .i64 c, .int .u64 (q c 1)], .int .u64 b, .int .u64 a] w fun e w' => e = .returned (.int .i64 (lv c b a)) ∧ Grew w w' := by
  have e : lv c b a = -1 := by unfold lv; rw [if_pos h]
  rw [e]
  clear e
  go_enter Tryz.func64, Tryz.ntmps64
  go_wp2
  go_ret
  exact ⟨rfl, (Grew.refl _).alloc _ _⟩
theorem level_some (c : Nat) (b a : Int) (c1 : c ≤ 6) (b0 : 0 ≤ b) (b1 : b < 18446744073709551616) (a0 : 0 ≤ a) (a1 : a < 18446744073709551616) (h : b < a) (w : World) :
    Calls Tryz.prog 64 #[.agg #[.int .i64 c, .int .u64 (q c 1)], .int .u64 b, .int .u64 a] w fun e w' => e = .returned (.int .i64 (lv c b a)) ∧ Grew w w' := by
  have KB := Lib.hid (fun k : Nat => fun hk : k < 4 => above_any c b k c1 b0 b1 k (wi_own k hk))
  have KA := Lib.hid (fun k : Nat => fun hk : k < 4 => above_any c a k c1 a0 a1 k (wi_own k hk))
  have HF := Lib.hid (lv_find c b a h)
  have HN := Lib.hid (lv_none c b a h)
  generalize lv c b a = v at *
  have h' : ¬ a ≤ b := by omega
  clear b0 b1 a0 a1
  generalize q c 1 = S at *
  go_enter Tryz.func64, Tryz.ntmps64
  go_wp2
  go_loopw [11] (fun i wr => ∃ k : Nat, k ≤ 4 ∧ i = .int .i64 k ∧ (Grew w wr ∧ wr.cell? ⟨w.heap.size, 0, none⟩ = some (.int .i64 c) ∧ wr.cell? ⟨w.heap.size, 1, none⟩ = some (.int .u64 S)) ∧
      Hid (∀ j, j < k → b / q c (j + 1) ≠ a / q c (j + 1))) (fun i _ => 4 - (intOf i).toNat)
  case atStart => exact ⟨0, by omega, rfl, ⟨(Grew.refl _).alloc _ _, by simp [go_sem], by simp [go_sem]⟩, Lib.hid (fun j hj => by omega)⟩
  case round =>
    obtain ⟨k, hk, rfl, hh, HJ⟩ := hrel
    by_cases hlt : k < 4
    · have K1 := Lib.hid (KB.out k hlt)
      have K2 := Lib.hid (KA.out k hlt)
      have hk4 : (k : Int) < 4 := by omega
      have HH := Lib.hid hh
      obtain ⟨_, hc0, hc1⟩ := hh
      by_cases he : b / q c (k + 1) = a / q c (k + 1)
      · have E := Lib.hid (HF.out k (by omega) HJ.out he)
        rw [← he] at K2
        generalize b / q c (k + 1) = u at *
        clear he HF HN HJ KA KB
        go_wp2
        go_region_held3 (fun w' => Grew w w' ∧ w'.cell? ⟨w.heap.size, 0, none⟩ = some (.int .i64 c) ∧ w'.cell? ⟨w.heap.size, 1, none⟩ = some (.int .u64 S))
          (first | exact ⟨HH.out.1.drew, HH.out.2⟩ | exact held2 hg1 ‹_›)
          (first
            | (go_at_call 99; (with_reducible refine (K1.out _).mono ?_); rintro e w1 ⟨rfl, hg1⟩)
            | (go_at_call 99; (with_reducible refine (K2.out _).mono ?_); rintro e w1 ⟨rfl, hg1⟩))
        rename_i hheld
        go_wp2
        go_ret
        exact ⟨ret_int E.out.symm, hheld.1⟩
      · have E : Hid (∀ j, j < k + 1 → b / q c (j + 1) ≠ a / q c (j + 1)) := Lib.hid (fun j hj => by
          by_cases e : j = k
          · subst e; exact he
          · exact HJ.out j (by omega))
        generalize b / q c (k + 1) = u at *
        generalize a / q c (k + 1) = u' at *
        clear HF HN HJ KA KB
        go_wp2
        go_region_held3 (fun w' => Grew w w' ∧ w'.cell? ⟨w.heap.size, 0, none⟩ = some (.int .i64 c) ∧ w'.cell? ⟨w.heap.size, 1, none⟩ = some (.int .u64 S))
          (first | exact ⟨HH.out.1.drew, HH.out.2⟩ | exact held2 hg1 ‹_›)
          (first
            | (go_at_call 99; (with_reducible refine (K1.out _).mono ?_); rintro e w1 ⟨rfl, hg1⟩)
            | (go_at_call 99; (with_reducible refine (K2.out _).mono ?_); rintro e w1 ⟨rfl, hg1⟩))
        rename_i hheld
        have H2 := Lib.hid hheld
        clear hheld
        go_wp2
        go_roundw
        case rel => exact ⟨k + 1, by omega, by go_num, H2.out, E⟩
        case measure => simp [intOf]; omega
    · obtain rfl : k = 4 := by omega
      have E := Lib.hid (HN.out HJ.out)
      clear HF HN HJ KA KB
      go_wp2
      go_ret
      exact ⟨ret_int E.out.symm, hh.1⟩
theorem level_any (c : Nat) (b a : Int) (c1 : c ≤ 6) (b0 : 0 ≤ b) (b1 : b < 18446744073709551616) (a0 : 0 ≤ a) (a1 : a < 18446744073709551616) (w : World) :
    Calls Tryz.prog 64 #[.agg #[.int .i64 c, .int .u64 (q c 1)], .int .u64 b, .int .u64 a] w fun e w' => e = .returned (.int .i64 (lv c b a)) ∧ Grew w w' := by
  by_cases h : a ≤ b
  · exact level_none c b a h w
  · exact level_some c b a c1 b0 b1 a0 a1 (by omega) w

/-! The calls of the chapter; c is the number of bits, brought within 1 and 6. -/
theorem dLevel (b a z : Int) (b0 : 0 ≤ b) (b1 : b < 18446744073709551616) (a0 : 0 ≤ a) (a1 : a < 18446744073709551616) (c : Nat) (hc : wi z 1 6 = c) (w : World) :
    Calls Tryz.prog 35 #[.int .u64 b, .int .u64 a, .int .i64 z] w fun e w' => e = .returned (.int .i64 (lv c b a)) ∧ Grew w w' := by
  have K1 := Lib.hid (wheel_any z c hc)
  have c1 : c ≤ 6 := by unfold wi at hc; omega
  have K2 := Lib.hid (level_any c b a c1 b0 b1 a0 a1)
  clear hc b0 b1 a0 a1
  go_enter Tryz.func35, Tryz.ntmps35
  go_wp2_with fail
  with_reducible refine (K1.out _).mono ?_
  rintro e w1 ⟨rfl, g1⟩
  go_wp2_with fail
  with_reducible refine (K2.out _).mono ?_
  rintro e w2 ⟨rfl, g2⟩
  go_wp2
  go_ret
  exact ⟨rfl, g1.trans g2⟩
theorem slot_out (b a z : Int) (b0 : 0 ≤ b) (b1 : b < 18446744073709551616) (a0 : 0 ≤ a) (a1 : a < 18446744073709551616) (c : Nat) (hc : wi z 1 6 = c) (h : lv c b a < 0 ∨ 3 < lv c b a) (w : World) :
    Calls Tryz.prog 36 #[.int .u64 b, .int .u64 a, .int .i64 z] w fun e w' => e = .returned (.int .i64 0) ∧ Grew w w' := by
  have K1 := Lib.hid (wheel_any z c hc)
  have c1 : c ≤ 6 := by unfold wi at hc; omega
  have K2 := Lib.hid (level_any c b a c1 b0 b1 a0 a1)
  clear hc b0 b1 a0 a1
  generalize lv c b a = v at *
  by_cases h0 : v < 0
  · go_enter Tryz.func36, Tryz.ntmps36
    go_wp2_with fail
    with_reducible refine (K1.out _).mono ?_
    rintro e w1 ⟨rfl, g1⟩
    go_wp2_with fail
    with_reducible refine (K2.out _).mono ?_
    rintro e w2 ⟨rfl, g2⟩
    go_wp2
    go_ret
    exact ⟨rfl, (g1.alloc _ _).trans g2⟩
  · have h3 : 3 < v := by omega
    clear h
    go_enter Tryz.func36, Tryz.ntmps36
    go_wp2_with fail
    with_reducible refine (K1.out _).mono ?_
    rintro e w1 ⟨rfl, g1⟩
    go_wp2_with fail
    with_reducible refine (K2.out _).mono ?_
    rintro e w2 ⟨rfl, g2⟩
    go_wp2
    go_ret
    exact ⟨rfl, (g1.alloc _ _).trans g2⟩
theorem slot_at (b a z : Int) (b0 : 0 ≤ b) (b1 : b < 18446744073709551616) (a0 : 0 ≤ a) (a1 : a < 18446744073709551616) (c l : Nat) (hc : wi z 1 6 = c) (hl : l ≤ 3) (h : lv c b a = l) (w : World) :
    Calls Tryz.prog 36 #[.int .u64 b, .int .u64 a, .int .i64 z] w fun e w' => e = .returned (.int .i64 (dg c a l)) ∧ Grew w w' := by
  have K1 := Lib.hid (wheel_any z c hc)
  have c1 : c ≤ 6 := by unfold wi at hc; omega
  have K := level_any c b a c1 b0 b1 a0 a1
  rw [h] at K
  have K2 := Lib.hid K
  have K3 := Lib.hid (digit_any c a l c1 a0 a1 l (wi_own l (by omega)))
  have l0 : ¬ (l : Int) < 0 := by omega
  have l3 : ¬ 3 < (l : Int) := by omega
  clear hc b0 b1 a0 a1 K h
  generalize q c 1 = S at *
  go_enter Tryz.func36, Tryz.ntmps36
  go_wp2_with fail
  with_reducible refine (K1.out _).mono ?_
  rintro e w1 ⟨rfl, g1⟩
  go_wp2_with fail
  with_reducible refine (K2.out _).mono ?_
  rintro e w2 ⟨rfl, g2⟩
  have x0 : w2.cell? ⟨w1.heap.size, 0, none⟩ = some (.int .i64 c) := g2.cell (by simp [go_sem])
  have x1 : w2.cell? ⟨w1.heap.size, 1, none⟩ = some (.int .u64 S) := g2.cell (by simp [go_sem])
  go_wp2_with fail
  with_reducible refine (K3.out _).mono ?_
  rintro e w3 ⟨rfl, g3⟩
  go_wp2
  go_ret
  exact ⟨rfl, ((g1.alloc _ _).trans g2).trans g3⟩
theorem dSlot (b a z : Int) (b0 : 0 ≤ b) (b1 : b < 18446744073709551616) (a0 : 0 ≤ a) (a1 : a < 18446744073709551616) (c : Nat) (hc : wi z 1 6 = c) (w : World) :
    Calls Tryz.prog 36 #[.int .u64 b, .int .u64 a, .int .i64 z] w fun e w' => e = .returned (.int .i64 (sv c b a)) ∧ Grew w w' := by
  by_cases h : lv c b a < 0 ∨ 3 < lv c b a
  · have e : sv c b a = 0 := by unfold sv; rw [if_pos h]
    rw [e]
    exact slot_out b a z b0 b1 a0 a1 c hc h w
  · have e := sv_at c b a (lv c b a).toNat (by omega) (by omega)
    rw [e]
    exact slot_at b a z b0 b1 a0 a1 c _ hc (by omega) (by omega) w
end Go.Proofs.YtdoceldofkaapaaGreatDoor.D3
namespace Go.Proofs.YtdoceldofkaapaaGreatDoor.D3
open Go.RowKit

theorem wi_in (x a b : Int) (h : a ≤ b) : a ≤ wi x a b ∧ wi x a b ≤ b := by unfold wi; omega
/-- The sums on the way to a slot's beginning. -/
theorem begin_sums (c : Nat) (hc : c ≤ 6) (b : Int) (h0 : 0 ≤ b) (h1 : b < 18446744073709551616) (l : Nat) (hl : l ≤ 3) (s : Int) (s0 : 0 ≤ s) (s1 : s ≤ q c 1 - 1) :
    IntKind.u64.wrap (b / q c (l + 1) * q c 1) = b / q c (l + 1) * q c 1 ∧ IntKind.u64.wrap (b / q c (l + 1) * q c 1 + s) = b / q c (l + 1) * q c 1 + s ∧
    IntKind.u64.wrap ((b / q c (l + 1) * q c 1 + s) * q c l) = bg c b l s := by
  obtain ⟨g0, _, g2, _, g4⟩ := bg_in c hc b h0 h1 l hl s s0 s1
  have e := bg_other c b l s
  have r0 := q_pos c l
  have s2 := q_pos c 1
  have m0 : 0 ≤ b / q c (l + 1) * q c 1 := Int.mul_nonneg g0 (by omega)
  have m1 : (b / q c (l + 1) * q c 1 + s) * 1 ≤ (b / q c (l + 1) * q c 1 + s) * q c l := Int.mul_le_mul_of_nonneg_left r0 (by omega)
  rw [Int.mul_one] at m1
  refine ⟨u64_in _ m0 (by omega), u64_in _ (by omega) (by omega), ?_⟩
  rw [e]
  exact u64_in _ (by omega) g4
theorem dBegin (b x s z : Int) (b0 : 0 ≤ b) (b1 : b < 18446744073709551616) (c l : Nat) (hc : wi z 1 6 = c) (hl : wi x 0 3 = l) (w : World) :
    Calls Tryz.prog 106 #[.int .u64 b, .int .i64 x, .int .i64 s, .int .i64 z] w fun e w' => e = .returned (.int .u64 (bg c b l (wi s 0 (q c 1 - 1)))) ∧ Grew w w' := by
  have K1 := Lib.hid (wheel_any z c hc)
  have c1 : c ≤ 6 := by unfold wi at hc; omega
  have l3 : l ≤ 3 := by unfold wi at hl; omega
  have q1 := q_pos c 1
  have q2 := q_one c c1
  have e1 := i64_in (q c 1) (by omega) (by omega)
  have e2 := i64_in (q c 1 - 1) (by omega) (by omega)
  have hw := wi_in s 0 (q c 1 - 1) (by omega)
  have K2 := Lib.hid (within_any s 0 (q c 1 - 1))
  have K3 := Lib.hid (above_any c b x c1 b0 b1 l hl)
  have K0 := reach_any c (q c 1) x c1
  rw [hl, Int.toNat_natCast] at K0
  have K4 := Lib.hid K0
  obtain ⟨f1, f2, f3⟩ := begin_sums c c1 b b0 b1 l l3 _ hw.1 hw.2
  have f0 := u64_in _ hw.1 (by omega)
  clear K0 hc hl hw q1 b0 b1 l3
  generalize bg c b l (wi s 0 (q c 1 - 1)) = v at *
  generalize wi s 0 (q c 1 - 1) = s' at *
  generalize b / q c (l + 1) = u at *
  generalize hS : q c 1 = S at *
  have q3 : (0 : Int) ≤ S := by have := q_pos c 1; omega
  clear hS
  generalize q c l = R at *
  generalize hm : u * S = m at *
  generalize hn : m + s' = n at *
  go_enter Tryz.func106, Tryz.ntmps106
  go_wp2_with fail
  with_reducible refine (K1.out _).mono ?_
  rintro e w1 ⟨rfl, g1⟩
  go_wp2_with fail
  with_reducible refine (K2.out _).mono ?_
  rintro e w' ⟨rfl, rfl⟩
  have G := Lib.hid (g1.alloc #[.int .i64 c, .int .u64 S] 116)
  clear g1
  go_wp2
  go_region_held3 (fun w' => Grew w w' ∧ w'.cell? ⟨w1.heap.size, 0, none⟩ = some (.int .i64 c) ∧ w'.cell? ⟨w1.heap.size, 1, none⟩ = some (.int .u64 S))
    (first | exact ⟨G.out.drew, by simp [go_sem], by simp [go_sem]⟩ | exact held2 hg1 ‹_›)
    (first
      | (go_at_call 99; (with_reducible refine (K3.out _).mono ?_); rintro e w2 ⟨rfl, hg1⟩)
      | (go_at_call 100; (with_reducible refine (K4.out _).mono ?_); rintro e w3 ⟨rfl, hg1⟩))
  rename_i hheld
  go_wp2
  go_ret
  exact ⟨rfl, hheld.1⟩
theorem dHorizon (b z : Int) (b0 : 0 ≤ b) (b1 : b < 18446744073709551616) (c : Nat) (hc : wi z 1 6 = c) (w : World) :
    Calls Tryz.prog 107 #[.int .u64 b, .int .i64 z] w fun e w' => e = .returned (.int .u64 (hz c b)) ∧ Grew w w' := by
  have K1 := Lib.hid (wheel_any z c hc)
  have c1 : c ≤ 6 := by unfold wi at hc; omega
  have K2 := Lib.hid (reach_any c (q c 1) 3 c1)
  have e0 : q c (wi 3 0 3).toNat = q c 3 := rfl
  rw [e0] at K2
  have q4 := q_pos c 4
  have q5 := q_le c 4 c1 (by omega)
  have e1 : IntKind.u64.wrap (q c 3 * q c 1) = q c 4 := by rw [show q c 3 * q c 1 = q c 4 from (q_succ c 3).symm]; exact u64_in _ (by omega) (by omega)
  have e2 := u64_in (q c 4 - 1) (by omega) (by omega)
  have e3 := or_q c c1 b b0 b1
  clear hc e0 b0 b1 q4 q5
  generalize hz c b = v at *
  generalize q c 4 = T at *
  generalize q c 3 = R at *
  generalize q c 1 = S at *
  go_enter Tryz.func107, Tryz.ntmps107
  go_wp2_with fail
  with_reducible refine (K1.out _).mono ?_
  rintro e w1 ⟨rfl, g1⟩
  have G := Lib.hid (g1.alloc #[.int .i64 c, .int .u64 S] 116)
  clear g1
  go_wp2
  go_region_held3 (fun w' => Grew w w' ∧ w'.cell? ⟨w1.heap.size, 0, none⟩ = some (.int .i64 c) ∧ w'.cell? ⟨w1.heap.size, 1, none⟩ = some (.int .u64 S))
    (first | exact ⟨G.out.drew, by simp [go_sem], by simp [go_sem]⟩ | exact held2 hg1 ‹_›)
    (first
      | (go_at_call 100; (with_reducible refine (K2.out _).mono ?_); rintro e w2 ⟨rfl, hg1⟩))
  rename_i hheld
  go_wp2
  go_ret
  exact ⟨rfl, hheld.1⟩
end Go.Proofs.YtdoceldofkaapaaGreatDoor.D3
namespace Go.Proofs.YtdoceldofkaapaaGreatDoor
open Go.RowKit
/-- Its own cells: where its timers lie; of each level the list of its slot 0, and which slots have something; bits, base, cascades. -/
def rcells (Z b : Nat) (f : Nat → Int) (F : Nat → Nat → Nat) (s k : Int) : List Value :=
  [.pointer (some ⟨Z, 0, none⟩),
   .int .i64 (f 0), .int .u64 (F 0 0), .int .u64 (F 0 1), .int .u64 (F 0 2), .int .u64 (F 0 3),
   .int .i64 (f 1), .int .u64 (F 1 0), .int .u64 (F 1 1), .int .u64 (F 1 2), .int .u64 (F 1 3),
   .int .i64 (f 2), .int .u64 (F 2 0), .int .u64 (F 2 1), .int .u64 (F 2 2), .int .u64 (F 2 3),
   .int .i64 (f 3), .int .u64 (F 3 0), .int .u64 (F 3 1), .int .u64 (F 3 2), .int .u64 (F 3 3),
   .int .i64 b, .int .u64 s, .int .i64 k]
/-- The list of a level's slot 0. -/
def fst4 (b m : Nat) : Int := ((2 + m * 2 ^ b : Nat) : Int)
/-- In the bits are just those slots that have something. -/
structure Fh (b : Nat) (ls : Ls) (F : Nat → Nat → Nat) : Prop where
  wd : ∀ m, m ≤ 3 → Bm.Wd (F m)
  on : ∀ m, m ≤ 3 → ∀ i, Bm.tb (F m) i = true ↔ i < 2 ^ b ∧ ls (2 + m * 2 ^ b + i) ≠ []
theorem pow_le {b : Nat} (h : b ≤ 6) : 1 ≤ 2 ^ b ∧ 2 ^ b ≤ 64 := by
  have h1 : 2 ^ b ≤ 2 ^ 6 := Nat.pow_le_pow_right (by decide) h
  have h2 : 0 < 2 ^ b := Nat.pow_pos (by decide)
  omega
theorem tb_dp (B : Nat → Nat) (i j : Nat) : Bm.tb (Bm.dp B i) j = (Bm.tb B j && !decide (i = j)) := by
  unfold Bm.tb Bm.dp
  by_cases h : j / 64 = i / 64
  · rw [if_pos h, Nat.testBit_and, Bm.bit_mask (Nat.mod_lt _ (by decide)), decide_eq_true (Nat.mod_lt j (by decide)), Bool.true_and]
    congr 2
    rw [decide_eq_decide]
    omega
  · rw [if_neg h]
    have : ¬ i = j := fun e => h (by rw [e])
    simp [this]
/-- What the bits are where a level's slot was looked at. -/
def mkF (F : Nat → Nat → Nat) (m i : Nat) (xs : List Nat) : Nat → Nat → Nat := fun n => if n = m then (if xs = [] then Bm.dp (F m) i else Bm.pt (F m) i) else F n
theorem Fh.mark {b : Nat} {ls ls' : Ls} {F : Nat → Nat → Nat} (h : Fh b ls F) (hb : b ≤ 6) {m i : Nat} (hm : m ≤ 3) (hi : i < 2 ^ b) (ho : ∀ u, u ≠ 2 + m * 2 ^ b + i → ls' u = ls u) : Fh b ls' (mkF F m i (ls' (2 + m * 2 ^ b + i))) := by
  refine ⟨fun n hn => ?_, fun n hn j => ?_⟩
  · unfold mkF
    by_cases e : n = m
    · rw [if_pos e]
      split
      · exact Bm.dp_wd (h.wd m hm) i
      · exact Bm.pt_wd (h.wd m hm) i
    · rw [if_neg e]; exact h.wd n hn
  · unfold mkF
    by_cases e : n = m
    · subst e
      rw [if_pos rfl]
      have hj := h.on n hn j
      by_cases hij : i = j
      · subst hij
        split
        · rename_i e2
          rw [tb_dp]
          simp [e2]
        · rename_i e2
          rw [Bm.tb_pt]
          simp [e2, hi]
      · have h2 : ls' (2 + n * 2 ^ b + j) = ls (2 + n * 2 ^ b + j) := ho _ (by omega)
        rw [h2]
        split
        · rw [tb_dp]
          simp [hij, hj]
        · rw [Bm.tb_pt]
          simp [hij, hj]
    · rw [if_neg e]
      have hj := h.on n hn j
      by_cases hjb : j < 2 ^ b
      · have h2 : ls' (2 + n * 2 ^ b + j) = ls (2 + n * 2 ^ b + j) := ho _ (fun e2 => e (code_inj (S := 2 ^ b) hjb hi (by omega)).1)
        rw [h2]; exact hj
      · rw [hj]
        constructor
        · rintro ⟨h1, _⟩; exact absurd h1 hjb
        · rintro ⟨h1, _⟩; exact absurd h1 hjb
theorem Fh.same {b : Nat} {ls ls' : Ls} {F : Nat → Nat → Nat} (h : Fh b ls F) (ho : ∀ u, 2 ≤ u → ls' u = ls u) : Fh b ls' F :=
  ⟨h.wd, fun m hm i => by rw [h.on m hm i, ho _ (by omega)]⟩
/-- A wheel in memory is the list l. -/
structure Wr (w : World) (Q Z B G R P b : Nat) (s k : Int) (l : List T) : Prop where
  ex : ∃ ls r F, Qw w Q Z B G R P (2 + 4 * 2 ^ b) (lw b s) ls r 78 (rcells Z b (fst4 b) F s k) l ∧ Fh b ls F ∧ So ((ls 1).map r)
  re : Rest w Q Z B G R b s l
section
variable {w w' : World} {Q Z B G R P b : Nat} {s k : Int} {l : List T}
theorem Wr.off {f : Nat → Prop} (q : Wr w Q Z B G R P b s k l) (o : Off f w w') (hf : ∀ i, Fo5 Q Z B G R i → ¬ f i) (h0 : ¬ f 0) : Wr w' Q Z B G R P b s k l := by
  obtain ⟨⟨ls, r, F, h1, h2⟩, h3⟩ := q
  exact ⟨⟨ls, r, F, h1.off o (hf _ (.inl rfl)) (hf _ (.inr (.inl rfl))) (hf _ (.inr (.inr (.inl rfl)))) (hf _ (.inr (.inr (.inr (.inl rfl))))) (hf _ (.inr (.inr (.inr (.inr rfl))))), h2⟩, h3.off o h0⟩
theorem Wr.bel (q : Wr w Q Z B G R P b s k l) (o : Bel w w') : Wr w' Q Z B G R P b s k l := q.off o (fun _ _ e => e) (fun e => e)
theorem Wr.lt (q : Wr w Q Z B G R P b s k l) : Q < w.heap.size ∧ Z < w.heap.size ∧ B < w.heap.size ∧ G < w.heap.size ∧ R < w.heap.size := by
  obtain ⟨⟨ls, r, F, q1, q2⟩, q3⟩ := q
  exact q1.lt
end
end Go.Proofs.YtdoceldofkaapaaGreatDoor
namespace Go.Proofs.YtdoceldofkaapaaGreatDoor
open Go.RowKit
theorem level_at (s a : Int) (b : Nat) (hs : Tk s) (ha : Tk a) (hb : 1 ≤ b ∧ b ≤ 6) (w : World) : Calls Tryz.prog 35 #[.int .u64 s, .int .u64 a, .int .i64 b] w fun e w' => e = .returned (.int .i64 (lv b s a)) ∧ Bel w w' := by
  obtain ⟨h1, h2⟩ := hs
  obtain ⟨h3, h4⟩ := ha
  exact (D3.dLevel s a b h1 (by omega) h3 (by omega) b (by unfold wi; omega) w).mono fun e w' h => ⟨h.1, bel_of h.2.2⟩
theorem slot_at (s a : Int) (b : Nat) (hs : Tk s) (ha : Tk a) (hb : 1 ≤ b ∧ b ≤ 6) (w : World) : Calls Tryz.prog 36 #[.int .u64 s, .int .u64 a, .int .i64 b] w fun e w' => e = .returned (.int .i64 (sv b s a)) ∧ Bel w w' := by
  obtain ⟨h1, h2⟩ := hs
  obtain ⟨h3, h4⟩ := ha
  exact (D3.dSlot s a b h1 (by omega) h3 (by omega) b (by unfold wi; omega) w).mono fun e w' h => ⟨h.1, bel_of h.2.2⟩
/-- A spot, as a value. -/
abbrev spV (v u : Int) : Value := .agg #[.int .i64 v, .int .i64 u]
set_option maxHeartbeats 2000000 in
theorem spot_at (Q b : Nat) (s : Int) (x : T) (w : World) (hs : Tk s) (hx : Tk x.a) (hb : 1 ≤ b ∧ b ≤ 6) (c21 : w.cell? ⟨Q, 21, none⟩ = some (.int .i64 b)) (c22 : w.cell? ⟨Q, 22, none⟩ = some (.int .u64 s)) :
    Calls Tryz.prog 59 #[.pointer (some ⟨Q, 0, none⟩), .agg #[.int .u64 x.a, .int .u64 x.s, .int .i64 x.p]] w fun e w' => e = .returned (spV (lv b s x.a) (sv b s x.a)) ∧ Bel w w' := by
  have K1 := Lib.hid (fun w' => level_at s x.a b hs hx hb w')
  have K2 := Lib.hid (fun w' => slot_at s x.a b hs hx hb w')
  have lQ := World.block_lt_of_cell? w _ c21
  simp only at lQ
  have HB1 : Hid (Bel w ((w.alloc (.cells #[.int .u64 x.a, .int .u64 x.s, .int .i64 x.p] 37)).alloc (.cells #[.int .i64 0, .int .i64 0] 109)).drew) := Lib.hid (((Bel.refl _).alloc _ _).alloc _ _).drew
  have HN : Hid (((w.alloc (.cells #[.int .u64 x.a, .int .u64 x.s, .int .i64 x.p] 37)).alloc (.cells #[.int .i64 0, .int .i64 0] 109)).drew.heap[w.heap.size]? = some (.cells #[.int .u64 x.a, .int .u64 x.s, .int .i64 x.p] 37 (0, 0))) := Lib.hid (by
    show ((w.alloc (.cells #[.int .u64 x.a, .int .u64 x.s, .int .i64 x.p] 37)).alloc (.cells #[.int .i64 0, .int .i64 0] 109)).heap[w.heap.size]? = _
    rw [Below.heap_alloc _ _ _ (by simp), heap_alloc_new])
  have HM : Hid (((w.alloc (.cells #[.int .u64 x.a, .int .u64 x.s, .int .i64 x.p] 37)).alloc (.cells #[.int .i64 0, .int .i64 0] 109)).drew.heap[w.heap.size + 1]? = some (.cells #[.int .i64 0, .int .i64 0] 109 (0, 0))) := Lib.hid (by
    have := heap_alloc_new (w.alloc (.cells #[.int .u64 x.a, .int .u64 x.s, .int .i64 x.p] 37)) (.cells #[.int .i64 0, .int .i64 0] 109)
    rw [World.size_alloc] at this; exact this)
  have HX : Hid (∀ w', Off (fun k => k = w.heap.size + 1) ((w.alloc (.cells #[.int .u64 x.a, .int .u64 x.s, .int .i64 x.p] 37)).alloc (.cells #[.int .i64 0, .int .i64 0] 109)).drew w' → (w'.cell? ⟨Q, 21, none⟩ = some (.int .i64 b) ∧ w'.cell? ⟨Q, 22, none⟩ = some (.int .u64 s)) ∧ w'.cell? ⟨w.heap.size, 0, none⟩ = some (.int .u64 x.a)) :=
    Lib.hid (fun w' hb => ⟨⟨((HB1.out.off _).then hb).cell (p := ⟨Q, 21, none⟩) (by simp; omega) c21, ((HB1.out.off _).then hb).cell (p := ⟨Q, 22, none⟩) (by simp; omega) c22⟩, (box3 ((hb.block _ (by have := HN.out; exact (Array.getElem?_eq_some_iff.1 this).1) (by omega)).trans HN.out)).1.1⟩)
  have HZ : Hid (∀ w', Bel ((w.alloc (.cells #[.int .u64 x.a, .int .u64 x.s, .int .i64 x.p] 37)).alloc (.cells #[.int .i64 0, .int .i64 0] 109)).drew w' → (w'.cell? ⟨w.heap.size + 1, 0, none⟩ = some (.int .i64 0) ∧ w'.cell? ⟨w.heap.size + 1, 1, none⟩ = some (.int .i64 0)) ∧ w'.frozen? ⟨w.heap.size + 1, 0, none⟩ = false ∧ w'.frozen? ⟨w.heap.size + 1, 1, none⟩ = false) := Lib.hid (fun w' hb => box2 (hb.heap HM.out))
  generalize lv b s x.a = v at *
  generalize sv b s x.a = u at *
  clear hs hx hb
  go_enter Tryz.func59, Tryz.ntmps59
  go_wp2
  go_region_held3 (fun w' => (w'.cell? ⟨Q, 21, none⟩ = some (.int .i64 b) ∧ w'.cell? ⟨Q, 22, none⟩ = some (.int .u64 s)) ∧ w'.cell? ⟨w.heap.size, 0, none⟩ = some (.int .u64 x.a))
    (first | (with_reducible exact HX.out _ (Off.refl _ _)) | (with_reducible exact HX.out _ (hb1.off _)) | (with_reducible exact HX.out _ (hb2.off _)) | (with_reducible exact HX.out _ ((hb1.trans hb2).off _)) | (with_reducible exact HX.out _ ((hb2.trans hb1).off _)) | exact HX.out _ (((hb1.trans hb2).off _).then (off2 _ _ _ _)) | exact HX.out _ (((hb2.trans hb1).off _).then (off2 _ _ _ _)))
    (first
      | (go_at_call 35; (with_reducible refine (K1.out _).mono ?_); rintro e w1 ⟨rfl, hb1⟩; obtain ⟨⟨z0, z1⟩, z2, z3⟩ := HZ.out w1 (by first | exact hb1 | exact hb2.trans hb1))
      | (go_at_call 36; (with_reducible refine (K2.out _).mono ?_); rintro e w2 ⟨rfl, hb2⟩; obtain ⟨⟨y0, y1⟩, y2, y3⟩ := HZ.out w2 (by first | exact hb2 | exact hb1.trans hb2)))
  all_goals
    have HE : Hid (Bel w w2) := Lib.hid (HB1.out.trans (by first | exact hb1.trans hb2 | exact hb2.trans hb1))
    go_wp2
    exact bodyPost_ret (v := spV v u) (by simp [results, Tryz.results59, go_sem, y0, y1]) rfl ⟨rfl, (HE.out.setCell (p := ⟨w.heap.size + 1, 0, none⟩) (by simp) _).setCell (p := ⟨w.heap.size + 1, 1, none⟩) (by simp) _⟩
theorem isSlot_any (v u : Int) (w : World) :
    Calls Tryz.prog 102 #[spV v u] w fun e w' => e = .returned (.bool (decide (-1 < v) && decide (v < 4))) ∧ Bel w w' := by
  by_cases h : -1 < v
  · by_cases h2 : v < 4
    · rw [decide_eq_true h, decide_eq_true h2]
      go_enter Tryz.func102, Tryz.ntmps102
      go_wp2
      go_ret
      exact ⟨rfl, (Bel.refl _).alloc _ _⟩
    · rw [decide_eq_true h, decide_eq_false h2]
      go_enter Tryz.func102, Tryz.ntmps102
      go_wp2
      go_ret
      exact ⟨rfl, (Bel.refl _).alloc _ _⟩
  · rw [decide_eq_false h]
    go_enter Tryz.func102, Tryz.ntmps102
    go_wp2
    go_ret
    exact ⟨rfl, (Bel.refl _).alloc _ _⟩
theorem list_out (Q : Nat) (v u : Int) (r : Nat) (h : v = -1 ∧ r = 0 ∨ v = 4 ∧ r = 1) (w : World) :
    Calls Tryz.prog 61 #[.pointer (some ⟨Q, 0, none⟩), spV v u] w fun e w' => e = .returned (.int .i64 r) ∧ Bel w w' := by
  rcases h with ⟨rfl, rfl⟩ | ⟨rfl, rfl⟩
  · go_enter Tryz.func61, Tryz.ntmps61
    go_wp2
    go_ret
    exact ⟨rfl, (Bel.refl _).alloc _ _⟩
  · go_enter Tryz.func61, Tryz.ntmps61
    go_wp2
    go_ret
    exact ⟨rfl, (Bel.refl _).alloc _ _⟩
theorem list_in (Q m : Nat) (u fm r : Int) (hm : m ≤ 3) (w : World) (c1 : w.cell? ⟨Q, 1 + m * 5, none⟩ = some (.int .i64 fm)) (hr : IntKind.i64.wrap (fm + u) = r) :
    Calls Tryz.prog 61 #[.pointer (some ⟨Q, 0, none⟩), spV m u] w fun e w' => e = .returned (.int .i64 r) ∧ Bel w w' := by
  have lQ := World.block_lt_of_cell? w _ c1
  simp only at lQ
  have hcs : m = 0 ∨ m = 1 ∨ m = 2 ∨ m = 3 := by omega
  rcases hcs with rfl | rfl | rfl | rfl
  · simp only [Nat.zero_mul, Nat.add_zero] at c1
    go_enter Tryz.func61, Tryz.ntmps61
    go_wp2
    go_quiet (fail)
    go_wp2
    go_ret
    exact ⟨rfl, ((Bel.refl _).alloc _ _).drewN nq⟩
  · simp only [Nat.reduceMul, Nat.reduceAdd] at c1
    go_enter Tryz.func61, Tryz.ntmps61
    go_wp2
    go_quiet (fail)
    go_wp2
    go_ret
    exact ⟨rfl, ((Bel.refl _).alloc _ _).drewN nq⟩
  · simp only [Nat.reduceMul, Nat.reduceAdd] at c1
    go_enter Tryz.func61, Tryz.ntmps61
    go_wp2
    go_quiet (fail)
    go_wp2
    go_ret
    exact ⟨rfl, ((Bel.refl _).alloc _ _).drewN nq⟩
  · simp only [Nat.reduceMul, Nat.reduceAdd] at c1
    go_enter Tryz.func61, Tryz.ntmps61
    go_wp2
    go_quiet (fail)
    go_wp2
    go_ret
    exact ⟨rfl, ((Bel.refl _).alloc _ _).drewN nq⟩
end Go.Proofs.YtdoceldofkaapaaGreatDoor
