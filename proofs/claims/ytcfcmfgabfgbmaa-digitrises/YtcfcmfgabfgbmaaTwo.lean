/-
  Contracts of a wheel's method level, and of digit.Level, Slot, Begin, Horizon, Reach and Digit.
-/
import Derived.Test.YtcfcmfgabfgbmaaOne
namespace Go.Proofs.Ytcfcmfgabfgbmaa
open Go.RowKit

theorem lv_find (c : Nat) (b a : Int) (h : b < a) (k : Nat) (hk : k ≤ 3) (hn : ∀ j, j < k → b / q c (j + 1) ≠ a / q c (j + 1)) (he : b / q c (k + 1) = a / q c (k + 1)) : lv c b a = k := by
  unfold lv
  rw [if_neg (by omega)]
  obtain rfl | rfl | rfl | rfl : k = 0 ∨ k = 1 ∨ k = 2 ∨ k = 3 := by omega
  · rw [if_pos he]; rfl
  · rw [if_neg (hn 0 (by omega)), if_pos he]; rfl
  · rw [if_neg (hn 0 (by omega)), if_neg (hn 1 (by omega)), if_pos he]; rfl
  · rw [if_neg (hn 0 (by omega)), if_neg (hn 1 (by omega)), if_neg (hn 2 (by omega)), if_pos he]; rfl
theorem lv_none (c : Nat) (b a : Int) (h : b < a) (hn : ∀ j, j < 4 → b / q c (j + 1) ≠ a / q c (j + 1)) : lv c b a = 4 := by
  unfold lv
  rw [if_neg (by omega), if_neg (hn 0 (by omega)), if_neg (hn 1 (by omega)), if_neg (hn 2 (by omega)), if_neg (hn 3 (by omega))]
theorem wi_own (k : Nat) (h : k < 4) : wi k 0 3 = k := by unfold wi; omega

theorem level_none (c : Nat) (b a : Int) (h : a ≤ b) (w : World) :
    Calls Try.prog 23 #[.agg #[.int .i64 c, .int .u64 (q c 1)], .int .u64 b, .int .u64 a] w fun e w' => e = .returned (.int .i64 (lv c b a)) ∧ Grew w w' := by
  have e : lv c b a = -1 := by unfold lv; rw [if_pos h]
  rw [e]
  clear e
  go_enter Try.func23, Try.ntmps23
  go_wp2
  go_ret
  exact ⟨rfl, (Grew.refl _).alloc _ _⟩
theorem level_some (c : Nat) (b a : Int) (c1 : c ≤ 6) (b0 : 0 ≤ b) (b1 : b < 18446744073709551616) (a0 : 0 ≤ a) (a1 : a < 18446744073709551616) (h : b < a) (w : World) :
    Calls Try.prog 23 #[.agg #[.int .i64 c, .int .u64 (q c 1)], .int .u64 b, .int .u64 a] w fun e w' => e = .returned (.int .i64 (lv c b a)) ∧ Grew w w' := by
  have KB := Lib.hid (fun k : Nat => fun hk : k < 4 => above_any c b k c1 b0 b1 k (wi_own k hk))
  have KA := Lib.hid (fun k : Nat => fun hk : k < 4 => above_any c a k c1 a0 a1 k (wi_own k hk))
  have HF := Lib.hid (lv_find c b a h)
  have HN := Lib.hid (lv_none c b a h)
  generalize lv c b a = v at *
  have h' : ¬ a ≤ b := by omega
  clear b0 b1 a0 a1
  generalize q c 1 = S at *
  go_enter Try.func23, Try.ntmps23
  go_wp2
  go_loopw [11] (fun i wr => ∃ k : Nat, k ≤ 4 ∧ i = .int .i64 k ∧ (Grew w wr ∧ wr.cell? ⟨w.heap.size, 0, none⟩ = some (.int .i64 c) ∧ wr.cell? ⟨w.heap.size, 1, none⟩ = some (.int .u64 S)) ∧
      Hid (∀ j, j < k → b / q c (j + 1) ≠ a / q c (j + 1))) (fun i _ => 4 - (intOf i).toNat)
  case atStart => exact ⟨0, by omega, rfl, ⟨(Grew.refl _).alloc _ _, by simp [go_sem], by simp [go_sem]⟩, Lib.hid (fun j hj => by omega)⟩
  case round =>
    obtain ⟨k, hk, rfl, hh, HJ⟩ := hrel
    by_cases hlt : k < 4
    · have K1 := Lib.hid (KB.out k hlt)
      have K2 := Lib.hid (KA.out k hlt)
      have hk4 : (k : Int) < 4 := by omega
      have HH := Lib.hid hh
      obtain ⟨_, hc0, hc1⟩ := hh
      by_cases he : b / q c (k + 1) = a / q c (k + 1)
      · have E := Lib.hid (HF.out k (by omega) HJ.out he)
        rw [← he] at K2
        generalize b / q c (k + 1) = u at *
        clear he HF HN HJ KA KB
        go_wp2
        go_region_held3 (fun w' => Grew w w' ∧ w'.cell? ⟨w.heap.size, 0, none⟩ = some (.int .i64 c) ∧ w'.cell? ⟨w.heap.size, 1, none⟩ = some (.int .u64 S))
          (first | exact ⟨HH.out.1.drew, HH.out.2⟩ | exact held2 hg1 ‹_›)
          (first
            | (go_at_call 28; (with_reducible refine (K1.out _).mono ?_); rintro e w1 ⟨rfl, hg1⟩)
            | (go_at_call 28; (with_reducible refine (K2.out _).mono ?_); rintro e w1 ⟨rfl, hg1⟩))
        rename_i hheld
        go_wp2
        go_ret
        exact ⟨ret_int E.out.symm, hheld.1⟩
      · have E : Hid (∀ j, j < k + 1 → b / q c (j + 1) ≠ a / q c (j + 1)) := Lib.hid (fun j hj => by
          by_cases e : j = k
          · subst e; exact he
          · exact HJ.out j (by omega))
        generalize b / q c (k + 1) = u at *
        generalize a / q c (k + 1) = u' at *
        clear HF HN HJ KA KB
        go_wp2
        go_region_held3 (fun w' => Grew w w' ∧ w'.cell? ⟨w.heap.size, 0, none⟩ = some (.int .i64 c) ∧ w'.cell? ⟨w.heap.size, 1, none⟩ = some (.int .u64 S))
          (first | exact ⟨HH.out.1.drew, HH.out.2⟩ | exact held2 hg1 ‹_›)
          (first
            | (go_at_call 28; (with_reducible refine (K1.out _).mono ?_); rintro e w1 ⟨rfl, hg1⟩)
            | (go_at_call 28; (with_reducible refine (K2.out _).mono ?_); rintro e w1 ⟨rfl, hg1⟩))
        rename_i hheld
        have H2 := Lib.hid hheld
        clear hheld
        go_wp2
        go_roundw
        case rel => exact ⟨k + 1, by omega, by go_num, H2.out, E⟩
        case measure => simp [intOf]; omega
    · obtain rfl : k = 4 := by omega
      have E := Lib.hid (HN.out HJ.out)
      clear HF HN HJ KA KB
      go_wp2
      go_ret
      exact ⟨ret_int E.out.symm, hh.1⟩
theorem level_any (c : Nat) (b a : Int) (c1 : c ≤ 6) (b0 : 0 ≤ b) (b1 : b < 18446744073709551616) (a0 : 0 ≤ a) (a1 : a < 18446744073709551616) (w : World) :
    Calls Try.prog 23 #[.agg #[.int .i64 c, .int .u64 (q c 1)], .int .u64 b, .int .u64 a] w fun e w' => e = .returned (.int .i64 (lv c b a)) ∧ Grew w w' := by
  by_cases h : a ≤ b
  · exact level_none c b a h w
  · exact level_some c b a c1 b0 b1 a0 a1 (by omega) w

/-! The calls of the chapter; c is the number of bits, brought within 1 and 6. -/
theorem dReach (x z : Int) (c l : Nat) (hc : wi z 1 6 = c) (hl : wi x 0 3 = l) (w : World) :
    Calls Try.prog 18 #[.int .i64 x, .int .i64 z] w fun e w' => e = .returned (.int .u64 (q c l)) ∧ Grew w w' := by
  have K1 := Lib.hid (wheel_any z c hc)
  have c1 : c ≤ 6 := by unfold wi at hc; omega
  have K := reach_any c (q c 1) x c1
  rw [hl, Int.toNat_natCast] at K
  have K2 := Lib.hid K
  clear K hc hl
  go_enter Try.func18, Try.ntmps18
  go_wp2_with fail
  with_reducible refine (K1.out _).mono ?_
  rintro e w1 ⟨rfl, g1⟩
  go_wp2_with fail
  with_reducible refine (K2.out _).mono ?_
  rintro e w2 ⟨rfl, g2⟩
  go_wp2
  go_ret
  exact ⟨rfl, g1.trans g2⟩
theorem dDigit (t x z : Int) (t0 : 0 ≤ t) (t1 : t < 18446744073709551616) (c l : Nat) (hc : wi z 1 6 = c) (hl : wi x 0 3 = l) (w : World) :
    Calls Try.prog 20 #[.int .u64 t, .int .i64 x, .int .i64 z] w fun e w' => e = .returned (.int .i64 (dg c t l)) ∧ Grew w w' := by
  have K1 := Lib.hid (wheel_any z c hc)
  have c1 : c ≤ 6 := by unfold wi at hc; omega
  have K2 := Lib.hid (digit_any c t x c1 t0 t1 l hl)
  clear hc hl t0 t1
  go_enter Try.func20, Try.ntmps20
  go_wp2_with fail
  with_reducible refine (K1.out _).mono ?_
  rintro e w1 ⟨rfl, g1⟩
  go_wp2_with fail
  with_reducible refine (K2.out _).mono ?_
  rintro e w2 ⟨rfl, g2⟩
  go_wp2
  go_ret
  exact ⟨rfl, g1.trans g2⟩
theorem dLevel (b a z : Int) (b0 : 0 ≤ b) (b1 : b < 18446744073709551616) (a0 : 0 ≤ a) (a1 : a < 18446744073709551616) (c : Nat) (hc : wi z 1 6 = c) (w : World) :
    Calls Try.prog 10 #[.int .u64 b, .int .u64 a, .int .i64 z] w fun e w' => e = .returned (.int .i64 (lv c b a)) ∧ Grew w w' := by
  have K1 := Lib.hid (wheel_any z c hc)
  have c1 : c ≤ 6 := by unfold wi at hc; omega
  have K2 := Lib.hid (level_any c b a c1 b0 b1 a0 a1)
  clear hc b0 b1 a0 a1
  go_enter Try.func10, Try.ntmps10
  go_wp2_with fail
  with_reducible refine (K1.out _).mono ?_
  rintro e w1 ⟨rfl, g1⟩
  go_wp2_with fail
  with_reducible refine (K2.out _).mono ?_
  rintro e w2 ⟨rfl, g2⟩
  go_wp2
  go_ret
  exact ⟨rfl, g1.trans g2⟩
theorem slot_out (b a z : Int) (b0 : 0 ≤ b) (b1 : b < 18446744073709551616) (a0 : 0 ≤ a) (a1 : a < 18446744073709551616) (c : Nat) (hc : wi z 1 6 = c) (h : lv c b a < 0 ∨ 3 < lv c b a) (w : World) :
    Calls Try.prog 12 #[.int .u64 b, .int .u64 a, .int .i64 z] w fun e w' => e = .returned (.int .i64 0) ∧ Grew w w' := by
  have K1 := Lib.hid (wheel_any z c hc)
  have c1 : c ≤ 6 := by unfold wi at hc; omega
  have K2 := Lib.hid (level_any c b a c1 b0 b1 a0 a1)
  clear hc b0 b1 a0 a1
  generalize lv c b a = v at *
  by_cases h0 : v < 0
  · go_enter Try.func12, Try.ntmps12
    go_wp2_with fail
    with_reducible refine (K1.out _).mono ?_
    rintro e w1 ⟨rfl, g1⟩
    go_wp2_with fail
    with_reducible refine (K2.out _).mono ?_
    rintro e w2 ⟨rfl, g2⟩
    go_wp2
    go_ret
    exact ⟨rfl, (g1.alloc _ _).trans g2⟩
  · have h3 : 3 < v := by omega
    clear h
    go_enter Try.func12, Try.ntmps12
    go_wp2_with fail
    with_reducible refine (K1.out _).mono ?_
    rintro e w1 ⟨rfl, g1⟩
    go_wp2_with fail
    with_reducible refine (K2.out _).mono ?_
    rintro e w2 ⟨rfl, g2⟩
    go_wp2
    go_ret
    exact ⟨rfl, (g1.alloc _ _).trans g2⟩
theorem slot_at (b a z : Int) (b0 : 0 ≤ b) (b1 : b < 18446744073709551616) (a0 : 0 ≤ a) (a1 : a < 18446744073709551616) (c l : Nat) (hc : wi z 1 6 = c) (hl : l ≤ 3) (h : lv c b a = l) (w : World) :
    Calls Try.prog 12 #[.int .u64 b, .int .u64 a, .int .i64 z] w fun e w' => e = .returned (.int .i64 (dg c a l)) ∧ Grew w w' := by
  have K1 := Lib.hid (wheel_any z c hc)
  have c1 : c ≤ 6 := by unfold wi at hc; omega
  have K := level_any c b a c1 b0 b1 a0 a1
  rw [h] at K
  have K2 := Lib.hid K
  have K3 := Lib.hid (digit_any c a l c1 a0 a1 l (wi_own l (by omega)))
  have l0 : ¬ (l : Int) < 0 := by omega
  have l3 : ¬ 3 < (l : Int) := by omega
  clear hc b0 b1 a0 a1 K h
  generalize q c 1 = S at *
  go_enter Try.func12, Try.ntmps12
  go_wp2_with fail
  with_reducible refine (K1.out _).mono ?_
  rintro e w1 ⟨rfl, g1⟩
  go_wp2_with fail
  with_reducible refine (K2.out _).mono ?_
  rintro e w2 ⟨rfl, g2⟩
  have x0 : w2.cell? ⟨w1.heap.size, 0, none⟩ = some (.int .i64 c) := g2.cell (by simp [go_sem])
  have x1 : w2.cell? ⟨w1.heap.size, 1, none⟩ = some (.int .u64 S) := g2.cell (by simp [go_sem])
  go_wp2_with fail
  with_reducible refine (K3.out _).mono ?_
  rintro e w3 ⟨rfl, g3⟩
  go_wp2
  go_ret
  exact ⟨rfl, ((g1.alloc _ _).trans g2).trans g3⟩
theorem dSlot (b a z : Int) (b0 : 0 ≤ b) (b1 : b < 18446744073709551616) (a0 : 0 ≤ a) (a1 : a < 18446744073709551616) (c : Nat) (hc : wi z 1 6 = c) (w : World) :
    Calls Try.prog 12 #[.int .u64 b, .int .u64 a, .int .i64 z] w fun e w' => e = .returned (.int .i64 (sv c b a)) ∧ Grew w w' := by
  by_cases h : lv c b a < 0 ∨ 3 < lv c b a
  · have e : sv c b a = 0 := by unfold sv; rw [if_pos h]
    rw [e]
    exact slot_out b a z b0 b1 a0 a1 c hc h w
  · have e := sv_at c b a (lv c b a).toNat (by omega) (by omega)
    rw [e]
    exact slot_at b a z b0 b1 a0 a1 c _ hc (by omega) (by omega) w
end Go.Proofs.Ytcfcmfgabfgbmaa
