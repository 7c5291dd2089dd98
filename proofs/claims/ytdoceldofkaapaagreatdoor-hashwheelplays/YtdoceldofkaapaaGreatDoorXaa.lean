/-
  Contracts of digit.within, digit.wheelOf, the methods reach, above and digit of a wheel, and of the document's Bits.
  Contracts of the document's power, Reach, Digit, Level, Slot, Begin and Horizon.
  Timers as triples, their order, and lists of them in order: plain mathematics, no program.
-/
import Derived.Test.YtdoceldofkaapaaGreatDoorDg
import Derived.Test.YtdoceldofkaapaaGreatDoorRows
import Derived.WalkKit
import Derived.WalkSpells
import Derived.WalkLawsBesides
import Derived.Lib.Hide
import Derived.RowKit3
import Derived.Deep.RegionHeld3
import Derived.Deep.QuietTactic
import Derived.BigQuiet
import Derived.Below
set_option linter.unusedVariables false
set_option linter.unusedSimpArgs false
namespace Go.Proofs.YtdoceldofkaapaaGreatDoor.D3
open Go.RowKit

/-- The later world is the earlier one with new blocks behind it, and nothing of what was there has turned. -/
def Grew (w w' : World) : Prop := Grown w w' ∧ Below w.heap.size w w'
theorem Grew.refl (w : World) : Grew w w := ⟨Grown.refl w, Below.refl _ w⟩
theorem Grew.alloc {a w : World} (h : Grew a w) (c : Array Value) (t : TypeId) : Grew a (w.alloc (.cells c t)) :=
  ⟨h.1.alloc c t, h.2.alloc h.2.size _⟩
theorem Grew.drew {a w : World} (h : Grew a w) : Grew a w.drew := ⟨h.1, ⟨h.2.os, h.2.tape, h.2.output, h.2.size, h.2.block⟩⟩
theorem Grew.drewN {a w : World} (h : Grew a w) (n : Nat) : Grew a (w.drewN n) := ⟨⟨⟨h.1.1.1, h.1.1.2.1, h.1.1.2.2⟩, h.1.2.1, h.1.2.2⟩, ⟨h.2.os, h.2.tape, h.2.output, h.2.size, h.2.block⟩⟩
theorem Grew.setCell {a w : World} (h : Grew a w) {p : Addr} (hp : a.heap.size ≤ p.block) (v : Value) : Grew a (w.setCell p v) :=
  ⟨h.1.setCell hp v, h.2.setCell hp v⟩
theorem Grew.trans {a b c : World} (h : Grew a b) (k : Grew b c) : Grew a c :=
  ⟨⟨World.keptBut_trans h.1.1 k.1.1, fun x => (k.1.2.1 x).trans (h.1.2.1 x), Nat.le_trans h.1.2.2 k.1.2.2⟩, h.2.trans (k.2.mono h.2.size)⟩
theorem Grew.cell {a b : World} (h : Grew a b) {p : Addr} {v : Value} (hc : a.cell? p = some v) : b.cell? p = some v := cell_later h.2 hc
theorem ret_int {k : IntKind} {a b : Int} (h : a = b) : Ending.returned (.int k a) = .returned (.int k b) := by rw [h]

theorem within_any (x a b : Int) (w : World) : Calls Tryz.prog 98 #[.int .i64 x, .int .i64 a, .int .i64 b] w fun e w' => e = .returned (.int .i64 (wi x a b)) ∧ w = w' := by
  go_enter Tryz.func98, Tryz.ntmps98
  go_wp2
  all_goals (go_ret; exact ⟨ret_int (by unfold wi; omega), rfl⟩)
theorem bits_any (x : Int) (w : World) : Calls Tryz.prog 128 #[.int .i64 x] w fun e w' => e = .returned (.int .i64 (wi x 1 6)) ∧ w = w' := by
  go_enter Tryz.func128, Tryz.ntmps128
  go_wp2
  all_goals (go_ret; exact ⟨ret_int (by unfold wi; omega), rfl⟩)
theorem wrap_q (n : Nat) (z : Int) (h : ((2 ^ n : Nat) : Int) = z) (h0 : n ≤ 18) : IntKind.u64.wrap (2 ^ n) = z := by
  have := Nat.pow_le_pow_right (show 0 < 2 by decide) h0
  simp only [Nat.reducePow] at this
  have e : (2 : Int) ^ n = ((2 ^ n : Nat) : Int) := by simp
  rw [e, IntKind.wrap_u64]
  generalize 2 ^ n = m at *
  omega
theorem reach_any (c : Nat) (S x : Int) (c1 : c ≤ 6) (w : World) :
    Calls Tryz.prog 100 #[.agg #[.int .i64 c, .int .u64 S], .int .i64 x] w fun e w' => e = .returned (.int .u64 (q c (wi x 0 3).toNat)) ∧ Grew w w' := by
  have K := Lib.hid (within_any x 0 3)
  have h0 : 0 ≤ wi x 0 3 := by unfold wi; omega
  have h1 : wi x 0 3 ≤ 3 := by unfold wi; omega
  obtain ⟨l, hl⟩ : ∃ l : Nat, wi x 0 3 = l := ⟨(wi x 0 3).toNat, by omega⟩
  rw [hl] at h1 K ⊢
  rw [Int.toNat_natCast]
  have h18 : c * l ≤ 18 := Nat.mul_le_mul c1 (show l ≤ 3 by omega)
  have hq : ((2 ^ (c * l) : Nat) : Int) = q c l := rfl
  obtain ⟨n, hn⟩ : ∃ n : Nat, c * l = n := ⟨_, rfl⟩
  rw [hn] at h18 hq
  have hm : IntKind.i64.wrap ((c : Int) * (l : Int)) = (n : Int) := by
    rw [← Int.natCast_mul, hn, IntKind.wrap_i64]
    omega
  have hs := wrap_q n _ hq h18
  have g : (n : Int) ≤ 18 := by omega
  clear hn hq h18 hl h0
  go_enter Tryz.func100, Tryz.ntmps100
  go_wp2
  go_quiet ((go_at_call 98; exact Calls.quiet_of_same ((K.out _).mono (fun _ _ h => ⟨h.1, h.2.symm⟩))))
  go_wp2
  go_ret
  exact ⟨rfl, ((Grew.refl _).alloc _ _).drewN _⟩
theorem wheel_any (x : Int) (c : Nat) (hc : wi x 1 6 = c) (w : World) :
    Calls Tryz.prog 63 #[.int .i64 x] w fun e w' => e = .returned (.agg #[.int .i64 c, .int .u64 (q c 1)]) ∧ Grew w w' := by
  have K := Lib.hid (within_any x 1 6)
  have h0 : 1 ≤ wi x 1 6 := by unfold wi; omega
  have h1 : wi x 1 6 ≤ 6 := by unfold wi; omega
  rw [hc] at h0 h1 K
  have hs := wrap_q c (q c 1) (by rw [q_nat, Nat.mul_one]) (by omega)
  clear hc
  go_enter Tryz.func63, Tryz.ntmps63
  go_wp2_with fail
  with_reducible refine (K.out _).mono ?_
  rintro e w' ⟨rfl, rfl⟩
  go_wp2
  refine bodyPost_ret (v := .agg #[.int .i64 c, .int .u64 (q c 1)]) (by simp [results, Tryz.results63, go_sem]) rfl ⟨rfl, (Grew.refl _).alloc _ _⟩
theorem held2 {w w1 w2 : World} {b : Nat} {x y : Value} (k : Grew w1 w2) (h : Grew w w1 ∧ w1.cell? ⟨b, 0, none⟩ = some x ∧ w1.cell? ⟨b, 1, none⟩ = some y) :
    Grew w w2 ∧ w2.cell? ⟨b, 0, none⟩ = some x ∧ w2.cell? ⟨b, 1, none⟩ = some y := ⟨h.1.trans k, k.cell h.2.1, k.cell h.2.2⟩
theorem udiv (t r : Int) (t0 : 0 ≤ t) (t1 : t < 18446744073709551616) (h : 1 ≤ r) : IntKind.u64.wrap (t.tdiv r) = t / r := by
  rw [Int.tdiv_eq_ediv_of_nonneg t0, IntKind.wrap_u64]
  have h1 := Int.ediv_nonneg t0 (b := r) (by omega)
  have h2 := Int.ediv_le_self r t0
  omega
theorem div_in (t r : Int) (t0 : 0 ≤ t) (t1 : t < 18446744073709551616) (h : 1 ≤ r) : 0 ≤ t / r ∧ t / r < 18446744073709551616 := by
  have h1 := Int.ediv_nonneg t0 (b := r) (by omega)
  have h2 := Int.ediv_le_self r t0
  omega
theorem above_any (c : Nat) (t x : Int) (c1 : c ≤ 6) (t0 : 0 ≤ t) (t1 : t < 18446744073709551616) (l : Nat) (hl : wi x 0 3 = l) (w : World) :
    Calls Tryz.prog 99 #[.agg #[.int .i64 c, .int .u64 (q c 1)], .int .u64 t, .int .i64 x] w fun e w' => e = .returned (.int .u64 (t / q c (l + 1))) ∧ Grew w w' := by
  have K0 := reach_any c (q c 1) x c1
  rw [hl, Int.toNat_natCast] at K0
  have r0 := q_pos c l
  have s0 := q_pos c 1
  have d1 := udiv t (q c l) t0 t1 r0
  have b1 := div_in t (q c l) t0 t1 r0
  have d2 := udiv (t / q c l) (q c 1) b1.1 b1.2 s0
  rw [div_div] at d2
  clear hl b1
  generalize q c l = R at *
  generalize q c 1 = S at *
  generalize t / q c (l + 1) = v at *
  generalize t / R = u at *
  have K := Lib.hid K0
  have r1 : R ≠ 0 := by omega
  have s1 : S ≠ 0 := by omega
  clear K0 r0 s0 t0 t1
  go_enter Tryz.func99, Tryz.ntmps99
  go_wp2
  go_region_held3 (fun w' => Grew w w' ∧ w'.cell? ⟨w.heap.size, 0, none⟩ = some (.int .i64 c) ∧ w'.cell? ⟨w.heap.size, 1, none⟩ = some (.int .u64 S))
    (first | exact ⟨((Grew.refl w).alloc _ _).drew, by simp [go_sem], by simp [go_sem]⟩ | exact held2 hg1 ‹_›)
    (first
      | (go_at_call 100; (with_reducible refine (K.out _).mono ?_); rintro e w1 ⟨rfl, hg1⟩))
  rename_i hheld
  go_wp2
  go_ret
  exact ⟨rfl, hheld.1⟩
theorem umod (t r : Int) (t0 : 0 ≤ t) : t.tmod r = t % r := Int.tmod_eq_emod_of_nonneg t0
theorem digit_any (c : Nat) (t x : Int) (c1 : c ≤ 6) (t0 : 0 ≤ t) (t1 : t < 18446744073709551616) (l : Nat) (hl : wi x 0 3 = l) (w : World) :
    Calls Tryz.prog 65 #[.agg #[.int .i64 c, .int .u64 (q c 1)], .int .u64 t, .int .i64 x] w fun e w' => e = .returned (.int .i64 (dg c t l)) ∧ Grew w w' := by
  have K0 := reach_any c (q c 1) x c1
  rw [hl, Int.toNat_natCast] at K0
  have r0 := q_pos c l
  have s0 := q_pos c 1
  have s2 := q_one c c1
  have d1 := udiv t (q c l) t0 t1 r0
  have b1 := div_in t (q c l) t0 t1 r0
  have d2 := umod (t / q c l) (q c 1) b1.1
  have b2 := dg_in c t l
  rw [show t / q c l % q c 1 = dg c t l from rfl] at d2
  have d3 : IntKind.i64.wrap (dg c t l) = dg c t l := by rw [IntKind.wrap_i64]; omega
  clear hl b1
  generalize q c l = R at *
  generalize q c 1 = S at *
  generalize dg c t l = v at *
  generalize t / R = u at *
  have K := Lib.hid K0
  have r1 : R ≠ 0 := by omega
  have s1 : S ≠ 0 := by omega
  clear K0 r0 s0 t0 t1 b2 s2
  go_enter Tryz.func65, Tryz.ntmps65
  go_wp2
  go_region_held3 (fun w' => Grew w w' ∧ w'.cell? ⟨w.heap.size, 0, none⟩ = some (.int .i64 c) ∧ w'.cell? ⟨w.heap.size, 1, none⟩ = some (.int .u64 S))
    (first | exact ⟨((Grew.refl w).alloc _ _).drew, by simp [go_sem], by simp [go_sem]⟩ | exact held2 hg1 ‹_›)
    (first
      | (go_at_call 100; (with_reducible refine (K.out _).mono ?_); rintro e w1 ⟨rfl, hg1⟩))
  rename_i hheld
  go_wp2
  go_ret
  exact ⟨rfl, hheld.1⟩
end Go.Proofs.YtdoceldofkaapaaGreatDoor.D3
namespace Go.Proofs.YtdoceldofkaapaaGreatDoor.D3
open Go.RowKit
theorem u64_in (x : Int) (h0 : 0 ≤ x) (h1 : x < 18446744073709551616) : IntKind.u64.wrap x = x := by rw [IntKind.wrap_u64]; omega
theorem i64_in (x : Int) (h0 : 0 ≤ x) (h1 : x < 9223372036854775808) : IntKind.i64.wrap x = x := by rw [IntKind.wrap_i64]; omega
theorem lv_find (c : Nat) (b a : Int) (h : b < a) (k : Nat) (hk : k ≤ 3) (hn : ∀ j, j < k → b / q c (j + 1) ≠ a / q c (j + 1)) (he : b / q c (k + 1) = a / q c (k + 1)) : lv c b a = k := by
  unfold lv
  rw [if_neg (by omega)]
  obtain rfl | rfl | rfl | rfl : k = 0 ∨ k = 1 ∨ k = 2 ∨ k = 3 := by omega
  · rw [if_pos he]; rfl
  · rw [if_neg (hn 0 (by omega)), if_pos he]; rfl
  · rw [if_neg (hn 0 (by omega)), if_neg (hn 1 (by omega)), if_pos he]; rfl
  · rw [if_neg (hn 0 (by omega)), if_neg (hn 1 (by omega)), if_neg (hn 2 (by omega)), if_pos he]; rfl
theorem lv_none (c : Nat) (b a : Int) (h : b < a) (hn : ∀ j, j < 4 → b / q c (j + 1) ≠ a / q c (j + 1)) : lv c b a = 4 := by
  unfold lv
  rw [if_neg (by omega), if_neg (hn 0 (by omega)), if_neg (hn 1 (by omega)), if_neg (hn 2 (by omega)), if_neg (hn 3 (by omega))]
theorem wi_own (k : Nat) (h : k < 4) : wi k 0 3 = k := by unfold wi; omega


/-- 2^(c * i + k). -/
def p2 (n : Nat) : Int := ((2 ^ n : Nat) : Int)
theorem p2_wrap (n : Nat) (h : n < 24) : IntKind.u64.wrap (2 * p2 n) = p2 (n + 1) := by
  have h1 := Nat.pow_le_pow_right (show 0 < 2 by decide) (show n ≤ 23 by omega)
  simp only [Nat.reducePow] at h1
  have e : p2 (n + 1) = 2 * p2 n := by unfold p2; rw [Nat.pow_succ]; omega
  rw [e]
  unfold p2
  generalize 2 ^ n = m at *
  exact u64_in _ (by omega) (by omega)
theorem power_any (n : Nat) (z : Int) (hn : n ≤ 4) (c : Nat) (hc : wi z 1 6 = c) (w : World) :
    Calls Tryz.prog 94 #[.int .i64 n, .int .i64 z] w fun e w' => e = .returned (.int .u64 (q c n)) ∧ w = w' := by
  have K0 := bits_any z
  rw [hc] at K0
  have K := Lib.hid K0
  have c1 : c ≤ 6 := by unfold wi at hc; omega
  have HB := Lib.hid (fun i k : Nat => fun hi : i < n => fun hk : k < c => p2_wrap (c * i + k) (by
    have := Nat.mul_le_mul c1 (show i ≤ 3 by omega)
    omega))
  clear K0 hc
  go_enter Tryz.func94, Tryz.ntmps94
  go_wp2
  go_loop [5, 6] (fun p i => ∃ m : Nat, m ≤ n ∧ i = .int .i64 m ∧ p = .int .u64 (p2 (c * m))) (fun _ i => n - (intOf i).toNat)
  case atStart => exact ⟨0, by omega, rfl, rfl⟩
  case round =>
    obtain ⟨m, hm, rfl, rfl⟩ := hrel
    by_cases hlt : m < n
    · have hlt' : (m : Int) < (n : Int) := by omega
      have m4 : (m : Int) < 4 := by omega
      go_wp2
      go_loop [5, 7] (fun p i => ∃ k : Nat, k ≤ c ∧ i = .int .i64 k ∧ p = .int .u64 (p2 (c * m + k))) (fun _ i => c - (intOf i).toNat)
      case atStart => exact ⟨0, by omega, rfl, rfl⟩
      case round =>
        obtain ⟨k, hk, rfl, rfl⟩ := hrel
        by_cases hkc : k < c
        · have hkc' : (k : Int) < (c : Int) := by omega
          have k6 : (k : Int) < 6 := by omega
          have E := HB.out m k hlt hkc
          clear HB
          go_wp2_with fail
          with_reducible refine (K.out _).mono ?_
          rintro e w' ⟨rfl, rfl⟩
          go_wp2
          go_round
          case rel => exact ⟨k + 1, by omega, by go_num, rfl⟩
          case measure => simp [intOf]; omega
        · have hkc' : ¬ (k : Int) < (c : Int) := by omega
          obtain rfl : k = c := by omega
          go_wp2_with fail
          with_reducible refine (K.out _).mono ?_
          rintro e w' ⟨rfl, rfl⟩
          go_wp2
          go_round
          case rel => exact ⟨m + 1, by omega, by go_num, by rw [Nat.mul_succ]⟩
          case measure => simp [intOf]; omega
    · have hlt' : ¬ (m : Int) < (n : Int) := by omega
      obtain rfl : m = n := by omega
      go_wp2
      go_ret
      exact ⟨rfl, rfl⟩
theorem rReach (x z : Int) (c l : Nat) (hc : wi z 1 6 = c) (hl : wi x 0 3 = l) (w : World) :
    Calls Tryz.prog 129 #[.int .i64 x, .int .i64 z] w fun e w' => e = .returned (.int .u64 (q c l)) ∧ w = w' := by
  by_cases h0 : x < 0
  · obtain rfl : l = 0 := by unfold wi at hl; omega
    have K : Hid (∀ w, Calls Tryz.prog 94 #[.int .i64 0, .int .i64 z] w fun e w' => e = .returned (.int .u64 (q c 0)) ∧ w = w') := Lib.hid (power_any 0 z (by omega) c hc)
    clear hc hl
    go_enter Tryz.func129, Tryz.ntmps129
    go_wp2_with fail
    with_reducible refine (K.out _).mono ?_
    rintro e w' ⟨rfl, rfl⟩
    go_wp2
    go_ret
    exact ⟨rfl, rfl⟩
  · by_cases h3 : 3 < x
    · obtain rfl : l = 3 := by unfold wi at hl; omega
      have K : Hid (∀ w, Calls Tryz.prog 94 #[.int .i64 3, .int .i64 z] w fun e w' => e = .returned (.int .u64 (q c 3)) ∧ w = w') := Lib.hid (power_any 3 z (by omega) c hc)
      clear hc hl
      go_enter Tryz.func129, Tryz.ntmps129
      go_wp2_with fail
      with_reducible refine (K.out _).mono ?_
      rintro e w' ⟨rfl, rfl⟩
      go_wp2
      go_ret
      exact ⟨rfl, rfl⟩
    · obtain rfl : x = l := by unfold wi at hl; omega
      have K := Lib.hid (power_any l z (by omega) c hc)
      clear hc hl
      go_enter Tryz.func129, Tryz.ntmps129
      go_wp2_with fail
      with_reducible refine (K.out _).mono ?_
      rintro e w' ⟨rfl, rfl⟩
      go_wp2
      go_ret
      exact ⟨rfl, rfl⟩
theorem rDigit (t x z : Int) (t0 : 0 ≤ t) (t1 : t < 18446744073709551616) (c l : Nat) (hc : wi z 1 6 = c) (hl : wi x 0 3 = l) (w : World) :
    Calls Tryz.prog 95 #[.int .u64 t, .int .i64 x, .int .i64 z] w fun e w' => e = .returned (.int .i64 (dg c t l)) ∧ Grew w w' := by
  have c1 : c ≤ 6 := by unfold wi at hc; omega
  have K1 := Lib.hid (rReach x z c l hc hl)
  have K2 : Hid (∀ w, Calls Tryz.prog 94 #[.int .i64 1, .int .i64 z] w fun e w' => e = .returned (.int .u64 (q c 1)) ∧ w = w') := Lib.hid (power_any 1 z (by omega) c hc)
  have r0 := q_pos c l
  have s0 := q_pos c 1
  have s2 := q_one c c1
  have d1 := udiv t (q c l) t0 t1 r0
  have b1 := div_in t (q c l) t0 t1 r0
  have d2 := umod (t / q c l) (q c 1) b1.1
  have b2 := dg_in c t l
  rw [show t / q c l % q c 1 = dg c t l from rfl] at d2
  have d3 : IntKind.i64.wrap (dg c t l) = dg c t l := i64_in _ (by omega) (by omega)
  clear hl hc b1
  generalize q c l = R at *
  generalize q c 1 = S at *
  generalize dg c t l = v at *
  generalize t / R = u at *
  have r1 : R ≠ 0 := by omega
  have s1 : S ≠ 0 := by omega
  clear r0 s0 t0 t1 b2 s2
  go_enter Tryz.func95, Tryz.ntmps95
  go_wp2
  go_quiet (first | (go_at_call 129; exact Calls.quiet_of_same ((K1.out _).mono (fun _ _ h => ⟨h.1, h.2.symm⟩))) | (go_at_call 94; exact Calls.quiet_of_same ((K2.out _).mono (fun _ _ h => ⟨h.1, h.2.symm⟩))))
  go_wp2
  go_ret
  exact ⟨rfl, (Grew.refl _).drewN _⟩
theorem rLevel (b a z : Int) (b0 : 0 ≤ b) (b1 : b < 18446744073709551616) (a0 : 0 ≤ a) (a1 : a < 18446744073709551616) (c : Nat) (hc : wi z 1 6 = c) (w : World) :
    Calls Tryz.prog 57 #[.int .u64 b, .int .u64 a, .int .i64 z] w fun e w' => e = .returned (.int .i64 (lv c b a)) ∧ Grew w w' := by
  by_cases h : a ≤ b
  · have e : lv c b a = -1 := by unfold lv; rw [if_pos h]
    rw [e]
    clear e
    go_enter Tryz.func57, Tryz.ntmps57
    go_wp2
    go_ret
    exact ⟨rfl, Grew.refl _⟩
  · have HF := Lib.hid (lv_find c b a (by omega))
    have HN := Lib.hid (lv_none c b a (by omega))
    have KP : Hid (∀ k : Nat, k < 4 → ∀ w, Calls Tryz.prog 94 #[.int .i64 ((k : Int) + 1), .int .i64 z] w fun e w' => e = .returned (.int .u64 (q c (k + 1))) ∧ w = w') :=
      Lib.hid (fun k hk w => power_any (k + 1) z (by omega) c hc w)
    have DB := Lib.hid (fun k : Nat => udiv b (q c (k + 1)) b0 b1 (q_pos c (k + 1)))
    have DA := Lib.hid (fun k : Nat => udiv a (q c (k + 1)) a0 a1 (q_pos c (k + 1)))
    generalize lv c b a = v at *
    clear b0 b1 a0 a1 hc
    go_enter Tryz.func57, Tryz.ntmps57
    go_wp2
    go_loopw [7] (fun i wr => ∃ k : Nat, k ≤ 4 ∧ i = .int .i64 k ∧ Grew w wr ∧ Hid (∀ j, j < k → b / q c (j + 1) ≠ a / q c (j + 1))) (fun i _ => 4 - (intOf i).toNat)
    case atStart => exact ⟨0, by omega, rfl, Grew.refl _, Lib.hid (fun j hj => by omega)⟩
    case round =>
      obtain ⟨k, hk, rfl, hg, HJ⟩ := hrel
      have G := Lib.hid hg
      clear hg
      by_cases hlt : k < 4
      · have K := Lib.hid (KP.out k hlt)
        have hk4 : (k : Int) < 4 := by omega
        have dB := DB.out k
        have dA := DA.out k
        have hp : q c (k + 1) ≠ 0 := by have := q_pos c (k + 1); omega
        by_cases he : b / q c (k + 1) = a / q c (k + 1)
        · have E := Lib.hid (HF.out k (by omega) HJ.out he)
          rw [← he] at dA
          generalize b / q c (k + 1) = u at *
          clear he HF HN HJ KP DA DB
          generalize q c (k + 1) = P at *
          go_wp2_with fail
          with_reducible refine (K.out _).mono ?_
          rintro e w' ⟨rfl, rfl⟩
          go_wp2
          go_quiet (fail)
          go_wp2
          go_ret
          exact ⟨ret_int E.out.symm, G.out.drewN _⟩
        · have E : Hid (∀ j, j < k + 1 → b / q c (j + 1) ≠ a / q c (j + 1)) := Lib.hid (fun j hj => by
            by_cases e : j = k
            · subst e; exact he
            · exact HJ.out j (by omega))
          have he' : a / q c (k + 1) ≠ b / q c (k + 1) := fun e => he e.symm
          generalize b / q c (k + 1) = u at *
          generalize a / q c (k + 1) = u' at *
          clear HF HN HJ KP DA DB
          generalize q c (k + 1) = P at *
          go_wp2_with fail
          with_reducible refine (K.out _).mono ?_
          rintro e w' ⟨rfl, rfl⟩
          go_wp2
          go_quiet (fail)
          go_wp2
          go_roundw
          case rel => exact ⟨k + 1, by omega, by go_num, G.out.drewN _, E⟩
          case measure => simp [intOf]; omega
      · obtain rfl : k = 4 := by omega
        have E := Lib.hid (HN.out HJ.out)
        clear HF HN HJ KP DA DB
        go_wp2
        go_ret
        exact ⟨ret_int E.out.symm, G.out⟩
theorem rslot_out (b a z : Int) (b0 : 0 ≤ b) (b1 : b < 18446744073709551616) (a0 : 0 ≤ a) (a1 : a < 18446744073709551616) (c : Nat) (hc : wi z 1 6 = c) (h : lv c b a < 0 ∨ 3 < lv c b a) (w : World) :
    Calls Tryz.prog 60 #[.int .u64 b, .int .u64 a, .int .i64 z] w fun e w' => e = .returned (.int .i64 0) ∧ Grew w w' := by
  have K2 := Lib.hid (rLevel b a z b0 b1 a0 a1 c hc)
  clear hc b0 b1 a0 a1
  generalize lv c b a = v at *
  by_cases h0 : v < 0
  · go_enter Tryz.func60, Tryz.ntmps60
    go_wp2_with fail
    with_reducible refine (K2.out _).mono ?_
    rintro e w2 ⟨rfl, g2⟩
    go_wp2
    go_ret
    exact ⟨rfl, g2⟩
  · have h3 : 3 < v := by omega
    clear h
    go_enter Tryz.func60, Tryz.ntmps60
    go_wp2_with fail
    with_reducible refine (K2.out _).mono ?_
    rintro e w2 ⟨rfl, g2⟩
    go_wp2
    go_ret
    exact ⟨rfl, g2⟩
theorem rslot_at (b a z : Int) (b0 : 0 ≤ b) (b1 : b < 18446744073709551616) (a0 : 0 ≤ a) (a1 : a < 18446744073709551616) (c l : Nat) (hc : wi z 1 6 = c) (hl : l ≤ 3) (h : lv c b a = l) (w : World) :
    Calls Tryz.prog 60 #[.int .u64 b, .int .u64 a, .int .i64 z] w fun e w' => e = .returned (.int .i64 (dg c a l)) ∧ Grew w w' := by
  have K := rLevel b a z b0 b1 a0 a1 c hc
  rw [h] at K
  have K2 := Lib.hid K
  have K3 := Lib.hid (rDigit a l z a0 a1 c l hc (wi_own l (by omega)))
  have l0 : ¬ (l : Int) < 0 := by omega
  have l3 : ¬ 3 < (l : Int) := by omega
  clear hc b0 b1 a0 a1 K h
  go_enter Tryz.func60, Tryz.ntmps60
  go_wp2_with fail
  with_reducible refine (K2.out _).mono ?_
  rintro e w2 ⟨rfl, g2⟩
  go_wp2_with fail
  with_reducible refine (K3.out _).mono ?_
  rintro e w3 ⟨rfl, g3⟩
  go_wp2
  go_ret
  exact ⟨rfl, g2.trans g3⟩
theorem rSlot (b a z : Int) (b0 : 0 ≤ b) (b1 : b < 18446744073709551616) (a0 : 0 ≤ a) (a1 : a < 18446744073709551616) (c : Nat) (hc : wi z 1 6 = c) (w : World) :
    Calls Tryz.prog 60 #[.int .u64 b, .int .u64 a, .int .i64 z] w fun e w' => e = .returned (.int .i64 (sv c b a)) ∧ Grew w w' := by
  by_cases h : lv c b a < 0 ∨ 3 < lv c b a
  · have e : sv c b a = 0 := by unfold sv; rw [if_pos h]
    rw [e]
    exact rslot_out b a z b0 b1 a0 a1 c hc h w
  · have e := sv_at c b a (lv c b a).toNat (by omega) (by omega)
    rw [e]
    exact rslot_at b a z b0 b1 a0 a1 c _ hc (by omega) (by omega) w
end Go.Proofs.YtdoceldofkaapaaGreatDoor.D3
namespace Go.Proofs.YtdoceldofkaapaaGreatDoor

/-- -1, 0 or 1, as the one is less than the other, the same, or more. -/
def cz (x y : Int) : Int := if x < y then -1 else if y < x then 1 else 0
theorem cz_lt {x y : Int} (h : x < y) : cz x y = -1 := by unfold cz; rw [if_pos h]
theorem cz_gt {x y : Int} (h : y < x) : cz x y = 1 := by unfold cz; rw [if_neg (by omega), if_pos h]
theorem cz_eq (x : Int) : cz x x = 0 := by unfold cz; rw [if_neg (by omega), if_neg (by omega)]
/-- The first of three that is not 0. -/
def or3 (x y z : Int) : Int := if x ≠ 0 then x else if y ≠ 0 then y else z

/-- A timer: At, Seq, Place. -/
structure T where
  a : Int
  s : Int
  p : Int
instance : Inhabited T := ⟨⟨0, 0, 0⟩⟩
theorem T.ext' {x y : T} (h0 : x.a = y.a) (h1 : x.s = y.s) (h2 : x.p = y.p) : x = y := by cases x; cases y; simp_all
instance : DecidableEq T := fun x y =>
  if h : x.a = y.a ∧ x.s = y.s ∧ x.p = y.p then isTrue (T.ext' h.1 h.2.1 h.2.2) else isFalse fun e => h (by subst e; exact ⟨rfl, rfl, rfl⟩)
theorem T.eq_iff (x y : T) : x = y ↔ x.a = y.a ∧ x.s = y.s ∧ x.p = y.p :=
  ⟨fun e => by subst e; exact ⟨rfl, rfl, rfl⟩, fun h => T.ext' h.1 h.2.1 h.2.2⟩

/-- Which timer is before which, as a number. -/
def cf (x y : T) : Int := or3 (cz x.a y.a) (cz x.s y.s) (cz x.p y.p)
/-- The first is before the second. -/
def lt (x y : T) : Bool := decide (cf x y < 0)
def Lt (x y : T) : Prop := x.a < y.a ∨ x.a = y.a ∧ (x.s < y.s ∨ x.s = y.s ∧ x.p < y.p)
theorem cf_neg (x y : T) : cf x y < 0 ↔ Lt x y := by
  unfold cf Lt or3
  rcases Int.lt_trichotomy x.a y.a with h | h | h
  · rw [cz_lt h]; simp [h]
  · rw [h, cz_eq]
    rcases Int.lt_trichotomy x.s y.s with k | k | k
    · rw [cz_lt k]; simp [k]
    · rw [k, cz_eq]
      rcases Int.lt_trichotomy x.p y.p with l | l | l
      · rw [cz_lt l]; simp [l]
      · rw [l, cz_eq]; simp
      · rw [cz_gt l]; simp; omega
    · rw [cz_gt k]; simp; omega
  · rw [cz_gt h]; simp; omega
theorem lt_iff (x y : T) : lt x y = true ↔ Lt x y := by unfold lt; rw [decide_eq_true_iff, cf_neg]
theorem lt_no (x y : T) : lt x y = false ↔ ¬ Lt x y := by rw [← lt_iff]; simp
theorem lt_irrefl (x : T) : lt x x = false := by rw [lt_no]; unfold Lt; omega
theorem lt_trans {x y z : T} (h : lt x y = true) (k : lt y z = true) : lt x z = true := by
  rw [lt_iff] at *; unfold Lt at *; omega
theorem lt_ntrans {x y z : T} (h : lt x y = false) (k : lt y z = false) : lt x z = false := by
  rw [lt_no] at *; unfold Lt at *; omega
theorem lt_total {x y : T} (h : lt x y = false) (k : lt y x = false) : x = y := by
  rw [lt_no] at *; unfold Lt at *; exact T.ext' (by omega) (by omega) (by omega)
theorem lt_asymm {x y : T} (h : lt x y = true) : lt y x = false := by
  rw [lt_iff] at h; rw [lt_no]; unfold Lt at *; omega

/-- In order: none is before one ahead of it. -/
def So (l : List T) : Prop := l.Pairwise fun x y => lt y x = false
/-- Whether none is before the one ahead of it. -/
def so : List T → Bool
  | [] => true
  | [_] => true
  | x :: y :: r => !lt y x && so (y :: r)
theorem so_iff : ∀ l : List T, so l = true ↔ So l
  | [] => by simp [so, So]
  | [x] => by simp [so, So]
  | x :: y :: r => by
    have ih := so_iff (y :: r)
    unfold so So
    rw [Bool.and_eq_true, ih, List.pairwise_cons]
    unfold So
    constructor
    · rintro ⟨h, k⟩
      refine ⟨fun z hz => ?_, k⟩
      have h' : lt y x = false := by simpa using h
      rcases List.mem_cons.1 hz with rfl | hz
      · exact h'
      · exact lt_ntrans ((List.pairwise_cons.1 k).1 z hz) h'
    · rintro ⟨h, k⟩
      exact ⟨by simpa using h y (by simp), k⟩
theorem so_no (l : List T) : so l = false ↔ ¬ So l := by rw [← so_iff]; simp
/-- By places: at place i + 1 none is before the one at place i. -/
theorem so_places : ∀ l : List T, so l = true ↔ ∀ i, i + 1 < l.length → lt (l.getD (i + 1) default) (l.getD i default) = false
  | [] => by simp [so]
  | [x] => by simp [so]
  | x :: y :: r => by
    have ih := so_places (y :: r)
    unfold so
    rw [Bool.and_eq_true, ih]
    constructor
    · rintro ⟨h, k⟩ i hi
      cases i with
      | zero => simpa using h
      | succ i => simpa using k i (by simpa using hi)
    · intro h
      refine ⟨by simpa using h 0 (by simp), fun i hi => ?_⟩
      simpa using h (i + 1) (by simpa using hi)
theorem So.unique {l m : List T} (h : So l) (k : So m) (p : l.Perm m) : l = m := by
  induction l generalizing m with
  | nil => exact (List.Perm.nil_eq p)
  | cons x r ih =>
    cases m with
    | nil => exact absurd p (by simp)
    | cons y s =>
      have hx := (List.pairwise_cons.1 h)
      have hy := (List.pairwise_cons.1 k)
      have e : x = y := by
        have m1 : x ∈ y :: s := p.subset (by simp)
        have m2 : y ∈ x :: r := p.symm.subset (by simp)
        rcases List.mem_cons.1 m1 with e | m1
        · exact e
        rcases List.mem_cons.1 m2 with e | m2
        · exact e.symm
        exact lt_total (hy.1 x m1) (hx.1 y m2)
      subst e
      rw [ih hx.2 hy.2 (List.Perm.cons_inv p)]
/-- How many are before one. -/
def cnt (l : List T) (t : T) : Nat := l.countP fun x => lt x t
theorem cnt_le (l : List T) (t : T) : cnt l t ≤ l.length := List.countP_le_length
/-- In a list in order those for which a test holds that goes down stand first. -/
theorem split_at {l : List T} {p : T → Bool} (h : l.Pairwise fun x y => p y = true → p x = true) :
    l.take (l.countP p) = l.filter p ∧ l.drop (l.countP p) = l.filter fun x => !p x := by
  induction l with
  | nil => simp
  | cons x r ih =>
    have hx := List.pairwise_cons.1 h
    by_cases c : p x = true
    · have e : (x :: r).countP p = r.countP p + 1 := by simp [c]
      rw [e]
      simp [c, (ih hx.2).1, (ih hx.2).2]
    · have no : ∀ y ∈ r, ¬ p y = true := fun y hy k => c (hx.1 y hy k)
      have e : (x :: r).countP p = 0 := by
        rw [List.countP_eq_zero]
        intro y hy
        rcases List.mem_cons.1 hy with rfl | hy
        · exact c
        · exact no y hy
      have f : r.filter p = [] := by rw [List.filter_eq_nil_iff]; exact no
      have g : r.filter (fun x => !p x) = r := by rw [List.filter_eq_self]; intro y hy; simpa using no y hy
      rw [e]
      simp [c, f, g]
theorem So.before {l : List T} (h : So l) (t : T) : l.take (cnt l t) = l.filter (fun x => lt x t) ∧ l.drop (cnt l t) = l.filter fun x => !lt x t := by
  refine split_at (h.imp ?_)
  intro x y hxy hyt
  cases e : lt x t with
  | true => rfl
  | false => rw [lt_ntrans hxy e] at hyt; cases hyt
/-- A list with one more, behind those that are before it. -/
def put (l : List T) (t : T) : List T := l.take (cnt l t) ++ t :: l.drop (cnt l t)
theorem put_perm (l : List T) (t : T) : (put l t).Perm (t :: l) := by
  unfold put
  refine (List.perm_middle).trans ?_
  rw [List.take_append_drop]
theorem put_so {l : List T} (h : So l) (t : T) : So (put l t) := by
  have k := h.before t
  unfold put So
  rw [List.pairwise_append, List.pairwise_cons, k.1, k.2]
  refine ⟨h.filter _, ⟨fun y hy => ?_, h.filter _⟩, fun x hx y hy => ?_⟩
  · simpa using (List.mem_filter.1 hy).2
  · have hxt : lt x t = true := (List.mem_filter.1 hx).2
    rcases List.mem_cons.1 hy with rfl | hy
    · exact lt_asymm hxt
    · have hyt : lt y t = false := by simpa using (List.mem_filter.1 hy).2
      exact lt_ntrans hyt (lt_asymm hxt)
/-- One by one. -/
def srt (l : List T) : List T := l.foldl put []
theorem srt_aux (l acc : List T) (h : So acc) : So (l.foldl put acc) ∧ (l.foldl put acc).Perm (acc ++ l) := by
  induction l generalizing acc with
  | nil => simpa using h
  | cons x r ih =>
    obtain ⟨h1, h2⟩ := ih (put acc x) (put_so h x)
    refine ⟨h1, h2.trans ?_⟩
    refine ((put_perm acc x).append_right r).trans ?_
    exact List.perm_middle.symm
theorem srt_so (l : List T) : So (srt l) := (srt_aux l [] (by simp [So])).1
theorem srt_perm (l : List T) : (srt l).Perm l := by unfold srt; simpa using (srt_aux l [] (by simp [So])).2
theorem srt_len (l : List T) : (srt l).length = l.length := (srt_perm l).length_eq
theorem srt_of {l m : List T} (h : So m) (p : m.Perm l) : m = srt l := h.unique (srt_so l) (p.trans (srt_perm l).symm)
theorem srt_self {l : List T} (h : So l) : srt l = l := (srt_of h (List.Perm.refl l)).symm
theorem srt_same {l m : List T} (p : l.Perm m) : srt l = srt m := srt_of (srt_so l) ((srt_perm l).trans p)
theorem srt_snoc (l : List T) (x : T) : srt (l ++ [x]) = put (srt l) x := by unfold srt; rw [List.foldl_append]; rfl
/-- Two lists, merged. -/
def mrg : List T → List T → List T
  | [], b => b
  | x :: a, [] => x :: a
  | x :: a, y :: b => if lt y x = true then y :: mrg (x :: a) b else x :: mrg a (y :: b)
termination_by a b => a.length + b.length
theorem mrg_nil_left (b : List T) : mrg [] b = b := by rw [mrg]
theorem mrg_nil_right (a : List T) : mrg a [] = a := by cases a <;> rw [mrg]
theorem mrg_yes {x y : T} {a b : List T} (h : lt y x = true) : mrg (x :: a) (y :: b) = y :: mrg (x :: a) b := by rw [mrg, if_pos h]
theorem mrg_no {x y : T} {a b : List T} (h : lt y x = false) : mrg (x :: a) (y :: b) = x :: mrg a (y :: b) := by rw [mrg, if_neg (by simp [h])]
theorem mrg_perm : ∀ (n : Nat) (a b : List T), a.length + b.length = n → (mrg a b).Perm (a ++ b)
  | n, [], b, _ => by rw [mrg_nil_left]; exact List.Perm.refl _
  | n, x :: a, [], _ => by rw [mrg_nil_right]; simp
  | 0, x :: a, y :: b, h => by simp at h
  | n + 1, x :: a, y :: b, h => by
    cases e : lt y x with
    | true =>
      rw [mrg_yes e]
      refine ((mrg_perm n (x :: a) b (by simp at h ⊢; omega)).cons y).trans ?_
      exact (List.perm_middle (l₁ := x :: a)).symm
    | false =>
      rw [mrg_no e]
      exact (mrg_perm n a (y :: b) (by simp at h ⊢; omega)).cons x
theorem mrg_so : ∀ (n : Nat) (a b : List T), a.length + b.length = n → So a → So b → So (mrg a b)
  | n, [], b, _, _, hb => by rw [mrg_nil_left]; exact hb
  | n, x :: a, [], _, ha, _ => by rw [mrg_nil_right]; exact ha
  | 0, x :: a, y :: b, h, _, _ => by simp at h
  | n + 1, x :: a, y :: b, h, ha, hb => by
    have hx := List.pairwise_cons.1 ha
    have hy := List.pairwise_cons.1 hb
    cases e : lt y x with
    | true =>
      rw [mrg_yes e]
      refine List.pairwise_cons.2 ⟨fun z hz => ?_, mrg_so n (x :: a) b (by simp at h ⊢; omega) ha hy.2⟩
      have hz := (mrg_perm _ (x :: a) b rfl).subset hz
      rcases List.mem_append.1 hz with hz | hz
      · rcases List.mem_cons.1 hz with rfl | hz
        · exact lt_asymm e
        · exact lt_ntrans (hx.1 z hz) (lt_asymm e)
      · exact hy.1 z hz
    | false =>
      rw [mrg_no e]
      refine List.pairwise_cons.2 ⟨fun z hz => ?_, mrg_so n a (y :: b) (by simp at h ⊢; omega) hx.2 hb⟩
      have hz := (mrg_perm _ a (y :: b) rfl).subset hz
      rcases List.mem_append.1 hz with hz | hz
      · exact hx.1 z hz
      · rcases List.mem_cons.1 hz with rfl | hz
        · exact e
        · exact lt_ntrans (hy.1 z hz) e
theorem mrg_srt {a b : List T} (ha : So a) (hb : So b) : mrg a b = srt (a ++ b) := srt_of (mrg_so _ a b rfl ha hb) (mrg_perm _ a b rfl)
theorem mrg_srt2 (a b : List T) : mrg (srt a) (srt b) = srt (a ++ b) := by
  rw [mrg_srt (srt_so a) (srt_so b)]
  exact srt_same ((srt_perm a).append (srt_perm b))
theorem mrg_len (a b : List T) : (mrg a b).length = a.length + b.length := by rw [(mrg_perm _ a b rfl).length_eq, List.length_append]
/-- Those that are due, or the others. -/
def due (l : List T) (now : Int) (d : Bool) : List T := l.filter fun x => decide (x.a ≤ now) == d
theorem So.due {l : List T} (h : So l) (now : Int) :
    l.take (l.countP fun x => decide (x.a ≤ now)) = due l now true ∧ l.drop (l.countP fun x => decide (x.a ≤ now)) = due l now false := by
  have k := split_at (l := l) (p := fun x => decide (x.a ≤ now)) (h.imp ?_)
  · unfold YtdoceldofkaapaaGreatDoor.due
    refine ⟨k.1.trans ?_, k.2.trans ?_⟩
    · congr 1; funext x; simp
    · congr 1; funext x; cases decide (x.a ≤ now) <;> rfl
  · intro x y hxy
    rw [lt_no] at hxy
    unfold Lt at hxy
    simp
    omega
theorem so_due {l : List T} (h : So l) (now : Int) (d : Bool) : So (due l now d) := h.filter _
theorem due_both {l : List T} (h : So l) (now : Int) : srt (due l now true ++ due l now false) = l := by
  rw [← (h.due now).1, ← (h.due now).2, List.take_append_drop, srt_self h]
end Go.Proofs.YtdoceldofkaapaaGreatDoor
