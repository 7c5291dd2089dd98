/-
  Contracts of digit.within, digit.wheelOf, the methods reach, above and digit of a wheel, and of the document's Bits.
-/
import Derived.Test.YtcfcmfgabfgbmaaMath
import Derived.Test.YtcfcmfgabfgbmaaRows
import Derived.WalkKit
import Derived.WalkSpells
import Derived.WalkLawsBesides
import Derived.Lib.Hide
import Derived.RowKit3
import Derived.Deep.RegionHeld3
import Derived.Deep.QuietTactic
import Derived.BigQuiet
import Derived.Below
namespace Go.Proofs.Ytcfcmfgabfgbmaa
open Go.RowKit

/-- The later world is the earlier one with new blocks behind it, and nothing of what was there has turned. -/
def Grew (w w' : World) : Prop := Grown w w' ∧ Below w.heap.size w w'
theorem Grew.refl (w : World) : Grew w w := ⟨Grown.refl w, Below.refl _ w⟩
theorem Grew.alloc {a w : World} (h : Grew a w) (c : Array Value) (t : TypeId) : Grew a (w.alloc (.cells c t)) :=
  ⟨h.1.alloc c t, h.2.alloc h.2.size _⟩
theorem Grew.drew {a w : World} (h : Grew a w) : Grew a w.drew := ⟨h.1, ⟨h.2.os, h.2.tape, h.2.output, h.2.size, h.2.block⟩⟩
theorem Grew.drewN {a w : World} (h : Grew a w) (n : Nat) : Grew a (w.drewN n) := ⟨⟨⟨h.1.1.1, h.1.1.2.1, h.1.1.2.2⟩, h.1.2.1, h.1.2.2⟩, ⟨h.2.os, h.2.tape, h.2.output, h.2.size, h.2.block⟩⟩
theorem Grew.setCell {a w : World} (h : Grew a w) {p : Addr} (hp : a.heap.size ≤ p.block) (v : Value) : Grew a (w.setCell p v) :=
  ⟨h.1.setCell hp v, h.2.setCell hp v⟩
theorem Grew.trans {a b c : World} (h : Grew a b) (k : Grew b c) : Grew a c :=
  ⟨⟨World.keptBut_trans h.1.1 k.1.1, fun x => (k.1.2.1 x).trans (h.1.2.1 x), Nat.le_trans h.1.2.2 k.1.2.2⟩, h.2.trans (k.2.mono h.2.size)⟩
theorem Grew.cell {a b : World} (h : Grew a b) {p : Addr} {v : Value} (hc : a.cell? p = some v) : b.cell? p = some v := cell_later h.2 hc
theorem ret_int {k : IntKind} {a b : Int} (h : a = b) : Ending.returned (.int k a) = .returned (.int k b) := by rw [h]

theorem within_any (x a b : Int) (w : World) : Calls Try.prog 27 #[.int .i64 x, .int .i64 a, .int .i64 b] w fun e w' => e = .returned (.int .i64 (wi x a b)) ∧ w = w' := by
  go_enter Try.func27, Try.ntmps27
  go_wp2
  all_goals (go_ret; exact ⟨ret_int (by unfold wi; omega), rfl⟩)
theorem bits_any (x : Int) (w : World) : Calls Try.prog 29 #[.int .i64 x] w fun e w' => e = .returned (.int .i64 (wi x 1 6)) ∧ w = w' := by
  go_enter Try.func29, Try.ntmps29
  go_wp2
  all_goals (go_ret; exact ⟨ret_int (by unfold wi; omega), rfl⟩)
theorem wrap_q (n : Nat) (z : Int) (h : ((2 ^ n : Nat) : Int) = z) (h0 : n ≤ 18) : IntKind.u64.wrap (2 ^ n) = z := by
  have := Nat.pow_le_pow_right (show 0 < 2 by decide) h0
  simp only [Nat.reducePow] at this
  have e : (2 : Int) ^ n = ((2 ^ n : Nat) : Int) := by simp
  rw [e, IntKind.wrap_u64]
  generalize 2 ^ n = m at *
  omega
theorem reach_any (c : Nat) (S x : Int) (c1 : c ≤ 6) (w : World) :
    Calls Try.prog 26 #[.agg #[.int .i64 c, .int .u64 S], .int .i64 x] w fun e w' => e = .returned (.int .u64 (q c (wi x 0 3).toNat)) ∧ Grew w w' := by
  have K := Lib.hid (within_any x 0 3)
  have h0 : 0 ≤ wi x 0 3 := by unfold wi; omega
  have h1 : wi x 0 3 ≤ 3 := by unfold wi; omega
  obtain ⟨l, hl⟩ : ∃ l : Nat, wi x 0 3 = l := ⟨(wi x 0 3).toNat, by omega⟩
  rw [hl] at h1 K ⊢
  rw [Int.toNat_natCast]
  have h18 : c * l ≤ 18 := Nat.mul_le_mul c1 (show l ≤ 3 by omega)
  have hq : ((2 ^ (c * l) : Nat) : Int) = q c l := rfl
  obtain ⟨n, hn⟩ : ∃ n : Nat, c * l = n := ⟨_, rfl⟩
  rw [hn] at h18 hq
  have hm : IntKind.i64.wrap ((c : Int) * (l : Int)) = (n : Int) := by
    rw [← Int.natCast_mul, hn, IntKind.wrap_i64]
    omega
  have hs := wrap_q n _ hq h18
  have g : (n : Int) ≤ 18 := by omega
  clear hn hq h18 hl h0
  go_enter Try.func26, Try.ntmps26
  go_wp2
  go_quiet ((go_at_call 27; exact Calls.quiet_of_same ((K.out _).mono (fun _ _ h => ⟨h.1, h.2.symm⟩))))
  go_wp2
  go_ret
  exact ⟨rfl, ((Grew.refl _).alloc _ _).drewN _⟩
theorem wheel_any (x : Int) (c : Nat) (hc : wi x 1 6 = c) (w : World) :
    Calls Try.prog 22 #[.int .i64 x] w fun e w' => e = .returned (.agg #[.int .i64 c, .int .u64 (q c 1)]) ∧ Grew w w' := by
  have K := Lib.hid (within_any x 1 6)
  have h0 : 1 ≤ wi x 1 6 := by unfold wi; omega
  have h1 : wi x 1 6 ≤ 6 := by unfold wi; omega
  rw [hc] at h0 h1 K
  have hs := wrap_q c (q c 1) (by rw [q_nat, Nat.mul_one]) (by omega)
  clear hc
  go_enter Try.func22, Try.ntmps22
  go_wp2_with fail
  with_reducible refine (K.out _).mono ?_
  rintro e w' ⟨rfl, rfl⟩
  go_wp2
  refine bodyPost_ret (v := .agg #[.int .i64 c, .int .u64 (q c 1)]) (by simp [results, Try.results22, go_sem]) rfl ⟨rfl, (Grew.refl _).alloc _ _⟩
theorem held2 {w w1 w2 : World} {b : Nat} {x y : Value} (k : Grew w1 w2) (h : Grew w w1 ∧ w1.cell? ⟨b, 0, none⟩ = some x ∧ w1.cell? ⟨b, 1, none⟩ = some y) :
    Grew w w2 ∧ w2.cell? ⟨b, 0, none⟩ = some x ∧ w2.cell? ⟨b, 1, none⟩ = some y := ⟨h.1.trans k, k.cell h.2.1, k.cell h.2.2⟩
theorem udiv (t r : Int) (t0 : 0 ≤ t) (t1 : t < 18446744073709551616) (h : 1 ≤ r) : IntKind.u64.wrap (t.tdiv r) = t / r := by
  rw [Int.tdiv_eq_ediv_of_nonneg t0, IntKind.wrap_u64]
  have h1 := Int.ediv_nonneg t0 (b := r) (by omega)
  have h2 := Int.ediv_le_self r t0
  omega
theorem div_in (t r : Int) (t0 : 0 ≤ t) (t1 : t < 18446744073709551616) (h : 1 ≤ r) : 0 ≤ t / r ∧ t / r < 18446744073709551616 := by
  have h1 := Int.ediv_nonneg t0 (b := r) (by omega)
  have h2 := Int.ediv_le_self r t0
  omega
theorem above_any (c : Nat) (t x : Int) (c1 : c ≤ 6) (t0 : 0 ≤ t) (t1 : t < 18446744073709551616) (l : Nat) (hl : wi x 0 3 = l) (w : World) :
    Calls Try.prog 28 #[.agg #[.int .i64 c, .int .u64 (q c 1)], .int .u64 t, .int .i64 x] w fun e w' => e = .returned (.int .u64 (t / q c (l + 1))) ∧ Grew w w' := by
  have K0 := reach_any c (q c 1) x c1
  rw [hl, Int.toNat_natCast] at K0
  have r0 := q_pos c l
  have s0 := q_pos c 1
  have d1 := udiv t (q c l) t0 t1 r0
  have b1 := div_in t (q c l) t0 t1 r0
  have d2 := udiv (t / q c l) (q c 1) b1.1 b1.2 s0
  rw [div_div] at d2
  clear hl b1
  generalize q c l = R at *
  generalize q c 1 = S at *
  generalize t / q c (l + 1) = v at *
  generalize t / R = u at *
  have K := Lib.hid K0
  have r1 : R ≠ 0 := by omega
  have s1 : S ≠ 0 := by omega
  clear K0 r0 s0 t0 t1
  go_enter Try.func28, Try.ntmps28
  go_wp2
  go_region_held3 (fun w' => Grew w w' ∧ w'.cell? ⟨w.heap.size, 0, none⟩ = some (.int .i64 c) ∧ w'.cell? ⟨w.heap.size, 1, none⟩ = some (.int .u64 S))
    (first | exact ⟨((Grew.refl w).alloc _ _).drew, by simp [go_sem], by simp [go_sem]⟩ | exact held2 hg1 ‹_›)
    (first
      | (go_at_call 26; (with_reducible refine (K.out _).mono ?_); rintro e w1 ⟨rfl, hg1⟩))
  rename_i hheld
  go_wp2
  go_ret
  exact ⟨rfl, hheld.1⟩
theorem umod (t r : Int) (t0 : 0 ≤ t) : t.tmod r = t % r := Int.tmod_eq_emod_of_nonneg t0
theorem digit_any (c : Nat) (t x : Int) (c1 : c ≤ 6) (t0 : 0 ≤ t) (t1 : t < 18446744073709551616) (l : Nat) (hl : wi x 0 3 = l) (w : World) :
    Calls Try.prog 25 #[.agg #[.int .i64 c, .int .u64 (q c 1)], .int .u64 t, .int .i64 x] w fun e w' => e = .returned (.int .i64 (dg c t l)) ∧ Grew w w' := by
  have K0 := reach_any c (q c 1) x c1
  rw [hl, Int.toNat_natCast] at K0
  have r0 := q_pos c l
  have s0 := q_pos c 1
  have s2 := q_one c c1
  have d1 := udiv t (q c l) t0 t1 r0
  have b1 := div_in t (q c l) t0 t1 r0
  have d2 := umod (t / q c l) (q c 1) b1.1
  have b2 := dg_in c t l
  rw [show t / q c l % q c 1 = dg c t l from rfl] at d2
  have d3 : IntKind.i64.wrap (dg c t l) = dg c t l := by rw [IntKind.wrap_i64]; omega
  clear hl b1
  generalize q c l = R at *
  generalize q c 1 = S at *
  generalize dg c t l = v at *
  generalize t / R = u at *
  have K := Lib.hid K0
  have r1 : R ≠ 0 := by omega
  have s1 : S ≠ 0 := by omega
  clear K0 r0 s0 t0 t1 b2 s2
  go_enter Try.func25, Try.ntmps25
  go_wp2
  go_region_held3 (fun w' => Grew w w' ∧ w'.cell? ⟨w.heap.size, 0, none⟩ = some (.int .i64 c) ∧ w'.cell? ⟨w.heap.size, 1, none⟩ = some (.int .u64 S))
    (first | exact ⟨((Grew.refl w).alloc _ _).drew, by simp [go_sem], by simp [go_sem]⟩ | exact held2 hg1 ‹_›)
    (first
      | (go_at_call 26; (with_reducible refine (K.out _).mono ?_); rintro e w1 ⟨rfl, hg1⟩))
  rename_i hheld
  go_wp2
  go_ret
  exact ⟨rfl, hheld.1⟩
end Go.Proofs.Ytcfcmfgabfgbmaa
