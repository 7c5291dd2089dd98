/-
  Contracts of bitmap.numbered, Has, Put, Drop and of the document's Has and Put.
-/
import Derived.Test.YtdoceldofkaapaaDoorBmath
import Derived.Test.YtdoceldofkaapaaDoorRows
import Derived.WalkKit
import Derived.WalkSpells
import Derived.WalkLawsBesides
import Derived.Lib.Hide
import Derived.RowKit3
import Derived.Deep.RegionHeld3
import Derived.Below
import Derived.Outline
set_option linter.unusedVariables false
set_option linter.unusedSimpArgs false
namespace Go.Proofs.YtdoceldofkaapaaDoor.Bm
open Go.RowKit

/-- The later world is the earlier one with new blocks behind it, and nothing of what was there has turned. -/
def Bel (w w' : World) : Prop := Below w.heap.size w w'
theorem Bel.refl (w : World) : Bel w w := Below.refl _ w
theorem Bel.alloc {a w : World} (h : Bel a w) (c : Array Value) (t : TypeId) : Bel a (w.alloc (.cells c t)) := Below.alloc h (Below.size h) _
theorem Bel.drew {a w : World} (h : Bel a w) : Bel a w.drew := by
  have k : Below a.heap.size a w := h
  exact ⟨k.os, k.tape, k.output, k.size, k.block⟩
theorem Bel.drewN {a w : World} (h : Bel a w) (n : Nat) : Bel a (w.drewN n) := by
  have k : Below a.heap.size a w := h
  exact ⟨k.os, k.tape, k.output, k.size, k.block⟩
theorem Bel.setCell {a w : World} (h : Bel a w) {p : Addr} (hp : a.heap.size ≤ p.block) (v : Value) : Bel a (w.setCell p v) := Below.setCell h hp v
theorem Bel.trans {a b c : World} (h : Bel a b) (k : Bel b c) : Bel a c := Below.trans h (Below.mono k (Below.size h))
theorem Bel.size {a b : World} (h : Bel a b) : a.heap.size ≤ b.heap.size := Below.size h
theorem Bel.cell {a b : World} (h : Bel a b) {p : Addr} {v : Value} (hc : a.cell? p = some v) : b.cell? p = some v := cell_later h hc

theorem numbered_yes (i : Int) (h0 : 0 ≤ i) (h1 : i < 256) (w : World) : Calls Tryd.prog 68 #[.int .i64 i] w fun e w' => e = .returned (.bool true) ∧ w = w' := by
  go_enter Tryd.func68, Tryd.ntmps68
  go_wp2
  go_ret
  exact ⟨rfl, rfl⟩
theorem numbered_low (i : Int) (h0 : i < 0) (w : World) : Calls Tryd.prog 68 #[.int .i64 i] w fun e w' => e = .returned (.bool false) ∧ w = w' := by
  go_enter Tryd.func68, Tryd.ntmps68
  go_wp2
  go_ret
  exact ⟨rfl, rfl⟩
theorem numbered_high (i : Int) (h0 : 0 ≤ i) (h1 : ¬ i < 256) (w : World) : Calls Tryd.prog 68 #[.int .i64 i] w fun e w' => e = .returned (.bool false) ∧ w = w' := by
  go_enter Tryd.func68, Tryd.ntmps68
  go_wp2
  go_ret
  exact ⟨rfl, rfl⟩
theorem numbered_not (i : Int) (h : ¬ (0 ≤ i ∧ i < 256)) (w : World) : Calls Tryd.prog 68 #[.int .i64 i] w fun e w' => e = .returned (.bool false) ∧ w = w' := by
  by_cases h0 : i < 0
  · exact numbered_low i h0 w
  · exact numbered_high i (by omega) (by omega) w
theorem bit_val (x r : Nat) (hx : x < 18446744073709551616) : (bits BinOp.and IntKind.u64 ((x : Int) / 2 ^ r) 1 == 1) = x.testBit r := by
  have e : (x : Int) / 2 ^ r = ((x / 2 ^ r : Nat) : Int) := by rw [Int.natCast_ediv, Int.natCast_pow]; rfl
  have hl : x / 2 ^ r < 18446744073709551616 := Nat.lt_of_le_of_lt (Nat.div_le_self _ _) hx
  have h := u64_and_nat (x / 2 ^ r) 1 hl (by decide)
  rw [e]
  have h' : bits BinOp.and IntKind.u64 ((x / 2 ^ r : Nat) : Int) 1 = ((x / 2 ^ r % 2 : Nat) : Int) := by rw [← nat_mask1]; exact h
  rw [h', Nat.testBit_eq_decide_div_mod_eq]
  have hm := Nat.mod_lt (x / 2 ^ r) (show 0 < 2 by decide)
  obtain h0 | h0 : x / 2 ^ r % 2 = 0 ∨ x / 2 ^ r % 2 = 1 := by omega
  · rw [h0]; rfl
  · rw [h0]; rfl
theorem ret_bool {a b : Bool} (h : a = b) : Ending.returned (.bool a) = .returned (.bool b) := by rw [h]
/-- Which word, and which bit of it. -/
theorem parts (q r : Nat) (hr : r < 64) : ((64 * q + r : Nat) : Int).tdiv 64 = q ∧ ((64 * q + r : Nat) : Int).tmod 64 = r := by
  rw [Int.tdiv_eq_ediv_of_nonneg (by omega), Int.tmod_eq_emod_of_nonneg (by omega)]; omega
/-- Is a number in bits? -/
def hs (B : Nat → Nat) (i : Int) : Bool := decide (0 ≤ i ∧ i < 256) && tb B i.toNat
theorem rbit_val (x r y : Nat) (h : x / 2 ^ r = y) : ((y : Int) % 2 == 1) = x.testBit r := by
  rw [Nat.testBit_eq_decide_div_mod_eq, h]
  have e : (y : Int) % 2 = ((y % 2 : Nat) : Int) := by omega
  rw [e]
  obtain h0 | h0 : y % 2 = 0 ∨ y % 2 = 1 := by omega
  · rw [h0]; rfl
  · rw [h0]; rfl
theorem half (y : Nat) (h : y < 18446744073709551616) : IntKind.u64.wrap ((y : Int).tdiv 2) = ((y / 2 : Nat) : Int) := by
  rw [Int.tdiv_eq_ediv_of_nonneg (by omega), IntKind.wrap_u64]; omega
theorem put_in (B : Nat → Nat) (hB : Wd B) (q r : Nat) (hq : q < 4) (hr : r < 64) (w : World) :
    Calls Tryd.prog 48 #[.agg #[.int .u64 (B 0), .int .u64 (B 1), .int .u64 (B 2), .int .u64 (B 3)], .int .i64 (64 * q + r : Nat)] w fun e w' => e = .returned (.agg #[.int .u64 (pt B (64 * q + r) 0), .int .u64 (pt B (64 * q + r) 1), .int .u64 (pt B (64 * q + r) 2), .int .u64 (pt B (64 * q + r) 3)]) ∧ Bel w w' := by
  have K := Lib.hid (numbered_yes (64 * q + r : Nat) (by omega) (by omega))
  obtain ⟨t1, t2⟩ := parts q r hr
  obtain ⟨n, hn⟩ : ∃ n : Nat, 64 * q + r = n := ⟨_, rfl⟩
  rw [hn] at K t1 t2 ⊢
  have hP : Hid (∀ k, k ≠ q → pt B n k = B k) := Lib.hid (fun k hk => by
    have e1 : n / 64 = q := by omega
    unfold pt
    rw [e1, if_neg hk])
  have hV : bits BinOp.or IntKind.u64 (B q : Int) (IntKind.u64.wrap (2 ^ r)) = (pt B n q : Nat) := by
    have e1 : n / 64 = q := by omega
    have e2 : n % 64 = r := by omega
    have e3 : IntKind.u64.wrap (2 ^ r) = ((2 ^ r : Nat) : Int) := by
      have := pow64 hr
      rw [IntKind.wrap_u64, Int.natCast_pow]
      have h : ((2 ^ r : Nat) : Int) < 18446744073709551616 := by omega
      rw [Int.natCast_pow] at h
      exact Int.emod_eq_of_lt (Int.le_of_lt (Int.pow_pos (by decide))) h
    rw [e3, u64_or_nat _ _ (hB q) (pow64 hr)]
    unfold pt
    rw [e1, e2, if_pos rfl]
  clear hn
  obtain rfl | rfl | rfl | rfl : q = 0 ∨ q = 1 ∨ q = 2 ∨ q = 3 := by omega
  all_goals
    go_enter Tryd.func48, Tryd.ntmps48
    go_wp2_with fail
    with_reducible refine (K.out _).mono ?_
    rintro e w' ⟨rfl, rfl⟩
    go_wp2
    go_region
    go_wp2
    refine bodyPost_ret (v := .agg #[.int .u64 (pt B n 0), .int .u64 (pt B n 1), .int .u64 (pt B n 2), .int .u64 (pt B n 3)]) (by simp [results, Tryd.results48, go_sem, hP.out]) rfl ⟨rfl, (((Bel.refl _).alloc _ _).alloc _ _).drew⟩
theorem put_not (B : Nat → Nat) (i : Int) (h : ¬ (0 ≤ i ∧ i < 256)) (w : World) :
    Calls Tryd.prog 48 #[.agg #[.int .u64 (B 0), .int .u64 (B 1), .int .u64 (B 2), .int .u64 (B 3)], .int .i64 i] w fun e w' => e = .returned (.agg #[.int .u64 (B 0), .int .u64 (B 1), .int .u64 (B 2), .int .u64 (B 3)]) ∧ Bel w w' := by
  have K := Lib.hid (numbered_not i h)
  go_enter Tryd.func48, Tryd.ntmps48
  go_wp2_with fail
  with_reducible refine (K.out _).mono ?_
  rintro e w' ⟨rfl, rfl⟩
  go_wp2
  refine bodyPost_ret (v := .agg #[.int .u64 (B 0), .int .u64 (B 1), .int .u64 (B 2), .int .u64 (B 3)]) (by simp [results, Tryd.results48, go_sem]) rfl ⟨rfl, ((Bel.refl _).alloc _ _).alloc _ _⟩
/-- With a number, if it is from 0 to 255. -/
def pti (B : Nat → Nat) (i : Int) : Nat → Nat := if 0 ≤ i ∧ i < 256 then pt B i.toNat else B
theorem pti_wd {B : Nat → Nat} (h : Wd B) (i : Int) : Wd (pti B i) := by
  unfold pti
  split
  · exact pt_wd h _
  · exact h
theorem put_any (B : Nat → Nat) (hB : Wd B) (i : Int) (w : World) :
    Calls Tryd.prog 48 #[.agg #[.int .u64 (B 0), .int .u64 (B 1), .int .u64 (B 2), .int .u64 (B 3)], .int .i64 i] w fun e w' => e = .returned (.agg #[.int .u64 (pti B i 0), .int .u64 (pti B i 1), .int .u64 (pti B i 2), .int .u64 (pti B i 3)]) ∧ Bel w w' := by
  unfold pti
  by_cases h : 0 ≤ i ∧ i < 256
  · have := put_in B hB (i.toNat / 64) (i.toNat % 64) (by omega) (by omega) w
    have e : 64 * (i.toNat / 64) + i.toNat % 64 = i.toNat := by omega
    rw [e, Int.toNat_of_nonneg h.1] at this
    rw [if_pos h]
    exact this
  · rw [if_neg h]
    exact put_not B i h w
theorem drop_in (B : Nat → Nat) (hB : Wd B) (q r : Nat) (hq : q < 4) (hr : r < 64) (w : World) :
    Calls Tryd.prog 49 #[.agg #[.int .u64 (B 0), .int .u64 (B 1), .int .u64 (B 2), .int .u64 (B 3)], .int .i64 (64 * q + r : Nat)] w fun e w' => e = .returned (.agg #[.int .u64 (dp B (64 * q + r) 0), .int .u64 (dp B (64 * q + r) 1), .int .u64 (dp B (64 * q + r) 2), .int .u64 (dp B (64 * q + r) 3)]) ∧ Bel w w' := by
  have K := Lib.hid (numbered_yes (64 * q + r : Nat) (by omega) (by omega))
  obtain ⟨t1, t2⟩ := parts q r hr
  obtain ⟨n, hn⟩ : ∃ n : Nat, 64 * q + r = n := ⟨_, rfl⟩
  rw [hn] at K t1 t2 ⊢
  have hP : Hid (∀ k, k ≠ q → dp B n k = B k) := Lib.hid (fun k hk => by
    have e1 : n / 64 = q := by omega
    unfold dp
    rw [e1, if_neg hk])
  have hV : bits BinOp.andNot IntKind.u64 (B q : Int) (IntKind.u64.wrap (2 ^ r)) = (dp B n q : Nat) := by
    have e1 : n / 64 = q := by omega
    have e2 : n % 64 = r := by omega
    have e3 : IntKind.u64.wrap (2 ^ r) = ((2 ^ r : Nat) : Int) := by
      have := pow64 hr
      rw [IntKind.wrap_u64, Int.natCast_pow]
      have h : ((2 ^ r : Nat) : Int) < 18446744073709551616 := by omega
      rw [Int.natCast_pow] at h
      exact Int.emod_eq_of_lt (Int.le_of_lt (Int.pow_pos (by decide))) h
    rw [e3, u64_andNot_nat _ _ (hB q) (pow64 hr)]
    unfold dp
    rw [e1, e2, if_pos rfl]
  clear hn
  obtain rfl | rfl | rfl | rfl : q = 0 ∨ q = 1 ∨ q = 2 ∨ q = 3 := by omega
  all_goals
    go_enter Tryd.func49, Tryd.ntmps49
    go_wp2_with fail
    with_reducible refine (K.out _).mono ?_
    rintro e w' ⟨rfl, rfl⟩
    go_wp2
    go_region
    go_wp2
    refine bodyPost_ret (v := .agg #[.int .u64 (dp B n 0), .int .u64 (dp B n 1), .int .u64 (dp B n 2), .int .u64 (dp B n 3)]) (by simp [results, Tryd.results49, go_sem, hP.out]) rfl ⟨rfl, (((Bel.refl _).alloc _ _).alloc _ _).drew⟩
theorem drop_not (B : Nat → Nat) (i : Int) (h : ¬ (0 ≤ i ∧ i < 256)) (w : World) :
    Calls Tryd.prog 49 #[.agg #[.int .u64 (B 0), .int .u64 (B 1), .int .u64 (B 2), .int .u64 (B 3)], .int .i64 i] w fun e w' => e = .returned (.agg #[.int .u64 (B 0), .int .u64 (B 1), .int .u64 (B 2), .int .u64 (B 3)]) ∧ Bel w w' := by
  have K := Lib.hid (numbered_not i h)
  go_enter Tryd.func49, Tryd.ntmps49
  go_wp2_with fail
  with_reducible refine (K.out _).mono ?_
  rintro e w' ⟨rfl, rfl⟩
  go_wp2
  refine bodyPost_ret (v := .agg #[.int .u64 (B 0), .int .u64 (B 1), .int .u64 (B 2), .int .u64 (B 3)]) (by simp [results, Tryd.results49, go_sem]) rfl ⟨rfl, ((Bel.refl _).alloc _ _).alloc _ _⟩
/-- Without a number, if it is from 0 to 255. -/
def dpi (B : Nat → Nat) (i : Int) : Nat → Nat := if 0 ≤ i ∧ i < 256 then dp B i.toNat else B
theorem dpi_wd {B : Nat → Nat} (h : Wd B) (i : Int) : Wd (dpi B i) := by
  unfold dpi
  split
  · exact dp_wd h _
  · exact h
theorem drop_any (B : Nat → Nat) (hB : Wd B) (i : Int) (w : World) :
    Calls Tryd.prog 49 #[.agg #[.int .u64 (B 0), .int .u64 (B 1), .int .u64 (B 2), .int .u64 (B 3)], .int .i64 i] w fun e w' => e = .returned (.agg #[.int .u64 (dpi B i 0), .int .u64 (dpi B i 1), .int .u64 (dpi B i 2), .int .u64 (dpi B i 3)]) ∧ Bel w w' := by
  unfold dpi
  by_cases h : 0 ≤ i ∧ i < 256
  · have := drop_in B hB (i.toNat / 64) (i.toNat % 64) (by omega) (by omega) w
    have e : 64 * (i.toNat / 64) + i.toNat % 64 = i.toNat := by omega
    rw [e, Int.toNat_of_nonneg h.1] at this
    rw [if_pos h]
    exact this
  · rw [if_neg h]
    exact drop_not B i h w
end Go.Proofs.YtdoceldofkaapaaDoor.Bm
