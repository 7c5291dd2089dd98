/-
  Contracts of math/bits.OnesCount64, TrailingZeros64 and Len64.
-/
import Derived.Test.YthgiknkglnagbaaDoorOne
import Derived.Lib.BitFns
import Derived.Lib.Strings
import Derived.Lib.Slices
import Derived.Lib.Small
import Derived.Lib.Walk
namespace Go.Proofs.YthgiknkglnagbaaDoor
open Go.RowKit

theorem ret_int {k : IntKind} {a b : Int} (h : a = b) : Ending.returned (.int k a) = .returned (.int k b) := by rw [h]
theorem mk85 : mk 85 8 = 6148914691236517205 := by decide
theorem mk51 : mk 51 8 = 3689348814741910323 := by decide
theorem mk15 : mk 15 8 = 1085102592571150095 := by decide
theorem fit_u64 (a b : Nat) (h : a + b < 18446744073709551616) : IntKind.u64.wrap ((a : Int) + (b : Int)) = ((a + b : Nat) : Int) := by
  rw [IntKind.wrap_u64]; omega
theorem and_div (x d m : Nat) (hx : x < 18446744073709551616) (hm : m < 18446744073709551616) : bits BinOp.and IntKind.u64 ((x : Int) / (d : Int)) (m : Int) = ((x / d &&& m : Nat) : Int) := by
  have e : (x : Int) / (d : Int) = ((x / d : Nat) : Int) := (Int.natCast_ediv _ _).symm
  rw [e, u64_and_nat _ _ (Nat.lt_of_le_of_lt (Nat.div_le_self _ _) hx) hm]
theorem low7 (z p : Nat) (h : z < 1152921504606846976) (h2 : z % 128 = p) : bits BinOp.and IntKind.i64 (z : Int) 127 = (p : Int) := by
  have h1 : (BitVec.ofInt 64 (z : Int)).toNat = z := by
    rw [BitVec.ofInt_natCast, BitVec.toNat_ofNat]; exact Nat.mod_eq_of_lt (by omega)
  have h3 : (BitVec.ofInt 64 (127 : Int)).toNat = 127 := by decide
  show IntKind.i64.wrap ((BitVec.ofInt 64 (z : Int) &&& BitVec.ofInt 64 (127 : Int)).toNat : Int) = _
  rw [BitVec.toNat_and, h1, h3, nat_mask7, h2]
  have hp : p < 128 := by omega
  simp [IntKind.wrap, IntKind.bits, IntKind.signed]
  omega
set_option maxHeartbeats 1000000 in
theorem ones_any (x : Nat) (hx : x < 18446744073709551616) (w : World) :
    Calls Tryd.prog 31 #[.int .u64 x] w fun e w' => e = .returned (.int .i64 (pc x)) ∧ w = w' := by
  obtain ⟨b0, b1, b2, b3, b4⟩ := swar_pc x
  simp only [Nat.reducePow] at b0 b1 b2 b3
  unfold swar at b0 b1 b2 b3 b4
  have a1 : bits BinOp.and IntKind.u64 ((x : Int) / 2) 6148914691236517205 = ((x / 2 &&& 6148914691236517205 : Nat) : Int) := and_div x 2 6148914691236517205 hx (by decide)
  have a2 : bits BinOp.and IntKind.u64 (x : Int) 6148914691236517205 = ((x &&& 6148914691236517205 : Nat) : Int) := u64_and_nat x 6148914691236517205 hx (by decide)
  have l1 : x / 2 &&& 6148914691236517205 ≤ 6148914691236517205 := Nat.and_le_right
  have l2 : x &&& 6148914691236517205 ≤ 6148914691236517205 := Nat.and_le_right
  have a3 := fit_u64 (x / 2 &&& 6148914691236517205) (x &&& 6148914691236517205) (by omega)
  have y1 : (x / 2 &&& 6148914691236517205) + (x &&& 6148914691236517205) = st1 8 x := by unfold st1; rw [mk85]
  rw [y1] at a3
  have m1 : st1 8 x < 18446744073709551616 := by rw [← y1]; omega
  generalize x / 2 &&& 6148914691236517205 = p1 at a1 a3
  generalize x &&& 6148914691236517205 = p2 at a2 a3
  clear y1 l1 l2
  generalize st1 8 x = s1 at *
  have a4 : bits BinOp.and IntKind.u64 ((s1 : Int) / 4) 3689348814741910323 = ((s1 / 4 &&& 3689348814741910323 : Nat) : Int) := and_div s1 4 3689348814741910323 m1 (by decide)
  have a5 : bits BinOp.and IntKind.u64 (s1 : Int) 3689348814741910323 = ((s1 &&& 3689348814741910323 : Nat) : Int) := u64_and_nat s1 3689348814741910323 m1 (by decide)
  have l1 : s1 / 4 &&& 3689348814741910323 ≤ 3689348814741910323 := Nat.and_le_right
  have l2 : s1 &&& 3689348814741910323 ≤ 3689348814741910323 := Nat.and_le_right
  have a6 := fit_u64 (s1 / 4 &&& 3689348814741910323) (s1 &&& 3689348814741910323) (by omega)
  have y1 : (s1 / 4 &&& 3689348814741910323) + (s1 &&& 3689348814741910323) = st2 8 s1 := by unfold st2; rw [mk51]
  rw [y1] at a6
  have m2 : st2 8 s1 ≤ 7378697629483820646 := by rw [← y1]; omega
  generalize s1 / 4 &&& 3689348814741910323 = p3 at a4 a6
  generalize s1 &&& 3689348814741910323 = p4 at a5 a6
  clear y1 l1 l2 m1
  generalize st2 8 s1 = s2 at *
  have a7 := fit_u64 (s2 / 16) s2 (by omega)
  have e7 : ((s2 / 16 : Nat) : Int) = (s2 : Int) / 16 := by omega
  rw [e7] at a7
  have a8 : bits BinOp.and IntKind.u64 ((s2 / 16 + s2 : Nat) : Int) 1085102592571150095 = (((s2 / 16 + s2) &&& 1085102592571150095 : Nat) : Int) := u64_and_nat (s2 / 16 + s2) 1085102592571150095 (by omega) (by decide)
  have y1 : (s2 / 16 + s2) &&& 1085102592571150095 = st3 8 s2 := by unfold st3; rw [mk15]
  rw [y1] at a8
  generalize s2 / 16 + s2 = p5 at a7 a8
  clear y1 e7
  generalize st3 8 s2 = s3 at *
  have a9 := fit_u64 s3 (s3 / 256) (by omega)
  have e9 : ((s3 / 256 : Nat) : Int) = (s3 : Int) / 256 := by omega
  rw [e9] at a9
  clear e9
  generalize s3 + s3 / 256 = z1 at *
  have a10 := fit_u64 z1 (z1 / 65536) (by omega)
  have e9 : ((z1 / 65536 : Nat) : Int) = (z1 : Int) / 65536 := by omega
  rw [e9] at a10
  clear e9
  generalize z1 + z1 / 65536 = z2 at *
  have a11 := fit_u64 z2 (z2 / 4294967296) (by omega)
  have e9 : ((z2 / 4294967296 : Nat) : Int) = (z2 : Int) / 4294967296 := by omega
  rw [e9] at a11
  clear e9
  generalize z2 + z2 / 4294967296 = z3 at *
  have a12 := low7 z3 (pc x) b3 b4
  have b5 : (z3 : Int) < 9223372036854775808 := by omega
  generalize pc x = p at *
  clear b0 b1 b2 b3 b4 m2
  go_enter Tryd.func31, Tryd.ntmps31
  go_wp2
  go_ret
  exact ⟨rfl, rfl⟩

/-- The library's table, as its text lays it. -/
def Tab (w : World) : Prop := ∀ j, j < 64 → w.cell? ⟨0, j, none⟩ = some (.int .u8 (Lib.deBruijn64tab.getD j 0 : Nat))
theorem Tab.bel {w w' : World} (h : Tab w) (k : Bel w w') : Tab w' := fun j hj => k.cell (h j hj)
theorem tz_core (x k idx : Nat) (w : World) (hx0 : ((x : Int) == 0) = false)
    (key : IntKind.u64.wrap (bits BinOp.and IntKind.u64 (x : Int) (IntKind.u64.wrap (-(x : Int))) * 285870213051353865) / 288230376151711744 = (idx : Int))
    (hi : idx < 64) (hk : k < 64) (hcell : w.cell? ⟨0, idx, none⟩ = some (.int .u8 k)) :
    Calls Tryd.prog 36 #[.int .u64 x] w fun e w' => e = .returned (.int .i64 k) ∧ w = w' := by
  go_enter Tryd.func36, Tryd.ntmps36
  go_wp2_with (simp only [key])
  go_ret
  exact ⟨rfl, rfl⟩
theorem tz_any (x : Nat) (hx : x < 18446744073709551616) (hx0 : x ≠ 0) (w : World) (hT : Tab w) :
    ∃ z m : Nat, z < 64 ∧ x = 2 ^ z * (2 * m + 1) ∧ Calls Tryd.prog 36 #[.int .u64 x] w fun e w' => e = .returned (.int .i64 z) ∧ w = w' := by
  obtain ⟨hlow, hk⟩ := Lib.lowest_bit 64 x hx0 (by simpa using hx)
  obtain ⟨m, hm, _⟩ := Lib.ctzFrom_spec 64 x (by omega) (by simpa using hx)
  have ec : Lib.ctz 64 x = Lib.ctzFrom 64 x := by unfold Lib.ctz; rw [if_neg hx0]
  rw [← ec] at hm
  obtain ⟨hi, htab⟩ := Lib.deBruijn64_at _ hk
  have hcell := hT _ hi
  rw [htab] at hcell
  refine ⟨Lib.ctz 64 x, m, hk, hm, tz_core x _ _ w (by simp; omega) ?_ hi hk hcell⟩
  have e1 : IntKind.u64.wrap (-(x : Int)) = ((18446744073709551616 - x : Nat) : Int) := by rw [IntKind.wrap_u64]; omega
  simp only [Nat.reducePow] at hlow
  rw [e1, u64_and_nat x _ hx (by omega), hlow, IntKind.wrap_u64]
  generalize 2 ^ Lib.ctz 64 x = a
  omega
theorem tab8 (i : Nat) (h : i < Lib.len8tab.size) : ((Lib.len8tab[i]'h).toNat : Int) = Lib.bitLen i ∧ Lib.bitLen i ≤ 8 := by
  have h2 : i < 256 := by rw [Lib.len8tab_size] at h; exact h
  have e := Lib.len8_of (i : Int) (by omega) (by omega)
  have l := Lib.bitLen_le8' (i : Int) (by omega) (by omega)
  rw [Int.toNat_natCast] at e l
  refine ⟨?_, l⟩
  rw [← e]
  unfold Lib.len8
  rw [Int.toNat_natCast, getElem?_pos Lib.len8tab i h]
  rfl
theorem len_fin (c i X : Nat) (h : i < Lib.len8tab.size) (hc : c ≤ 56) (hX : Lib.bitLen X = c + Lib.bitLen i) : wrap64 ((c : Int) + wrap64 ((Lib.len8tab[i]'h).toNat : Int)) = Lib.bitLen X := by
  obtain ⟨e, l⟩ := tab8 i h
  rw [e, hX]
  unfold wrap64
  omega
set_option maxHeartbeats 4000000 in
set_option maxRecDepth 100000 in
theorem len_any (x : Int) (h0 : 0 ≤ x) (h1 : x ≤ 18446744073709551615) (w : World) :
    Calls Tryd.prog 34 #[.int .u64 x] w fun e w' => e = .returned (.int .i64 (Lib.bitLen x.toNat)) ∧ w = w' := by
  have hsz := Lib.len8tab_size
  go_enter Tryd.func34, Tryd.ntmps34
  go_wp2
  all_goals (go_ret; refine ⟨ret_int ?_, rfl⟩)
  all_goals first
    | (refine len_fin 56 ((x / 4294967296 / 65536 / 256).toNat) x.toNat _ (by omega) ?_
       have e : (x / 4294967296 / 65536 / 256).toNat = x.toNat / 72057594037927936 := by omega
       rw [e]
       exact Lib.bitLen_shift56 x.toNat (by omega) (by omega))
    | (refine len_fin 48 ((x / 4294967296 / 65536).toNat) x.toNat _ (by omega) ?_
       have e : (x / 4294967296 / 65536).toNat = x.toNat / 281474976710656 := by omega
       rw [e]
       exact Lib.bitLen_shift48 x.toNat (by omega) (by omega))
    | (refine len_fin 40 ((x / 4294967296 / 256).toNat) x.toNat _ (by omega) ?_
       have e : (x / 4294967296 / 256).toNat = x.toNat / 1099511627776 := by omega
       rw [e]
       exact Lib.bitLen_shift40 x.toNat (by omega) (by omega))
    | (refine len_fin 32 ((x / 4294967296).toNat) x.toNat _ (by omega) ?_
       have e : (x / 4294967296).toNat = x.toNat / 4294967296 := by omega
       rw [e]
       exact Lib.bitLen_shift32 x.toNat (by omega) (by omega))
    | (refine len_fin 24 ((x / 65536 / 256).toNat) x.toNat _ (by omega) ?_
       have e : (x / 65536 / 256).toNat = x.toNat / 16777216 := by omega
       rw [e]
       exact Lib.bitLen_shift24 x.toNat (by omega) (by omega))
    | (refine len_fin 16 ((x / 65536).toNat) x.toNat _ (by omega) ?_
       have e : (x / 65536).toNat = x.toNat / 65536 := by omega
       rw [e]
       exact Lib.bitLen_shift16 x.toNat (by omega) (by omega))
    | (refine len_fin 8 ((x / 256).toNat) x.toNat _ (by omega) ?_
       have e : (x / 256).toNat = x.toNat / 256 := by omega
       rw [e]
       exact Lib.bitLen_shift8 x.toNat (by omega) (by omega))
    | (have f := len_fin 0 x.toNat x.toNat (by omega) (by omega) (by omega)
       rw [← f]
       unfold wrap64
       omega)
theorem bitLen_is : ∀ (f x : Nat), x < 2 ^ f → x < 2 ^ Lib.bitLenAux f x ∧ (x ≠ 0 → 1 ≤ Lib.bitLenAux f x ∧ 2 ^ (Lib.bitLenAux f x - 1) ≤ x)
  | 0, x, h => by
    have : x = 0 := by simpa using h
    subst this
    exact ⟨by decide, fun h => absurd rfl h⟩
  | f + 1, x, h => by
    unfold Lib.bitLenAux
    by_cases hx : x = 0
    · subst hx
      rw [if_pos rfl]
      exact ⟨by decide, fun h => absurd rfl h⟩
    · rw [if_neg hx]
      obtain ⟨a, b⟩ := bitLen_is f (x / 2) (by rw [Nat.pow_succ] at h; omega)
      refine ⟨by rw [Nat.add_comm, Nat.pow_succ]; omega, fun _ => ⟨by omega, ?_⟩⟩
      by_cases h2 : x / 2 = 0
      · have hz : Lib.bitLenAux f (x / 2) = 0 := by rw [h2]; cases f <;> simp [Lib.bitLenAux]
        rw [hz]
        simp
        omega
      · obtain ⟨c, d⟩ := b h2
        have e : 1 + Lib.bitLenAux f (x / 2) - 1 = (Lib.bitLenAux f (x / 2) - 1) + 1 := by omega
        rw [e, Nat.pow_succ]
        omega
/-- The greatest bit that is in a word is one less than its length. -/
theorem len_bit (x n : Nat) (hx : x < 18446744073709551616) (hn : Lib.bitLen x = n) : (n = 0 → x = 0) ∧ (1 ≤ n → n ≤ 64 ∧ x.testBit (n - 1) = true) ∧ ∀ j, x.testBit j = true → j < n := by
  obtain ⟨a, b⟩ := bitLen_is 64 x (by simpa using hx)
  have hn' : Lib.bitLenAux 64 x = n := hn
  rw [hn'] at a b
  refine ⟨fun h => ?_, fun h => ?_, fun j hj => ?_⟩
  · subst h
    simpa using a
  · have hx0 : x ≠ 0 := by
      intro h0
      subst h0
      have : Lib.bitLenAux 64 0 = 0 := by decide
      omega
    obtain ⟨c, d⟩ := b hx0
    have hl : n ≤ 64 := by
      apply Nat.le_of_not_lt
      intro h64
      have := Nat.pow_le_pow_right (show 0 < 2 by decide) (show 64 ≤ n - 1 by omega)
      simp only [Nat.reducePow] at this
      omega
    refine ⟨hl, ?_⟩
    have e : 2 ^ n = 2 ^ (n - 1) * 2 := by rw [← Nat.pow_succ]; congr 1; omega
    have q : x / 2 ^ (n - 1) = 1 := by
      apply Nat.div_eq_of_lt_le <;> omega
    rw [Nat.testBit_eq_decide_div_mod_eq, q]
    rfl
  · apply Nat.lt_of_not_le
    intro hle
    have := Nat.pow_le_pow_right (show 0 < 2 by decide) hle
    rw [Nat.testBit_lt_two_pow (Nat.lt_of_lt_of_le a this)] at hj
    cases hj
end Go.Proofs.YthgiknkglnagbaaDoor
