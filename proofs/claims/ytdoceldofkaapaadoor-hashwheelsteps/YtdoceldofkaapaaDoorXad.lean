/-
  Contracts of math/bits.OnesCount64, TrailingZeros64 and Len64.
  Contracts of bitmap.below and Count.
-/
import Derived.Test.YtdoceldofkaapaaDoorBone
import Derived.Lib.BitFns
import Derived.Lib.Strings
import Derived.Lib.Slices
import Derived.Lib.Small
import Derived.Lib.Walk
import Derived.Test.YtdoceldofkaapaaDoorXac
set_option linter.unusedVariables false
set_option linter.unusedSimpArgs false
namespace Go.Proofs.YtdoceldofkaapaaDoor.Bm
open Go.RowKit

theorem ret_int {k : IntKind} {a b : Int} (h : a = b) : Ending.returned (.int k a) = .returned (.int k b) := by rw [h]
theorem mk85 : mk 85 8 = 6148914691236517205 := by decide
theorem mk51 : mk 51 8 = 3689348814741910323 := by decide
theorem mk15 : mk 15 8 = 1085102592571150095 := by decide
theorem fit_u64 (a b : Nat) (h : a + b < 18446744073709551616) : IntKind.u64.wrap ((a : Int) + (b : Int)) = ((a + b : Nat) : Int) := by
  rw [IntKind.wrap_u64]; omega
theorem and_div (x d m : Nat) (hx : x < 18446744073709551616) (hm : m < 18446744073709551616) : bits BinOp.and IntKind.u64 ((x : Int) / (d : Int)) (m : Int) = ((x / d &&& m : Nat) : Int) := by
  have e : (x : Int) / (d : Int) = ((x / d : Nat) : Int) := (Int.natCast_ediv _ _).symm
  rw [e, u64_and_nat _ _ (Nat.lt_of_le_of_lt (Nat.div_le_self _ _) hx) hm]
theorem low7 (z p : Nat) (h : z < 1152921504606846976) (h2 : z % 128 = p) : bits BinOp.and IntKind.i64 (z : Int) 127 = (p : Int) := by
  have h1 : (BitVec.ofInt 64 (z : Int)).toNat = z := by
    rw [BitVec.ofInt_natCast, BitVec.toNat_ofNat]; exact Nat.mod_eq_of_lt (by omega)
  have h3 : (BitVec.ofInt 64 (127 : Int)).toNat = 127 := by decide
  show IntKind.i64.wrap ((BitVec.ofInt 64 (z : Int) &&& BitVec.ofInt 64 (127 : Int)).toNat : Int) = _
  rw [BitVec.toNat_and, h1, h3, nat_mask7, h2]
  have hp : p < 128 := by omega
  simp [IntKind.wrap, IntKind.bits, IntKind.signed]
  omega
/-- The library's table, as its text lays it. -/
def Tab (w : World) : Prop := ∀ j, j < 64 → w.cell? ⟨0, j, none⟩ = some (.int .u8 (Lib.deBruijn64tab.getD j 0 : Nat))
theorem Tab.bel {w w' : World} (h : Tab w) (k : Bel w w') : Tab w' := fun j hj => k.cell (h j hj)
theorem tz_core (x k idx : Nat) (w : World) (hx0 : ((x : Int) == 0) = false)
    (key : IntKind.u64.wrap (bits BinOp.and IntKind.u64 (x : Int) (IntKind.u64.wrap (-(x : Int))) * 285870213051353865) / 288230376151711744 = (idx : Int))
    (hi : idx < 64) (hk : k < 64) (hcell : w.cell? ⟨0, idx, none⟩ = some (.int .u8 k)) :
    Calls Tryd.prog 74 #[.int .u64 x] w fun e w' => e = .returned (.int .i64 k) ∧ w = w' := by
  go_enter Tryd.func74, Tryd.ntmps74
  go_wp2_with (simp only [key])
  go_ret
  exact ⟨rfl, rfl⟩
theorem tz_any (x : Nat) (hx : x < 18446744073709551616) (hx0 : x ≠ 0) (w : World) (hT : Tab w) :
    ∃ z m : Nat, z < 64 ∧ x = 2 ^ z * (2 * m + 1) ∧ Calls Tryd.prog 74 #[.int .u64 x] w fun e w' => e = .returned (.int .i64 z) ∧ w = w' := by
  obtain ⟨hlow, hk⟩ := Lib.lowest_bit 64 x hx0 (by simpa using hx)
  obtain ⟨m, hm, _⟩ := Lib.ctzFrom_spec 64 x (by omega) (by simpa using hx)
  have ec : Lib.ctz 64 x = Lib.ctzFrom 64 x := by unfold Lib.ctz; rw [if_neg hx0]
  rw [← ec] at hm
  obtain ⟨hi, htab⟩ := Lib.deBruijn64_at _ hk
  have hcell := hT _ hi
  rw [htab] at hcell
  refine ⟨Lib.ctz 64 x, m, hk, hm, tz_core x _ _ w (by simp; omega) ?_ hi hk hcell⟩
  have e1 : IntKind.u64.wrap (-(x : Int)) = ((18446744073709551616 - x : Nat) : Int) := by rw [IntKind.wrap_u64]; omega
  simp only [Nat.reducePow] at hlow
  rw [e1, u64_and_nat x _ hx (by omega), hlow, IntKind.wrap_u64]
  generalize 2 ^ Lib.ctz 64 x = a
  omega
theorem tab8 (i : Nat) (h : i < Lib.len8tab.size) : ((Lib.len8tab[i]'h).toNat : Int) = Lib.bitLen i ∧ Lib.bitLen i ≤ 8 := by
  have h2 : i < 256 := by rw [Lib.len8tab_size] at h; exact h
  have e := Lib.len8_of (i : Int) (by omega) (by omega)
  have l := Lib.bitLen_le8' (i : Int) (by omega) (by omega)
  rw [Int.toNat_natCast] at e l
  refine ⟨?_, l⟩
  rw [← e]
  unfold Lib.len8
  rw [Int.toNat_natCast, getElem?_pos Lib.len8tab i h]
  rfl
theorem len_fin (c i X : Nat) (h : i < Lib.len8tab.size) (hc : c ≤ 56) (hX : Lib.bitLen X = c + Lib.bitLen i) : wrap64 ((c : Int) + wrap64 ((Lib.len8tab[i]'h).toNat : Int)) = Lib.bitLen X := by
  obtain ⟨e, l⟩ := tab8 i h
  rw [e, hX]
  unfold wrap64
  omega
theorem bitLen_is : ∀ (f x : Nat), x < 2 ^ f → x < 2 ^ Lib.bitLenAux f x ∧ (x ≠ 0 → 1 ≤ Lib.bitLenAux f x ∧ 2 ^ (Lib.bitLenAux f x - 1) ≤ x)
  | 0, x, h => by
    have : x = 0 := by simpa using h
    subst this
    exact ⟨by decide, fun h => absurd rfl h⟩
  | f + 1, x, h => by
    unfold Lib.bitLenAux
    by_cases hx : x = 0
    · subst hx
      rw [if_pos rfl]
      exact ⟨by decide, fun h => absurd rfl h⟩
    · rw [if_neg hx]
      obtain ⟨a, b⟩ := bitLen_is f (x / 2) (by rw [Nat.pow_succ] at h; omega)
      refine ⟨by rw [Nat.add_comm, Nat.pow_succ]; omega, fun _ => ⟨by omega, ?_⟩⟩
      by_cases h2 : x / 2 = 0
      · have hz : Lib.bitLenAux f (x / 2) = 0 := by rw [h2]; cases f <;> simp [Lib.bitLenAux]
        rw [hz]
        simp
        omega
      · obtain ⟨c, d⟩ := b h2
        have e : 1 + Lib.bitLenAux f (x / 2) - 1 = (Lib.bitLenAux f (x / 2) - 1) + 1 := by omega
        rw [e, Nat.pow_succ]
        omega
/-- The greatest bit that is in a word is one less than its length. -/
theorem len_bit (x n : Nat) (hx : x < 18446744073709551616) (hn : Lib.bitLen x = n) : (n = 0 → x = 0) ∧ (1 ≤ n → n ≤ 64 ∧ x.testBit (n - 1) = true) ∧ ∀ j, x.testBit j = true → j < n := by
  obtain ⟨a, b⟩ := bitLen_is 64 x (by simpa using hx)
  have hn' : Lib.bitLenAux 64 x = n := hn
  rw [hn'] at a b
  refine ⟨fun h => ?_, fun h => ?_, fun j hj => ?_⟩
  · subst h
    simpa using a
  · have hx0 : x ≠ 0 := by
      intro h0
      subst h0
      have : Lib.bitLenAux 64 0 = 0 := by decide
      omega
    obtain ⟨c, d⟩ := b hx0
    have hl : n ≤ 64 := by
      apply Nat.le_of_not_lt
      intro h64
      have := Nat.pow_le_pow_right (show 0 < 2 by decide) (show 64 ≤ n - 1 by omega)
      simp only [Nat.reducePow] at this
      omega
    refine ⟨hl, ?_⟩
    have e : 2 ^ n = 2 ^ (n - 1) * 2 := by rw [← Nat.pow_succ]; congr 1; omega
    have q : x / 2 ^ (n - 1) = 1 := by
      apply Nat.div_eq_of_lt_le <;> omega
    rw [Nat.testBit_eq_decide_div_mod_eq, q]
    rfl
  · apply Nat.lt_of_not_le
    intro hle
    have := Nat.pow_le_pow_right (show 0 < 2 by decide) hle
    rw [Nat.testBit_lt_two_pow (Nat.lt_of_lt_of_le a this)] at hj
    cases hj
end Go.Proofs.YtdoceldofkaapaaDoor.Bm
namespace Go.Proofs.YtdoceldofkaapaaDoor.Bm
open Go.RowKit

/-- What holds at each round's head. -/
def BelowAt (w : World) (F : Nat → Nat) (k : Nat) (wr : World) : Prop :=
  Bel w wr ∧ Box wr w.heap.size 0 0 0 0 ∧ Box wr (w.heap.size + 1) (sel F (fun _ => 0) k 0) (sel F (fun _ => 0) k 1) (sel F (fun _ => 0) k 2) (sel F (fun _ => 0) k 3)
theorem bl_val (m k : Nat) : IntKind.u64.wrap (IntKind.u64.wrap (2 ^ (min (m - 64 * k) 64)) - 1) = ((bl m k : Nat) : Int) := by
  have h1 := Nat.two_pow_pos (min (m - 64 * k) 64)
  have h2 := Nat.pow_le_pow_right (show 0 < 2 by decide) (Nat.min_le_right (m - 64 * k) 64)
  simp only [Nat.reducePow] at h2
  have e : (2 : Int) ^ (min (m - 64 * k) 64) = ((2 ^ (min (m - 64 * k) 64) : Nat) : Int) := by rw [Int.natCast_pow]; rfl
  unfold bl
  rw [e, IntKind.wrap_u64, IntKind.wrap_u64]
  generalize 2 ^ (min (m - 64 * k) 64) = p at *
  omega
set_option maxHeartbeats 1000000 in
theorem below_any (n : Int) (h1 : n ≤ 9223372036854775807) (w : World) :
    Calls Tryd.prog 59 #[.int .i64 n] w fun e w' => e = .returned (.agg #[.int .u64 (bl n.toNat 0), .int .u64 (bl n.toNat 1), .int .u64 (bl n.toNat 2), .int .u64 (bl n.toNat 3)]) ∧ Bel w w' := by
  have hm : max n 0 = (n.toNat : Int) := by omega
  have hl : n.toNat ≤ 9223372036854775807 := by omega
  generalize n.toNat = m at *
  generalize hF : bl m = F
  have HF := Lib.hid hF
  clear hF h1
  go_enter Tryd.func59, Tryd.ntmps59
  go_wp2
  go_loopw [7] (fun i wr => ∃ k : Nat, k ≤ 4 ∧ i = .int .i64 k ∧ BelowAt w F k wr) (fun i _ => 4 - (intOf i).toNat)
  case atStart =>
    refine ⟨0, by omega, rfl, ((Bel.refl _).alloc _ _).alloc _ _, (Box.new _ _ _ _ _ _).alloc _ _, ?_⟩
    have := Box.new (w.alloc (.cells #[.int .u64 0, .int .u64 0, .int .u64 0, .int .u64 0] 32)) 0 0 0 0 32
    simp only [World.size_alloc] at this
    exact this
  case round =>
    obtain ⟨k, hk, rfl, hg, b0, b1⟩ := hrel
    have G := Lib.hid hg
    have B0 := Lib.hid b0
    clear hg
    obtain rfl | rfl | rfl | rfl | rfl : k = 0 ∨ k = 1 ∨ k = 2 ∨ k = 3 ∨ k = 4 := by omega
    · simp only [sel, Nat.not_lt_zero, if_false] at b1
      have B1 := Lib.hid b1
      obtain ⟨⟨c0, c1, c2, c3⟩, e0, e1, e2, e3⟩ := b1
      clear b0
      have m1 : max ((m : Int)) 0 = ((m : Nat) : Int) := by omega
      have m2 : min ((m : Nat) : Int) 64 = ((min (m) 64 : Nat) : Int) := by omega
      have m3 : min (m) 64 ≤ 64 := by omega
      have v := bl_val m 0
      simp only [Nat.reduceMul, Nat.sub_zero] at v
      rw [HF.out] at v
      generalize min (m) 64 = s at m2 m3 v
      
      go_wp2
      go_roundw
      case rel =>
        refine ⟨1, by omega, by go_num, G.out.setCell (by simp) _, B0.out.set (by simp) _, ?_⟩
        exact B1.out.put0 _
      case measure => simp [intOf]
    · simp only [sel, Nat.reduceLT, if_true, if_false] at b1
      have B1 := Lib.hid b1
      obtain ⟨⟨c0, c1, c2, c3⟩, e0, e1, e2, e3⟩ := b1
      clear b0
      have m1 : max ((m : Int) - 64) 0 = ((m - 64 : Nat) : Int) := by omega
      have m2 : min ((m - 64 : Nat) : Int) 64 = ((min (m - 64) 64 : Nat) : Int) := by omega
      have m3 : min (m - 64) 64 ≤ 64 := by omega
      have v := bl_val m 1
      simp only [Nat.reduceMul] at v
      rw [HF.out] at v
      generalize min (m - 64) 64 = s at m2 m3 v
      generalize m - 64 = t at m1 m2
      go_wp2
      go_roundw
      case rel =>
        refine ⟨2, by omega, by go_num, G.out.setCell (by simp) _, B0.out.set (by simp) _, ?_⟩
        exact B1.out.put1 _
      case measure => simp [intOf]
    · simp only [sel, Nat.reduceLT, if_true, if_false] at b1
      have B1 := Lib.hid b1
      obtain ⟨⟨c0, c1, c2, c3⟩, e0, e1, e2, e3⟩ := b1
      clear b0
      have m1 : max ((m : Int) - 128) 0 = ((m - 128 : Nat) : Int) := by omega
      have m2 : min ((m - 128 : Nat) : Int) 64 = ((min (m - 128) 64 : Nat) : Int) := by omega
      have m3 : min (m - 128) 64 ≤ 64 := by omega
      have v := bl_val m 2
      simp only [Nat.reduceMul] at v
      rw [HF.out] at v
      generalize min (m - 128) 64 = s at m2 m3 v
      generalize m - 128 = t at m1 m2
      go_wp2
      go_roundw
      case rel =>
        refine ⟨3, by omega, by go_num, G.out.setCell (by simp) _, B0.out.set (by simp) _, ?_⟩
        exact B1.out.put2 _
      case measure => simp [intOf]
    · simp only [sel, Nat.reduceLT, if_true, if_false] at b1
      have B1 := Lib.hid b1
      obtain ⟨⟨c0, c1, c2, c3⟩, e0, e1, e2, e3⟩ := b1
      clear b0
      have m1 : max ((m : Int) - 192) 0 = ((m - 192 : Nat) : Int) := by omega
      have m2 : min ((m - 192 : Nat) : Int) 64 = ((min (m - 192) 64 : Nat) : Int) := by omega
      have m3 : min (m - 192) 64 ≤ 64 := by omega
      have v := bl_val m 3
      simp only [Nat.reduceMul] at v
      rw [HF.out] at v
      generalize min (m - 192) 64 = s at m2 m3 v
      generalize m - 192 = t at m1 m2
      go_wp2
      go_roundw
      case rel =>
        refine ⟨4, by omega, by go_num, G.out.setCell (by simp) _, B0.out.set (by simp) _, ?_⟩
        exact B1.out.put3 _
      case measure => simp [intOf]
    · simp only [sel, Nat.reduceLT, if_true] at b1
      obtain ⟨⟨c0, c1, c2, c3⟩, e0, e1, e2, e3⟩ := b1
      obtain ⟨⟨g0, g1, g2, g3⟩, f0, f1, f2, f3⟩ := b0
      go_wp2
      refine bodyPost_ret (v := .agg #[.int .u64 (F 0), .int .u64 (F 1), .int .u64 (F 2), .int .u64 (F 3)]) (by simp [results, Tryd.results59, go_sem, g0, g1, g2, g3]) rfl ⟨rfl, ?_⟩
      exact (((G.out.setCell (by simp) _).setCell (by simp) _).setCell (by simp) _).setCell (by simp) _
end Go.Proofs.YtdoceldofkaapaaDoor.Bm
