/-
  Contracts of bitmap.below and Count.
-/
import Derived.Test.YthgiknkglnagbaaDoorWords
import Derived.Test.YthgiknkglnagbaaDoorBits
namespace Go.Proofs.YthgiknkglnagbaaDoor
open Go.RowKit

/-- What holds at each round's head. -/
def BelowAt (w : World) (F : Nat → Nat) (k : Nat) (wr : World) : Prop :=
  Bel w wr ∧ Box wr w.heap.size 0 0 0 0 ∧ Box wr (w.heap.size + 1) (sel F (fun _ => 0) k 0) (sel F (fun _ => 0) k 1) (sel F (fun _ => 0) k 2) (sel F (fun _ => 0) k 3)
theorem bl_val (m k : Nat) : IntKind.u64.wrap (IntKind.u64.wrap (2 ^ (min (m - 64 * k) 64)) - 1) = ((bl m k : Nat) : Int) := by
  have h1 := Nat.two_pow_pos (min (m - 64 * k) 64)
  have h2 := Nat.pow_le_pow_right (show 0 < 2 by decide) (Nat.min_le_right (m - 64 * k) 64)
  simp only [Nat.reducePow] at h2
  have e : (2 : Int) ^ (min (m - 64 * k) 64) = ((2 ^ (min (m - 64 * k) 64) : Nat) : Int) := by rw [Int.natCast_pow]; rfl
  unfold bl
  rw [e, IntKind.wrap_u64, IntKind.wrap_u64]
  generalize 2 ^ (min (m - 64 * k) 64) = p at *
  omega
set_option maxHeartbeats 1000000 in
theorem below_any (n : Int) (h1 : n ≤ 9223372036854775807) (w : World) :
    Calls Tryd.prog 33 #[.int .i64 n] w fun e w' => e = .returned (.agg #[.int .u64 (bl n.toNat 0), .int .u64 (bl n.toNat 1), .int .u64 (bl n.toNat 2), .int .u64 (bl n.toNat 3)]) ∧ Bel w w' := by
  have hm : max n 0 = (n.toNat : Int) := by omega
  have hl : n.toNat ≤ 9223372036854775807 := by omega
  generalize n.toNat = m at *
  generalize hF : bl m = F
  have HF := Lib.hid hF
  clear hF h1
  go_enter Tryd.func33, Tryd.ntmps33
  go_wp2
  go_loopw [7] (fun i wr => ∃ k : Nat, k ≤ 4 ∧ i = .int .i64 k ∧ BelowAt w F k wr) (fun i _ => 4 - (intOf i).toNat)
  case atStart =>
    refine ⟨0, by omega, rfl, ((Bel.refl _).alloc _ _).alloc _ _, (Box.new _ _ _ _ _ _).alloc _ _, ?_⟩
    have := Box.new (w.alloc (.cells #[.int .u64 0, .int .u64 0, .int .u64 0, .int .u64 0] 24)) 0 0 0 0 24
    simp only [World.size_alloc] at this
    exact this
  case round =>
    obtain ⟨k, hk, rfl, hg, b0, b1⟩ := hrel
    have G := Lib.hid hg
    have B0 := Lib.hid b0
    clear hg
    obtain rfl | rfl | rfl | rfl | rfl : k = 0 ∨ k = 1 ∨ k = 2 ∨ k = 3 ∨ k = 4 := by omega
    · simp only [sel, Nat.not_lt_zero, if_false] at b1
      have B1 := Lib.hid b1
      obtain ⟨⟨c0, c1, c2, c3⟩, e0, e1, e2, e3⟩ := b1
      clear b0
      have m1 : max ((m : Int)) 0 = ((m : Nat) : Int) := by omega
      have m2 : min ((m : Nat) : Int) 64 = ((min (m) 64 : Nat) : Int) := by omega
      have m3 : min (m) 64 ≤ 64 := by omega
      have v := bl_val m 0
      simp only [Nat.reduceMul, Nat.sub_zero] at v
      rw [HF.out] at v
      generalize min (m) 64 = s at m2 m3 v
      
      go_wp2
      go_roundw
      case rel =>
        refine ⟨1, by omega, by go_num, G.out.setCell (by simp) _, B0.out.set (by simp) _, ?_⟩
        exact B1.out.put0 _
      case measure => simp [intOf]
    · simp only [sel, Nat.reduceLT, if_true, if_false] at b1
      have B1 := Lib.hid b1
      obtain ⟨⟨c0, c1, c2, c3⟩, e0, e1, e2, e3⟩ := b1
      clear b0
      have m1 : max ((m : Int) - 64) 0 = ((m - 64 : Nat) : Int) := by omega
      have m2 : min ((m - 64 : Nat) : Int) 64 = ((min (m - 64) 64 : Nat) : Int) := by omega
      have m3 : min (m - 64) 64 ≤ 64 := by omega
      have v := bl_val m 1
      simp only [Nat.reduceMul] at v
      rw [HF.out] at v
      generalize min (m - 64) 64 = s at m2 m3 v
      generalize m - 64 = t at m1 m2
      go_wp2
      go_roundw
      case rel =>
        refine ⟨2, by omega, by go_num, G.out.setCell (by simp) _, B0.out.set (by simp) _, ?_⟩
        exact B1.out.put1 _
      case measure => simp [intOf]
    · simp only [sel, Nat.reduceLT, if_true, if_false] at b1
      have B1 := Lib.hid b1
      obtain ⟨⟨c0, c1, c2, c3⟩, e0, e1, e2, e3⟩ := b1
      clear b0
      have m1 : max ((m : Int) - 128) 0 = ((m - 128 : Nat) : Int) := by omega
      have m2 : min ((m - 128 : Nat) : Int) 64 = ((min (m - 128) 64 : Nat) : Int) := by omega
      have m3 : min (m - 128) 64 ≤ 64 := by omega
      have v := bl_val m 2
      simp only [Nat.reduceMul] at v
      rw [HF.out] at v
      generalize min (m - 128) 64 = s at m2 m3 v
      generalize m - 128 = t at m1 m2
      go_wp2
      go_roundw
      case rel =>
        refine ⟨3, by omega, by go_num, G.out.setCell (by simp) _, B0.out.set (by simp) _, ?_⟩
        exact B1.out.put2 _
      case measure => simp [intOf]
    · simp only [sel, Nat.reduceLT, if_true, if_false] at b1
      have B1 := Lib.hid b1
      obtain ⟨⟨c0, c1, c2, c3⟩, e0, e1, e2, e3⟩ := b1
      clear b0
      have m1 : max ((m : Int) - 192) 0 = ((m - 192 : Nat) : Int) := by omega
      have m2 : min ((m - 192 : Nat) : Int) 64 = ((min (m - 192) 64 : Nat) : Int) := by omega
      have m3 : min (m - 192) 64 ≤ 64 := by omega
      have v := bl_val m 3
      simp only [Nat.reduceMul] at v
      rw [HF.out] at v
      generalize min (m - 192) 64 = s at m2 m3 v
      generalize m - 192 = t at m1 m2
      go_wp2
      go_roundw
      case rel =>
        refine ⟨4, by omega, by go_num, G.out.setCell (by simp) _, B0.out.set (by simp) _, ?_⟩
        exact B1.out.put3 _
      case measure => simp [intOf]
    · simp only [sel, Nat.reduceLT, if_true] at b1
      obtain ⟨⟨c0, c1, c2, c3⟩, e0, e1, e2, e3⟩ := b1
      obtain ⟨⟨g0, g1, g2, g3⟩, f0, f1, f2, f3⟩ := b0
      go_wp2
      refine bodyPost_ret (v := .agg #[.int .u64 (F 0), .int .u64 (F 1), .int .u64 (F 2), .int .u64 (F 3)]) (by simp [results, Tryd.results33, go_sem, g0, g1, g2, g3]) rfl ⟨rfl, ?_⟩
      exact (((G.out.setCell (by simp) _).setCell (by simp) _).setCell (by simp) _).setCell (by simp) _
theorem count_any (B : Nat → Nat) (hB : Wd B) (w : World) :
    Calls Tryd.prog 20 #[.agg #[.int .u64 (B 0), .int .u64 (B 1), .int .u64 (B 2), .int .u64 (B 3)]] w fun e w' => e = .returned (.int .i64 (cnt (tb B) 256 : Nat)) ∧ Bel w w' := by
  have p0 := pc_le (B 0)
  have p1 := pc_le (B 1)
  have p2 := pc_le (B 2)
  have p3 := pc_le (B 3)
  have K0 := Lib.hid (ones_any (B 0) (hB 0))
  have K1 := Lib.hid (ones_any (B 1) (hB 1))
  have K2 := Lib.hid (ones_any (B 2) (hB 2))
  have K3 := Lib.hid (ones_any (B 3) (hB 3))
  have E := Lib.hid (cnt_tb B)
  generalize pc (B 0) = q0 at *
  generalize pc (B 1) = q1 at *
  generalize pc (B 2) = q2 at *
  generalize pc (B 3) = q3 at *
  go_enter Tryd.func20, Tryd.ntmps20
  go_wp2
  go_loop [3, 5] (fun s i => ∃ k m : Nat, k ≤ 4 ∧ i = .int .i64 k ∧ s = .int .i64 m ∧ m = (if 0 < k then q0 else 0) + (if 1 < k then q1 else 0) + (if 2 < k then q2 else 0) + (if 3 < k then q3 else 0)) (fun _ i => 4 - (intOf i).toNat)
  case atStart => exact ⟨0, 0, by omega, rfl, rfl, rfl⟩
  case round =>
    obtain ⟨k, m, hk, rfl, rfl, hm⟩ := hrel
    obtain rfl | rfl | rfl | rfl | rfl : k = 0 ∨ k = 1 ∨ k = 2 ∨ k = 3 ∨ k = 4 := by omega
    · have M := Lib.hid hm
      have hl : m ≤ 256 := by simp only [Nat.reduceLT, Nat.lt_irrefl, if_false, Nat.add_zero] at hm; omega
      clear hm
      go_wp2_with fail
      with_reducible refine (K0.out _).mono ?_
      rintro e w' ⟨rfl, rfl⟩
      go_wp2
      go_round
      case rel => exact ⟨1, m + q0, by omega, by go_num, by go_num, by rw [M.out]; simp⟩
      case measure => simp [intOf]
    · have M := Lib.hid hm
      have hl : m ≤ 256 := by simp only [Nat.reduceLT, Nat.lt_irrefl, if_true, if_false, Nat.add_zero] at hm; omega
      clear hm
      go_wp2_with fail
      with_reducible refine (K1.out _).mono ?_
      rintro e w' ⟨rfl, rfl⟩
      go_wp2
      go_round
      case rel => exact ⟨2, m + q1, by omega, by go_num, by go_num, by rw [M.out]; simp⟩
      case measure => simp [intOf]
    · have M := Lib.hid hm
      have hl : m ≤ 256 := by simp only [Nat.reduceLT, Nat.lt_irrefl, if_true, if_false, Nat.add_zero] at hm; omega
      clear hm
      go_wp2_with fail
      with_reducible refine (K2.out _).mono ?_
      rintro e w' ⟨rfl, rfl⟩
      go_wp2
      go_round
      case rel => exact ⟨3, m + q2, by omega, by go_num, by go_num, by rw [M.out]; simp⟩
      case measure => simp [intOf]
    · have M := Lib.hid hm
      have hl : m ≤ 256 := by simp only [Nat.reduceLT, Nat.lt_irrefl, if_true, if_false, Nat.add_zero] at hm; omega
      clear hm
      go_wp2_with fail
      with_reducible refine (K3.out _).mono ?_
      rintro e w' ⟨rfl, rfl⟩
      go_wp2
      go_round
      case rel => exact ⟨4, m + q3, by omega, by go_num, by go_num, by rw [M.out]; simp⟩
      case measure => simp [intOf]
    · simp only [Nat.reduceLT, if_true] at hm
      have M : Hid (cnt (tb B) 256 = m) := Lib.hid (E.out.trans hm.symm)
      clear hm
      go_wp2
      go_ret
      exact ⟨ret_int (by rw [M.out]), (Bel.refl _).alloc _ _⟩
end Go.Proofs.YthgiknkglnagbaaDoor
