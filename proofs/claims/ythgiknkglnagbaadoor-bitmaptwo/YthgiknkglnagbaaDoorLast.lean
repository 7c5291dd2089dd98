/-
  The contract of bitmap.Last.
-/
import Derived.Test.YthgiknkglnagbaaDoorScan
namespace Go.Proofs.YthgiknkglnagbaaDoor
open Go.RowKit

/-- The number of an answer, and whether there is one. -/
def num : Option Nat → Int
  | some m => m
  | none => 0
theorem ans_num (o : Option Nat) : ans o = .tuple #[.int .i64 (num o), .bool o.isSome] := by cases o <;> rfl
theorem bo_last (C : Nat → Nat) (hC : Wd C) (k n : Nat) (hn : Lib.bitLen (C k) = n) : (n = 0 → (bo C (64 * (k + 1))).getLast? = (bo C (64 * k)).getLast?) ∧ (1 ≤ n → n ≤ 64 ∧ (bo C (64 * (k + 1))).getLast? = some (64 * k + (n - 1))) := by
  obtain ⟨a, b, c⟩ := len_bit (C k) n (hC k) hn
  refine ⟨fun h => ?_, fun h => ?_⟩
  · have := bo_skip C (64 * k) 64 (fun i h1 h2 => by
      have e : i = 64 * k + (i - 64 * k) := by omega
      rw [e, tb_at C k _ (by omega), a h, Nat.zero_testBit])
    have e : 64 * k + 64 = 64 * (k + 1) := by omega
    rw [e] at this
    rw [this]
  · obtain ⟨h64, hb⟩ := b h
    refine ⟨h64, ?_⟩
    have h1 := bo_hit C (64 * k + (n - 1)) (by rw [tb_at C k _ (by omega)]; exact hb)
    have h2 := bo_skip C (64 * k + (n - 1) + 1) (64 - n) (fun i h1 h2 => by
      have e : i = 64 * k + (i - 64 * k) := by omega
      rw [e, tb_at C k _ (by omega)]
      cases hh : (C k).testBit (i - 64 * k) with
      | false => rfl
      | true => have := c _ hh; omega)
    have e : 64 * k + (n - 1) + 1 + (64 - n) = 64 * (k + 1) := by omega
    rw [e] at h2
    rw [h2, h1]
    simp
theorem last_val (c n : Nat) (hn : 1 ≤ n) : Value.int .i64 ((c : Int) + (n : Int) - 1) = .int .i64 (num (some (c + (n - 1)))) := by
  congr 1
  show _ = ((c + (n - 1) : Nat) : Int)
  omega
theorem last_val0 (n : Nat) (hn : 1 ≤ n) : Value.int .i64 ((n : Int) - 1) = .int .i64 (num (some (0 + (n - 1)))) := by
  congr 1
  show _ = ((0 + (n - 1) : Nat) : Int)
  omega
set_option maxHeartbeats 4000000 in
theorem last_any (B : Nat → Nat) (hB : Wd B) (f : Int) (h0 : -9223372036854775808 ≤ f) (w : World) :
    Calls Tryd.prog 25 #[.agg #[.int .u64 (B 0), .int .u64 (B 1), .int .u64 (B 2), .int .u64 (B 3)], .int .i64 f] w fun e w' => e = .returned (ans (bo (bth B (bl (min f 255 + 1).toNat)) 256).getLast?) ∧ Bel w w' := by
  have K1 := Lib.hid (below_any (min f 255 + 1) (by omega))
  have K2 := Lib.hid (both_any B (bl (min f 255 + 1).toNat) hB (bl_wd _))
  have hC := bth_wd hB (bl (min f 255 + 1).toNat)
  generalize bth B (bl (min f 255 + 1).toNat) = C at *
  generalize bl (min f 255 + 1).toNat = L at *
  have m0 : -9223372036854775808 ≤ min f 255 := by omega
  have m1 : min f 255 ≤ 255 := by omega
  obtain ⟨m, hm⟩ : ∃ m, min f 255 = m := ⟨_, rfl⟩
  rw [hm] at K1 m0 m1
  obtain ⟨m2, hm2⟩ : ∃ m2, m + 1 = m2 := ⟨_, rfl⟩
  have hw : IntKind.i64.wrap (m + 1) = m2 := by rw [IntKind.wrap_i64]; omega
  rw [hm2] at K1
  clear hm2 m0 m1
  have KL : Hid (∀ k w, Calls Tryd.prog 34 #[.int .u64 (C k)] w fun e w' => e = .returned (.int .i64 (Lib.bitLen (C k))) ∧ w = w') := Lib.hid fun k w => by
    have := len_any (C k) (by omega) (by have := hC k; omega) w
    rw [Int.toNat_natCast] at this
    exact this
  have BL := Lib.hid fun k => bo_last C hC k _ rfl
  clear hB hC h0
  go_enter Tryd.func25, Tryd.ntmps25
  go_wp2
  have b0 := Box.new w (B 0) (B 1) (B 2) (B 3) 24
  have B0 := Lib.hid b0
  clear b0
  go_region_with (first
      | (go_at_call 33; (with_reducible refine (K1.out _).mono ?_); rintro e w1 ⟨rfl, hb⟩; have b1 := B0.out.drew.bel hb; obtain ⟨⟨d0, d1, d2, d3⟩, f0, f1, f2, f3⟩ := b1)
      | (go_at_call 21; (with_reducible refine (K2.out _).mono ?_); rintro e w2 ⟨rfl, hb2⟩; have b2 := (B0.out.drew.bel hb).bel hb2; obtain ⟨⟨g0, g1, g2, g3⟩, i0, i1, i2, i3⟩ := b2))
  all_goals
    have G := Lib.hid (((((((Bel.refl w).alloc #[.int .u64 (B 0), .int .u64 (B 1), .int .u64 (B 2), .int .u64 (B 3)] 24).drew.trans hb).trans hb2).setCell (p := ⟨w.heap.size, 0, none⟩) (by simp) (.int .u64 (C 0))).setCell (p := ⟨w.heap.size, 1, none⟩) (by simp) (.int .u64 (C 1))).setCell (p := ⟨w.heap.size, 2, none⟩) (by simp) (.int .u64 (C 2)) |>.setCell (p := ⟨w.heap.size, 3, none⟩) (by simp) (.int .u64 (C 3)))
    have X := box4 ((B0.out.drew.bel hb).bel hb2) (C 0) (C 1) (C 2) (C 3)
    obtain ⟨⟨c0, c1, c2, c3⟩, _⟩ := X
    clear hb hb2 d0 d1 d2 d3 f0 f1 f2 f3 g0 g1 g2 g3 i0 i1 i2 i3 K1 K2 B0
    generalize (((w2.setCell ⟨w.heap.size, 0, none⟩ (.int .u64 (C 0))).setCell ⟨w.heap.size, 1, none⟩ (.int .u64 (C 1))).setCell ⟨w.heap.size, 2, none⟩ (.int .u64 (C 2))).setCell ⟨w.heap.size, 3, none⟩ (.int .u64 (C 3)) = w3 at *
    go_wp2
    go_loop [6, 7, 16] (fun x y i => ∃ (k : Nat) (o : Option Nat), k ≤ 4 ∧ x = .int .i64 (num o) ∧ y = .bool o.isSome ∧ i = .int .i64 k ∧ (bo C (64 * k)).getLast? = o) (fun _ _ i => 4 - (intOf i).toNat)
    case atStart => exact ⟨0, none, by omega, rfl, rfl, rfl, rfl⟩
    case round =>
      obtain ⟨k, o, hk, rfl, rfl, rfl, ho⟩ := hrel
      obtain rfl | rfl | rfl | rfl | rfl : k = 0 ∨ k = 1 ∨ k = 2 ∨ k = 3 ∨ k = 4 := by omega
      · have K := Lib.hid (KL.out 0)
        obtain ⟨l0, l1⟩ := BL.out 0
        simp only [Nat.reduceMul, Nat.reduceAdd] at l0 l1
        generalize Lib.bitLen (C 0) = n at K l0 l1
        by_cases hn : n = 0
        · subst hn
          have E : Hid ((bo C 64).getLast? = o) := Lib.hid ((l0 rfl).trans ho)
          clear l0 l1 ho
          go_wp2_with fail
          with_reducible refine (K.out _).mono ?_
          rintro e w' ⟨rfl, rfl⟩
          go_wp2
          go_round
          case rel => exact ⟨1, o, by omega, rfl, rfl, by go_num, E.out⟩
          case measure => simp [intOf]
        · obtain ⟨ln, E0⟩ := l1 (by omega)
          have E := Lib.hid E0
          have hn0 : (0 : Int) < n := by omega
          clear l0 l1 ho E0
          go_wp2_with fail
          with_reducible refine (K.out _).mono ?_
          rintro e w' ⟨rfl, rfl⟩
          go_wp2
          go_round
          case rel => exact ⟨1, some (0 + (n - 1)), by omega, last_val0 n (by omega), rfl, by go_num, E.out⟩
          case measure => simp [intOf]
      · have K := Lib.hid (KL.out 1)
        obtain ⟨l0, l1⟩ := BL.out 1
        simp only [Nat.reduceMul, Nat.reduceAdd] at l0 l1
        generalize Lib.bitLen (C 1) = n at K l0 l1
        by_cases hn : n = 0
        · subst hn
          have E : Hid ((bo C 128).getLast? = o) := Lib.hid ((l0 rfl).trans ho)
          clear l0 l1 ho
          go_wp2_with fail
          with_reducible refine (K.out _).mono ?_
          rintro e w' ⟨rfl, rfl⟩
          go_wp2
          go_round
          case rel => exact ⟨2, o, by omega, rfl, rfl, by go_num, E.out⟩
          case measure => simp [intOf]
        · obtain ⟨ln, E0⟩ := l1 (by omega)
          have E := Lib.hid E0
          have hn0 : (0 : Int) < n := by omega
          clear l0 l1 ho E0
          go_wp2_with fail
          with_reducible refine (K.out _).mono ?_
          rintro e w' ⟨rfl, rfl⟩
          go_wp2
          go_round
          case rel => exact ⟨2, some (64 + (n - 1)), by omega, last_val 64 n (by omega), rfl, by go_num, E.out⟩
          case measure => simp [intOf]
      · have K := Lib.hid (KL.out 2)
        obtain ⟨l0, l1⟩ := BL.out 2
        simp only [Nat.reduceMul, Nat.reduceAdd] at l0 l1
        generalize Lib.bitLen (C 2) = n at K l0 l1
        by_cases hn : n = 0
        · subst hn
          have E : Hid ((bo C 192).getLast? = o) := Lib.hid ((l0 rfl).trans ho)
          clear l0 l1 ho
          go_wp2_with fail
          with_reducible refine (K.out _).mono ?_
          rintro e w' ⟨rfl, rfl⟩
          go_wp2
          go_round
          case rel => exact ⟨3, o, by omega, rfl, rfl, by go_num, E.out⟩
          case measure => simp [intOf]
        · obtain ⟨ln, E0⟩ := l1 (by omega)
          have E := Lib.hid E0
          have hn0 : (0 : Int) < n := by omega
          clear l0 l1 ho E0
          go_wp2_with fail
          with_reducible refine (K.out _).mono ?_
          rintro e w' ⟨rfl, rfl⟩
          go_wp2
          go_round
          case rel => exact ⟨3, some (128 + (n - 1)), by omega, last_val 128 n (by omega), rfl, by go_num, E.out⟩
          case measure => simp [intOf]
      · have K := Lib.hid (KL.out 3)
        obtain ⟨l0, l1⟩ := BL.out 3
        simp only [Nat.reduceMul, Nat.reduceAdd] at l0 l1
        generalize Lib.bitLen (C 3) = n at K l0 l1
        by_cases hn : n = 0
        · subst hn
          have E : Hid ((bo C 256).getLast? = o) := Lib.hid ((l0 rfl).trans ho)
          clear l0 l1 ho
          go_wp2_with fail
          with_reducible refine (K.out _).mono ?_
          rintro e w' ⟨rfl, rfl⟩
          go_wp2
          go_round
          case rel => exact ⟨4, o, by omega, rfl, rfl, by go_num, E.out⟩
          case measure => simp [intOf]
        · obtain ⟨ln, E0⟩ := l1 (by omega)
          have E := Lib.hid E0
          have hn0 : (0 : Int) < n := by omega
          clear l0 l1 ho E0
          go_wp2_with fail
          with_reducible refine (K.out _).mono ?_
          rintro e w' ⟨rfl, rfl⟩
          go_wp2
          go_round
          case rel => exact ⟨4, some (192 + (n - 1)), by omega, last_val 192 n (by omega), rfl, by go_num, E.out⟩
          case measure => simp [intOf]
      · have E : Hid (ans (bo C 256).getLast? = .tuple #[.int .i64 (num o), .bool o.isSome]) := Lib.hid (by rw [← ans_num, ← ho])
        clear ho
        go_wp2
        go_ret2
        exact ⟨congrArg Ending.returned E.out.symm, G.out⟩
end Go.Proofs.YthgiknkglnagbaaDoor
