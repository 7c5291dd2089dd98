/-
  The walks of BitmapNexts and BitmapRounds: whatever bits and numbers they are given, they return true and turn nothing that was there.
-/
import Derived.Test.YthgiknkglnagbaaDoorWorks
namespace Go.Proofs.YthgiknkglnagbaaDoor
open Go.RowKit

theorem nexts_walk (B : Nat → Nat) (hB : Wd B) (f : Int) (h0 : -9223372036854775808 ≤ f) (h1 : f ≤ 9223372036854775807) (w : World) (hT : Tab w) :
    Calls Tryd.prog 6 #[.agg #[.int .u64 (B 0), .int .u64 (B 1), .int .u64 (B 2), .int .u64 (B 3)], .int .i64 f] w fun e w' => e = .returned (.bool true) ∧ Bel w w' := by
  have k1 := next_nx B hB f h1
  have k2 := rnext_any B hB f
  have k3 := last_ls B hB f h0
  have k4 := rlast_any B hB f
  have e2 : fst (bo B 256) f = nx B f := rfl
  have e4 : lst (bo B 256) f = ls B f := rfl
  rw [e2] at k2
  rw [e4] at k4
  rw [ans_num] at k1 k2 k3 k4
  generalize num (nx B f) = n at *
  generalize (nx B f).isSome = b at *
  generalize num (ls B f) = m at *
  generalize (ls B f).isSome = c at *
  have K1 := Lib.hid k1
  have K2 := Lib.hid k2
  have K3 := Lib.hid k3
  have K4 := Lib.hid k4
  have HT := Lib.hid hT
  clear k1 k2 k3 k4 hT hB h0 h1 e2 e4
  go_enter Tryd.func6, Tryd.ntmps6
  go_wp2_with fail
  with_reducible refine (works_any _ (HT.out.bel ((Bel.refl _).alloc _ _))).mono ?_
  rintro e w1 ⟨rfl, hb⟩
  have G := Lib.hid (((Bel.refl w).alloc _ _).trans hb)
  have X := Lib.hid ((Box.new w (B 0) (B 1) (B 2) (B 3) 24).bel hb)
  clear hb
  obtain ⟨⟨c0, c1, c2, c3⟩, _⟩ := X.out
  go_wp2_with fail
  with_reducible refine (K1.out _ (HT.out.bel G.out)).mono ?_
  rintro e w2 ⟨rfl, hb⟩
  have G' := Lib.hid (G.out.trans hb)
  have X' := Lib.hid (X.out.bel hb)
  clear hb G X c0 c1 c2 c3
  obtain ⟨⟨c0, c1, c2, c3⟩, _⟩ := X'.out
  go_wp2_with fail
  with_reducible refine (K2.out _).mono ?_
  rintro e w3 ⟨rfl, hb⟩
  have G := Lib.hid (G'.out.trans hb)
  have X := Lib.hid (X'.out.bel hb)
  clear hb G' X' c0 c1 c2 c3
  obtain ⟨⟨c0, c1, c2, c3⟩, _⟩ := X.out
  go_wp2_with fail
  with_reducible refine (K3.out _).mono ?_
  rintro e w4 ⟨rfl, hb⟩
  have G' := Lib.hid (G.out.trans hb)
  have X' := Lib.hid (X.out.bel hb)
  clear hb G X c0 c1 c2 c3
  obtain ⟨⟨c0, c1, c2, c3⟩, _⟩ := X'.out
  go_wp2_with fail
  with_reducible refine (K4.out _).mono ?_
  rintro e w5 ⟨rfl, hb⟩
  have G := Lib.hid (G'.out.trans hb)
  clear hb G' X' c0 c1 c2 c3
  have eb : (b == b) = true := by cases b <;> rfl
  have ec : (c == c) = true := by cases c <;> rfl
  go_wp2
  go_ret
  exact ⟨rfl, G.out⟩
theorem rounds_walk (B : Nat → Nat) (hB : Wd B) (f n : Int) (h1 : n ≤ 9223372036854775807) (w : World) (hT : Tab w) :
    Calls Tryd.prog 7 #[.agg #[.int .u64 (B 0), .int .u64 (B 1), .int .u64 (B 2), .int .u64 (B 3)], .int .i64 f, .int .i64 n] w fun e w' => e = .returned (.bool true) ∧ Bel w w' := by
  have k1 := round_any B hB f n h1
  have k2 := rround_any B hB f n
  rw [ans_num] at k1 k2
  generalize num (rd B f n) = m at *
  generalize (rd B f n).isSome = b at *
  have K1 := Lib.hid k1
  have K2 := Lib.hid k2
  have HT := Lib.hid hT
  clear k1 k2 hT hB h1
  go_enter Tryd.func7, Tryd.ntmps7
  go_wp2_with fail
  with_reducible refine (works_any _ (HT.out.bel ((Bel.refl _).alloc _ _))).mono ?_
  rintro e w1 ⟨rfl, hb⟩
  have G := Lib.hid (((Bel.refl w).alloc _ _).trans hb)
  have X := Lib.hid ((Box.new w (B 0) (B 1) (B 2) (B 3) 24).bel hb)
  clear hb
  obtain ⟨⟨c0, c1, c2, c3⟩, _⟩ := X.out
  go_wp2_with fail
  with_reducible refine (K1.out _ (HT.out.bel G.out)).mono ?_
  rintro e w2 ⟨rfl, hb⟩
  have G' := Lib.hid (G.out.trans hb)
  have X' := Lib.hid (X.out.bel hb)
  clear hb G X c0 c1 c2 c3
  obtain ⟨⟨c0, c1, c2, c3⟩, _⟩ := X'.out
  go_wp2_with fail
  with_reducible refine (K2.out _).mono ?_
  rintro e w3 ⟨rfl, hb⟩
  have G := Lib.hid (G'.out.trans hb)
  clear hb G' X' c0 c1 c2 c3
  have eb : (b == b) = true := by cases b <;> rfl
  go_wp2
  go_ret
  exact ⟨rfl, G.out⟩
end Go.Proofs.YthgiknkglnagbaaDoor
