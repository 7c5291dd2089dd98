/-
  The walk of BitmapGaps: whatever bits and whatever number it is given, it returns true and turns nothing that was there.
-/
import Derived.Test.YthgiknkglnagbaaDoorWorks
namespace Go.Proofs.YthgiknkglnagbaaDoor
open Go.RowKit

theorem ls_in (B : Nat → Nat) (f : Int) (p : Nat) (h : ls B f = some p) : p < 256 ∧ tb B p = true ∧ (p : Int) ≤ f := by
  unfold ls lst at h
  have h1 := List.find?_some h
  have h2 := List.mem_of_find?_eq_some h
  rw [List.mem_reverse] at h2
  unfold bo at h2
  rw [List.mem_filter, List.mem_range] at h2
  exact ⟨h2.1, h2.2, by simpa using h1⟩
set_option maxRecDepth 100000 in
set_option maxHeartbeats 1000000 in
theorem gaps_some (B : Nat → Nat) (hB : Wd B) (f : Int) (h1 : f ≤ 9223372036854775807) (w : World) (hT : Tab w) (n : Nat) (hx : nx B f = some n) :
    Calls Tryd.prog 8 #[.agg #[.int .u64 (B 0), .int .u64 (B 1), .int .u64 (B 2), .int .u64 (B 3)], .int .i64 f] w fun e w' => e = .returned (.bool true) ∧ Bel w w' := by
  obtain ⟨n1, n2, n3, n4⟩ := (nx_some B f n).1 hx
  have HG : Hid (∀ j, j < n → tb B j = true → ¬ f ≤ (j : Int)) := Lib.hid n4
  have k1 := next_nx B hB f h1
  rw [hx] at k1
  have K1 : Hid (∀ w, Tab w → Calls Tryd.prog 23 #[.agg #[.int .u64 (B 0), .int .u64 (B 1), .int .u64 (B 2), .int .u64 (B 3)], .int .i64 f] w fun e w' => e = .returned (.tuple #[.int .i64 n, .bool true]) ∧ Bel w w') := Lib.hid k1
  clear k1
  have k3 := last_ls B hB ((n : Int) - 1) (by omega)
  have HL : Hid (∀ p, ls B ((n : Int) - 1) = some p → (p : Int) < f) := Lib.hid fun p hp => by
    obtain ⟨q1, q2, q3⟩ := ls_in B _ p hp
    have := n4 p (by omega) q2
    omega
  have KH : Hid (∀ w, Calls Tryd.prog 14 #[.agg #[.int .u64 (B 0), .int .u64 (B 1), .int .u64 (B 2), .int .u64 (B 3)], .int .i64 (n : Int)] w fun e w' => e = .returned (.bool true) ∧ Bel w w') := Lib.hid fun w => by
    have := has_any B hB n w
    rw [hs_nat B n n1, n2] at this
    exact this
  have n3' : ¬ (n : Int) < f := by omega
  have n1' : (n : Int) < 256 := by omega
  have HB := Lib.hid hB
  have HT := Lib.hid hT
  rw [ans_num] at k3
  have LP : Hid ((ls B ((n : Int) - 1)).isSome = true → num (ls B ((n : Int) - 1)) < f) := Lib.hid (by
    cases hl : ls B ((n : Int) - 1) with
    | none => intro h; cases h
    | some p => intro _; exact HL.out p hl)
  generalize num (ls B ((n : Int) - 1)) = p at *
  generalize (ls B ((n : Int) - 1)).isSome = is at *
  have K3 := Lib.hid k3
  clear k3 HL hT hB h1 hx n4
  go_enter Tryd.func8, Tryd.ntmps8
  go_wp2_with fail
  with_reducible refine (works_any _ (HT.out.bel ((Bel.refl _).alloc _ _))).mono ?_
  rintro e w1 ⟨rfl, hb⟩
  have G := Lib.hid (((Bel.refl w).alloc _ _).trans hb)
  have X := Lib.hid ((Box.new w (B 0) (B 1) (B 2) (B 3) 24).bel hb)
  clear hb
  obtain ⟨⟨c0, c1, c2, c3⟩, _⟩ := X.out
  go_wp2_with fail
  with_reducible refine (K1.out _ (HT.out.bel G.out)).mono ?_
  rintro e w2 ⟨rfl, hb⟩
  have G' := Lib.hid (G.out.trans hb)
  have X' := Lib.hid (X.out.bel hb)
  clear hb G X c0 c1 c2 c3
  obtain ⟨⟨c0, c1, c2, c3⟩, _⟩ := X'.out
  go_wp2_with fail
  with_reducible refine (KH.out _).mono ?_
  rintro e w3 ⟨rfl, hb⟩
  have G2 := Lib.hid (G'.out.trans hb)
  have X2 := Lib.hid (X'.out.bel hb)
  clear hb G' X' c0 c1 c2 c3
  have G' := G2
  have X' := X2
  clear G2 X2
  go_wp2
  go_loopw [8] (fun i wr => ∃ k : Nat, k ≤ n ∧ i = .int .i64 k ∧ Bel w wr ∧ Box wr w.heap.size (B 0) (B 1) (B 2) (B 3)) (fun i _ => n - (intOf i).toNat)
  case atStart => exact ⟨0, by omega, rfl, G'.out, X'.out⟩
  case round =>
    obtain ⟨k, hk, rfl, hg, hx⟩ := hrel
    have GG := Lib.hid hg
    have XX := Lib.hid hx
    clear hg G' X'
    obtain ⟨⟨c0, c1, c2, c3⟩, _⟩ := hx
    by_cases hlt : k < n
    · have kk := has_any B HB.out k
      rw [hs_nat B k (by omega)] at kk
      have k1 : (k : Int) < 256 := by omega
      have k2 : (k : Int) < n := by omega
      by_cases hf : f ≤ (k : Int)
      · have hv : tb B k = false := by
          cases hv : tb B k with
          | false => rfl
          | true => have := HG.out k hlt hv; omega
        rw [hv] at kk
        have K := Lib.hid kk
        clear kk hv
        go_wp2_with fail
        with_reducible refine (K.out _).mono ?_
        rintro e w5 ⟨rfl, hb⟩
        go_wp2
        go_roundw
        case rel => exact ⟨k + 1, by omega, by go_num, GG.out.trans hb, XX.out.bel hb⟩
        case measure => simp [intOf]; omega
      · have K := Lib.hid kk
        generalize tb B k = hv at K
        clear kk
        go_wp2_with fail
        with_reducible refine (K.out _).mono ?_
        rintro e w5 ⟨rfl, hb⟩
        go_wp2
        go_roundw
        case rel => exact ⟨k + 1, by omega, by go_num, GG.out.trans hb, XX.out.bel hb⟩
        case measure => simp [intOf]; omega
    · obtain rfl : k = n := by omega
      go_wp2_with fail
      with_reducible refine (K3.out _).mono ?_
      rintro e w5 ⟨rfl, hb⟩
      have G5 := Lib.hid (GG.out.trans hb)
      clear hb GG XX c0 c1 c2 c3
      cases is with
      | false =>
        go_wp2
        go_ret
        exact ⟨rfl, G5.out⟩
      | true =>
        have lp := LP.out rfl
        go_wp2
        go_ret
        exact ⟨rfl, G5.out⟩
set_option maxRecDepth 100000 in
set_option maxHeartbeats 1000000 in
theorem gaps_none (B : Nat → Nat) (hB : Wd B) (f : Int) (h1 : f ≤ 9223372036854775807) (w : World) (hT : Tab w) (hx : nx B f = none) :
    Calls Tryd.prog 8 #[.agg #[.int .u64 (B 0), .int .u64 (B 1), .int .u64 (B 2), .int .u64 (B 3)], .int .i64 f] w fun e w' => e = .returned (.bool true) ∧ Bel w w' := by
  have n4 := (nx_none B f).1 hx
  have HG : Hid (∀ j, j < 256 → tb B j = true → ¬ f ≤ (j : Int)) := Lib.hid n4
  have k1 := next_nx B hB f h1
  rw [hx] at k1
  have K1 : Hid (∀ w, Tab w → Calls Tryd.prog 23 #[.agg #[.int .u64 (B 0), .int .u64 (B 1), .int .u64 (B 2), .int .u64 (B 3)], .int .i64 f] w fun e w' => e = .returned (.tuple #[.int .i64 0, .bool false]) ∧ Bel w w') := Lib.hid k1
  clear k1
  have k3 := last_ls B hB 255 (by omega)
  have HL : Hid (∀ p, ls B 255 = some p → (p : Int) < f) := Lib.hid fun p hp => by
    obtain ⟨q1, q2, q3⟩ := ls_in B _ p hp
    have := n4 p (by omega) q2
    omega
  have HB := Lib.hid hB
  have HT := Lib.hid hT
  rw [ans_num] at k3
  have LP : Hid ((ls B 255).isSome = true → num (ls B 255) < f) := Lib.hid (by
    cases hl : ls B 255 with
    | none => intro h; cases h
    | some p => intro _; exact HL.out p hl)
  generalize num (ls B 255) = p at *
  generalize (ls B 255).isSome = is at *
  have K3 := Lib.hid k3
  clear k3 HL hT hB h1 hx n4
  go_enter Tryd.func8, Tryd.ntmps8
  go_wp2_with fail
  with_reducible refine (works_any _ (HT.out.bel ((Bel.refl _).alloc _ _))).mono ?_
  rintro e w1 ⟨rfl, hb⟩
  have G := Lib.hid (((Bel.refl w).alloc _ _).trans hb)
  have X := Lib.hid ((Box.new w (B 0) (B 1) (B 2) (B 3) 24).bel hb)
  clear hb
  obtain ⟨⟨c0, c1, c2, c3⟩, _⟩ := X.out
  go_wp2_with fail
  with_reducible refine (K1.out _ (HT.out.bel G.out)).mono ?_
  rintro e w2 ⟨rfl, hb⟩
  have G' := Lib.hid (G.out.trans hb)
  have X' := Lib.hid (X.out.bel hb)
  clear hb G X c0 c1 c2 c3
  obtain ⟨⟨c0, c1, c2, c3⟩, _⟩ := X'.out
  clear c0 c1 c2 c3
  go_wp2
  go_loopw [8] (fun i wr => ∃ k : Nat, k ≤ 256 ∧ i = .int .i64 k ∧ Bel w wr ∧ Box wr w.heap.size (B 0) (B 1) (B 2) (B 3)) (fun i _ => 256 - (intOf i).toNat)
  case atStart => exact ⟨0, by omega, rfl, G'.out, X'.out⟩
  case round =>
    obtain ⟨k, hk, rfl, hg, hx⟩ := hrel
    have GG := Lib.hid hg
    have XX := Lib.hid hx
    clear hg G' X'
    obtain ⟨⟨c0, c1, c2, c3⟩, _⟩ := hx
    by_cases hlt : k < 256
    · have kk := has_any B HB.out k
      rw [hs_nat B k (by omega)] at kk
      have k1 : (k : Int) < 256 := by omega

      by_cases hf : f ≤ (k : Int)
      · have hv : tb B k = false := by
          cases hv : tb B k with
          | false => rfl
          | true => have := HG.out k hlt hv; omega
        rw [hv] at kk
        have K := Lib.hid kk
        clear kk hv
        go_wp2_with fail
        with_reducible refine (K.out _).mono ?_
        rintro e w5 ⟨rfl, hb⟩
        go_wp2
        go_roundw
        case rel => exact ⟨k + 1, by omega, by go_num, GG.out.trans hb, XX.out.bel hb⟩
        case measure => simp [intOf]; omega
      · have K := Lib.hid kk
        generalize tb B k = hv at K
        clear kk
        go_wp2_with fail
        with_reducible refine (K.out _).mono ?_
        rintro e w5 ⟨rfl, hb⟩
        go_wp2
        go_roundw
        case rel => exact ⟨k + 1, by omega, by go_num, GG.out.trans hb, XX.out.bel hb⟩
        case measure => simp [intOf]; omega
    · obtain rfl : k = 256 := by omega
      go_wp2_with fail
      with_reducible refine (K3.out _).mono ?_
      rintro e w5 ⟨rfl, hb⟩
      have G5 := Lib.hid (GG.out.trans hb)
      clear hb GG XX c0 c1 c2 c3
      cases is with
      | false =>
        go_wp2
        go_ret
        exact ⟨rfl, G5.out⟩
      | true =>
        have lp := LP.out rfl
        go_wp2
        go_ret
        exact ⟨rfl, G5.out⟩
theorem gaps_walk (B : Nat → Nat) (hB : Wd B) (f : Int) (h1 : f ≤ 9223372036854775807) (w : World) (hT : Tab w) :
    Calls Tryd.prog 8 #[.agg #[.int .u64 (B 0), .int .u64 (B 1), .int .u64 (B 2), .int .u64 (B 3)], .int .i64 f] w fun e w' => e = .returned (.bool true) ∧ Bel w w' := by
  cases hx : nx B f with
  | none => exact gaps_none B hB f h1 w hT hx
  | some n => exact gaps_some B hB f h1 w hT n hx
end Go.Proofs.YthgiknkglnagbaaDoor
