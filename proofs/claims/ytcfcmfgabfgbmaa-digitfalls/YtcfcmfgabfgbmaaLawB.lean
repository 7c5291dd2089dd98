/-
  The walks of DigitHolds and DigitFalls: whatever they are given, they return true and turn nothing that was there.
-/
import Derived.Test.YtcfcmfgabfgbmaaWorks
import Derived.Test.YtcfcmfgabfgbmaaLawA
namespace Go.Proofs.Ytcfcmfgabfgbmaa
open Go.RowKit

theorem sv_in (c : Nat) (b a : Int) : 0 ≤ sv c b a ∧ sv c b a ≤ q c 1 - 1 := by
  unfold sv
  have h := q_pos c 1
  split
  · omega
  · have := dg_in c a (lv c b a).toNat
    omega
/-- Where the slot begins in which a tick lies. -/
theorem begin_at (b a z : Int) (b0 : 0 ≤ b) (b1 : b < 18446744073709551616) (c l : Nat) (hc : wi z 1 6 = c) (l3 : l ≤ 3) (w : World) :
    Calls Try.prog 16 #[.int .u64 b, .int .i64 l, .int .i64 (sv c b a), .int .i64 z] w fun e w' => e = .returned (.int .u64 (bg c b l (sv c b a))) ∧ Grew w w' := by
  have h := dBegin b l (sv c b a) z b0 b1 c l hc (wi_own l (by omega)) w
  have e : wi (sv c b a) 0 (q c 1 - 1) = sv c b a := by have := sv_in c b a; unfold wi; omega
  rw [e] at h
  exact h
theorem holds_neg (b a z : Int) (b0 : 0 ≤ b) (b1 : b < 18446744073709551616) (a0 : 0 ≤ a) (a1 : a < 18446744073709551616) (c : Nat) (hc : wi z 1 6 = c) (h : lv c b a < 0) (w : World) :
    Calls Try.prog 5 #[.int .u64 b, .int .u64 a, .int .i64 z] w fun e w' => e = .returned (.bool true) ∧ Grew w w' := by
  have K1 := Lib.hid (dLevel b a z b0 b1 a0 a1 c hc)
  have h1 := (lv_neg c b a).1 h
  clear hc b0 b1 a0 a1
  generalize lv c b a = v at *
  go_enter Try.func5, Try.ntmps5
  go_wp2_with fail
  with_reducible refine (works_any _).mono ?_
  rintro e w1 ⟨rfl, g1⟩
  go_wp2_with fail
  with_reducible refine (K1.out _).mono ?_
  rintro e w2 ⟨rfl, g2⟩
  go_wp2
  go_ret
  exact ⟨rfl, g1.trans g2⟩
theorem holds_over (b a z : Int) (b0 : 0 ≤ b) (b1 : b < 18446744073709551616) (a0 : 0 ≤ a) (a1 : a < 18446744073709551616) (c : Nat) (hc : wi z 1 6 = c) (h : lv c b a = 4) (w : World) :
    Calls Try.prog 5 #[.int .u64 b, .int .u64 a, .int .i64 z] w fun e w' => e = .returned (.bool true) ∧ Grew w w' := by
  have K := dLevel b a z b0 b1 a0 a1 c hc
  have K2 := Lib.hid (dHorizon b z b0 b1 c hc)
  have h1 := hz_over c b a h
  rw [h] at K
  have K1 := Lib.hid K
  clear hc b0 b1 a0 a1 K h
  generalize hz c b = v at *
  go_enter Try.func5, Try.ntmps5
  go_wp2_with fail
  with_reducible refine (works_any _).mono ?_
  rintro e w1 ⟨rfl, g1⟩
  go_wp2_with fail
  with_reducible refine (K1.out _).mono ?_
  rintro e w2 ⟨rfl, g2⟩
  go_wp2_with fail
  with_reducible refine (K2.out _).mono ?_
  rintro e w3 ⟨rfl, g3⟩
  go_wp2
  go_ret
  exact ⟨rfl, (g1.trans g2).trans g3⟩
theorem holds_at (b a z : Int) (b0 : 0 ≤ b) (b1 : b < 18446744073709551616) (a0 : 0 ≤ a) (a1 : a < 18446744073709551616) (c l : Nat) (hc : wi z 1 6 = c) (l3 : l ≤ 3) (h : lv c b a = l) (w : World) :
    Calls Try.prog 5 #[.int .u64 b, .int .u64 a, .int .i64 z] w fun e w' => e = .returned (.bool true) ∧ Grew w w' := by
  have K := dLevel b a z b0 b1 a0 a1 c hc
  have K2 := Lib.hid (dSlot b a z b0 b1 a0 a1 c hc)
  have K3 := Lib.hid (begin_at b a z b0 b1 c l hc l3)
  have K4 := Lib.hid (dHorizon b z b0 b1 c hc)
  have K5 := Lib.hid (dReach l z c l hc (wi_own l (by omega)))
  have h1 := hz_under c b a (by omega) (by omega)
  obtain ⟨h2, h3, h4⟩ := bg_between c b a l l3 h
  rw [h] at K
  have K1 := Lib.hid K
  have l0 : ¬ (l : Int) < 0 := by omega
  have l4 : ¬ 3 < (l : Int) := by omega
  have e := u64_in (a - bg c b l (sv c b a)) (by omega) (by omega)
  clear hc b1 a1 K h
  generalize bg c b l (sv c b a) = n at *
  generalize sv c b a = s at *
  generalize hz c b = v at *
  generalize q c l = r at *
  go_enter Try.func5, Try.ntmps5
  go_wp2_with fail
  with_reducible refine (works_any _).mono ?_
  rintro e w1 ⟨rfl, g1⟩
  go_wp2_with fail
  with_reducible refine (K1.out _).mono ?_
  rintro e w2 ⟨rfl, g2⟩
  go_wp2_with fail
  with_reducible refine (K2.out _).mono ?_
  rintro e w3 ⟨rfl, g3⟩
  go_wp2_with fail
  with_reducible refine (K3.out _).mono ?_
  rintro e w4 ⟨rfl, g4⟩
  go_wp2_with fail
  with_reducible refine (K4.out _).mono ?_
  rintro e w5 ⟨rfl, g5⟩
  go_wp2_with fail
  with_reducible refine (K5.out _).mono ?_
  rintro e w6 ⟨rfl, g6⟩
  go_wp2
  go_ret
  exact ⟨rfl, ((((g1.trans g2).trans g3).trans g4).trans g5).trans g6⟩
theorem holds_walk (b a z : Int) (b0 : 0 ≤ b) (b1 : b < 18446744073709551616) (a0 : 0 ≤ a) (a1 : a < 18446744073709551616) (w : World) :
    Calls Try.prog 5 #[.int .u64 b, .int .u64 a, .int .i64 z] w fun e w' => e = .returned (.bool true) ∧ Grew w w' := by
  obtain ⟨c, hc, c1⟩ := bits_ex z
  have h := lv_in c b a
  by_cases h0 : lv c b a < 0
  · exact holds_neg b a z b0 b1 a0 a1 c hc h0 w
  · by_cases h4 : lv c b a = 4
    · exact holds_over b a z b0 b1 a0 a1 c hc h4 w
    · exact holds_at b a z b0 b1 a0 a1 c (lv c b a).toNat hc (by omega) (by omega) w
theorem falls_none (b a z : Int) (h : a ≤ b) (w : World) :
    Calls Try.prog 6 #[.int .u64 b, .int .u64 a, .int .i64 z] w fun e w' => e = .returned (.bool true) ∧ Grew w w' := by
  go_enter Try.func6, Try.ntmps6
  go_wp2_with fail
  with_reducible refine (works_any _).mono ?_
  rintro e w1 ⟨rfl, g1⟩
  go_wp2
  go_ret
  exact ⟨rfl, g1⟩
theorem falls_over (b a z : Int) (b0 : 0 ≤ b) (b1 : b < 18446744073709551616) (c : Nat) (hc : wi z 1 6 = c) (h : b < a) (h1 : hz c b < a) (w : World) :
    Calls Try.prog 6 #[.int .u64 b, .int .u64 a, .int .i64 z] w fun e w' => e = .returned (.bool true) ∧ Grew w w' := by
  have K := Lib.hid (dHorizon b z b0 b1 c hc)
  have h' : ¬ a ≤ b := by omega
  clear hc b0 b1
  generalize hz c b = v at *
  go_enter Try.func6, Try.ntmps6
  go_wp2_with fail
  with_reducible refine (works_any _).mono ?_
  rintro e w1 ⟨rfl, g1⟩
  go_wp2_with fail
  with_reducible refine (K.out _).mono ?_
  rintro e w2 ⟨rfl, g2⟩
  go_wp2
  go_ret
  exact ⟨rfl, g1.trans g2⟩
theorem falls_at (b a z : Int) (b0 : 0 ≤ b) (b1 : b < 18446744073709551616) (a0 : 0 ≤ a) (a1 : a < 18446744073709551616) (c : Nat) (hc : wi z 1 6 = c) (h : b < a) (h1 : a ≤ hz c b) (w : World) :
    Calls Try.prog 6 #[.int .u64 b, .int .u64 a, .int .i64 z] w fun e w' => e = .returned (.bool true) ∧ Grew w w' := by
  have K := Lib.hid (dHorizon b z b0 b1 c hc)
  have hl := hz_level c b a h1
  have h' : ¬ a ≤ b := by omega
  have h2 : ¬ hz c b < a := by omega
  have KL := Lib.hid (fun x : Int => fun x0 : 0 ≤ x => fun x1 : x ≤ a => dLevel x a z x0 (by omega) a0 a1 c hc)
  have KS := Lib.hid (fun x : Int => fun x0 : 0 ≤ x => fun x1 : x ≤ a => dSlot x a z x0 (by omega) a0 a1 c hc)
  have KB := Lib.hid (fun x : Int => fun x0 : 0 ≤ x => fun x1 : x ≤ a => fun l : Nat => fun l3 : l ≤ 3 => begin_at x a z x0 (by omega) c l hc l3)
  have HB : Hid (b ≤ b ∧ 0 ≤ b ∧ b ≤ a ∧ lv c b a ≤ 3) := Lib.hid (by omega)
  clear hc b0 b1 a0 a1 hl
  generalize hz c b = v at *
  go_enter Try.func6, Try.ntmps6
  go_wp2_with fail
  with_reducible refine (works_any _).mono ?_
  rintro e w1 ⟨rfl, g1⟩
  go_wp2_with fail
  with_reducible refine (K.out _).mono ?_
  rintro e w2 ⟨rfl, g2⟩
  have GG := Lib.hid (g1.trans g2)
  clear K g1 g2
  go_wp2
  clear h h' h1 h2
  go_loopw [8, 9] (fun p i wr => ∃ k : Nat, ∃ x : Int, k ≤ 4 ∧ i = .int .i64 k ∧ p = .int .u64 x ∧ Grew w wr ∧ Hid (0 ≤ x ∧ x ≤ a ∧ lv c x a ≤ 3 - (k : Int))) (fun _ i _ => 4 - (intOf i).toNat)
  case atStart => exact ⟨0, b, by omega, rfl, rfl, GG.out, Lib.hid (by have := HB.out; omega)⟩
  case round =>
    obtain ⟨k, x, hk, rfl, rfl, hg, HX⟩ := hrel
    have G := Lib.hid hg
    clear hg GG HB
    by_cases hlt : k < 4
    · have hk4 : (k : Int) < 4 := by omega
      have K := KL.out x HX.out.1 HX.out.2.1
      by_cases hn : lv c x a < 0
      · have hx := (lv_neg c x a).1 hn
        have ex : x = a := by have := HX.out; omega
        have K1 := Lib.hid K
        clear K KL KS KB HX hx
        generalize lv c x a = l at *
        subst ex
        go_wp2_with fail
        with_reducible refine (K1.out _).mono ?_
        rintro e w3 ⟨rfl, g3⟩
        go_wp2
        go_ret
        exact ⟨rfl, G.out.trans g3⟩
      · obtain ⟨l, hl⟩ : ∃ l : Nat, lv c x a = l := ⟨(lv c x a).toNat, by omega⟩
        have l3 : l ≤ 3 := by have := HX.out; omega
        have K2 := Lib.hid (KS.out x HX.out.1 HX.out.2.1)
        have K3 := Lib.hid (KB.out x HX.out.1 HX.out.2.1 l l3)
        obtain ⟨b2, b3, b4⟩ := bg_between c x a l l3 hl
        have b5 := bg_falls c x a l l3 hl
        have K4 := Lib.hid (KL.out (bg c x l (sv c x a)) (by have := HX.out; omega) b3)
        have HX2 : Hid (0 ≤ bg c x l (sv c x a) ∧ bg c x l (sv c x a) ≤ a ∧ lv c (bg c x l (sv c x a)) a ≤ 3 - ((k + 1 : Nat) : Int)) := Lib.hid (by have := HX.out; omega)
        rw [hl] at K
        have K1 := Lib.hid K
        have l0 : ¬ (l : Int) < 0 := by omega
        have y1 : ¬ bg c x l (sv c x a) ≤ x := by omega
        have y2 : ¬ a < bg c x l (sv c x a) := by omega
        have y3 : ¬ (l : Int) ≤ lv c (bg c x l (sv c x a)) a := by omega
        clear K KL KS KB HX hn hl b4
        generalize bg c x l (sv c x a) = n at *
        generalize sv c x a = s at *
        generalize hm : lv c n a = m at *
        go_wp2_with fail
        with_reducible refine (K1.out _).mono ?_
        rintro e w3 ⟨rfl, g3⟩
        go_wp2_with fail
        with_reducible refine (K2.out _).mono ?_
        rintro e w4 ⟨rfl, g4⟩
        go_wp2_with fail
        with_reducible refine (K3.out _).mono ?_
        rintro e w5 ⟨rfl, g5⟩
        go_wp2_with fail
        with_reducible refine (K4.out _).mono ?_
        rintro e w6 ⟨rfl, g6⟩
        have G2 := Lib.hid ((((G.out.trans g3).trans g4).trans g5).trans g6)
        clear g3 g4 g5 g6 G
        go_wp2
        go_roundw
        case rel => exact ⟨k + 1, n, by omega, by go_num, rfl, G2.out, Lib.hid (by rw [hm]; exact HX2.out)⟩
        case measure => simp [intOf]; omega
    · obtain rfl : k = 4 := by omega
      have hx : x = a := by
        have h1 := HX.out
        have h2 := (lv_neg c x a).1 (by omega)
        omega
      clear KL KS KB HX
      subst hx
      go_wp2
      go_ret
      exact ⟨rfl, G.out⟩
theorem falls_walk (b a z : Int) (b0 : 0 ≤ b) (b1 : b < 18446744073709551616) (a0 : 0 ≤ a) (a1 : a < 18446744073709551616) (w : World) :
    Calls Try.prog 6 #[.int .u64 b, .int .u64 a, .int .i64 z] w fun e w' => e = .returned (.bool true) ∧ Grew w w' := by
  obtain ⟨c, hc, c1⟩ := bits_ex z
  by_cases h : a ≤ b
  · exact falls_none b a z h w
  · by_cases h1 : hz c b < a
    · exact falls_over b a z b0 b1 c hc (by omega) h1 w
    · exact falls_at b a z b0 b1 a0 a1 c hc (by omega) (by omega) w
end Go.Proofs.Ytcfcmfgabfgbmaa
