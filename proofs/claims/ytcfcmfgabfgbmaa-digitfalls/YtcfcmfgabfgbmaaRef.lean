/-
  Contracts of the document's power, Reach, Digit, Level, Slot, Begin and Horizon.
-/
import Derived.Test.YtcfcmfgabfgbmaaThree
namespace Go.Proofs.Ytcfcmfgabfgbmaa
open Go.RowKit

/-- 2^(c * i + k). -/
def p2 (n : Nat) : Int := ((2 ^ n : Nat) : Int)
theorem p2_wrap (n : Nat) (h : n < 24) : IntKind.u64.wrap (2 * p2 n) = p2 (n + 1) := by
  have h1 := Nat.pow_le_pow_right (show 0 < 2 by decide) (show n ≤ 23 by omega)
  simp only [Nat.reducePow] at h1
  have e : p2 (n + 1) = 2 * p2 n := by unfold p2; rw [Nat.pow_succ]; omega
  rw [e]
  unfold p2
  generalize 2 ^ n = m at *
  exact u64_in _ (by omega) (by omega)
theorem power_any (n : Nat) (z : Int) (hn : n ≤ 4) (c : Nat) (hc : wi z 1 6 = c) (w : World) :
    Calls Try.prog 24 #[.int .i64 n, .int .i64 z] w fun e w' => e = .returned (.int .u64 (q c n)) ∧ w = w' := by
  have K0 := bits_any z
  rw [hc] at K0
  have K := Lib.hid K0
  have c1 : c ≤ 6 := by unfold wi at hc; omega
  have HB := Lib.hid (fun i k : Nat => fun hi : i < n => fun hk : k < c => p2_wrap (c * i + k) (by
    have := Nat.mul_le_mul c1 (show i ≤ 3 by omega)
    omega))
  clear K0 hc
  go_enter Try.func24, Try.ntmps24
  go_wp2
  go_loop [5, 6] (fun p i => ∃ m : Nat, m ≤ n ∧ i = .int .i64 m ∧ p = .int .u64 (p2 (c * m))) (fun _ i => n - (intOf i).toNat)
  case atStart => exact ⟨0, by omega, rfl, rfl⟩
  case round =>
    obtain ⟨m, hm, rfl, rfl⟩ := hrel
    by_cases hlt : m < n
    · have hlt' : (m : Int) < (n : Int) := by omega
      have m4 : (m : Int) < 4 := by omega
      go_wp2
      go_loop [5, 7] (fun p i => ∃ k : Nat, k ≤ c ∧ i = .int .i64 k ∧ p = .int .u64 (p2 (c * m + k))) (fun _ i => c - (intOf i).toNat)
      case atStart => exact ⟨0, by omega, rfl, rfl⟩
      case round =>
        obtain ⟨k, hk, rfl, rfl⟩ := hrel
        by_cases hkc : k < c
        · have hkc' : (k : Int) < (c : Int) := by omega
          have k6 : (k : Int) < 6 := by omega
          have E := HB.out m k hlt hkc
          clear HB
          go_wp2_with fail
          with_reducible refine (K.out _).mono ?_
          rintro e w' ⟨rfl, rfl⟩
          go_wp2
          go_round
          case rel => exact ⟨k + 1, by omega, by go_num, rfl⟩
          case measure => simp [intOf]; omega
        · have hkc' : ¬ (k : Int) < (c : Int) := by omega
          obtain rfl : k = c := by omega
          go_wp2_with fail
          with_reducible refine (K.out _).mono ?_
          rintro e w' ⟨rfl, rfl⟩
          go_wp2
          go_round
          case rel => exact ⟨m + 1, by omega, by go_num, by rw [Nat.mul_succ]⟩
          case measure => simp [intOf]; omega
    · have hlt' : ¬ (m : Int) < (n : Int) := by omega
      obtain rfl : m = n := by omega
      go_wp2
      go_ret
      exact ⟨rfl, rfl⟩
theorem rReach (x z : Int) (c l : Nat) (hc : wi z 1 6 = c) (hl : wi x 0 3 = l) (w : World) :
    Calls Try.prog 19 #[.int .i64 x, .int .i64 z] w fun e w' => e = .returned (.int .u64 (q c l)) ∧ w = w' := by
  by_cases h0 : x < 0
  · obtain rfl : l = 0 := by unfold wi at hl; omega
    have K : Hid (∀ w, Calls Try.prog 24 #[.int .i64 0, .int .i64 z] w fun e w' => e = .returned (.int .u64 (q c 0)) ∧ w = w') := Lib.hid (power_any 0 z (by omega) c hc)
    clear hc hl
    go_enter Try.func19, Try.ntmps19
    go_wp2_with fail
    with_reducible refine (K.out _).mono ?_
    rintro e w' ⟨rfl, rfl⟩
    go_wp2
    go_ret
    exact ⟨rfl, rfl⟩
  · by_cases h3 : 3 < x
    · obtain rfl : l = 3 := by unfold wi at hl; omega
      have K : Hid (∀ w, Calls Try.prog 24 #[.int .i64 3, .int .i64 z] w fun e w' => e = .returned (.int .u64 (q c 3)) ∧ w = w') := Lib.hid (power_any 3 z (by omega) c hc)
      clear hc hl
      go_enter Try.func19, Try.ntmps19
      go_wp2_with fail
      with_reducible refine (K.out _).mono ?_
      rintro e w' ⟨rfl, rfl⟩
      go_wp2
      go_ret
      exact ⟨rfl, rfl⟩
    · obtain rfl : x = l := by unfold wi at hl; omega
      have K := Lib.hid (power_any l z (by omega) c hc)
      clear hc hl
      go_enter Try.func19, Try.ntmps19
      go_wp2_with fail
      with_reducible refine (K.out _).mono ?_
      rintro e w' ⟨rfl, rfl⟩
      go_wp2
      go_ret
      exact ⟨rfl, rfl⟩
theorem rDigit (t x z : Int) (t0 : 0 ≤ t) (t1 : t < 18446744073709551616) (c l : Nat) (hc : wi z 1 6 = c) (hl : wi x 0 3 = l) (w : World) :
    Calls Try.prog 21 #[.int .u64 t, .int .i64 x, .int .i64 z] w fun e w' => e = .returned (.int .i64 (dg c t l)) ∧ Grew w w' := by
  have c1 : c ≤ 6 := by unfold wi at hc; omega
  have K1 := Lib.hid (rReach x z c l hc hl)
  have K2 : Hid (∀ w, Calls Try.prog 24 #[.int .i64 1, .int .i64 z] w fun e w' => e = .returned (.int .u64 (q c 1)) ∧ w = w') := Lib.hid (power_any 1 z (by omega) c hc)
  have r0 := q_pos c l
  have s0 := q_pos c 1
  have s2 := q_one c c1
  have d1 := udiv t (q c l) t0 t1 r0
  have b1 := div_in t (q c l) t0 t1 r0
  have d2 := umod (t / q c l) (q c 1) b1.1
  have b2 := dg_in c t l
  rw [show t / q c l % q c 1 = dg c t l from rfl] at d2
  have d3 : IntKind.i64.wrap (dg c t l) = dg c t l := i64_in _ (by omega) (by omega)
  clear hl hc b1
  generalize q c l = R at *
  generalize q c 1 = S at *
  generalize dg c t l = v at *
  generalize t / R = u at *
  have r1 : R ≠ 0 := by omega
  have s1 : S ≠ 0 := by omega
  clear r0 s0 t0 t1 b2 s2
  go_enter Try.func21, Try.ntmps21
  go_wp2
  go_quiet (first | (go_at_call 19; exact Calls.quiet_of_same ((K1.out _).mono (fun _ _ h => ⟨h.1, h.2.symm⟩))) | (go_at_call 24; exact Calls.quiet_of_same ((K2.out _).mono (fun _ _ h => ⟨h.1, h.2.symm⟩))))
  go_wp2
  go_ret
  exact ⟨rfl, (Grew.refl _).drewN _⟩
theorem rLevel (b a z : Int) (b0 : 0 ≤ b) (b1 : b < 18446744073709551616) (a0 : 0 ≤ a) (a1 : a < 18446744073709551616) (c : Nat) (hc : wi z 1 6 = c) (w : World) :
    Calls Try.prog 11 #[.int .u64 b, .int .u64 a, .int .i64 z] w fun e w' => e = .returned (.int .i64 (lv c b a)) ∧ Grew w w' := by
  by_cases h : a ≤ b
  · have e : lv c b a = -1 := by unfold lv; rw [if_pos h]
    rw [e]
    clear e
    go_enter Try.func11, Try.ntmps11
    go_wp2
    go_ret
    exact ⟨rfl, Grew.refl _⟩
  · have HF := Lib.hid (lv_find c b a (by omega))
    have HN := Lib.hid (lv_none c b a (by omega))
    have KP : Hid (∀ k : Nat, k < 4 → ∀ w, Calls Try.prog 24 #[.int .i64 ((k : Int) + 1), .int .i64 z] w fun e w' => e = .returned (.int .u64 (q c (k + 1))) ∧ w = w') :=
      Lib.hid (fun k hk w => power_any (k + 1) z (by omega) c hc w)
    have DB := Lib.hid (fun k : Nat => udiv b (q c (k + 1)) b0 b1 (q_pos c (k + 1)))
    have DA := Lib.hid (fun k : Nat => udiv a (q c (k + 1)) a0 a1 (q_pos c (k + 1)))
    generalize lv c b a = v at *
    clear b0 b1 a0 a1 hc
    go_enter Try.func11, Try.ntmps11
    go_wp2
    go_loopw [7] (fun i wr => ∃ k : Nat, k ≤ 4 ∧ i = .int .i64 k ∧ Grew w wr ∧ Hid (∀ j, j < k → b / q c (j + 1) ≠ a / q c (j + 1))) (fun i _ => 4 - (intOf i).toNat)
    case atStart => exact ⟨0, by omega, rfl, Grew.refl _, Lib.hid (fun j hj => by omega)⟩
    case round =>
      obtain ⟨k, hk, rfl, hg, HJ⟩ := hrel
      have G := Lib.hid hg
      clear hg
      by_cases hlt : k < 4
      · have K := Lib.hid (KP.out k hlt)
        have hk4 : (k : Int) < 4 := by omega
        have dB := DB.out k
        have dA := DA.out k
        have hp : q c (k + 1) ≠ 0 := by have := q_pos c (k + 1); omega
        by_cases he : b / q c (k + 1) = a / q c (k + 1)
        · have E := Lib.hid (HF.out k (by omega) HJ.out he)
          rw [← he] at dA
          generalize b / q c (k + 1) = u at *
          clear he HF HN HJ KP DA DB
          generalize q c (k + 1) = P at *
          go_wp2_with fail
          with_reducible refine (K.out _).mono ?_
          rintro e w' ⟨rfl, rfl⟩
          go_wp2
          go_quiet (fail)
          go_wp2
          go_ret
          exact ⟨ret_int E.out.symm, G.out.drewN _⟩
        · have E : Hid (∀ j, j < k + 1 → b / q c (j + 1) ≠ a / q c (j + 1)) := Lib.hid (fun j hj => by
            by_cases e : j = k
            · subst e; exact he
            · exact HJ.out j (by omega))
          have he' : a / q c (k + 1) ≠ b / q c (k + 1) := fun e => he e.symm
          generalize b / q c (k + 1) = u at *
          generalize a / q c (k + 1) = u' at *
          clear HF HN HJ KP DA DB
          generalize q c (k + 1) = P at *
          go_wp2_with fail
          with_reducible refine (K.out _).mono ?_
          rintro e w' ⟨rfl, rfl⟩
          go_wp2
          go_quiet (fail)
          go_wp2
          go_roundw
          case rel => exact ⟨k + 1, by omega, by go_num, G.out.drewN _, E⟩
          case measure => simp [intOf]; omega
      · obtain rfl : k = 4 := by omega
        have E := Lib.hid (HN.out HJ.out)
        clear HF HN HJ KP DA DB
        go_wp2
        go_ret
        exact ⟨ret_int E.out.symm, G.out⟩
theorem rslot_out (b a z : Int) (b0 : 0 ≤ b) (b1 : b < 18446744073709551616) (a0 : 0 ≤ a) (a1 : a < 18446744073709551616) (c : Nat) (hc : wi z 1 6 = c) (h : lv c b a < 0 ∨ 3 < lv c b a) (w : World) :
    Calls Try.prog 13 #[.int .u64 b, .int .u64 a, .int .i64 z] w fun e w' => e = .returned (.int .i64 0) ∧ Grew w w' := by
  have K2 := Lib.hid (rLevel b a z b0 b1 a0 a1 c hc)
  clear hc b0 b1 a0 a1
  generalize lv c b a = v at *
  by_cases h0 : v < 0
  · go_enter Try.func13, Try.ntmps13
    go_wp2_with fail
    with_reducible refine (K2.out _).mono ?_
    rintro e w2 ⟨rfl, g2⟩
    go_wp2
    go_ret
    exact ⟨rfl, g2⟩
  · have h3 : 3 < v := by omega
    clear h
    go_enter Try.func13, Try.ntmps13
    go_wp2_with fail
    with_reducible refine (K2.out _).mono ?_
    rintro e w2 ⟨rfl, g2⟩
    go_wp2
    go_ret
    exact ⟨rfl, g2⟩
theorem rslot_at (b a z : Int) (b0 : 0 ≤ b) (b1 : b < 18446744073709551616) (a0 : 0 ≤ a) (a1 : a < 18446744073709551616) (c l : Nat) (hc : wi z 1 6 = c) (hl : l ≤ 3) (h : lv c b a = l) (w : World) :
    Calls Try.prog 13 #[.int .u64 b, .int .u64 a, .int .i64 z] w fun e w' => e = .returned (.int .i64 (dg c a l)) ∧ Grew w w' := by
  have K := rLevel b a z b0 b1 a0 a1 c hc
  rw [h] at K
  have K2 := Lib.hid K
  have K3 := Lib.hid (rDigit a l z a0 a1 c l hc (wi_own l (by omega)))
  have l0 : ¬ (l : Int) < 0 := by omega
  have l3 : ¬ 3 < (l : Int) := by omega
  clear hc b0 b1 a0 a1 K h
  go_enter Try.func13, Try.ntmps13
  go_wp2_with fail
  with_reducible refine (K2.out _).mono ?_
  rintro e w2 ⟨rfl, g2⟩
  go_wp2_with fail
  with_reducible refine (K3.out _).mono ?_
  rintro e w3 ⟨rfl, g3⟩
  go_wp2
  go_ret
  exact ⟨rfl, g2.trans g3⟩
theorem rSlot (b a z : Int) (b0 : 0 ≤ b) (b1 : b < 18446744073709551616) (a0 : 0 ≤ a) (a1 : a < 18446744073709551616) (c : Nat) (hc : wi z 1 6 = c) (w : World) :
    Calls Try.prog 13 #[.int .u64 b, .int .u64 a, .int .i64 z] w fun e w' => e = .returned (.int .i64 (sv c b a)) ∧ Grew w w' := by
  by_cases h : lv c b a < 0 ∨ 3 < lv c b a
  · have e : sv c b a = 0 := by unfold sv; rw [if_pos h]
    rw [e]
    exact rslot_out b a z b0 b1 a0 a1 c hc h w
  · have e := sv_at c b a (lv c b a).toNat (by omega) (by omega)
    rw [e]
    exact rslot_at b a z b0 b1 a0 a1 c _ hc (by omega) (by omega) w
theorem rHorizon (b z : Int) (b0 : 0 ≤ b) (b1 : b < 18446744073709551616) (c : Nat) (hc : wi z 1 6 = c) (w : World) :
    Calls Try.prog 15 #[.int .u64 b, .int .i64 z] w fun e w' => e = .returned (.int .u64 (hz c b)) ∧ Grew w w' := by
  have c1 : c ≤ 6 := by unfold wi at hc; omega
  have K : Hid (∀ w, Calls Try.prog 24 #[.int .i64 4, .int .i64 z] w fun e w' => e = .returned (.int .u64 (q c 4)) ∧ w = w') := Lib.hid (power_any 4 z (by omega) c hc)
  have q4 := q_pos c 4
  have q5 := q_le c 4 c1 (by omega)
  have d1 := udiv b (q c 4) b0 b1 q4
  have f1 := fl b (q c 4) q4
  have f2 := div_in b (q c 4) b0 b1 q4
  have f3 : 0 ≤ b / q c 4 * q c 4 := Int.mul_nonneg f2.1 (by omega)
  have f4 := hz_in c c1 b b1
  have e1 := u64_in (b / q c 4 * q c 4) f3 (by omega)
  have e3 := u64_in (q c 4 - 1) (by omega) (by omega)
  have e4 : IntKind.u64.wrap (b / q c 4 * q c 4 + (q c 4 - 1)) = hz c b := u64_in (hz c b) (by omega) f4.2
  have d0 : q c 4 ≠ 0 := by omega
  clear hc f1 f4 q4 q5 b1
  generalize hz c b = v at *
  generalize q c 4 = P at *
  generalize b / P = u at *
  go_enter Try.func15, Try.ntmps15
  go_wp2_with fail
  with_reducible refine (K.out _).mono ?_
  rintro e w' ⟨rfl, rfl⟩
  go_wp2
  go_ret
  exact ⟨rfl, Grew.refl _⟩
theorem rbegin_sums (c : Nat) (hc : c ≤ 6) (b : Int) (h0 : 0 ≤ b) (h1 : b < 18446744073709551616) (l : Nat) (hl : l ≤ 3) (s : Int) (s0 : 0 ≤ s) (s1 : s ≤ q c 1 - 1) :
    IntKind.u64.wrap (q c l * q c 1) = q c (l + 1) ∧ IntKind.u64.wrap (b.tdiv (q c (l + 1))) = b / q c (l + 1) ∧ IntKind.u64.wrap (b / q c (l + 1) * q c (l + 1)) = b / q c (l + 1) * q c (l + 1) ∧
    IntKind.u64.wrap (s * q c l) = s * q c l ∧ IntKind.u64.wrap (b / q c (l + 1) * q c (l + 1) + s * q c l) = bg c b l s ∧ q c (l + 1) ≠ 0 := by
  obtain ⟨g0, g1, g2, g3, g4⟩ := bg_in c hc b h0 h1 l hl s s0 s1
  have p0 := q_pos c (l + 1)
  have p1 := q_le c (l + 1) hc (by omega)
  have f := fl b (q c (l + 1)) p0
  refine ⟨?_, udiv _ _ h0 h1 p0, u64_in _ g1 (by omega), u64_in _ g2 (by unfold bg at g3 g4; omega), u64_in (bg c b l s) (by unfold bg; omega) g4, by omega⟩
  rw [← q_succ c l]
  exact u64_in _ (by omega) (by omega)
theorem rBegin (b x s z : Int) (b0 : 0 ≤ b) (b1 : b < 18446744073709551616) (c l : Nat) (hc : wi z 1 6 = c) (hl : wi x 0 3 = l) (w : World) :
    Calls Try.prog 17 #[.int .u64 b, .int .i64 x, .int .i64 s, .int .i64 z] w fun e w' => e = .returned (.int .u64 (bg c b l (wi s 0 (q c 1 - 1)))) ∧ Grew w w' := by
  have c1 : c ≤ 6 := by unfold wi at hc; omega
  have l3 : l ≤ 3 := by unfold wi at hl; omega
  have K1 := Lib.hid (rReach x z c l hc hl)
  have K2 : Hid (∀ w, Calls Try.prog 24 #[.int .i64 1, .int .i64 z] w fun e w' => e = .returned (.int .u64 (q c 1)) ∧ w = w') := Lib.hid (power_any 1 z (by omega) c hc)
  have q1 := q_pos c 1
  have q2 := q_one c c1
  have i1 := i64_in (q c 1) (by omega) (by omega)
  have i2 := i64_in (q c 1 - 1) (by omega) (by omega)
  have hw := wi_in s 0 (q c 1 - 1) (by omega)
  obtain ⟨f1, f2, f3, f4, f5, f6⟩ := rbegin_sums c c1 b b0 b1 l l3 _ hw.1 hw.2
  have f0 := u64_in _ hw.1 (by omega)
  have hv : wi s 0 (q c 1 - 1) = if s < 0 then 0 else if q c 1 - 1 < s then q c 1 - 1 else s := by unfold wi; repeat' split
                                                                                                   all_goals omega
  clear hc hl hw b0 b1 l3
  generalize bg c b l (wi s 0 (q c 1 - 1)) = v at *
  generalize wi s 0 (q c 1 - 1) = s' at *
  generalize b / q c (l + 1) = u at *
  generalize q c 1 = S at *
  generalize q c (l + 1) = T at *
  generalize q c l = R at *
  by_cases h0 : s < 0
  · rw [if_pos h0] at hv
    subst hv
    have V : Hid (u * T = v) := Lib.hid (by rw [← f5, Int.zero_mul, Int.add_zero, f3])
    go_enter Try.func17, Try.ntmps17
    go_wp2_with fail
    with_reducible refine (K1.out _).mono ?_
    rintro e w' ⟨rfl, rfl⟩
    go_wp2_with fail
    with_reducible refine (K2.out _).mono ?_
    rintro e w' ⟨rfl, rfl⟩
    go_wp2
    go_ret
    exact ⟨ret_int V.out, Grew.refl _⟩
  · by_cases h1 : S - 1 < s
    · rw [if_neg h0, if_pos h1] at hv
      subst hv
      have h2 : ¬ s ≤ S - 1 := by omega
      go_enter Try.func17, Try.ntmps17
      go_wp2_with fail
      with_reducible refine (K1.out _).mono ?_
      rintro e w' ⟨rfl, rfl⟩
      go_wp2_with fail
      with_reducible refine (K2.out _).mono ?_
      rintro e w' ⟨rfl, rfl⟩
      go_wp2
      go_ret
      exact ⟨rfl, Grew.refl _⟩
    · rw [if_neg h0, if_neg h1] at hv
      subst hv
      have h2 : s' ≤ S - 1 := by omega
      go_enter Try.func17, Try.ntmps17
      go_wp2_with fail
      with_reducible refine (K1.out _).mono ?_
      rintro e w' ⟨rfl, rfl⟩
      go_wp2_with fail
      with_reducible refine (K2.out _).mono ?_
      rintro e w' ⟨rfl, rfl⟩
      go_wp2
      go_ret
      exact ⟨rfl, Grew.refl _⟩
end Go.Proofs.Ytcfcmfgabfgbmaa
