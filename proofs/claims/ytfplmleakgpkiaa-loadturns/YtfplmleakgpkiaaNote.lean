/-
  The contract of load's Note.
-/
import Derived.Test.YtfplmleakgpkiaaFun2
import Derived.Test.YtfplmleakgpkiaaClose
set_option linter.unusedVariables false
set_option linter.unusedSimpArgs false
namespace Go.Proofs.Ytfplmleakgpkiaa
open Go.RowKit
/-- The fifteen numbers behind a note that is good, ahead of close. -/
def plus (f : Nat → Int) (k : Nat) (b c : Int) : Nat → Int := upd (upd (upd (upd f (11 + k) (f (11 + k) + b)) (1 + k) (f (1 + k) + b)) 5 (max (f 5) c)) 0 (f 0 + 1)
set_option maxHeartbeats 1000000 in
theorem note_yes (p : Nat) (f : Nat → Int) (k n : Nat) (b c : Int) (w : World) (h : Nums w p f) (hk : k ≤ 3) (hb : 0 ≤ b ∧ b ≤ 1024) (hc : 0 ≤ c ∧ c ≤ 1024) (hf : ∀ j, j < 15 → 0 ≤ f j ∧ f j ≤ 10000000) (hn : f 0 = n) :
    Calls Try.prog 9 #[.pointer (some ⟨p, 0, none⟩), .int .i64 k, .int .i64 b, .int .i64 c] w fun e w' => e = .returned (.int .i64 0) ∧
      Nums w' p (if (n + 1) % 32 = 0 then shut (plus f k b c) 5 else plus f k b c) ∧ Off (only p) w w' := by
  have hf11 := hf (11 + k) (by omega)
  have hf1 := hf (1 + k) (by omega)
  have hf0 := hf 0 (by omega)
  have A1 := known_any (k : Int) w
  rw [decide_eq_true (show (0 : Int) ≤ k by omega), decide_eq_true (show (k : Int) ≤ 3 by omega)] at A1
  have A1 := Lib.hid A1
  have A2 := allowed_any b w
  rw [decide_eq_true hb.1, decide_eq_true hb.2] at A2
  have A2 := Lib.hid A2
  have A3 := allowed_any c w
  rw [decide_eq_true hc.1, decide_eq_true hc.2] at A3
  have A3 := Lib.hid A3
  obtain ⟨g1, eg1⟩ : ∃ g, upd f (11 + k) (f (11 + k) + b) = g := ⟨_, rfl⟩
  have v1 : g1 (1 + k) = f (1 + k) := by rw [← eg1]; exact upd_other _ _ _ _ (by omega)
  obtain ⟨g2, eg2⟩ : ∃ g, upd g1 (1 + k) (f (1 + k) + b) = g := ⟨_, rfl⟩
  have v2 : g2 5 = f 5 := by rw [← eg2, upd_other _ _ _ _ (by omega), ← eg1]; exact upd_other _ _ _ _ (by omega)
  obtain ⟨g3, eg3⟩ : ∃ g, upd g2 5 (max (f 5) c) = g := ⟨_, rfl⟩
  have v3 : g3 0 = n := by rw [← hn, ← eg3, upd_other _ _ _ _ (by omega), ← eg2, upd_other _ _ _ _ (by omega), ← eg1]; exact upd_other _ _ _ _ (by omega)
  obtain ⟨g4, eg4⟩ : ∃ g, upd g3 0 ((n : Int) + 1) = g := ⟨_, rfl⟩
  have e4 : plus f k b c = g4 := by rw [← eg4, ← eg3, ← eg2, ← eg1, ← hn]; rfl
  rw [e4]
  have B1 : Hid (Calls Try.prog 23 #[.pointer (some ⟨p, 11 + k, none⟩), .int .i64 b] w fun e w' => (∃ x, e = .returned (.int .i64 x)) ∧ Nums w' p g1 ∧ Off (only p) w w') := Lib.hid (by
    have K := add_at w p (11 + k) f b h (by omega) (by omega) (by omega)
    rw [eg1] at K
    exact K.mono fun e w' ⟨h1, h2, h3⟩ => ⟨⟨_, h1⟩, h2, h3⟩)
  have B2 : Hid (∀ w', Nums w' p g1 → Off (only p) w w' → Calls Try.prog 23 #[.pointer (some ⟨p, 1 + k, none⟩), .int .i64 b] w' fun e w'' => (∃ x, e = .returned (.int .i64 x)) ∧ Nums w'' p g2 ∧ Off (only p) w w'') := Lib.hid (fun w' hn ho => by
    have K := add_at w' p (1 + k) g1 b hn (by omega) (by omega) (by omega)
    rw [v1, eg2] at K
    exact K.mono fun e w'' ⟨h1, h2, h3⟩ => ⟨⟨_, h1⟩, h2, ho.trans h3 (fun _ e => .inl e)⟩)
  have B3 : Hid (∀ w', Nums w' p g2 → Calls Try.prog 25 #[.pointer (some ⟨p, 5, none⟩)] w' fun e w'' => e = .returned (.int .i64 (f 5)) ∧ w'' = w') := Lib.hid (fun w' hn => by
    have K := load_at w' p 5 g2 hn (by omega)
    rw [v2] at K
    exact K)
  have B4 : Hid (∀ w', Nums w' p g2 → Off (only p) w w' → Calls Try.prog 24 #[.pointer (some ⟨p, 5, none⟩), .int .i64 (if f 5 < c then c else f 5)] w' fun e w'' => e = .returned (.tuple #[]) ∧ Nums w'' p g3 ∧ Off (only p) w w'') := Lib.hid (fun w' hn ho => by
    have K := store_at w' p 5 g2 (max (f 5) c) hn (by omega)
    rw [eg3, show max (f 5) c = if f 5 < c then c else f 5 by split <;> omega] at K
    exact K.mono fun e w'' ⟨h1, h2, h3⟩ => ⟨h1, h2, ho.trans h3 (fun _ e => .inl e)⟩)
  have B5 : Hid (∀ w', Nums w' p g3 → Off (only p) w w' → Calls Try.prog 23 #[.pointer (some ⟨p, 0, none⟩), .int .i64 1] w' fun e w'' => e = .returned (.int .i64 ((n : Int) + 1)) ∧ Nums w'' p g4 ∧ Off (only p) w w'') := Lib.hid (fun w' hn ho => by
    have K := add_at w' p 0 g3 1 hn (by omega) (by omega) (by omega)
    rw [v3, eg4] at K
    exact K.mono fun e w'' ⟨h1, h2, h3⟩ => ⟨h1, h2, ho.trans h3 (fun _ e => .inl e)⟩)
  have B6 : Hid (∀ w', Nums w' p g4 → Off (only p) w w' → Calls Try.prog 26 #[.pointer (some ⟨p, 0, none⟩)] w' fun e w'' => e = .returned (.tuple #[]) ∧ Nums w'' p (shut g4 5) ∧ Off (only p) w w'') := Lib.hid (fun w' hn ho =>
    (close_any p g4 w' hn).mono fun e w'' ⟨h1, h2, h3⟩ => ⟨h1, h2, ho.trans h3 (fun _ e => .inl e)⟩)
  have em : ((n : Int) + 1).tmod 32 = (((n + 1) % 32 : Nat) : Int) := by rw [Int.tmod_eq_emod_of_nonneg (by omega)]; omega
  generalize f 5 = x5 at *
  generalize (n + 1) % 32 = q at *
  have k0 : (0 : Int) ≤ k := by omega
  have k4 : (k : Int) < 4 := by omega
  have k5 : (k : Int) < 5 := by omega
  clear h hf hf11 hf1 hf0 hb hc hk hn eg1 eg2 eg3 eg4 e4 v1 v2 v3
  go_enter Try.func9, Try.ntmps9
  go_wp2_with fail
  with_reducible refine A1.out.mono ?_
  rintro e w1 ⟨rfl, rfl⟩
  go_wp2_with fail
  with_reducible refine A2.out.mono ?_
  rintro e w1 ⟨rfl, rfl⟩
  go_wp2_with fail
  with_reducible refine A3.out.mono ?_
  rintro e w0 ⟨rfl, rfl⟩
  go_wp2_with fail
  with_reducible refine B1.out.mono ?_
  rintro e w1 ⟨⟨x, rfl⟩, hn1, ho1⟩
  have HN1 := Lib.hid hn1
  have HO1 := Lib.hid ho1
  clear hn1 ho1
  go_wp2_with fail
  with_reducible refine (B2.out _ HN1.out HO1.out).mono ?_
  rintro e w2 ⟨⟨y, rfl⟩, hn2, ho2⟩
  have HN2 : Hid (∀ w', Bel w2 w' → Nums w' p g2) := Lib.hid fun w' hb => hn2.bel hb
  have HO2 : Hid (∀ w', Bel w2 w' → Off (only p) w0 w') := Lib.hid fun w' hb => Off.trans ho2 (Bel.off hb _) (fun _ e => .inl e)
  clear hn2 ho2 HN1 HO1
  by_cases hlt : x5 < c
  · simp only [if_pos hlt] at B4
    go_wp2
    go_region_held3 (fun _ => True) (exact trivial)
      (first | (go_at_call 25; (with_reducible refine (B3.out _ (HN2.out _ (by repeat (first | exact Bel.refl _ | refine Bel.drew ?_)))).mono ?_); rintro e w3 ⟨rfl, rfl⟩) | (go_at_call 24; (with_reducible refine (B4.out _ (HN2.out _ (by repeat (first | exact Bel.refl _ | refine Bel.drew ?_))) (HO2.out _ (by repeat (first | exact Bel.refl _ | refine Bel.drew ?_)))).mono ?_); rintro e w4 ⟨rfl, hn4, ho4⟩))
    have HN4 := Lib.hid hn4
    have HO4 := Lib.hid ho4
    clear hn4 ho4
    go_wp2_with fail
    with_reducible refine (B5.out _ HN4.out HO4.out).mono ?_
    rintro e w5 ⟨rfl, hn5, ho5⟩
    have HN5 := Lib.hid hn5
    have HO5 := Lib.hid ho5
    clear hn5 ho5
    by_cases hq : q = 0
    · subst hq
      go_wp2_with fail
      with_reducible refine (B6.out _ HN5.out HO5.out).mono ?_
      rintro e w6 ⟨rfl, hn6, ho6⟩
      have HN6 := Lib.hid hn6
      have HO6 := Lib.hid ho6
      clear hn6 ho6
      go_wp2
      go_ret
      exact ⟨rfl, HN6.out, HO6.out⟩
    · have hq2 : ¬ (q : Int) = 0 := by omega
      go_wp2
      go_ret
      exact ⟨rfl, HN5.out, HO5.out⟩
  · simp only [if_neg hlt] at B4
    have hle : c ≤ x5 := by omega
    have hlf : (x5 < c) = False := eq_false hlt
    go_wp2
    go_region_held3 (fun _ => True) (exact trivial)
      (first | (go_at_call 25; (with_reducible refine (B3.out _ (HN2.out _ (by repeat (first | exact Bel.refl _ | refine Bel.drew ?_)))).mono ?_); rintro e w3 ⟨rfl, rfl⟩) | (go_at_call 24; (with_reducible refine (B4.out _ (HN2.out _ (by repeat (first | exact Bel.refl _ | refine Bel.drew ?_))) (HO2.out _ (by repeat (first | exact Bel.refl _ | refine Bel.drew ?_)))).mono ?_); rintro e w4 ⟨rfl, hn4, ho4⟩))
    have HN4 := Lib.hid hn4
    have HO4 := Lib.hid ho4
    clear hn4 ho4
    go_wp2_with fail
    with_reducible refine (B5.out _ HN4.out HO4.out).mono ?_
    rintro e w5 ⟨rfl, hn5, ho5⟩
    have HN5 := Lib.hid hn5
    have HO5 := Lib.hid ho5
    clear hn5 ho5
    by_cases hq : q = 0
    · subst hq
      go_wp2_with fail
      with_reducible refine (B6.out _ HN5.out HO5.out).mono ?_
      rintro e w6 ⟨rfl, hn6, ho6⟩
      have HN6 := Lib.hid hn6
      have HO6 := Lib.hid ho6
      clear hn6 ho6
      go_wp2
      go_ret
      exact ⟨rfl, HN6.out, HO6.out⟩
    · have hq2 : ¬ (q : Int) = 0 := by omega
      go_wp2
      go_ret
      exact ⟨rfl, HN5.out, HO5.out⟩
theorem note_kind (p : Nat) (a b c : Int) (w : World) (h : ¬ (0 ≤ a ∧ a ≤ 3)) :
    Calls Try.prog 9 #[.pointer (some ⟨p, 0, none⟩), .int .i64 a, .int .i64 b, .int .i64 c] w fun e w' => e = .returned (.int .i64 7) ∧ w' = w := by
  have K1 := known_any a w
  rw [show (decide (0 ≤ a) && decide (a ≤ 3)) = false by simp; omega] at K1
  have K1 := Lib.hid K1
  clear h
  go_enter Try.func9, Try.ntmps9
  go_wp2_with fail
  with_reducible refine K1.out.mono ?_
  rintro e w1 ⟨rfl, rfl⟩
  go_wp2
  go_ret
  exact ⟨rfl, rfl⟩
theorem note_arg (p : Nat) (a b c : Int) (w : World) (h : 0 ≤ a ∧ a ≤ 3) (hb : ¬ ((0 ≤ b ∧ b ≤ 1024) ∧ (0 ≤ c ∧ c ≤ 1024))) :
    Calls Try.prog 9 #[.pointer (some ⟨p, 0, none⟩), .int .i64 a, .int .i64 b, .int .i64 c] w fun e w' => e = .returned (.int .i64 1) ∧ w' = w := by
  have K1 := known_any a w
  rw [show (decide (0 ≤ a) && decide (a ≤ 3)) = true by simp; omega] at K1
  have K1 := Lib.hid K1
  have K2 := allowed_any b w
  have K3 := allowed_any c w
  by_cases h1 : 0 ≤ b ∧ b ≤ 1024
  · rw [show (decide (0 ≤ b) && decide (b ≤ 1024)) = true by simp; omega] at K2
    rw [show (decide (0 ≤ c) && decide (c ≤ 1024)) = false by simp; omega] at K3
    have K2 := Lib.hid K2
    have K3 := Lib.hid K3
    clear h hb h1
    go_enter Try.func9, Try.ntmps9
    go_wp2_with fail
    with_reducible refine K1.out.mono ?_
    rintro e w1 ⟨rfl, rfl⟩
    go_wp2_with fail
    with_reducible refine K2.out.mono ?_
    rintro e w1 ⟨rfl, rfl⟩
    go_wp2_with fail
    with_reducible refine K3.out.mono ?_
    rintro e w1 ⟨rfl, rfl⟩
    go_wp2
    go_ret
    exact ⟨rfl, rfl⟩
  · rw [show (decide (0 ≤ b) && decide (b ≤ 1024)) = false by simp; omega] at K2
    have K2 := Lib.hid K2
    clear h hb h1 K3
    go_enter Try.func9, Try.ntmps9
    go_wp2_with fail
    with_reducible refine K1.out.mono ?_
    rintro e w1 ⟨rfl, rfl⟩
    go_wp2_with fail
    with_reducible refine K2.out.mono ?_
    rintro e w1 ⟨rfl, rfl⟩
    go_wp2
    go_ret
    exact ⟨rfl, rfl⟩
end Go.Proofs.Ytfplmleakgpkiaa
