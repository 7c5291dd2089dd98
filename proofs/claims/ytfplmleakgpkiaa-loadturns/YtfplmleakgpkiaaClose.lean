/-
  The contract of load's close: the open window becomes the last one.
-/
import Derived.Test.YtfplmleakgpkiaaAtom
import Derived.StillTailTactics
set_option linter.unusedVariables false
set_option linter.unusedSimpArgs false
namespace Go.Proofs.Ytfplmleakgpkiaa
open Go.RowKit
/-- Behind k rounds. -/
def shut (f : Nat → Int) (k : Nat) : Nat → Int := fun j => if 6 ≤ j ∧ j < 6 + k then f (j - 5) else if 1 ≤ j ∧ j < 1 + k then 0 else f j
theorem shut_zero (f : Nat → Int) (j : Nat) : shut f 0 j = f j := by unfold shut; rw [if_neg (by omega), if_neg (by omega)]
theorem shut_at (f : Nat → Int) (k : Nat) (hk : k < 5) : shut f k (1 + k) = f (1 + k) := by unfold shut; rw [if_neg (by omega), if_neg (by omega)]
theorem shut_step (f : Nat → Int) (k : Nat) (hk : k < 5) (j : Nat) : upd (upd (shut f k) (1 + k) 0) (6 + k) (f (1 + k)) j = shut f (k + 1) j := by
  by_cases e : j = 6 + k
  · subst e
    rw [upd_same]
    unfold shut
    rw [if_pos (by omega), show 6 + k - 5 = 1 + k by omega]
  · rw [upd_other _ _ _ _ e]
    by_cases e1 : j = 1 + k
    · subst e1
      rw [upd_same]
      unfold shut
      rw [if_neg (by omega), if_pos (by omega)]
    · rw [upd_other _ _ _ _ e1]
      unfold shut
      by_cases h1 : 6 ≤ j ∧ j < 6 + k
      · rw [if_pos h1, if_pos (by omega)]
      · rw [if_neg h1]
        by_cases h2 : 1 ≤ j ∧ j < 1 + k
        · rw [if_pos h2, if_neg (by omega), if_pos (by omega)]
        · rw [if_neg h2, if_neg (by omega), if_neg (by omega)]
theorem close_any (p : Nat) (f : Nat → Int) (w : World) (h : Nums w p f) :
    Calls Try.prog 26 #[.pointer (some ⟨p, 0, none⟩)] w fun e w' => e = .returned (.tuple #[]) ∧ Nums w' p (shut f 5) ∧ Off (only p) w w' := by
  have H := Lib.hid h
  clear h
  go_enter Try.func26, Try.ntmps26
  go_wp2
  go_loopw [3] (fun i wr => ∃ k : Nat, k ≤ 5 ∧ i = .int .i64 k ∧ Nums wr p (shut f k) ∧ Off (only p) w wr) (fun i _ => 5 - (intOf i).toNat)
  case atStart => exact ⟨0, by omega, rfl, H.out.same fun j _ => (shut_zero f j).symm, Off.refl _ _⟩
  case round =>
    obtain ⟨k, hk, rfl, hn, ho⟩ := hrel
    have HN := Lib.hid hn
    have HO := Lib.hid ho
    clear hn ho
    by_cases hlt : k < 5
    · have b0 : (0 : Int) ≤ (k : Int) := by omega
      have b1 : (k : Int) < 5 := by omega
      have K1 : Hid (∀ w', Bel wr w' → Calls Try.prog 31 #[.pointer (some ⟨p, 1 + k, none⟩), .int .i64 0] w' fun e w'' => e = .returned (.int .i64 (f (1 + k))) ∧ Nums w'' p (upd (shut f k) (1 + k) 0) ∧ Off (only p) w w'') := Lib.hid fun w' hb => by
        have K := swap_at w' p (1 + k) (shut f k) 0 (HN.out.bel hb) (by omega)
        rw [shut_at f k hlt] at K
        exact K.mono fun e w'' ⟨h1, h2, h3⟩ => ⟨h1, h2, (Off.trans HO.out (Bel.off hb _) (fun _ e => .inl e)).trans h3 (fun _ e => .inl e)⟩
      have K2 : Hid (∀ w1 w', Nums w1 p (upd (shut f k) (1 + k) 0) → Off (only p) w w1 → Bel w1 w' → Calls Try.prog 24 #[.pointer (some ⟨p, 6 + k, none⟩), .int .i64 (f (1 + k))] w' fun e w'' => e = .returned (.tuple #[]) ∧ Nums w'' p (shut f (k + 1)) ∧ Off (only p) w w'') := Lib.hid fun w1 w' hn ho hb => by
        have K := store_at w' p (6 + k) _ (f (1 + k)) (hn.bel hb) (by omega)
        exact K.mono fun e w'' ⟨h1, h2, h3⟩ => ⟨h1, h2.same fun j _ => shut_step f k hlt j, (Off.trans ho (Bel.off hb _) (fun _ e => .inl e)).trans h3 (fun _ e => .inl e)⟩
      generalize f (1 + k) = y at *
      clear hlt
      go_wp2
      go_region_held3 (fun _ => True) (exact trivial)
        (first | (go_at_call 31; (with_reducible refine (K1.out _ (by repeat (first | exact Bel.refl _ | refine Bel.drew ?_))).mono ?_); rintro e w1 ⟨rfl, hn1, ho1⟩) | (go_at_call 24; (with_reducible refine (K2.out _ _ hn1 ho1 (by repeat (first | exact Bel.refl _ | refine Bel.drew ?_))).mono ?_); rintro e w2 ⟨rfl, hn2, ho2⟩))
      have HN2 := Lib.hid hn2
      have HO2 := Lib.hid ho2
      clear hn1 ho1 hn2 ho2
      go_wp2
      go_roundw
      case rel => exact ⟨k + 1, by omega, by go_num, HN2.out, HO2.out⟩
      case measure => simp [intOf]; omega
    · obtain rfl : k = 5 := by omega
      go_wp2
      go_end0
      exact ⟨rfl, HN.out, HO.out⟩
end Go.Proofs.Ytfplmleakgpkiaa
