/-
  Contracts of load's functions that read: known, allowed, tally, Open, Last, Notes, Windows, Total; of close.
-/
import Derived.Test.YtfplmleakgpkiaaAtom
set_option linter.unusedVariables false
set_option linter.unusedSimpArgs false
namespace Go.Proofs.Ytfplmleakgpkiaa
open Go.RowKit
theorem known_any (x : Int) (w : World) : Calls Try.prog 21 #[.int .i64 x] w fun e w' => e = .returned (.bool (decide (0 ≤ x) && decide (x ≤ 3))) ∧ w' = w := by
  by_cases h0 : 0 ≤ x
  · by_cases h1 : x ≤ 3
    · rw [decide_eq_true h0, decide_eq_true h1]
      go_enter Try.func21, Try.ntmps21
      go_wp2
      go_ret
      exact ⟨rfl, rfl⟩
    · rw [decide_eq_true h0, decide_eq_false h1]
      go_enter Try.func21, Try.ntmps21
      go_wp2
      go_ret
      exact ⟨rfl, rfl⟩
  · rw [decide_eq_false h0]
    go_enter Try.func21, Try.ntmps21
    go_wp2
    go_ret
    exact ⟨rfl, rfl⟩
theorem allowed_any (x : Int) (w : World) : Calls Try.prog 22 #[.int .i64 x] w fun e w' => e = .returned (.bool (decide (0 ≤ x) && decide (x ≤ 1024))) ∧ w' = w := by
  by_cases h0 : 0 ≤ x
  · by_cases h1 : x ≤ 1024
    · rw [decide_eq_true h0, decide_eq_true h1]
      go_enter Try.func22, Try.ntmps22
      go_wp2
      go_ret
      exact ⟨rfl, rfl⟩
    · rw [decide_eq_true h0, decide_eq_false h1]
      go_enter Try.func22, Try.ntmps22
      go_wp2
      go_ret
      exact ⟨rfl, rfl⟩
  · rw [decide_eq_false h0]
    go_enter Try.func22, Try.ntmps22
    go_wp2
    go_ret
    exact ⟨rfl, rfl⟩
/-- The closure: the number at its place. -/
theorem at_any (p o i B : Nat) (f : Nat → Int) (w : World) (h : Nums w p f) (ho : o + i < 15) (hi : i < 5) (hc : w.cell? ⟨B, 0, none⟩ = some (.pointer (some ⟨p, o, none⟩))) :
    Calls Try.prog 32 #[.int .i64 i, .pointer (some ⟨B, 0, none⟩)] w fun e w' => e = .returned (.int .i64 (f (o + i))) ∧ w' = w := by
  have H := Lib.hid h
  clear h
  have K := Lib.hid (load_at w p (o + i) f H.out ho)
  have i0 : (0 : Int) ≤ i := by omega
  have i1 : (i : Int) < 5 := by omega
  generalize f (o + i) = x at *
  go_enter Try.func32, Try.ntmps32
  go_wp2_with fail
  with_reducible refine K.out.mono ?_
  rintro e w1 ⟨rfl, rfl⟩
  go_wp2
  go_ret
  exact ⟨rfl, rfl⟩
end Go.Proofs.Ytfplmleakgpkiaa
