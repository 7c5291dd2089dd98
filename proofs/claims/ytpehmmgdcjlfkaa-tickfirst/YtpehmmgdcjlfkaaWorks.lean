/-
  The contract of works: the document's examples come out as it says; the call returns true and turns nothing that was there.
-/
import Derived.Test.YtpehmmgdcjlfkaaFirst
namespace Go.Proofs.Ytpehmmgdcjlfkaa
open Go.RowKit

theorem works_add (w : World) : Calls Try.prog 12 #[.int .u64 18446744073709551615, .int .u64 1] w fun e w' => e = .returned (.tuple #[.int .u64 18446744073709551615, .bool true]) ∧ w = w' :=
  add_over _ _ (by omega) (by omega) (by omega) (by omega) (by omega) w
theorem works_ceil (w : World) : Calls Try.prog 16 #[.int .u64 5, .int .i64 2] w fun e w' => e = .returned (.tuple #[.int .u64 8, .bool false]) ∧ w = w' :=
  ceil_fit 5 2 (by omega) (by omega) (by decide) (by decide) w
theorem works_floor (w : World) : Calls Try.prog 18 #[.int .u64 5, .int .i64 2] w fun e w' => e = .returned (.int .u64 4) ∧ w = w' :=
  floor_any 5 2 (by omega) (by omega) w
theorem works_after (w : World) : Calls Try.prog 24 #[.int .u64 10, .int .u64 5, .int .u64 21] w fun e w' => e = .returned (.tuple #[.int .u64 25, .int .u64 2]) ∧ w = w' :=
  after_due 10 5 21 (by omega) (by omega) (by omega) (by omega) (by omega) w
theorem works_low (w : World) : Calls Try.prog 14 #[.int .u64 3, .int .u64 5] w fun e w' => e = .returned (.int .u64 0) ∧ w = w' :=
  sub_low 3 5 (by omega) (by omega) (by omega) w
theorem works_sub (w : World) : Calls Try.prog 14 #[.int .u64 5, .int .u64 3] w fun e w' => e = .returned (.int .u64 2) ∧ w = w' :=
  sub_fit 5 3 (by omega) (by omega) (by omega) w
theorem works_first (b : Nat) (w : World) (h0 : w.cell? ⟨b, 0, none⟩ = some (.int .u64 3)) (h1 : w.cell? ⟨b, 1, none⟩ = some (.int .u64 0)) (h2 : w.cell? ⟨b, 2, none⟩ = some (.int .i64 0))
    (h3 : w.cell? ⟨b, 3, none⟩ = some (.int .u64 2)) (h4 : w.cell? ⟨b, 4, none⟩ = some (.int .u64 5)) (h5 : w.cell? ⟨b, 5, none⟩ = some (.int .i64 0))
    (h6 : w.cell? ⟨b, 6, none⟩ = some (.int .u64 2)) (h7 : w.cell? ⟨b, 7, none⟩ = some (.int .u64 4)) (h8 : w.cell? ⟨b, 8, none⟩ = some (.int .i64 0)) :
    Calls Try.prog 22 #[.slice (some ⟨b, 0, none⟩) 3 3] w fun e w' => e = .returned (.tuple #[.agg #[.int .u64 2, .int .u64 4, .int .i64 0], .bool true]) ∧ Grew w w' := by
  have h := first_some b 0 3 3 (fun i => match i with | 0 => 3 | 1 => 2 | _ => 2) (fun i => match i with | 0 => 0 | 1 => 5 | _ => 4) (fun _ => 0) w (by omega) (by omega)
    (fun i hi => by obtain rfl | rfl | rfl : i = 0 ∨ i = 1 ∨ i = 2 := by omega
                    · exact h0
                    · exact h3
                    · exact h6)
    (fun i hi => by obtain rfl | rfl | rfl : i = 0 ∨ i = 1 ∨ i = 2 := by omega
                    · exact h1
                    · exact h4
                    · exact h7)
    (fun i hi => by obtain rfl | rfl | rfl : i = 0 ∨ i = 1 ∨ i = 2 := by omega
                    · exact h2
                    · exact h5
                    · exact h8)
  exact h
theorem works_cmp (w : World) : Calls Try.prog 20 #[.agg #[.int .u64 2, .int .u64 4, .int .i64 0], .agg #[.int .u64 0, .int .u64 0, .int .i64 0]] w fun e w' => e = .returned (.int .i64 1) ∧ Grew w w' :=
  compare_any 2 4 0 0 0 0 w

set_option maxHeartbeats 1000000 in
theorem works_any (w : World) : Calls Try.prog 11 #[] w fun e w' => e = .returned (.bool true) ∧ Grew w w' := by
  go_enter Try.func11, Try.ntmps11
  go_wp2_with fail
  with_reducible refine (works_add _).mono ?_
  rintro e w' ⟨rfl, rfl⟩
  go_wp2_with fail
  with_reducible refine (works_ceil _).mono ?_
  rintro e w' ⟨rfl, rfl⟩
  go_wp2_with fail
  with_reducible refine (works_after _).mono ?_
  rintro e w' ⟨rfl, rfl⟩
  go_wp2_with fail
  refine (works_first w.heap.size _ ?h0 ?h1 ?h2 ?h3 ?h4 ?h5 ?h6 ?h7 ?h8).mono ?_
  case h0 => simp [go_sem]
  case h1 => simp [go_sem]
  case h2 => simp [go_sem]
  case h3 => simp [go_sem]
  case h4 => simp [go_sem]
  case h5 => simp [go_sem]
  case h6 => simp [go_sem]
  case h7 => simp [go_sem]
  case h8 => simp [go_sem]
  rintro e w1 ⟨rfl, hg0⟩
  have hg := Lib.hid (((Grew.refl w).alloc _ _).trans hg0)
  clear hg0
  go_wp2_with fail
  with_reducible refine (works_floor _).mono ?_
  rintro e w' ⟨rfl, rfl⟩
  go_wp2_with fail
  with_reducible refine (works_cmp _).mono ?_
  rintro e w2 ⟨rfl, hg2⟩
  go_wp2_with fail
  with_reducible refine (works_low _).mono ?_
  rintro e w' ⟨rfl, rfl⟩
  go_wp2_with fail
  with_reducible refine (works_sub _).mono ?_
  rintro e w' ⟨rfl, rfl⟩
  go_wp2
  go_ret
  exact ⟨rfl, (hg.out.alloc _ _).trans hg2⟩
end Go.Proofs.Ytpehmmgdcjlfkaa
