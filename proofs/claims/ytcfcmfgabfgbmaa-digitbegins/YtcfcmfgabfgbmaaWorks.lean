/-
  The contract of works: the document's examples come out as it says.
-/
import Derived.Test.YtcfcmfgabfgbmaaThree
namespace Go.Proofs.Ytcfcmfgabfgbmaa
open Go.RowKit

theorem x1 (w : World) : Calls Try.prog 10 #[.int .u64 0, .int .u64 5, .int .i64 6] w fun e w' => e = .returned (.int .i64 0) ∧ Grew w w' :=
  (show (lv 6 0 5) = 0 by decide +kernel) ▸ dLevel 0 5 6 (by omega) (by omega) (by omega) (by omega) 6 rfl w
theorem x2 (w : World) : Calls Try.prog 10 #[.int .u64 0, .int .u64 64, .int .i64 6] w fun e w' => e = .returned (.int .i64 1) ∧ Grew w w' :=
  (show (lv 6 0 64) = 1 by decide +kernel) ▸ dLevel 0 64 6 (by omega) (by omega) (by omega) (by omega) 6 rfl w
theorem x3 (w : World) : Calls Try.prog 12 #[.int .u64 0, .int .u64 64, .int .i64 6] w fun e w' => e = .returned (.int .i64 1) ∧ Grew w w' :=
  (show (sv 6 0 64) = 1 by decide +kernel) ▸ dSlot 0 64 6 (by omega) (by omega) (by omega) (by omega) 6 rfl w
theorem x4 (w : World) : Calls Try.prog 10 #[.int .u64 63, .int .u64 64, .int .i64 6] w fun e w' => e = .returned (.int .i64 1) ∧ Grew w w' :=
  (show (lv 6 63 64) = 1 by decide +kernel) ▸ dLevel 63 64 6 (by omega) (by omega) (by omega) (by omega) 6 rfl w
theorem x5 (w : World) : Calls Try.prog 10 #[.int .u64 0, .int .u64 16777216, .int .i64 6] w fun e w' => e = .returned (.int .i64 4) ∧ Grew w w' :=
  (show (lv 6 0 16777216) = 4 by decide +kernel) ▸ dLevel 0 16777216 6 (by omega) (by omega) (by omega) (by omega) 6 rfl w
theorem x6 (w : World) : Calls Try.prog 10 #[.int .u64 5, .int .u64 5, .int .i64 6] w fun e w' => e = .returned (.int .i64 (-1)) ∧ Grew w w' :=
  (show (lv 6 5 5) = -1 by decide +kernel) ▸ dLevel 5 5 6 (by omega) (by omega) (by omega) (by omega) 6 rfl w
theorem x7 (w : World) : Calls Try.prog 16 #[.int .u64 70, .int .i64 1, .int .i64 3, .int .i64 6] w fun e w' => e = .returned (.int .u64 192) ∧ Grew w w' :=
  (show (bg 6 70 1 (wi 3 0 (q 6 1 - 1))) = 192 by decide +kernel) ▸ dBegin 70 1 3 6 (by omega) (by omega) 6 1 rfl rfl w
theorem x8 (w : World) : Calls Try.prog 14 #[.int .u64 70, .int .i64 6] w fun e w' => e = .returned (.int .u64 16777215) ∧ Grew w w' :=
  (show (hz 6 70) = 16777215 by decide +kernel) ▸ dHorizon 70 6 (by omega) (by omega) 6 rfl w
theorem x9 (w : World) : Calls Try.prog 18 #[.int .i64 2, .int .i64 6] w fun e w' => e = .returned (.int .u64 4096) ∧ Grew w w' :=
  (show (q 6 2) = 4096 by decide +kernel) ▸ dReach 2 6 6 2 rfl rfl w
theorem x10 (w : World) : Calls Try.prog 20 #[.int .u64 200, .int .i64 1, .int .i64 6] w fun e w' => e = .returned (.int .i64 3) ∧ Grew w w' :=
  (show (dg 6 200 1) = 3 by decide +kernel) ▸ dDigit 200 1 6 (by omega) (by omega) 6 1 rfl rfl w
theorem works_any (w : World) : Calls Try.prog 9 #[] w fun e w' => e = .returned (.bool true) ∧ Grew w w' := by
  go_enter Try.func9, Try.ntmps9
  go_wp2_with fail
  with_reducible refine (x1 _).mono ?_
  rintro e w1 ⟨rfl, g1⟩
  go_wp2_with fail
  with_reducible refine (x2 _).mono ?_
  rintro e w2 ⟨rfl, g2⟩
  go_wp2_with fail
  with_reducible refine (x3 _).mono ?_
  rintro e w3 ⟨rfl, g3⟩
  go_wp2_with fail
  with_reducible refine (x4 _).mono ?_
  rintro e w4 ⟨rfl, g4⟩
  go_wp2_with fail
  with_reducible refine (x5 _).mono ?_
  rintro e w5 ⟨rfl, g5⟩
  go_wp2_with fail
  with_reducible refine (x6 _).mono ?_
  rintro e w6 ⟨rfl, g6⟩
  go_wp2_with fail
  with_reducible refine (x7 _).mono ?_
  rintro e w7 ⟨rfl, g7⟩
  go_wp2_with fail
  with_reducible refine (x8 _).mono ?_
  rintro e w8 ⟨rfl, g8⟩
  go_wp2_with fail
  with_reducible refine (x9 _).mono ?_
  rintro e w9 ⟨rfl, g9⟩
  go_wp2_with fail
  with_reducible refine (x10 _).mono ?_
  rintro e w10 ⟨rfl, g10⟩
  go_wp2
  go_ret
  exact ⟨rfl, ((((((((g1.trans g2).trans g3).trans g4).trans g5).trans g6).trans g7).trans g8).trans g9).trans g10⟩
end Go.Proofs.Ytcfcmfgabfgbmaa
