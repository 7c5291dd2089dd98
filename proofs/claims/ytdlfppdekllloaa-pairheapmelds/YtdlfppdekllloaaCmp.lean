/-
  Contracts of cmp.Compare, cmp.Or, tick.Compare and the document's Before.
-/
import Derived.Test.YtdlfppdekllloaaTframe
import Derived.Sort.Grow
set_option linter.unusedVariables false
set_option linter.unusedSimpArgs false
namespace Go.Proofs.Ytdlfppdekllloaa
open Go.RowKit
theorem nanU (x : Int) (w : World) : Calls Try.prog 64 #[.int .u64 x] w fun e w' => e = .returned (.bool false) ∧ w = w' := by
  go_enter Try.func64, Try.ntmps64
  go_wp2
  go_ret
  exact ⟨rfl, rfl⟩
theorem nanI (x : Int) (w : World) : Calls Try.prog 65 #[.int .i64 x] w fun e w' => e = .returned (.bool false) ∧ w = w' := by
  go_enter Try.func65, Try.ntmps65
  go_wp2
  go_ret
  exact ⟨rfl, rfl⟩
theorem cmpU (x y : Int) (w : World) : Calls Try.prog 57 #[.int .u64 x, .int .u64 y] w fun e w' => e = .returned (.int .i64 (cz x y)) ∧ w = w' := by
  rcases Int.lt_trichotomy x y with h | rfl | h
  · have k := Lib.hid (cz_lt h)
    go_enter Try.func57, Try.ntmps57
    go_wp2_with (go_at_call 64; refine (nanU _ _).mono ?_; rintro e w' ⟨rfl, rfl⟩)
    go_ret
    exact ⟨ret_int k.out.symm, rfl⟩
  · have k := Lib.hid (cz_eq x)
    go_enter Try.func57, Try.ntmps57
    go_wp2_with (go_at_call 64; refine (nanU _ _).mono ?_; rintro e w' ⟨rfl, rfl⟩)
    go_ret
    exact ⟨ret_int k.out.symm, rfl⟩
  · have k := Lib.hid (cz_gt h)
    have h' : ¬ x < y := by omega
    go_enter Try.func57, Try.ntmps57
    go_wp2_with (go_at_call 64; refine (nanU _ _).mono ?_; rintro e w' ⟨rfl, rfl⟩)
    go_ret
    exact ⟨ret_int k.out.symm, rfl⟩
theorem cmpI (x y : Int) (w : World) : Calls Try.prog 58 #[.int .i64 x, .int .i64 y] w fun e w' => e = .returned (.int .i64 (cz x y)) ∧ w = w' := by
  rcases Int.lt_trichotomy x y with h | rfl | h
  · have k := Lib.hid (cz_lt h)
    go_enter Try.func58, Try.ntmps58
    go_wp2_with (go_at_call 65; refine (nanI _ _).mono ?_; rintro e w' ⟨rfl, rfl⟩)
    go_ret
    exact ⟨ret_int k.out.symm, rfl⟩
  · have k := Lib.hid (cz_eq x)
    go_enter Try.func58, Try.ntmps58
    go_wp2_with (go_at_call 65; refine (nanI _ _).mono ?_; rintro e w' ⟨rfl, rfl⟩)
    go_ret
    exact ⟨ret_int k.out.symm, rfl⟩
  · have k := Lib.hid (cz_gt h)
    have h' : ¬ x < y := by omega
    go_enter Try.func58, Try.ntmps58
    go_wp2_with (go_at_call 65; refine (nanI _ _).mono ?_; rintro e w' ⟨rfl, rfl⟩)
    go_ret
    exact ⟨ret_int k.out.symm, rfl⟩
theorem or3_any (b : Nat) (x y z : Int) (w : World) (h0 : w.cell? ⟨b, 0, none⟩ = some (.int .i64 x)) (h1 : w.cell? ⟨b, 1, none⟩ = some (.int .i64 y)) (h2 : w.cell? ⟨b, 2, none⟩ = some (.int .i64 z)) :
    Calls Try.prog 56 #[.slice (some ⟨b, 0, none⟩) 3 3] w fun e w' => e = .returned (.int .i64 (or3 x y z)) ∧ w = w' := by
  go_enter Try.func56, Try.ntmps56
  go_wp2
  go_loop [8] (fun i => ∃ k : Nat, k ≤ 3 ∧ i = .int .i64 k ∧ (1 ≤ k → x = 0) ∧ (2 ≤ k → y = 0) ∧ (3 ≤ k → z = 0)) (fun i => (3 - intOf i).toNat)
  case atStart => exact ⟨0, by omega, rfl, by omega, by omega, by omega⟩
  case round =>
    obtain ⟨k, hk, rfl, q0, q1, q2⟩ := hrel
    have Q0 := Lib.hid q0
    have Q1 := Lib.hid q1
    have Q2 := Lib.hid q2
    clear q0 q1 q2
    obtain rfl | rfl | rfl | rfl : k = 0 ∨ k = 1 ∨ k = 2 ∨ k = 3 := by omega
    · by_cases hx : (x == 0) = true
      · obtain rfl : x = 0 := by simpa using hx
        go_wp2
        go_round
        case rel => exact ⟨1, by omega, rfl, by simp, by omega, by omega⟩
        case measure => simp [intOf]
      · have hx : (x == 0) = false := by simpa using hx
        have hr : Hid (or3 x y z = x) := Lib.hid (by unfold or3; rw [if_pos (by simpa using hx)])
        go_wp2
        go_ret
        exact ⟨ret_int hr.out.symm, rfl⟩
    · obtain rfl : x = 0 := Q0.out (by omega)
      by_cases hx : (y == 0) = true
      · obtain rfl : y = 0 := by simpa using hx
        go_wp2
        go_round
        case rel => exact ⟨2, by omega, rfl, by simp, by simp, by omega⟩
        case measure => simp [intOf]
      · have hx : (y == 0) = false := by simpa using hx
        have hr : Hid (or3 0 y z = y) := Lib.hid (by unfold or3; rw [if_neg (by simp), if_pos (by simpa using hx)])
        go_wp2
        go_ret
        exact ⟨ret_int hr.out.symm, rfl⟩
    · obtain rfl : x = 0 := Q0.out (by omega)
      obtain rfl : y = 0 := Q1.out (by omega)
      by_cases hx : (z == 0) = true
      · obtain rfl : z = 0 := by simpa using hx
        go_wp2
        go_round
        case rel => exact ⟨3, by omega, rfl, by simp, by simp, by simp⟩
        case measure => simp [intOf]
      · have hx : (z == 0) = false := by simpa using hx
        have hr : Hid (or3 0 0 z = z) := Lib.hid (by unfold or3; rw [if_neg (by simp), if_neg (by simp)])
        go_wp2
        go_ret
        exact ⟨ret_int hr.out.symm, rfl⟩
    · obtain rfl : x = 0 := Q0.out (by omega)
      obtain rfl : y = 0 := Q1.out (by omega)
      obtain rfl : z = 0 := Q2.out (by omega)
      go_wp2
      go_ret
      exact ⟨rfl, rfl⟩

theorem three_grow (w : World) (o1 o2 o3 : Obj) : (((w.alloc o1).alloc o2).alloc o3).drew = Go.Sort.grow (w.drewN 1) (#[o1] ++ #[o2] ++ #[o3]) := by
  rw [Go.Sort.alloc_eq_grow, Go.Sort.alloc_eq_grow, Go.Sort.alloc_eq_grow, Go.Sort.grow_grow, Go.Sort.grow_grow]
  rfl
theorem compare_grow (x y : T) (w : World) :
    Calls Try.prog 38 #[.agg #[.int .u64 x.a, .int .u64 x.s, .int .i64 x.p], .agg #[.int .u64 y.a, .int .u64 y.s, .int .i64 y.p]] w fun e w' =>
      e = .returned (.int .i64 (cf x y)) ∧ ∃ q os, w' = Go.Sort.grow (w.drewN q) os := by
  obtain ⟨a1, s1, p1⟩ := x
  obtain ⟨a2, s2, p2⟩ := y
  show Calls Try.prog 38 #[.agg #[.int .u64 a1, .int .u64 s1, .int .i64 p1], .agg #[.int .u64 a2, .int .u64 s2, .int .i64 p2]] w fun e w' =>
      e = .returned (.int .i64 (or3 (cz a1 a2) (cz s1 s2) (cz p1 p2))) ∧ ∃ q os, w' = Go.Sort.grow (w.drewN q) os
  go_enter Try.func38, Try.ntmps38
  go_wp2
  go_region_held3 (fun w' => w'.cell? ⟨w.heap.size, 0, none⟩ = some (.int .u64 a1) ∧ w'.cell? ⟨w.heap.size, 1, none⟩ = some (.int .u64 s1) ∧ w'.cell? ⟨w.heap.size, 2, none⟩ = some (.int .i64 p1) ∧
      w'.cell? ⟨w.heap.size + 1, 0, none⟩ = some (.int .u64 a2) ∧ w'.cell? ⟨w.heap.size + 1, 1, none⟩ = some (.int .u64 s2) ∧ w'.cell? ⟨w.heap.size + 1, 2, none⟩ = some (.int .i64 p2)) (simp [go_sem, World.cell?_alloc_past])
    (first
      | (go_at_call 57; refine (cmpU _ _ _).mono ?_; rintro e w' ⟨rfl, rfl⟩)
      | (go_at_call 58; refine (cmpI _ _ _).mono ?_; rintro e w' ⟨rfl, rfl⟩)
      | (go_at_call 56; refine (or3_any _ (cz a1 a2) (cz s1 s2) (cz p1 p2) _ (by simp [go_sem]) (by simp [go_sem]) (by simp [go_sem])).mono ?_; rintro e w' ⟨rfl, rfl⟩))
  go_wp2
  go_ret
  exact ⟨rfl, 1, _, three_grow w _ _ _⟩
theorem bel_grow (w : World) (q : Nat) (os : Array Obj) : Bel w (Go.Sort.grow (w.drewN q) os) := by
  refine ⟨rfl, rfl, rfl, by simp [Go.Sort.grow, World.drewN], fun k hk _ => ?_⟩
  simp [Go.Sort.grow, World.drewN, Array.getElem?_append, hk]
theorem compare_any (x y : T) (w : World) :
    Calls Try.prog 38 #[.agg #[.int .u64 x.a, .int .u64 x.s, .int .i64 x.p], .agg #[.int .u64 y.a, .int .u64 y.s, .int .i64 y.p]] w fun e w' =>
      e = .returned (.int .i64 (cf x y)) ∧ Bel w w' :=
  (compare_grow x y w).mono fun e w' ⟨he, q, os, hw⟩ => ⟨he, by rw [hw]; exact bel_grow w q os⟩
theorem before_any (x y : T) (w : World) :
    Calls Try.prog 66 #[.agg #[.int .u64 x.a, .int .u64 x.s, .int .i64 x.p], .agg #[.int .u64 y.a, .int .u64 y.s, .int .i64 y.p]] w fun e w' =>
      e = .returned (.bool (lt x y)) ∧ Bel w w' := by
  obtain ⟨b, hb⟩ : ∃ b, lt x y = b := ⟨_, rfl⟩
  have hb2 : b = true ↔ Lt x y := by rw [← hb]; exact lt_iff x y
  rw [hb]
  clear hb
  obtain ⟨a1, s1, p1⟩ := x
  obtain ⟨a2, s2, p2⟩ := y
  simp only
  by_cases h : a1 = a2
  · subst h
    by_cases k : s1 = s2
    · subst k
      obtain rfl : decide (p1 < p2) = b := by rw [Bool.eq_iff_iff, hb2]; unfold Lt; simp
      clear hb2
      go_enter Try.func66, Try.ntmps66
      go_wp2
      go_ret
      exact ⟨rfl, ((Bel.refl _).alloc _ _).alloc _ _⟩
    · obtain rfl : decide (s1 < s2) = b := by rw [Bool.eq_iff_iff, hb2]; unfold Lt; simp [k]
      have k : (s1 == s2) = false := by simpa using k
      clear hb2
      go_enter Try.func66, Try.ntmps66
      go_wp2
      go_ret
      exact ⟨rfl, ((Bel.refl _).alloc _ _).alloc _ _⟩
  · obtain rfl : decide (a1 < a2) = b := by rw [Bool.eq_iff_iff, hb2]; unfold Lt; simp [h]
    have h : (a1 == a2) = false := by simpa using h
    clear hb2
    go_enter Try.func66, Try.ntmps66
    go_wp2
    go_ret
    exact ⟨rfl, ((Bel.refl _).alloc _ _).alloc _ _⟩
end Go.Proofs.Ytdlfppdekllloaa
