/-
  Contracts of cmp.Compare, cmp.Or and tick.Compare.
-/
import Derived.Test.YtpehmmgdcjlfkaaAfter
import Derived.Deep.RegionHeld3
import Derived.Below
namespace Go.Proofs.Ytpehmmgdcjlfkaa
open Go.RowKit

/-- The later world is the earlier one with new blocks behind it, and nothing of what was there has turned. -/
def Grew (w w' : World) : Prop := Grown w w' ∧ Below w.heap.size w w'
theorem Grew.refl (w : World) : Grew w w := ⟨Grown.refl w, Below.refl _ w⟩
theorem Grew.alloc {a w : World} (h : Grew a w) (c : Array Value) (t : TypeId) : Grew a (w.alloc (.cells c t)) :=
  ⟨h.1.alloc c t, h.2.alloc h.2.size _⟩
theorem Grew.drew {a w : World} (h : Grew a w) : Grew a w.drew := ⟨h.1, ⟨h.2.os, h.2.tape, h.2.output, h.2.size, h.2.block⟩⟩
theorem Grew.drewN {a w : World} (h : Grew a w) (n : Nat) : Grew a (w.drewN n) := ⟨⟨⟨h.1.1.1, h.1.1.2.1, h.1.1.2.2⟩, h.1.2.1, h.1.2.2⟩, ⟨h.2.os, h.2.tape, h.2.output, h.2.size, h.2.block⟩⟩
theorem Grew.setCell {a w : World} (h : Grew a w) {p : Addr} (hp : a.heap.size ≤ p.block) (v : Value) : Grew a (w.setCell p v) :=
  ⟨h.1.setCell hp v, h.2.setCell hp v⟩
theorem Grew.trans {a b c : World} (h : Grew a b) (k : Grew b c) : Grew a c :=
  ⟨⟨World.keptBut_trans h.1.1 k.1.1, fun x => (k.1.2.1 x).trans (h.1.2.1 x), Nat.le_trans h.1.2.2 k.1.2.2⟩, h.2.trans (k.2.mono h.2.size)⟩
/-- -1, 0 or 1, as the one is less than the other, the same, or more. -/
def cz (x y : Int) : Int := if x < y then -1 else if y < x then 1 else 0
theorem cz_lt {x y : Int} (h : x < y) : cz x y = -1 := by unfold cz; rw [if_pos h]
theorem cz_gt {x y : Int} (h : y < x) : cz x y = 1 := by unfold cz; rw [if_neg (by omega), if_pos h]
theorem cz_eq (x : Int) : cz x x = 0 := by unfold cz; rw [if_neg (by omega), if_neg (by omega)]
theorem nanU (x : Int) (w : World) : Calls Try.prog 33 #[.int .u64 x] w fun e w' => e = .returned (.bool false) ∧ w = w' := by
  go_enter Try.func33, Try.ntmps33
  go_wp2
  go_ret
  exact ⟨rfl, rfl⟩
theorem nanI (x : Int) (w : World) : Calls Try.prog 34 #[.int .i64 x] w fun e w' => e = .returned (.bool false) ∧ w = w' := by
  go_enter Try.func34, Try.ntmps34
  go_wp2
  go_ret
  exact ⟨rfl, rfl⟩
theorem cmpU (x y : Int) (w : World) : Calls Try.prog 31 #[.int .u64 x, .int .u64 y] w fun e w' => e = .returned (.int .i64 (cz x y)) ∧ w = w' := by
  rcases Int.lt_trichotomy x y with h | rfl | h
  · have k := Lib.hid (cz_lt h)
    go_enter Try.func31, Try.ntmps31
    go_wp2_with (go_at_call 33; refine (nanU _ _).mono ?_; rintro e w' ⟨rfl, rfl⟩)
    go_ret
    exact ⟨ret_int k.out.symm, rfl⟩
  · have k := Lib.hid (cz_eq x)
    go_enter Try.func31, Try.ntmps31
    go_wp2_with (go_at_call 33; refine (nanU _ _).mono ?_; rintro e w' ⟨rfl, rfl⟩)
    go_ret
    exact ⟨ret_int k.out.symm, rfl⟩
  · have k := Lib.hid (cz_gt h)
    have h' : ¬ x < y := by omega
    go_enter Try.func31, Try.ntmps31
    go_wp2_with (go_at_call 33; refine (nanU _ _).mono ?_; rintro e w' ⟨rfl, rfl⟩)
    go_ret
    exact ⟨ret_int k.out.symm, rfl⟩
theorem cmpI (x y : Int) (w : World) : Calls Try.prog 32 #[.int .i64 x, .int .i64 y] w fun e w' => e = .returned (.int .i64 (cz x y)) ∧ w = w' := by
  rcases Int.lt_trichotomy x y with h | rfl | h
  · have k := Lib.hid (cz_lt h)
    go_enter Try.func32, Try.ntmps32
    go_wp2_with (go_at_call 34; refine (nanI _ _).mono ?_; rintro e w' ⟨rfl, rfl⟩)
    go_ret
    exact ⟨ret_int k.out.symm, rfl⟩
  · have k := Lib.hid (cz_eq x)
    go_enter Try.func32, Try.ntmps32
    go_wp2_with (go_at_call 34; refine (nanI _ _).mono ?_; rintro e w' ⟨rfl, rfl⟩)
    go_ret
    exact ⟨ret_int k.out.symm, rfl⟩
  · have k := Lib.hid (cz_gt h)
    have h' : ¬ x < y := by omega
    go_enter Try.func32, Try.ntmps32
    go_wp2_with (go_at_call 34; refine (nanI _ _).mono ?_; rintro e w' ⟨rfl, rfl⟩)
    go_ret
    exact ⟨ret_int k.out.symm, rfl⟩
/-- The first of three that is not 0. -/
def or3 (x y z : Int) : Int := if x ≠ 0 then x else if y ≠ 0 then y else z
theorem or3_any (b : Nat) (x y z : Int) (w : World) (h0 : w.cell? ⟨b, 0, none⟩ = some (.int .i64 x)) (h1 : w.cell? ⟨b, 1, none⟩ = some (.int .i64 y)) (h2 : w.cell? ⟨b, 2, none⟩ = some (.int .i64 z)) :
    Calls Try.prog 30 #[.slice (some ⟨b, 0, none⟩) 3 3] w fun e w' => e = .returned (.int .i64 (or3 x y z)) ∧ w = w' := by
  go_enter Try.func30, Try.ntmps30
  go_wp2
  go_loop [8] (fun i => ∃ k : Nat, k ≤ 3 ∧ i = .int .i64 k ∧ (1 ≤ k → x = 0) ∧ (2 ≤ k → y = 0) ∧ (3 ≤ k → z = 0)) (fun i => (3 - intOf i).toNat)
  case atStart => exact ⟨0, by omega, rfl, by omega, by omega, by omega⟩
  case round =>
    obtain ⟨k, hk, rfl, q0, q1, q2⟩ := hrel
    have Q0 := Lib.hid q0
    have Q1 := Lib.hid q1
    have Q2 := Lib.hid q2
    clear q0 q1 q2
    obtain rfl | rfl | rfl | rfl : k = 0 ∨ k = 1 ∨ k = 2 ∨ k = 3 := by omega
    · by_cases hx : (x == 0) = true
      · obtain rfl : x = 0 := by simpa using hx
        go_wp2
        go_round
        case rel => exact ⟨1, by omega, rfl, by simp, by omega, by omega⟩
        case measure => simp [intOf]
      · have hx : (x == 0) = false := by simpa using hx
        have hr : Hid (or3 x y z = x) := Lib.hid (by unfold or3; rw [if_pos (by simpa using hx)])
        go_wp2
        go_ret
        exact ⟨ret_int hr.out.symm, rfl⟩
    · obtain rfl : x = 0 := Q0.out (by omega)
      by_cases hx : (y == 0) = true
      · obtain rfl : y = 0 := by simpa using hx
        go_wp2
        go_round
        case rel => exact ⟨2, by omega, rfl, by simp, by simp, by omega⟩
        case measure => simp [intOf]
      · have hx : (y == 0) = false := by simpa using hx
        have hr : Hid (or3 0 y z = y) := Lib.hid (by unfold or3; rw [if_neg (by simp), if_pos (by simpa using hx)])
        go_wp2
        go_ret
        exact ⟨ret_int hr.out.symm, rfl⟩
    · obtain rfl : x = 0 := Q0.out (by omega)
      obtain rfl : y = 0 := Q1.out (by omega)
      by_cases hx : (z == 0) = true
      · obtain rfl : z = 0 := by simpa using hx
        go_wp2
        go_round
        case rel => exact ⟨3, by omega, rfl, by simp, by simp, by simp⟩
        case measure => simp [intOf]
      · have hx : (z == 0) = false := by simpa using hx
        have hr : Hid (or3 0 0 z = z) := Lib.hid (by unfold or3; rw [if_neg (by simp), if_neg (by simp)])
        go_wp2
        go_ret
        exact ⟨ret_int hr.out.symm, rfl⟩
    · obtain rfl : x = 0 := Q0.out (by omega)
      obtain rfl : y = 0 := Q1.out (by omega)
      obtain rfl : z = 0 := Q2.out (by omega)
      go_wp2
      go_ret
      exact ⟨rfl, rfl⟩

/-- A timer, as a value. -/
def tm (a s p : Int) : Value := .agg #[.int .u64 a, .int .u64 s, .int .i64 p]
/-- Which timer is before which. -/
def tcmp (a1 s1 p1 a2 s2 p2 : Int) : Int := or3 (cz a1 a2) (cz s1 s2) (cz p1 p2)
theorem compare_any (a1 s1 p1 a2 s2 p2 : Int) (w : World) :
    Calls Try.prog 20 #[.agg #[.int .u64 a1, .int .u64 s1, .int .i64 p1], .agg #[.int .u64 a2, .int .u64 s2, .int .i64 p2]] w fun e w' =>
      e = .returned (.int .i64 (tcmp a1 s1 p1 a2 s2 p2)) ∧ Grew w w' := by
  go_enter Try.func20, Try.ntmps20
  go_wp2
  go_region_held3 (fun w' => w'.cell? ⟨w.heap.size, 0, none⟩ = some (.int .u64 a1) ∧ w'.cell? ⟨w.heap.size, 1, none⟩ = some (.int .u64 s1) ∧ w'.cell? ⟨w.heap.size, 2, none⟩ = some (.int .i64 p1) ∧
      w'.cell? ⟨w.heap.size + 1, 0, none⟩ = some (.int .u64 a2) ∧ w'.cell? ⟨w.heap.size + 1, 1, none⟩ = some (.int .u64 s2) ∧ w'.cell? ⟨w.heap.size + 1, 2, none⟩ = some (.int .i64 p2)) (simp [go_sem, World.cell?_alloc_past])
    (first
      | (go_at_call 31; refine (cmpU _ _ _).mono ?_; rintro e w' ⟨rfl, rfl⟩)
      | (go_at_call 32; refine (cmpI _ _ _).mono ?_; rintro e w' ⟨rfl, rfl⟩)
      | (go_at_call 30; refine (or3_any _ (cz a1 a2) (cz s1 s2) (cz p1 p2) _ (by simp [go_sem]) (by simp [go_sem]) (by simp [go_sem])).mono ?_; rintro e w' ⟨rfl, rfl⟩))
  go_wp2
  go_ret
  exact ⟨rfl, ((((Grew.refl _).alloc _ _).alloc _ _).alloc _ _).drew⟩
end Go.Proofs.Ytpehmmgdcjlfkaa
