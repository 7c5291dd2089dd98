/-
  Contracts of cmp.Compare, cmp.Or, tick.Compare and the document's Before.
  Contract of the document's Same.
  Acts, what they tell and what comes of them, over a plain list; how acts lie in cells; boxes of five cells.
  Contracts of the document's Slots and looked.
  Contracts of the document's Sorted and Find.
  Contracts of the document's Put, Sort and Due, and of order's fresh.
  Contract of the document's Same of two that were told.
-/
import Derived.Test.YtllohpojajijjaaGreatDoorXb
import Derived.Sort.Grow
import Derived.Test.YtllohpojajijjaaGreatDoorXc
import Derived.Test.YtllohpojajijjaaGreatDoorXa
import Derived.BigQuiet
import Derived.OwnWalk
set_option linter.unusedVariables false
set_option linter.unusedSimpArgs false
namespace Go.Proofs.YtllohpojajijjaaGreatDoor
open Go.RowKit
theorem nanU (x : Int) (w : World) : Calls Tryz.prog 75 #[.int .u64 x] w fun e w' => e = .returned (.bool false) ∧ w = w' := by
  go_enter Tryz.func75, Tryz.ntmps75
  go_wp2
  go_ret
  exact ⟨rfl, rfl⟩
theorem nanI (x : Int) (w : World) : Calls Tryz.prog 76 #[.int .i64 x] w fun e w' => e = .returned (.bool false) ∧ w = w' := by
  go_enter Tryz.func76, Tryz.ntmps76
  go_wp2
  go_ret
  exact ⟨rfl, rfl⟩
theorem cmpU (x y : Int) (w : World) : Calls Tryz.prog 53 #[.int .u64 x, .int .u64 y] w fun e w' => e = .returned (.int .i64 (cz x y)) ∧ w = w' := by
  rcases Int.lt_trichotomy x y with h | rfl | h
  · have k := Lib.hid (cz_lt h)
    go_enter Tryz.func53, Tryz.ntmps53
    go_wp2_with (go_at_call 75; refine (nanU _ _).mono ?_; rintro e w' ⟨rfl, rfl⟩)
    go_ret
    exact ⟨ret_int k.out.symm, rfl⟩
  · have k := Lib.hid (cz_eq x)
    go_enter Tryz.func53, Tryz.ntmps53
    go_wp2_with (go_at_call 75; refine (nanU _ _).mono ?_; rintro e w' ⟨rfl, rfl⟩)
    go_ret
    exact ⟨ret_int k.out.symm, rfl⟩
  · have k := Lib.hid (cz_gt h)
    have h' : ¬ x < y := by omega
    go_enter Tryz.func53, Tryz.ntmps53
    go_wp2_with (go_at_call 75; refine (nanU _ _).mono ?_; rintro e w' ⟨rfl, rfl⟩)
    go_ret
    exact ⟨ret_int k.out.symm, rfl⟩
theorem cmpI (x y : Int) (w : World) : Calls Tryz.prog 54 #[.int .i64 x, .int .i64 y] w fun e w' => e = .returned (.int .i64 (cz x y)) ∧ w = w' := by
  rcases Int.lt_trichotomy x y with h | rfl | h
  · have k := Lib.hid (cz_lt h)
    go_enter Tryz.func54, Tryz.ntmps54
    go_wp2_with (go_at_call 76; refine (nanI _ _).mono ?_; rintro e w' ⟨rfl, rfl⟩)
    go_ret
    exact ⟨ret_int k.out.symm, rfl⟩
  · have k := Lib.hid (cz_eq x)
    go_enter Tryz.func54, Tryz.ntmps54
    go_wp2_with (go_at_call 76; refine (nanI _ _).mono ?_; rintro e w' ⟨rfl, rfl⟩)
    go_ret
    exact ⟨ret_int k.out.symm, rfl⟩
  · have k := Lib.hid (cz_gt h)
    have h' : ¬ x < y := by omega
    go_enter Tryz.func54, Tryz.ntmps54
    go_wp2_with (go_at_call 76; refine (nanI _ _).mono ?_; rintro e w' ⟨rfl, rfl⟩)
    go_ret
    exact ⟨ret_int k.out.symm, rfl⟩
theorem or3_any (b : Nat) (x y z : Int) (w : World) (h0 : w.cell? ⟨b, 0, none⟩ = some (.int .i64 x)) (h1 : w.cell? ⟨b, 1, none⟩ = some (.int .i64 y)) (h2 : w.cell? ⟨b, 2, none⟩ = some (.int .i64 z)) :
    Calls Tryz.prog 52 #[.slice (some ⟨b, 0, none⟩) 3 3] w fun e w' => e = .returned (.int .i64 (or3 x y z)) ∧ w = w' := by
  go_enter Tryz.func52, Tryz.ntmps52
  go_wp2
  go_loop [8] (fun i => ∃ k : Nat, k ≤ 3 ∧ i = .int .i64 k ∧ (1 ≤ k → x = 0) ∧ (2 ≤ k → y = 0) ∧ (3 ≤ k → z = 0)) (fun i => (3 - intOf i).toNat)
  case atStart => exact ⟨0, by omega, rfl, by omega, by omega, by omega⟩
  case round =>
    obtain ⟨k, hk, rfl, q0, q1, q2⟩ := hrel
    have Q0 := Lib.hid q0
    have Q1 := Lib.hid q1
    have Q2 := Lib.hid q2
    clear q0 q1 q2
    obtain rfl | rfl | rfl | rfl : k = 0 ∨ k = 1 ∨ k = 2 ∨ k = 3 := by omega
    · by_cases hx : (x == 0) = true
      · obtain rfl : x = 0 := by simpa using hx
        go_wp2
        go_round
        case rel => exact ⟨1, by omega, rfl, by simp, by omega, by omega⟩
        case measure => simp [intOf]
      · have hx : (x == 0) = false := by simpa using hx
        have hr : Hid (or3 x y z = x) := Lib.hid (by unfold or3; rw [if_pos (by simpa using hx)])
        go_wp2
        go_ret
        exact ⟨ret_int hr.out.symm, rfl⟩
    · obtain rfl : x = 0 := Q0.out (by omega)
      by_cases hx : (y == 0) = true
      · obtain rfl : y = 0 := by simpa using hx
        go_wp2
        go_round
        case rel => exact ⟨2, by omega, rfl, by simp, by simp, by omega⟩
        case measure => simp [intOf]
      · have hx : (y == 0) = false := by simpa using hx
        have hr : Hid (or3 0 y z = y) := Lib.hid (by unfold or3; rw [if_neg (by simp), if_pos (by simpa using hx)])
        go_wp2
        go_ret
        exact ⟨ret_int hr.out.symm, rfl⟩
    · obtain rfl : x = 0 := Q0.out (by omega)
      obtain rfl : y = 0 := Q1.out (by omega)
      by_cases hx : (z == 0) = true
      · obtain rfl : z = 0 := by simpa using hx
        go_wp2
        go_round
        case rel => exact ⟨3, by omega, rfl, by simp, by simp, by simp⟩
        case measure => simp [intOf]
      · have hx : (z == 0) = false := by simpa using hx
        have hr : Hid (or3 0 0 z = z) := Lib.hid (by unfold or3; rw [if_neg (by simp), if_neg (by simp)])
        go_wp2
        go_ret
        exact ⟨ret_int hr.out.symm, rfl⟩
    · obtain rfl : x = 0 := Q0.out (by omega)
      obtain rfl : y = 0 := Q1.out (by omega)
      obtain rfl : z = 0 := Q2.out (by omega)
      go_wp2
      go_ret
      exact ⟨rfl, rfl⟩

theorem three_grow (w : World) (o1 o2 o3 : Obj) : (((w.alloc o1).alloc o2).alloc o3).drew = Go.Sort.grow (w.drewN 1) (#[o1] ++ #[o2] ++ #[o3]) := by
  rw [Go.Sort.alloc_eq_grow, Go.Sort.alloc_eq_grow, Go.Sort.alloc_eq_grow, Go.Sort.grow_grow, Go.Sort.grow_grow]
  rfl
theorem compare_grow (x y : T) (w : World) :
    Calls Tryz.prog 33 #[.agg #[.int .u64 x.a, .int .u64 x.s, .int .i64 x.p], .agg #[.int .u64 y.a, .int .u64 y.s, .int .i64 y.p]] w fun e w' =>
      e = .returned (.int .i64 (cf x y)) ∧ ∃ q os, w' = Go.Sort.grow (w.drewN q) os := by
  obtain ⟨a1, s1, p1⟩ := x
  obtain ⟨a2, s2, p2⟩ := y
  show Calls Tryz.prog 33 #[.agg #[.int .u64 a1, .int .u64 s1, .int .i64 p1], .agg #[.int .u64 a2, .int .u64 s2, .int .i64 p2]] w fun e w' =>
      e = .returned (.int .i64 (or3 (cz a1 a2) (cz s1 s2) (cz p1 p2))) ∧ ∃ q os, w' = Go.Sort.grow (w.drewN q) os
  go_enter Tryz.func33, Tryz.ntmps33
  go_wp2
  go_region_held3 (fun w' => w'.cell? ⟨w.heap.size, 0, none⟩ = some (.int .u64 a1) ∧ w'.cell? ⟨w.heap.size, 1, none⟩ = some (.int .u64 s1) ∧ w'.cell? ⟨w.heap.size, 2, none⟩ = some (.int .i64 p1) ∧
      w'.cell? ⟨w.heap.size + 1, 0, none⟩ = some (.int .u64 a2) ∧ w'.cell? ⟨w.heap.size + 1, 1, none⟩ = some (.int .u64 s2) ∧ w'.cell? ⟨w.heap.size + 1, 2, none⟩ = some (.int .i64 p2)) (simp [go_sem, World.cell?_alloc_past])
    (first
      | (go_at_call 53; refine (cmpU _ _ _).mono ?_; rintro e w' ⟨rfl, rfl⟩)
      | (go_at_call 54; refine (cmpI _ _ _).mono ?_; rintro e w' ⟨rfl, rfl⟩)
      | (go_at_call 52; refine (or3_any _ (cz a1 a2) (cz s1 s2) (cz p1 p2) _ (by simp [go_sem]) (by simp [go_sem]) (by simp [go_sem])).mono ?_; rintro e w' ⟨rfl, rfl⟩))
  go_wp2
  go_ret
  exact ⟨rfl, 1, _, three_grow w _ _ _⟩
theorem bel_grow (w : World) (q : Nat) (os : Array Obj) : Bel w (Go.Sort.grow (w.drewN q) os) := by
  refine ⟨rfl, rfl, rfl, by simp [Go.Sort.grow, World.drewN], fun k hk _ => ?_⟩
  simp [Go.Sort.grow, World.drewN, Array.getElem?_append, hk]
theorem compare_any (x y : T) (w : World) :
    Calls Tryz.prog 33 #[.agg #[.int .u64 x.a, .int .u64 x.s, .int .i64 x.p], .agg #[.int .u64 y.a, .int .u64 y.s, .int .i64 y.p]] w fun e w' =>
      e = .returned (.int .i64 (cf x y)) ∧ Bel w w' :=
  (compare_grow x y w).mono fun e w' ⟨he, q, os, hw⟩ => ⟨he, by rw [hw]; exact bel_grow w q os⟩
theorem before_any (x y : T) (w : World) :
    Calls Tryz.prog 96 #[.agg #[.int .u64 x.a, .int .u64 x.s, .int .i64 x.p], .agg #[.int .u64 y.a, .int .u64 y.s, .int .i64 y.p]] w fun e w' =>
      e = .returned (.bool (lt x y)) ∧ Bel w w' := by
  obtain ⟨b, hb⟩ : ∃ b, lt x y = b := ⟨_, rfl⟩
  have hb2 : b = true ↔ Lt x y := by rw [← hb]; exact lt_iff x y
  rw [hb]
  clear hb
  obtain ⟨a1, s1, p1⟩ := x
  obtain ⟨a2, s2, p2⟩ := y
  simp only
  by_cases h : a1 = a2
  · subst h
    by_cases k : s1 = s2
    · subst k
      obtain rfl : decide (p1 < p2) = b := by rw [Bool.eq_iff_iff, hb2]; unfold Lt; simp
      clear hb2
      go_enter Tryz.func96, Tryz.ntmps96
      go_wp2
      go_ret
      exact ⟨rfl, ((Bel.refl _).alloc _ _).alloc _ _⟩
    · obtain rfl : decide (s1 < s2) = b := by rw [Bool.eq_iff_iff, hb2]; unfold Lt; simp [k]
      have k : (s1 == s2) = false := by simpa using k
      clear hb2
      go_enter Tryz.func96, Tryz.ntmps96
      go_wp2
      go_ret
      exact ⟨rfl, ((Bel.refl _).alloc _ _).alloc _ _⟩
  · obtain rfl : decide (a1 < a2) = b := by rw [Bool.eq_iff_iff, hb2]; unfold Lt; simp [h]
    have h : (a1 == a2) = false := by simpa using h
    clear hb2
    go_enter Tryz.func96, Tryz.ntmps96
    go_wp2
    go_ret
    exact ⟨rfl, ((Bel.refl _).alloc _ _).alloc _ _⟩
end Go.Proofs.YtllohpojajijjaaGreatDoor
namespace Go.Proofs.YtllohpojajijjaaGreatDoor
open Go.RowKit
theorem same_len (p q : Option Addr) (n m cap c : Nat) (w : World) (h : n ≠ m) :
    Calls Tryz.prog 17 #[.slice p n cap, .slice q m c] w fun e w' => e = .returned (.bool false) ∧ Bel w w' := by
  have h : ((n : Int) == (m : Int)) = false := by simp; omega
  go_enter Tryz.func17, Tryz.ntmps17
  go_wp2
  go_ret
  exact ⟨rfl, Bel.refl _⟩
set_option maxHeartbeats 1000000 in
theorem same_any (p q : Option Addr) (n cap c : Nat) (l k : List T) (w : World) (hn : l.length = n) (hk : k.length = n) (hm : n ≤ 5000) (hl : Has w p l) (hq : Has w q k) :
    Calls Tryz.prog 17 #[.slice p n cap, .slice q n c] w fun e w' => e = .returned (.bool (decide (l = k))) ∧ Bel w w' := by
  have HL := Lib.hid hl
  have HN := Lib.hid hn
  have HQ := Lib.hid hq
  have HK := Lib.hid hk
  clear hl hn hq hk
  go_enter Tryz.func17, Tryz.ntmps17
  go_wp2
  go_loopw [5] (fun v wr => ∃ i : Nat, v = .int .i64 i ∧ i ≤ n ∧ Bel w wr ∧ ∀ j : Nat, j < i → l.getD j default = k.getD j default) (fun v _ => n - (intOf v).toNat)
  case atStart => exact ⟨0, rfl, by omega, Bel.refl _, fun j h => by omega⟩
  case round =>
    obtain ⟨i, rfl, hi, hb, hall⟩ := hrel
    have HB := Lib.hid hb
    have HA := Lib.hid hall
    clear hb hall
    by_cases h : i < n
    · obtain ⟨b, off, rfl, hr⟩ := HL.out.row (by have := HN.out; omega)
      obtain ⟨b2, off2, rfl, hr2⟩ := HQ.out.row (by have := HK.out; omega)
      obtain ⟨x, hx⟩ : ∃ x, l.getD i default = x := ⟨_, rfl⟩
      obtain ⟨y, hy⟩ : ∃ y, k.getD i default = y := ⟨_, rfl⟩
      have cx := (hr.bel HB.out) i (by have := HN.out; omega)
      have cy := (hr2.bel HB.out) i (by have := HK.out; omega)
      rw [hx] at cx
      rw [hy] at cy
      obtain ⟨x0, x1, x2⟩ := cx
      obtain ⟨y0, y1, y2⟩ := cy
      have HX := Lib.hid hx
      have HY := Lib.hid hy
      clear hx hy hr hr2
      by_cases hxy : x = y
      · have hE := neq_no x y hxy
        have HXY := Lib.hid hxy
        clear hxy
        go_wp2
        go_region_held3 (fun w' => w'.cell? ⟨b, off + i * 3, none⟩ = some (.int .u64 x.a) ∧ w'.cell? ⟨b, off + i * 3 + 1, none⟩ = some (.int .u64 x.s) ∧ w'.cell? ⟨b, off + i * 3 + 2, none⟩ = some (.int .i64 x.p) ∧
              w'.cell? ⟨b2, off2 + i * 3, none⟩ = some (.int .u64 y.a) ∧ w'.cell? ⟨b2, off2 + i * 3 + 1, none⟩ = some (.int .u64 y.s) ∧ w'.cell? ⟨b2, off2 + i * 3 + 2, none⟩ = some (.int .i64 y.p)) (exact ⟨x0, x1, x2, y0, y1, y2⟩) (fail)
        go_wp2
        go_roundw
        case rel =>
          refine ⟨i + 1, by go_num, by omega, HB.out.drew, fun j hj => ?_⟩
          by_cases e : j = i
          · subst e; rw [HX.out, HY.out, HXY.out]
          · exact HA.out j (by omega)
        case measure => simp [intOf]; omega
      · have hE := neq_yes x y hxy
        have HXY := Lib.hid hxy
        clear hxy
        go_wp2
        go_region_held3 (fun w' => w'.cell? ⟨b, off + i * 3, none⟩ = some (.int .u64 x.a) ∧ w'.cell? ⟨b, off + i * 3 + 1, none⟩ = some (.int .u64 x.s) ∧ w'.cell? ⟨b, off + i * 3 + 2, none⟩ = some (.int .i64 x.p) ∧
              w'.cell? ⟨b2, off2 + i * 3, none⟩ = some (.int .u64 y.a) ∧ w'.cell? ⟨b2, off2 + i * 3 + 1, none⟩ = some (.int .u64 y.s) ∧ w'.cell? ⟨b2, off2 + i * 3 + 2, none⟩ = some (.int .i64 y.p)) (exact ⟨x0, x1, x2, y0, y1, y2⟩) (fail)
        go_wp2
        go_ret
        refine ⟨ret_bool ?_, HB.out.drew⟩
        symm
        rw [decide_eq_false_iff_not]
        rintro rfl
        exact HXY.out (by rw [← HX.out, ← HY.out])
    · go_wp2
      go_ret
      refine ⟨ret_bool ?_, HB.out⟩
      symm
      rw [decide_eq_true_iff]
      refine List.ext_getElem (by rw [HN.out, HK.out]) fun j h1 h2 => ?_
      have e := HA.out j (by have := HN.out; omega)
      simpa [List.getD_eq_getElem?_getD, List.getElem?_eq_getElem h1, List.getElem?_eq_getElem h2] using e
end Go.Proofs.YtllohpojajijjaaGreatDoor
namespace Go.Proofs.YtllohpojajijjaaGreatDoor
open Go.RowKit
/-- An act. -/
structure Ak where
  k : Int
  t : T
  now : Int
instance : Inhabited Ak := ⟨⟨0, default, 0⟩⟩
/-- What an act tells, and what comes of it. -/
def stE (P : Nat) (l : List T) (a : Ak) : Int := if a.k = 0 then insE P l a.t else if a.k = 1 then canE P l a.t.p else if a.k = 2 then canE P l a.t.p else 0
def stT (l : List T) (a : Ak) : T := if a.k = 1 then (fnd l a.t.p).getD default else default
def stD (l : List T) (a : Ak) : List T := if a.k = 3 then due l a.now true else []
def stL (P : Nat) (l : List T) (a : Ak) : List T := if a.k = 0 then insL P l a.t else if a.k = 1 then wo l a.t.p else if a.k = 2 then movL P l a.t else if a.k = 3 then due l a.now false else l
/-- As values. -/
abbrev akV (k : Int) (t : T) (now : Int) : Value := .agg #[.int .i64 k, .int .u64 t.a, .int .u64 t.s, .int .i64 t.p, .int .u64 now]
abbrev tdV (er : Int) (t : T) (p : Option Addr) (n c : Nat) : Value := .agg #[.int .i64 er, .int .u64 t.a, .int .u64 t.s, .int .i64 t.p, .slice p n c]
theorem box5 {w : World} {T : Nat} {a b c d e : Value} {t : TypeId} (h : w.heap[T]? = some (.cells #[a, b, c, d, e] t (0, 0))) :
    (w.cell? ⟨T, 0, none⟩ = some a ∧ w.cell? ⟨T, 1, none⟩ = some b ∧ w.cell? ⟨T, 2, none⟩ = some c ∧ w.cell? ⟨T, 3, none⟩ = some d ∧ w.cell? ⟨T, 4, none⟩ = some e) ∧ (w.frozen? ⟨T, 0, none⟩ = false ∧ w.frozen? ⟨T, 1, none⟩ = false ∧ w.frozen? ⟨T, 2, none⟩ = false ∧ w.frozen? ⟨T, 3, none⟩ = false ∧ w.frozen? ⟨T, 4, none⟩ = false) := by
  refine ⟨⟨?_, ?_, ?_, ?_, ?_⟩, frozen_of_row w T _ _ t h, frozen_of_row w T _ _ t h, frozen_of_row w T _ _ t h, frozen_of_row w T _ _ t h, frozen_of_row w T _ _ t h⟩ <;> (rw [cell_of_row w T _ _ t (0, 0) h]; rfl)
abbrev sto5 (w : World) (T : Nat) (a b c d e : Value) : World := ((((w.setCell ⟨T, 0, none⟩ a).setCell ⟨T, 1, none⟩ b).setCell ⟨T, 2, none⟩ c).setCell ⟨T, 3, none⟩ d).setCell ⟨T, 4, none⟩ e
theorem offs5 (w : World) (T : Nat) (a b c d e : Value) : Off (fun k => k = T) w (sto5 w T a b c d e) :=
  Off.setCell (p := ⟨T, 4, none⟩) (Off.setCell (p := ⟨T, 3, none⟩) (off3 w T a b c) (.inl rfl) d) (.inl rfl) e
theorem two_new (w : World) (a b : Array Value) (ta tb : TypeId) : ∃ W, (w.alloc (.cells a ta)).alloc (.cells b tb) = W ∧ Bel w W ∧ W.heap.size = w.heap.size + 1 + 1 ∧ W.heap[w.heap.size]? = some (.cells a ta (0, 0)) ∧ W.heap[w.heap.size + 1]? = some (.cells b tb (0, 0)) := by
  refine ⟨_, rfl, ((Bel.refl w).alloc _ _).alloc _ _, by simp, ?_, ?_⟩
  · rw [Below.heap_alloc _ _ _ (by simp), heap_alloc_new]
  · have := heap_alloc_new (w.alloc (.cells a ta)) (.cells b tb)
    simpa using this
def encK (l : List Ak) : List Value := l.flatMap fun a => [.int .i64 a.k, .int .u64 a.t.a, .int .u64 a.t.s, .int .i64 a.t.p, .int .u64 a.now]
theorem encK_len : ∀ l : List Ak, (encK l).length = l.length * 5
  | [] => rfl
  | x :: r => by have := encK_len r; unfold encK at this ⊢; rw [List.flatMap_cons, List.length_append, this]; simp; omega
theorem encK_get (l : List Ak) (i : Nat) (x : Ak) (h : l[i]? = some x) : (encK l)[i * 5]? = some (.int .i64 x.k) ∧ (encK l)[i * 5 + 1]? = some (.int .u64 x.t.a) ∧ (encK l)[i * 5 + 2]? = some (.int .u64 x.t.s) ∧ (encK l)[i * 5 + 3]? = some (.int .i64 x.t.p) ∧ (encK l)[i * 5 + 4]? = some (.int .u64 x.now) :=
  ⟨flat_get _ 5 (fun _ => rfl) l i 0 x h (by omega), flat_get _ 5 (fun _ => rfl) l i 1 x h (by omega), flat_get _ 5 (fun _ => rfl) l i 2 x h (by omega), flat_get _ 5 (fun _ => rfl) l i 3 x h (by omega), flat_get _ 5 (fun _ => rfl) l i 4 x h (by omega)⟩
theorem row_ak {w : World} {b off : Nat} {l : List Ak} (h : RowG w b off (encK l)) {i : Nat} {x : Ak} (hx : l[i]? = some x) : w.cell? ⟨b, off + i * 5, none⟩ = some (.int .i64 x.k) ∧ w.cell? ⟨b, off + i * 5 + 1, none⟩ = some (.int .u64 x.t.a) ∧ w.cell? ⟨b, off + i * 5 + 2, none⟩ = some (.int .u64 x.t.s) ∧ w.cell? ⟨b, off + i * 5 + 3, none⟩ = some (.int .i64 x.t.p) ∧ w.cell? ⟨b, off + i * 5 + 4, none⟩ = some (.int .u64 x.now) :=
  ⟨h _ _ (encK_get l i x hx).1, h _ _ (encK_get l i x hx).2.1, h _ _ (encK_get l i x hx).2.2.1, h _ _ (encK_get l i x hx).2.2.2.1, h _ _ (encK_get l i x hx).2.2.2.2⟩
theorem lies_ak {f : Nat → Prop} {w : World} {p : Option Addr} {l : List Ak} (h : Lies f w p (encK l)) {i : Nat} (hi : i < l.length) : ∃ b off, p = some ⟨b, off, none⟩ ∧ ¬ f b ∧ RowG w b off (encK l) :=
  h.row (fun e => by have := encK_len l; rw [e] at this; simp at this; omega)
end Go.Proofs.YtllohpojajijjaaGreatDoor
namespace Go.Proofs.YtllohpojajijjaaGreatDoor
open Go.RowKit
theorem slots_any (b : Nat) (hb : b ≤ 6) (w : World) :
    Calls Tryz.prog 46 #[.int .i64 b] w fun e w' => e = .returned (.int .u64 (slo b)) ∧ w = w' := by
  go_enter Tryz.func46, Tryz.ntmps46
  go_wp2
  go_loopw [3, 4] (fun v i wr => ∃ m : Nat, v = .int .u64 (slo m) ∧ i = .int .i64 m ∧ m ≤ b ∧ wr = w) (fun _ i _ => b - (intOf i).toNat)
  case atStart => exact ⟨0, rfl, rfl, Nat.zero_le _, by trivial⟩
  case round =>
    obtain ⟨m, rfl, rfl, hm, rfl⟩ := hrel
    by_cases h : m < b
    · have h1 : (m : Int) < (b : Int) := by omega
      have hs := slo_step m
      have hz := (slo_le (b := m) (by omega)).2
      generalize slo m = z at *
      have HS := Lib.hid hs
      clear hs
      go_wp2
      go_roundw
      case rel => exact ⟨m + 1, by rw [HS.out]; go_num, by go_num, by omega, by trivial⟩
      case measure => simp [intOf]; omega
    · obtain rfl : m = b := by omega
      go_wp2
      go_ret
      first | exact ⟨rfl, rfl⟩ | exact ⟨rfl, trivial⟩
theorem take_snoc (l : List T) (i : Nat) (h : i < l.length) : l.take (i + 1) = l.take i ++ [l.getD i default] := by
  rw [List.take_succ_eq_append_getElem h]
  have e : l.getD i default = l[i] := by simp [List.getD_eq_getElem?_getD, List.getElem?_eq_getElem h]
  rw [e]
/-- Ticks. -/
def Tk (x : Int) : Prop := 0 ≤ x ∧ x ≤ 18446744073709551615
/-- The base, and how many slots were looked into, behind an act. -/
def stB (s : Int) (a : Ak) : Int := if a.k = 3 then max s a.now else s
def stK (b : Nat) (s lk : Int) (l : List T) (a : Ak) : Int := if a.k = 3 then lks (slo b) s a.now l else lk
end Go.Proofs.YtllohpojajijjaaGreatDoor
namespace Go.Proofs.YtllohpojajijjaaGreatDoor
open Go.RowKit
theorem cnt_step (l : List T) (t : T) (k : Nat) (h : k < l.length) : cnt (l.take (k + 1)) t = cnt (l.take k) t + (if lt (l.getD k default) t = true then 1 else 0) := by
  unfold cnt
  rw [List.take_succ_eq_append_getElem h, List.countP_append]
  congr 1
  have e : l.getD k default = l[k] := by simp [List.getD_eq_getElem?_getD, List.getElem?_eq_getElem h]
  rw [e, List.countP_cons, List.countP_nil]
  simp
/-- What holds at each round's head of Find. -/
def FindAt (w : World) (t : T) (wr : World) : Prop :=
  Bel w wr ∧ wr.cell? ⟨w.heap.size, 0, none⟩ = some (.int .u64 t.a) ∧ wr.cell? ⟨w.heap.size, 1, none⟩ = some (.int .u64 t.s) ∧ wr.cell? ⟨w.heap.size, 2, none⟩ = some (.int .i64 t.p)
theorem FindAt.later {w wr w1 : World} {t : T} (h : FindAt w t wr) (hb : Bel wr w1) : FindAt w t w1 :=
  ⟨h.1.trans hb, hb.cell h.2.1, hb.cell h.2.2.1, hb.cell h.2.2.2⟩
set_option maxHeartbeats 1000000 in
theorem rfind_any (p : Option Addr) (n cap : Nat) (l : List T) (t : T) (w : World) (hn : l.length = n) (hm : n ≤ 5000) (hl : Has w p l) :
    Calls Tryz.prog 82 #[.slice p n cap, .agg #[.int .u64 t.a, .int .u64 t.s, .int .i64 t.p]] w fun e w' => e = .returned (.int .i64 (cnt l t)) ∧ Bel w w' := by
  have HL := Lib.hid hl
  have HN := Lib.hid hn
  clear hl hn
  go_enter Tryz.func82, Tryz.ntmps82
  go_wp2
  go_loopw [5, 6] (fun c v wr => ∃ m : Nat, v = .int .i64 m ∧ m ≤ n ∧ c = .int .i64 (cnt (l.take m) t) ∧ FindAt w t wr) (fun _ v _ => n - (intOf v).toNat)
  case atStart => exact ⟨0, rfl, by omega, by simp [cnt], (Bel.refl _).alloc _ _, by simp [go_sem], by simp [go_sem], by simp [go_sem]⟩
  case round =>
    obtain ⟨m, rfl, hi, rfl, hf⟩ := hrel
    have hle : cnt (l.take m) t ≤ m := Nat.le_trans (cnt_le _ _) (by simp; omega)
    have HF := Lib.hid hf
    obtain ⟨_, y0, y1, y2⟩ := hf
    obtain ⟨c0, hc0⟩ : ∃ c0, cnt (l.take m) t = c0 := ⟨_, rfl⟩
    rw [hc0] at hle ⊢
    have HC0 := Lib.hid hc0
    clear hc0
    by_cases h : m < n
    · obtain ⟨b, off, rfl, hr⟩ := HL.out.row (by have := HN.out; omega)
      obtain ⟨x, hx⟩ : ∃ x, l.getD m default = x := ⟨_, rfl⟩
      have cx := (hr.bel HF.out.1) m (by have := HN.out; omega)
      rw [hx] at cx
      obtain ⟨x0, x1, x2⟩ := cx
      have hst := cnt_step l t m (by have := HN.out; omega)
      rw [hx, HC0.out] at hst
      have HX := Lib.hid hx
      clear hx hr
      obtain ⟨c, hc⟩ : ∃ c, lt x t = c := ⟨_, rfl⟩
      have KB := Lib.hid (before_any x t)
      rw [hc] at KB hst
      have HST := Lib.hid hst
      clear hc hst
      cases c with
      | true =>
        go_wp2
        go_region_held3 (fun w' => w'.cell? ⟨b, off + m * 3, none⟩ = some (.int .u64 x.a) ∧ w'.cell? ⟨b, off + m * 3 + 1, none⟩ = some (.int .u64 x.s) ∧ w'.cell? ⟨b, off + m * 3 + 2, none⟩ = some (.int .i64 x.p) ∧
            w'.cell? ⟨w.heap.size, 0, none⟩ = some (.int .u64 t.a) ∧ w'.cell? ⟨w.heap.size, 1, none⟩ = some (.int .u64 t.s) ∧ w'.cell? ⟨w.heap.size, 2, none⟩ = some (.int .i64 t.p)) (first | exact ⟨x0, x1, x2, y0, y1, y2⟩ | exact ⟨hg1.cell x0, hg1.cell x1, hg1.cell x2, hg1.cell y0, hg1.cell y1, hg1.cell y2⟩)
          (first | (go_at_call 96; refine (KB.out _).mono ?_; rintro e w1 ⟨rfl, hg1⟩))
        have HF2 := Lib.hid (HF.out.later ((Bel.refl _).drew.trans hg1))
        clear hg1
        go_wp2
        go_roundw
        case rel => exact ⟨m + 1, by go_num, by omega, by rw [HST.out]; simp, HF2.out⟩
        case measure => simp [intOf]; omega
      | false =>
        go_wp2
        go_region_held3 (fun w' => w'.cell? ⟨b, off + m * 3, none⟩ = some (.int .u64 x.a) ∧ w'.cell? ⟨b, off + m * 3 + 1, none⟩ = some (.int .u64 x.s) ∧ w'.cell? ⟨b, off + m * 3 + 2, none⟩ = some (.int .i64 x.p) ∧
            w'.cell? ⟨w.heap.size, 0, none⟩ = some (.int .u64 t.a) ∧ w'.cell? ⟨w.heap.size, 1, none⟩ = some (.int .u64 t.s) ∧ w'.cell? ⟨w.heap.size, 2, none⟩ = some (.int .i64 t.p)) (first | exact ⟨x0, x1, x2, y0, y1, y2⟩ | exact ⟨hg1.cell x0, hg1.cell x1, hg1.cell x2, hg1.cell y0, hg1.cell y1, hg1.cell y2⟩)
          (first | (go_at_call 96; refine (KB.out _).mono ?_; rintro e w1 ⟨rfl, hg1⟩))
        have HF2 := Lib.hid (HF.out.later ((Bel.refl _).drew.trans hg1))
        clear hg1
        go_wp2
        go_roundw
        case rel => exact ⟨m + 1, by go_num, by omega, by rw [HST.out]; simp, HF2.out⟩
        case measure => simp [intOf]; omega
    · have HE : Hid (cnt l t = c0) := Lib.hid (by
        have := HN.out
        rw [← HC0.out, List.take_of_length_le (by omega)])
      go_wp2
      go_ret
      exact ⟨ret_int (by rw [HE.out]), HF.out.1⟩
end Go.Proofs.YtllohpojajijjaaGreatDoor
namespace Go.Proofs.YtllohpojajijjaaGreatDoor
open Go.RowKit
theorem has_one (w : World) (t : T) : Has (w.alloc (.cells #[.int .u64 t.a, .int .u64 t.s, .int .i64 t.p] 37)) (some ⟨w.heap.size, 0, none⟩) [t] := by
  refine .inr ⟨_, _, rfl, fun i hi => ?_⟩
  obtain rfl : i = 0 := by simp at hi; exact hi
  simp [go_sem]
theorem own_one (w : World) (t : T) (base : Nat) (hb : base ≤ w.heap.size) : OwnT (w.alloc (.cells #[.int .u64 t.a, .int .u64 t.s, .int .i64 t.p] 37)) base (.slice (some ⟨w.heap.size, 0, none⟩) 1 1) [t] :=
  World.ownsRow_lit w #[.int .u64 t.a, .int .u64 t.s, .int .i64 t.p] 1 hb (by simp [maxLen]) rfl
set_option maxHeartbeats 1000000 in
theorem rput_any (p : Option Addr) (n cap : Nat) (l : List T) (t : T) (w : World) (hn : l.length = n) (hm : n ≤ 5000) (hcap : n ≤ cap) (hl : Has w p l) :
    Calls Tryz.prog 66 #[.slice p n cap, .agg #[.int .u64 t.a, .int .u64 t.s, .int .i64 t.p]] w fun e w' => OutN w w' e (put l t) ∧ Bel w w' := by
  have HL := Lib.hid hl
  have HN := Lib.hid hn
  clear hl hn
  go_enter Tryz.func66, Tryz.ntmps66
  go_wp2_with fail
  with_reducible refine (rfind_any p n cap l t _ HN.out hm (HL.out.bel ((Bel.refl _).alloc _ _))).mono ?_
  rintro e w1 ⟨rfl, hb⟩
  have hle : cnt l t ≤ n := by rw [← HN.out]; exact cnt_le l t
  have y0 : w1.cell? ⟨w.heap.size, 0, none⟩ = some (.int .u64 t.a) := hb.cell (by simp [go_sem])
  have y1 : w1.cell? ⟨w.heap.size, 1, none⟩ = some (.int .u64 t.s) := hb.cell (by simp [go_sem])
  have y2 : w1.cell? ⟨w.heap.size, 2, none⟩ = some (.int .i64 t.p) := hb.cell (by simp [go_sem])
  have HB : Hid (Bel w w1) := Lib.hid (((Bel.refl _).alloc _ _).trans hb)
  clear hb
  obtain ⟨c, hc⟩ : ∃ c, cnt l t = c := ⟨_, rfl⟩
  rw [hc] at hle ⊢
  have HC := Lib.hid hc
  clear hc
  have ht : (l.take c).length = c := by have := HN.out; simp; omega
  have hd : (l.drop c).length = n - c := by have := HN.out; simp; omega
  have HT := Lib.hid ht
  have HD := Lib.hid hd
  clear ht hd
  go_wp2_with (at_builtin; refine wpList_append_any rfl (.tmp 10) (.tmp 13) rfl w1.heap.size _ [] rfl (OwnT.empty _ _ (Nat.le_refl _)) _ _ _ (l.take c) rfl HT.out ((HL.out.bel (HB.out.alloc _ _)).take c) (by simp; omega) (by simp) ?_)
  intro v2 w2 hown hgrow hnil
  have HO := Lib.hid hown
  have HB2 : Hid (Bel w1 w2) := Lib.hid (OwnT.grown ((Bel.refl w1).alloc #[] 37) (OwnT.empty w1 w1.heap.size (Nat.le_refl _)) (by simp) hgrow)
  have y0 := HB2.out.cell y0
  have y1 := HB2.out.cell y1
  have y2 := HB2.out.cell y2
  clear hown hgrow hnil
  go_wp2_with (at_builtin; refine wpList_append_any rfl (.tmp 15) (.tmp 17) rfl w1.heap.size _ (l.take c) rfl (HO.out.bel ((Bel.refl _).alloc _ _)) _ _ _ [t] rfl rfl (has_one _ _) (by have := HT.out; omega) (by have := HB2.out.size; simp; omega) ?_)
  intro v3 w3 hown hgrow hnil
  have HO3 := Lib.hid hown
  have HB3 : Hid (Bel w1 w3) := Lib.hid (OwnT.grown (HB2.out.alloc _ _) (HO.out.bel ((Bel.refl _).alloc _ _)) (by have := HB2.out.size; simp; omega) hgrow)
  clear hown hgrow hnil
  go_wp2_with (at_builtin; refine wpList_append_any rfl (.tmp 19) (.tmp 22) rfl w1.heap.size _ (l.take c ++ [t]) rfl HO3.out _ _ _ (l.drop c) rfl HD.out ((HL.out.bel (HB.out.trans HB3.out)).cut HN.out hcap c) (by have := HT.out; simp; omega) HB3.out.size ?_)
  all_goals
    intro v4 w4 hown hgrow hnil
    have HO4 := Lib.hid hown
    have HB4 : Hid (Bel w1 w4) := Lib.hid (OwnT.grown HB3.out HO3.out HB3.out.size hgrow)
    clear hown hgrow hnil
    go_wp2
    go_ret
    refine ⟨?_, HB.out.trans HB4.out⟩
    have k := HO4.out.outN (w := w) HB.out.size
    unfold put
    rw [HC.out]
    simpa using k
theorem due_take (l : List T) (now : Int) (d : Bool) (k : Nat) (h : k < l.length) : due (l.take (k + 1)) now d = due (l.take k) now d ++ (if decide ((l.getD k default).a ≤ now) == d then [l.getD k default] else []) := by
  unfold due
  rw [List.take_succ_eq_append_getElem h, List.filter_append]
  have e : l.getD k default = l[k] := by simp [List.getD_eq_getElem?_getD, List.getElem?_eq_getElem h]
  rw [e]
  simp [List.filter_cons]
theorem due_len (l : List T) (now : Int) (d : Bool) : (due l now d).length ≤ l.length := List.length_filter_le _ _
set_option maxHeartbeats 1000000 in
theorem rdue_any (p : Option Addr) (n cap : Nat) (l : List T) (now : Int) (d : Bool) (w : World) (hn : l.length = n) (hm : n ≤ 5000) (hl : Has w p l) :
    Calls Tryz.prog 68 #[.slice p n cap, .int .u64 now, .bool d] w fun e w' => OutN w w' e (due l now d) ∧ Bel w w' := by
  have HL := Lib.hid hl
  have HN := Lib.hid hn
  clear hl hn
  go_enter Tryz.func68, Tryz.ntmps68
  go_wp2
  go_loopw [7, 8] (fun o v wr => ∃ m : Nat, v = .int .i64 m ∧ m ≤ n ∧ OwnT wr w.heap.size o (due (l.take m) now d) ∧ Bel w wr) (fun _ v _ => n - (intOf v).toNat)
  case atStart => exact ⟨0, rfl, by omega, OwnT.nil _ _, Bel.refl _⟩
  case round =>
    obtain ⟨m, rfl, hi, ho, hb⟩ := hrel
    have HO := Lib.hid ho
    have HB := Lib.hid hb
    clear ho hb
    by_cases h : m < n
    · obtain ⟨b, off, rfl, hr⟩ := HL.out.row (by have := HN.out; omega)
      obtain ⟨x, hx⟩ : ∃ x, l.getD m default = x := ⟨_, rfl⟩
      have cx := (hr.bel HB.out) m (by have := HN.out; omega)
      rw [hx] at cx
      obtain ⟨x0, x1, x2⟩ := cx
      have HS := Lib.hid (due_take l now d m (by have := HN.out; omega))
      rw [hx] at HS
      clear hx hr
      have HSL : Hid ((due (l.take m) now d).length ≤ m) := Lib.hid (Nat.le_trans (due_len _ _ _) (by simp; omega))
      by_cases hc : (decide (x.a ≤ now) == d) = true
      · go_wp2_with (at_builtin; refine wpList_append_any rfl (.tmp 24) (.tmp 29) rfl w.heap.size _ (due (l.take m) now d) rfl (HO.out.bel ((Bel.refl _).alloc _ _)) _ _ _ [x] rfl rfl (has_one _ _) (by have := HSL.out; omega) (by have := HB.out.size; simp; omega) ?_)
        intro v' w1 hown hgrow hnil
        have HE : Hid (due (List.take (m + 1) l) now d = due (List.take m l) now d ++ [x]) := Lib.hid (by rw [HS.out, if_pos hc])
        have HO2 : Hid (OwnT w1 w.heap.size v' (due (List.take (m + 1) l) now d)) := Lib.hid (by rw [HE.out]; exact hown)
        have HB2 : Hid (Bel w w1) := Lib.hid (OwnT.grown (HB.out.alloc _ _) (HO.out.bel ((Bel.refl _).alloc _ _)) (by have := HB.out.size; simp; omega) hgrow)
        clear hown hgrow hnil hc x0 x1 x2
        go_wp2
        go_roundw
        case rel => exact ⟨m + 1, by go_num, by omega, HO2.out, HB2.out⟩
        case measure => simp [intOf]; omega
      · have HE : Hid (due (List.take (m + 1) l) now d = due (List.take m l) now d) := Lib.hid (by rw [HS.out, if_neg hc, List.append_nil])
        have hc : (decide (x.a ≤ now) == d) = false := by simpa using hc
        go_wp2
        go_roundw
        case rel => exact ⟨m + 1, by go_num, by omega, by rw [HE.out]; exact HO.out, HB.out⟩
        case measure => simp [intOf]; omega
    · obtain rfl : m = n := by omega
      have HE : Hid (l.take m = l) := Lib.hid (List.take_of_length_le (by have := HN.out; omega))
      go_wp2
      go_ret
      have k := HO.out.outN (w := w) (Nat.le_refl _)
      rw [HE.out] at k
      exact ⟨k, HB.out⟩
end Go.Proofs.YtllohpojajijjaaGreatDoor
namespace Go.Proofs.YtllohpojajijjaaGreatDoor
open Go.RowKit
set_option maxHeartbeats 1000000 in
theorem sameT_any (er : Int) (t : T) (p q : Option Addr) (c d : Nat) (l : List T) (w : World) (hm : l.length ≤ 5000) (h1 : Has w p l) (h2 : Has w q l) :
    Calls Tryz.prog 8 #[tdV er t p l.length c, tdV er t q l.length d] w fun e w' => e = .returned (.bool true) ∧ Bel w w' := by
  have H2 := Lib.hid (two_new w #[.int .i64 er, .int .u64 t.a, .int .u64 t.s, .int .i64 t.p, .slice p l.length c] #[.int .i64 er, .int .u64 t.a, .int .u64 t.s, .int .i64 t.p, .slice q l.length d] 39 39)
  have KS := Lib.hid (fun w' (h : Bel w w') => same_any p q l.length c d l l w' rfl rfl hm (h1.bel h) (h2.bel h))
  rw [decide_eq_true rfl] at KS
  have hE := eql_yes t t rfl
  have hI : (er == er) = true := by simp
  clear h1 h2
  unfold tdV
  go_enter Tryz.func8, Tryz.ntmps8
  go_upto_region 1 with (fail)
  obtain ⟨W, eW, hB, hz, n0, n1⟩ := H2.out
  rw [eW]
  clear H2 eW
  obtain ⟨b1, e1⟩ : ∃ b, w.heap.size + 1 = b := ⟨_, rfl⟩
  rw [e1] at n1 hz ⊢
  have HN0 := Lib.hid n0
  have HN1 := Lib.hid n1
  obtain ⟨⟨x0, x1, x2, x3, x4⟩, _⟩ := box5 n0
  obtain ⟨⟨y0, y1, y2, y3, y4⟩, _⟩ := box5 n1
  have HB := Lib.hid hB
  clear hB n0 n1 e1 hz
  go_wp2_with fail
  with_reducible refine (KS.out _ HB.out).mono ?_
  rintro e w1 ⟨rfl, hb⟩
  have HB1 := Lib.hid (HB.out.trans hb)
  clear x0 x1 x2 x3 x4 y0 y1 y2 y3 y4
  obtain ⟨⟨x0, x1, x2, x3, x4⟩, _⟩ := box5 (hb.heap HN0.out)
  obtain ⟨⟨y0, y1, y2, y3, y4⟩, _⟩ := box5 (hb.heap HN1.out)
  clear hb
  go_wp2
  go_ret
  exact ⟨rfl, HB1.out⟩
end Go.Proofs.YtllohpojajijjaaGreatDoor
