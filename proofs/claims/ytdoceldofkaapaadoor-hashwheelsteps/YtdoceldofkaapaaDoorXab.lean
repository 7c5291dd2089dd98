/-
  Contracts of cmp.Compare, cmp.Or, tick.Compare and the document's Before.
  Contract of the document's Same.
  Acts, what they tell and what comes of them, over a plain list; how acts lie in cells; boxes of five cells.
  Contracts of the document's Slots and looked.
-/
import Derived.Test.YtdoceldofkaapaaDoorTframe
import Derived.Sort.Grow
import Derived.Test.YtdoceldofkaapaaDoorXaa
import Derived.BigQuiet
import Derived.OwnWalk
set_option linter.unusedVariables false
set_option linter.unusedSimpArgs false
namespace Go.Proofs.YtdoceldofkaapaaDoor
open Go.RowKit
theorem nanU (x : Int) (w : World) : Calls Tryd.prog 71 #[.int .u64 x] w fun e w' => e = .returned (.bool false) ∧ w = w' := by
  go_enter Tryd.func71, Tryd.ntmps71
  go_wp2
  go_ret
  exact ⟨rfl, rfl⟩
theorem nanI (x : Int) (w : World) : Calls Tryd.prog 72 #[.int .i64 x] w fun e w' => e = .returned (.bool false) ∧ w = w' := by
  go_enter Tryd.func72, Tryd.ntmps72
  go_wp2
  go_ret
  exact ⟨rfl, rfl⟩
theorem cmpU (x y : Int) (w : World) : Calls Tryd.prog 52 #[.int .u64 x, .int .u64 y] w fun e w' => e = .returned (.int .i64 (cz x y)) ∧ w = w' := by
  rcases Int.lt_trichotomy x y with h | rfl | h
  · have k := Lib.hid (cz_lt h)
    go_enter Tryd.func52, Tryd.ntmps52
    go_wp2_with (go_at_call 71; refine (nanU _ _).mono ?_; rintro e w' ⟨rfl, rfl⟩)
    go_ret
    exact ⟨ret_int k.out.symm, rfl⟩
  · have k := Lib.hid (cz_eq x)
    go_enter Tryd.func52, Tryd.ntmps52
    go_wp2_with (go_at_call 71; refine (nanU _ _).mono ?_; rintro e w' ⟨rfl, rfl⟩)
    go_ret
    exact ⟨ret_int k.out.symm, rfl⟩
  · have k := Lib.hid (cz_gt h)
    have h' : ¬ x < y := by omega
    go_enter Tryd.func52, Tryd.ntmps52
    go_wp2_with (go_at_call 71; refine (nanU _ _).mono ?_; rintro e w' ⟨rfl, rfl⟩)
    go_ret
    exact ⟨ret_int k.out.symm, rfl⟩
theorem cmpI (x y : Int) (w : World) : Calls Tryd.prog 53 #[.int .i64 x, .int .i64 y] w fun e w' => e = .returned (.int .i64 (cz x y)) ∧ w = w' := by
  rcases Int.lt_trichotomy x y with h | rfl | h
  · have k := Lib.hid (cz_lt h)
    go_enter Tryd.func53, Tryd.ntmps53
    go_wp2_with (go_at_call 72; refine (nanI _ _).mono ?_; rintro e w' ⟨rfl, rfl⟩)
    go_ret
    exact ⟨ret_int k.out.symm, rfl⟩
  · have k := Lib.hid (cz_eq x)
    go_enter Tryd.func53, Tryd.ntmps53
    go_wp2_with (go_at_call 72; refine (nanI _ _).mono ?_; rintro e w' ⟨rfl, rfl⟩)
    go_ret
    exact ⟨ret_int k.out.symm, rfl⟩
  · have k := Lib.hid (cz_gt h)
    have h' : ¬ x < y := by omega
    go_enter Tryd.func53, Tryd.ntmps53
    go_wp2_with (go_at_call 72; refine (nanI _ _).mono ?_; rintro e w' ⟨rfl, rfl⟩)
    go_ret
    exact ⟨ret_int k.out.symm, rfl⟩
theorem or3_any (b : Nat) (x y z : Int) (w : World) (h0 : w.cell? ⟨b, 0, none⟩ = some (.int .i64 x)) (h1 : w.cell? ⟨b, 1, none⟩ = some (.int .i64 y)) (h2 : w.cell? ⟨b, 2, none⟩ = some (.int .i64 z)) :
    Calls Tryd.prog 51 #[.slice (some ⟨b, 0, none⟩) 3 3] w fun e w' => e = .returned (.int .i64 (or3 x y z)) ∧ w = w' := by
  go_enter Tryd.func51, Tryd.ntmps51
  go_wp2
  go_loop [8] (fun i => ∃ k : Nat, k ≤ 3 ∧ i = .int .i64 k ∧ (1 ≤ k → x = 0) ∧ (2 ≤ k → y = 0) ∧ (3 ≤ k → z = 0)) (fun i => (3 - intOf i).toNat)
  case atStart => exact ⟨0, by omega, rfl, by omega, by omega, by omega⟩
  case round =>
    obtain ⟨k, hk, rfl, q0, q1, q2⟩ := hrel
    have Q0 := Lib.hid q0
    have Q1 := Lib.hid q1
    have Q2 := Lib.hid q2
    clear q0 q1 q2
    obtain rfl | rfl | rfl | rfl : k = 0 ∨ k = 1 ∨ k = 2 ∨ k = 3 := by omega
    · by_cases hx : (x == 0) = true
      · obtain rfl : x = 0 := by simpa using hx
        go_wp2
        go_round
        case rel => exact ⟨1, by omega, rfl, by simp, by omega, by omega⟩
        case measure => simp [intOf]
      · have hx : (x == 0) = false := by simpa using hx
        have hr : Hid (or3 x y z = x) := Lib.hid (by unfold or3; rw [if_pos (by simpa using hx)])
        go_wp2
        go_ret
        exact ⟨ret_int hr.out.symm, rfl⟩
    · obtain rfl : x = 0 := Q0.out (by omega)
      by_cases hx : (y == 0) = true
      · obtain rfl : y = 0 := by simpa using hx
        go_wp2
        go_round
        case rel => exact ⟨2, by omega, rfl, by simp, by simp, by omega⟩
        case measure => simp [intOf]
      · have hx : (y == 0) = false := by simpa using hx
        have hr : Hid (or3 0 y z = y) := Lib.hid (by unfold or3; rw [if_neg (by simp), if_pos (by simpa using hx)])
        go_wp2
        go_ret
        exact ⟨ret_int hr.out.symm, rfl⟩
    · obtain rfl : x = 0 := Q0.out (by omega)
      obtain rfl : y = 0 := Q1.out (by omega)
      by_cases hx : (z == 0) = true
      · obtain rfl : z = 0 := by simpa using hx
        go_wp2
        go_round
        case rel => exact ⟨3, by omega, rfl, by simp, by simp, by simp⟩
        case measure => simp [intOf]
      · have hx : (z == 0) = false := by simpa using hx
        have hr : Hid (or3 0 0 z = z) := Lib.hid (by unfold or3; rw [if_neg (by simp), if_neg (by simp)])
        go_wp2
        go_ret
        exact ⟨ret_int hr.out.symm, rfl⟩
    · obtain rfl : x = 0 := Q0.out (by omega)
      obtain rfl : y = 0 := Q1.out (by omega)
      obtain rfl : z = 0 := Q2.out (by omega)
      go_wp2
      go_ret
      exact ⟨rfl, rfl⟩

theorem three_grow (w : World) (o1 o2 o3 : Obj) : (((w.alloc o1).alloc o2).alloc o3).drew = Go.Sort.grow (w.drewN 1) (#[o1] ++ #[o2] ++ #[o3]) := by
  rw [Go.Sort.alloc_eq_grow, Go.Sort.alloc_eq_grow, Go.Sort.alloc_eq_grow, Go.Sort.grow_grow, Go.Sort.grow_grow]
  rfl
theorem compare_grow (x y : T) (w : World) :
    Calls Tryd.prog 36 #[.agg #[.int .u64 x.a, .int .u64 x.s, .int .i64 x.p], .agg #[.int .u64 y.a, .int .u64 y.s, .int .i64 y.p]] w fun e w' =>
      e = .returned (.int .i64 (cf x y)) ∧ ∃ q os, w' = Go.Sort.grow (w.drewN q) os := by
  obtain ⟨a1, s1, p1⟩ := x
  obtain ⟨a2, s2, p2⟩ := y
  show Calls Tryd.prog 36 #[.agg #[.int .u64 a1, .int .u64 s1, .int .i64 p1], .agg #[.int .u64 a2, .int .u64 s2, .int .i64 p2]] w fun e w' =>
      e = .returned (.int .i64 (or3 (cz a1 a2) (cz s1 s2) (cz p1 p2))) ∧ ∃ q os, w' = Go.Sort.grow (w.drewN q) os
  go_enter Tryd.func36, Tryd.ntmps36
  go_wp2
  go_region_held3 (fun w' => w'.cell? ⟨w.heap.size, 0, none⟩ = some (.int .u64 a1) ∧ w'.cell? ⟨w.heap.size, 1, none⟩ = some (.int .u64 s1) ∧ w'.cell? ⟨w.heap.size, 2, none⟩ = some (.int .i64 p1) ∧
      w'.cell? ⟨w.heap.size + 1, 0, none⟩ = some (.int .u64 a2) ∧ w'.cell? ⟨w.heap.size + 1, 1, none⟩ = some (.int .u64 s2) ∧ w'.cell? ⟨w.heap.size + 1, 2, none⟩ = some (.int .i64 p2)) (simp [go_sem, World.cell?_alloc_past])
    (first
      | (go_at_call 52; refine (cmpU _ _ _).mono ?_; rintro e w' ⟨rfl, rfl⟩)
      | (go_at_call 53; refine (cmpI _ _ _).mono ?_; rintro e w' ⟨rfl, rfl⟩)
      | (go_at_call 51; refine (or3_any _ (cz a1 a2) (cz s1 s2) (cz p1 p2) _ (by simp [go_sem]) (by simp [go_sem]) (by simp [go_sem])).mono ?_; rintro e w' ⟨rfl, rfl⟩))
  go_wp2
  go_ret
  exact ⟨rfl, 1, _, three_grow w _ _ _⟩
theorem bel_grow (w : World) (q : Nat) (os : Array Obj) : Bel w (Go.Sort.grow (w.drewN q) os) := by
  refine ⟨rfl, rfl, rfl, by simp [Go.Sort.grow, World.drewN], fun k hk _ => ?_⟩
  simp [Go.Sort.grow, World.drewN, Array.getElem?_append, hk]
theorem compare_any (x y : T) (w : World) :
    Calls Tryd.prog 36 #[.agg #[.int .u64 x.a, .int .u64 x.s, .int .i64 x.p], .agg #[.int .u64 y.a, .int .u64 y.s, .int .i64 y.p]] w fun e w' =>
      e = .returned (.int .i64 (cf x y)) ∧ Bel w w' :=
  (compare_grow x y w).mono fun e w' ⟨he, q, os, hw⟩ => ⟨he, by rw [hw]; exact bel_grow w q os⟩
end Go.Proofs.YtdoceldofkaapaaDoor
namespace Go.Proofs.YtdoceldofkaapaaDoor
open Go.RowKit
theorem same_len (p q : Option Addr) (n m cap c : Nat) (w : World) (h : n ≠ m) :
    Calls Tryd.prog 16 #[.slice p n cap, .slice q m c] w fun e w' => e = .returned (.bool false) ∧ Bel w w' := by
  have h : ((n : Int) == (m : Int)) = false := by simp; omega
  go_enter Tryd.func16, Tryd.ntmps16
  go_wp2
  go_ret
  exact ⟨rfl, Bel.refl _⟩
set_option maxHeartbeats 1000000 in
theorem same_any (p q : Option Addr) (n cap c : Nat) (l k : List T) (w : World) (hn : l.length = n) (hk : k.length = n) (hm : n ≤ 5000) (hl : Has w p l) (hq : Has w q k) :
    Calls Tryd.prog 16 #[.slice p n cap, .slice q n c] w fun e w' => e = .returned (.bool (decide (l = k))) ∧ Bel w w' := by
  have HL := Lib.hid hl
  have HN := Lib.hid hn
  have HQ := Lib.hid hq
  have HK := Lib.hid hk
  clear hl hn hq hk
  go_enter Tryd.func16, Tryd.ntmps16
  go_wp2
  go_loopw [5] (fun v wr => ∃ i : Nat, v = .int .i64 i ∧ i ≤ n ∧ Bel w wr ∧ ∀ j : Nat, j < i → l.getD j default = k.getD j default) (fun v _ => n - (intOf v).toNat)
  case atStart => exact ⟨0, rfl, by omega, Bel.refl _, fun j h => by omega⟩
  case round =>
    obtain ⟨i, rfl, hi, hb, hall⟩ := hrel
    have HB := Lib.hid hb
    have HA := Lib.hid hall
    clear hb hall
    by_cases h : i < n
    · obtain ⟨b, off, rfl, hr⟩ := HL.out.row (by have := HN.out; omega)
      obtain ⟨b2, off2, rfl, hr2⟩ := HQ.out.row (by have := HK.out; omega)
      obtain ⟨x, hx⟩ : ∃ x, l.getD i default = x := ⟨_, rfl⟩
      obtain ⟨y, hy⟩ : ∃ y, k.getD i default = y := ⟨_, rfl⟩
      have cx := (hr.bel HB.out) i (by have := HN.out; omega)
      have cy := (hr2.bel HB.out) i (by have := HK.out; omega)
      rw [hx] at cx
      rw [hy] at cy
      obtain ⟨x0, x1, x2⟩ := cx
      obtain ⟨y0, y1, y2⟩ := cy
      have HX := Lib.hid hx
      have HY := Lib.hid hy
      clear hx hy hr hr2
      by_cases hxy : x = y
      · have hE := neq_no x y hxy
        have HXY := Lib.hid hxy
        clear hxy
        go_wp2
        go_region_held3 (fun w' => w'.cell? ⟨b, off + i * 3, none⟩ = some (.int .u64 x.a) ∧ w'.cell? ⟨b, off + i * 3 + 1, none⟩ = some (.int .u64 x.s) ∧ w'.cell? ⟨b, off + i * 3 + 2, none⟩ = some (.int .i64 x.p) ∧
              w'.cell? ⟨b2, off2 + i * 3, none⟩ = some (.int .u64 y.a) ∧ w'.cell? ⟨b2, off2 + i * 3 + 1, none⟩ = some (.int .u64 y.s) ∧ w'.cell? ⟨b2, off2 + i * 3 + 2, none⟩ = some (.int .i64 y.p)) (exact ⟨x0, x1, x2, y0, y1, y2⟩) (fail)
        go_wp2
        go_roundw
        case rel =>
          refine ⟨i + 1, by go_num, by omega, HB.out.drew, fun j hj => ?_⟩
          by_cases e : j = i
          · subst e; rw [HX.out, HY.out, HXY.out]
          · exact HA.out j (by omega)
        case measure => simp [intOf]; omega
      · have hE := neq_yes x y hxy
        have HXY := Lib.hid hxy
        clear hxy
        go_wp2
        go_region_held3 (fun w' => w'.cell? ⟨b, off + i * 3, none⟩ = some (.int .u64 x.a) ∧ w'.cell? ⟨b, off + i * 3 + 1, none⟩ = some (.int .u64 x.s) ∧ w'.cell? ⟨b, off + i * 3 + 2, none⟩ = some (.int .i64 x.p) ∧
              w'.cell? ⟨b2, off2 + i * 3, none⟩ = some (.int .u64 y.a) ∧ w'.cell? ⟨b2, off2 + i * 3 + 1, none⟩ = some (.int .u64 y.s) ∧ w'.cell? ⟨b2, off2 + i * 3 + 2, none⟩ = some (.int .i64 y.p)) (exact ⟨x0, x1, x2, y0, y1, y2⟩) (fail)
        go_wp2
        go_ret
        refine ⟨ret_bool ?_, HB.out.drew⟩
        symm
        rw [decide_eq_false_iff_not]
        rintro rfl
        exact HXY.out (by rw [← HX.out, ← HY.out])
    · go_wp2
      go_ret
      refine ⟨ret_bool ?_, HB.out⟩
      symm
      rw [decide_eq_true_iff]
      refine List.ext_getElem (by rw [HN.out, HK.out]) fun j h1 h2 => ?_
      have e := HA.out j (by have := HN.out; omega)
      simpa [List.getD_eq_getElem?_getD, List.getElem?_eq_getElem h1, List.getElem?_eq_getElem h2] using e
end Go.Proofs.YtdoceldofkaapaaDoor
namespace Go.Proofs.YtdoceldofkaapaaDoor
open Go.RowKit
/-- An act. -/
structure Ak where
  k : Int
  t : T
  now : Int
instance : Inhabited Ak := ⟨⟨0, default, 0⟩⟩
/-- What an act tells, and what comes of it. -/
def stE (P : Nat) (l : List T) (a : Ak) : Int := if a.k = 0 then insE P l a.t else if a.k = 1 then canE P l a.t.p else if a.k = 2 then canE P l a.t.p else 0
def stT (l : List T) (a : Ak) : T := if a.k = 1 then (fnd l a.t.p).getD default else default
def stD (l : List T) (a : Ak) : List T := if a.k = 3 then due l a.now true else []
def stL (P : Nat) (l : List T) (a : Ak) : List T := if a.k = 0 then insL P l a.t else if a.k = 1 then wo l a.t.p else if a.k = 2 then movL P l a.t else if a.k = 3 then due l a.now false else l
/-- As values. -/
abbrev akV (k : Int) (t : T) (now : Int) : Value := .agg #[.int .i64 k, .int .u64 t.a, .int .u64 t.s, .int .i64 t.p, .int .u64 now]
abbrev tdV (er : Int) (t : T) (p : Option Addr) (n c : Nat) : Value := .agg #[.int .i64 er, .int .u64 t.a, .int .u64 t.s, .int .i64 t.p, .slice p n c]
theorem box5 {w : World} {T : Nat} {a b c d e : Value} {t : TypeId} (h : w.heap[T]? = some (.cells #[a, b, c, d, e] t (0, 0))) :
    (w.cell? ⟨T, 0, none⟩ = some a ∧ w.cell? ⟨T, 1, none⟩ = some b ∧ w.cell? ⟨T, 2, none⟩ = some c ∧ w.cell? ⟨T, 3, none⟩ = some d ∧ w.cell? ⟨T, 4, none⟩ = some e) ∧ (w.frozen? ⟨T, 0, none⟩ = false ∧ w.frozen? ⟨T, 1, none⟩ = false ∧ w.frozen? ⟨T, 2, none⟩ = false ∧ w.frozen? ⟨T, 3, none⟩ = false ∧ w.frozen? ⟨T, 4, none⟩ = false) := by
  refine ⟨⟨?_, ?_, ?_, ?_, ?_⟩, frozen_of_row w T _ _ t h, frozen_of_row w T _ _ t h, frozen_of_row w T _ _ t h, frozen_of_row w T _ _ t h, frozen_of_row w T _ _ t h⟩ <;> (rw [cell_of_row w T _ _ t (0, 0) h]; rfl)
abbrev sto5 (w : World) (T : Nat) (a b c d e : Value) : World := ((((w.setCell ⟨T, 0, none⟩ a).setCell ⟨T, 1, none⟩ b).setCell ⟨T, 2, none⟩ c).setCell ⟨T, 3, none⟩ d).setCell ⟨T, 4, none⟩ e
theorem offs5 (w : World) (T : Nat) (a b c d e : Value) : Off (fun k => k = T) w (sto5 w T a b c d e) :=
  Off.setCell (p := ⟨T, 4, none⟩) (Off.setCell (p := ⟨T, 3, none⟩) (off3 w T a b c) (.inl rfl) d) (.inl rfl) e
theorem two_new (w : World) (a b : Array Value) (ta tb : TypeId) : ∃ W, (w.alloc (.cells a ta)).alloc (.cells b tb) = W ∧ Bel w W ∧ W.heap.size = w.heap.size + 1 + 1 ∧ W.heap[w.heap.size]? = some (.cells a ta (0, 0)) ∧ W.heap[w.heap.size + 1]? = some (.cells b tb (0, 0)) := by
  refine ⟨_, rfl, ((Bel.refl w).alloc _ _).alloc _ _, by simp, ?_, ?_⟩
  · rw [Below.heap_alloc _ _ _ (by simp), heap_alloc_new]
  · have := heap_alloc_new (w.alloc (.cells a ta)) (.cells b tb)
    simpa using this
def encK (l : List Ak) : List Value := l.flatMap fun a => [.int .i64 a.k, .int .u64 a.t.a, .int .u64 a.t.s, .int .i64 a.t.p, .int .u64 a.now]
theorem encK_len : ∀ l : List Ak, (encK l).length = l.length * 5
  | [] => rfl
  | x :: r => by have := encK_len r; unfold encK at this ⊢; rw [List.flatMap_cons, List.length_append, this]; simp; omega
theorem encK_get (l : List Ak) (i : Nat) (x : Ak) (h : l[i]? = some x) : (encK l)[i * 5]? = some (.int .i64 x.k) ∧ (encK l)[i * 5 + 1]? = some (.int .u64 x.t.a) ∧ (encK l)[i * 5 + 2]? = some (.int .u64 x.t.s) ∧ (encK l)[i * 5 + 3]? = some (.int .i64 x.t.p) ∧ (encK l)[i * 5 + 4]? = some (.int .u64 x.now) :=
  ⟨flat_get _ 5 (fun _ => rfl) l i 0 x h (by omega), flat_get _ 5 (fun _ => rfl) l i 1 x h (by omega), flat_get _ 5 (fun _ => rfl) l i 2 x h (by omega), flat_get _ 5 (fun _ => rfl) l i 3 x h (by omega), flat_get _ 5 (fun _ => rfl) l i 4 x h (by omega)⟩
theorem row_ak {w : World} {b off : Nat} {l : List Ak} (h : RowG w b off (encK l)) {i : Nat} {x : Ak} (hx : l[i]? = some x) : w.cell? ⟨b, off + i * 5, none⟩ = some (.int .i64 x.k) ∧ w.cell? ⟨b, off + i * 5 + 1, none⟩ = some (.int .u64 x.t.a) ∧ w.cell? ⟨b, off + i * 5 + 2, none⟩ = some (.int .u64 x.t.s) ∧ w.cell? ⟨b, off + i * 5 + 3, none⟩ = some (.int .i64 x.t.p) ∧ w.cell? ⟨b, off + i * 5 + 4, none⟩ = some (.int .u64 x.now) :=
  ⟨h _ _ (encK_get l i x hx).1, h _ _ (encK_get l i x hx).2.1, h _ _ (encK_get l i x hx).2.2.1, h _ _ (encK_get l i x hx).2.2.2.1, h _ _ (encK_get l i x hx).2.2.2.2⟩
theorem lies_ak {f : Nat → Prop} {w : World} {p : Option Addr} {l : List Ak} (h : Lies f w p (encK l)) {i : Nat} (hi : i < l.length) : ∃ b off, p = some ⟨b, off, none⟩ ∧ ¬ f b ∧ RowG w b off (encK l) :=
  h.row (fun e => by have := encK_len l; rw [e] at this; simp at this; omega)
end Go.Proofs.YtdoceldofkaapaaDoor
namespace Go.Proofs.YtdoceldofkaapaaDoor
open Go.RowKit
theorem slots_any (b : Nat) (hb : b ≤ 6) (w : World) :
    Calls Tryd.prog 13 #[.int .i64 b] w fun e w' => e = .returned (.int .u64 (slo b)) ∧ w = w' := by
  go_enter Tryd.func13, Tryd.ntmps13
  go_wp2
  go_loopw [3, 4] (fun v i wr => ∃ m : Nat, v = .int .u64 (slo m) ∧ i = .int .i64 m ∧ m ≤ b ∧ wr = w) (fun _ i _ => b - (intOf i).toNat)
  case atStart => exact ⟨0, rfl, rfl, Nat.zero_le _, by trivial⟩
  case round =>
    obtain ⟨m, rfl, rfl, hm, rfl⟩ := hrel
    by_cases h : m < b
    · have h1 : (m : Int) < (b : Int) := by omega
      have hs := slo_step m
      have hz := (slo_le (b := m) (by omega)).2
      generalize slo m = z at *
      have HS := Lib.hid hs
      clear hs
      go_wp2
      go_roundw
      case rel => exact ⟨m + 1, by rw [HS.out]; go_num, by go_num, by omega, by trivial⟩
      case measure => simp [intOf]; omega
    · obtain rfl : m = b := by omega
      go_wp2
      go_ret
      first | exact ⟨rfl, rfl⟩ | exact ⟨rfl, trivial⟩
theorem take_snoc (l : List T) (i : Nat) (h : i < l.length) : l.take (i + 1) = l.take i ++ [l.getD i default] := by
  rw [List.take_succ_eq_append_getElem h]
  have e : l.getD i default = l[i] := by simp [List.getD_eq_getElem?_getD, List.getElem?_eq_getElem h]
  rw [e]
/-- Ticks. -/
def Tk (x : Int) : Prop := 0 ≤ x ∧ x ≤ 18446744073709551615
/-- The base, and how many slots were looked into, behind an act. -/
def stB (s : Int) (a : Ak) : Int := if a.k = 3 then max s a.now else s
def stK (b : Nat) (s lk : Int) (l : List T) (a : Ak) : Int := if a.k = 3 then lks (slo b) s a.now l else lk
end Go.Proofs.YtdoceldofkaapaaDoor
