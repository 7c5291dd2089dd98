/-
  Contracts of the document's queue: New, Get, Min, without.
-/
import Derived.Test.YtllohpojajijjaaGreatDoorXc
import Derived.Test.YtllohpojajijjaaGreatDoorXd
set_option linter.unusedVariables false
set_option linter.unusedSimpArgs false
namespace Go.Proofs.YtllohpojajijjaaGreatDoor
open Go.RowKit
theorem dnew_no (P : Int) (w : World) (h : ¬ (0 ≤ P ∧ P ≤ 1024)) :
    Calls Tryz.prog 24 #[.int .i64 P] w fun e w' => e = .returned (.tuple #[.agg #[.int .i64 0, .slice none 0 0], .int .i64 1]) ∧ Bel w w' := by
  by_cases a0 : P < 0
  · go_enter Tryz.func24, Tryz.ntmps24
    go_wp2
    exact bodyPost_ret (v := .tuple #[.agg #[.int .i64 0, .slice none 0 0], .int .i64 1]) (by simp [results, Tryz.results24, go_sem]) rfl ⟨rfl, (Bel.refl _).alloc _ _⟩
  · have a1 : 1024 < P := by omega
    clear h
    go_enter Tryz.func24, Tryz.ntmps24
    go_wp2
    exact bodyPost_ret (v := .tuple #[.agg #[.int .i64 0, .slice none 0 0], .int .i64 1]) (by simp [results, Tryz.results24, go_sem]) rfl ⟨rfl, (Bel.refl _).alloc _ _⟩
theorem dnew_yes (P : Int) (w : World) (h : 0 ≤ P ∧ P ≤ 1024) :
    Calls Tryz.prog 24 #[.int .i64 P] w fun e w' => e = .returned (.tuple #[.agg #[.int .i64 P, .slice none 0 0], .int .i64 0]) ∧ Bel w w' := by
  have a0 : ¬ P < 0 := by omega
  have a1 : ¬ 1024 < P := by omega
  clear h
  go_enter Tryz.func24, Tryz.ntmps24
  go_wp2
  exact bodyPost_ret (v := .tuple #[.agg #[.int .i64 P, .slice none 0 0], .int .i64 0]) (by simp [results, Tryz.results24, go_sem]) rfl ⟨rfl, (Bel.refl _).alloc _ _⟩
theorem fnd_at (l : List T) (k : Int) (m : Nat) (hm : m < l.length) (h : ∀ j, j < m → ¬ (l.getD j default).p = k) (e : (l.getD m default).p = k) : fnd l k = some (l.getD m default) := by
  have e2 : l.getD m default = l[m] := by simp [List.getD_eq_getElem?_getD, List.getElem?_eq_getElem hm]
  unfold fnd
  rw [List.find?_eq_some_iff_getElem]
  refine ⟨by simpa using e, m, hm, e2.symm, fun j hj => ?_⟩
  have := h j hj
  have e3 : l.getD j default = l[j] := by simp [List.getD_eq_getElem?_getD, List.getElem?_eq_getElem (Nat.lt_trans hj hm)]
  rw [e3] at this
  simpa using this
theorem fnd_no (l : List T) (k : Int) (h : ∀ j, j < l.length → ¬ (l.getD j default).p = k) : fnd l k = none := by
  unfold fnd
  rw [List.find?_eq_none]
  intro t ht
  obtain ⟨j, hj, rfl⟩ := List.getElem_of_mem ht
  have := h j hj
  have e3 : l.getD j default = l[j] := by simp [List.getD_eq_getElem?_getD, List.getElem?_eq_getElem hj]
  rw [e3] at this
  simpa using this
set_option maxHeartbeats 1000000 in
theorem dget_any (P : Int) (p : Option Addr) (n c : Nat) (l : List T) (k : Int) (w : World) (hn : l.length = n) (hm : n ≤ 5000) (hl : Has w p l) :
    Calls Tryz.prog 14 #[.agg #[.int .i64 P, .slice p n c], .int .i64 k] w fun e w' => e = .returned (ansT (fnd l k)) ∧ Bel w w' := by
  have HB0 : Hid (Bel w ((w.alloc (.cells #[.int .i64 P, .slice p n c] 31)).alloc (.cells #[.int .u64 0, .int .u64 0, .int .i64 0] 37))) := Lib.hid (((Bel.refl _).alloc _ _).alloc _ _)
  have HN0 : Hid (((w.alloc (.cells #[.int .i64 P, .slice p n c] 31)).alloc (.cells #[.int .u64 0, .int .u64 0, .int .i64 0] 37)).heap[w.heap.size]? = some (.cells #[.int .i64 P, .slice p n c] 31 (0, 0))) := Lib.hid (by rw [Below.heap_alloc _ _ _ (by simp), heap_alloc_new])
  have HN1 : Hid (((w.alloc (.cells #[.int .i64 P, .slice p n c] 31)).alloc (.cells #[.int .u64 0, .int .u64 0, .int .i64 0] 37)).heap[w.heap.size + 1]? = some (.cells #[.int .u64 0, .int .u64 0, .int .i64 0] 37 (0, 0))) := Lib.hid (by
    have := heap_alloc_new (w.alloc (.cells #[.int .i64 P, .slice p n c] 31)) (.cells #[.int .u64 0, .int .u64 0, .int .i64 0] 37)
    simpa using this)
  have HL := Lib.hid hl
  have HNn := Lib.hid hn
  clear hl hn
  go_enter Tryz.func14, Tryz.ntmps14
  go_upto_region 1 with (fail)
  generalize (w.alloc (.cells #[.int .i64 P, .slice p n c] 31)).alloc (.cells #[.int .u64 0, .int .u64 0, .int .i64 0] 37) = W at *
  obtain ⟨e1, he1⟩ : ∃ b, w.heap.size + 1 = b := ⟨_, rfl⟩
  have hle1 : w.heap.size ≤ e1 := by omega
  rw [he1] at HN1 ⊢
  clear he1
  obtain ⟨⟨q0, q1⟩, _⟩ := box2 HN0.out
  obtain ⟨⟨b0, b1, b2⟩, f0, f1, f2⟩ := box3 HN1.out
  have HLW := Lib.hid (HL.out.bel HB0.out)
  clear HN0 HN1 HL
  go_wp2
  go_loopw [6] (fun v wr => ∃ m : Nat, v = .int .i64 m ∧ m ≤ n ∧ wr = W ∧ ∀ j, j < m → ¬ (l.getD j default).p = k) (fun v _ => n - (intOf v).toNat)
  case atStart => exact ⟨0, rfl, by omega, rfl, fun j hj => by omega⟩
  case round =>
    obtain ⟨m, rfl, hi, rfl, hall⟩ := hrel
    have HA := Lib.hid hall
    clear hall
    by_cases h : m < n
    · obtain ⟨b, off, rfl, hr⟩ := HLW.out.row (by have := HNn.out; omega)
      obtain ⟨x, hx⟩ : ∃ x, l.getD m default = x := ⟨_, rfl⟩
      have cx := hr m (by have := HNn.out; omega)
      rw [hx] at cx
      obtain ⟨x0, x1, x2⟩ := cx
      have HX := Lib.hid hx
      clear hx hr
      by_cases hk : x.p = k
      · have HF : Hid (fnd l k = some x) := Lib.hid (by
          rw [← HX.out]
          exact fnd_at l k m (by have := HNn.out; omega) HA.out (by rw [HX.out]; exact hk))
        have HE := Lib.hid (bel3 HB0.out hle1 (.int .u64 x.a) (.int .u64 x.s) (.int .i64 x.p))
        have hk2 : (x.p == k) = true := by simpa using hk
        clear hk
        go_wp2
        exact bodyPost_ret (v := ansT (some x)) (by simp [results, Tryz.results14, go_sem, b0, b1, b2, ansT]) rfl ⟨by rw [HF.out], HE.out⟩
      · have hk2 : (x.p == k) = false := by simpa using hk
        have HK := Lib.hid hk
        clear hk
        go_wp2
        go_roundw
        case rel =>
          refine ⟨m + 1, by go_num, by omega, trivial, fun j hj => ?_⟩
          by_cases e : j = m
          · subst e; rw [HX.out]; exact HK.out
          · exact HA.out j (by omega)
        case measure => simp [intOf]; omega
    · have HF : Hid (fnd l k = none) := Lib.hid (fnd_no l k (fun j hj => HA.out j (by have := HNn.out; omega)))
      have HE := Lib.hid (bel3 HB0.out hle1 (.int .u64 0) (.int .u64 0) (.int .i64 0))
      go_wp2
      exact bodyPost_ret (v := ansT none) (by simp [results, Tryz.results14, go_sem, b0, b1, b2, ansT]) rfl ⟨by rw [HF.out], HE.out⟩
theorem dmin_any (P : Int) (p : Option Addr) (n c : Nat) (l : List T) (w : World) (hn : l.length = n) (hl : Has w p l) :
    Calls Tryz.prog 16 #[.agg #[.int .i64 P, .slice p n c]] w fun e w' => e = .returned (ansT l.head?) ∧ Bel w w' := by
  have HB : Hid (∀ x : T, Bel w ((w.alloc (.cells #[.int .i64 P, .slice p n c] 31)).alloc (.cells #[.int .u64 x.a, .int .u64 x.s, .int .i64 x.p] 37))) := Lib.hid (fun x => ((Bel.refl _).alloc _ _).alloc _ _)
  cases l with
  | nil =>
    obtain rfl : n = 0 := by simpa using hn.symm
    clear hn hl
    go_enter Tryz.func16, Tryz.ntmps16
    go_wp2
    exact bodyPost_ret (v := ansT none) (by simp [results, Tryz.results16, go_sem, ansT]) rfl ⟨rfl, HB.out ⟨0, 0, 0⟩⟩
  | cons x r =>
    obtain ⟨b, off, rfl, hr⟩ := hl.row (by simp)
    have cx := hr 0 (by simp)
    simp only [Nat.zero_mul, Nat.add_zero] at cx
    obtain ⟨x0, x1, x2⟩ := cx
    have x0 : w.cell? ⟨b, off, none⟩ = some (.int .u64 x.a) := x0
    have x1 : w.cell? ⟨b, off + 1, none⟩ = some (.int .u64 x.s) := x1
    have x2 : w.cell? ⟨b, off + 2, none⟩ = some (.int .i64 x.p) := x2
    have lb := World.block_lt_of_cell? w _ x0
    have hn1 : ¬ (n : Int) = 0 := by simp at hn; omega
    have hn2 : ((n : Int) == 0) = false := by simpa using hn1
    have hn3 : (0 : Int) < n := by omega
    clear hn hl hr hn1
    go_enter Tryz.func16, Tryz.ntmps16
    go_wp2
    exact bodyPost_ret (v := ansT (some x)) (by simp [results, Tryz.results16, go_sem, ansT]) rfl ⟨rfl, HB.out x⟩
end Go.Proofs.YtllohpojajijjaaGreatDoor
