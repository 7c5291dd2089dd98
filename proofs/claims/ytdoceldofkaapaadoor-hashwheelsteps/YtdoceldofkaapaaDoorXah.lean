/-
  Contract of chain's nearest: the first one that is met.
  Contracts of chain's First, Last, Next, Prev and Which.
-/
import Derived.Test.YtdoceldofkaapaaDoorIter
set_option linter.unusedVariables false
set_option linter.unusedSimpArgs false
namespace Go.Proofs.YtdoceldofkaapaaDoor
open Go.RowKit Go.Shelf
attribute [local go_sem] Oper.semAt_some
/-- An answer of a number, if there is one. -/
def ans : Option Nat → Value
  | some m => .tuple #[.int .i64 m, .bool true]
  | none => .tuple #[.int .i64 0, .bool false]
set_option maxRecDepth 100000 in
set_option maxHeartbeats 2000000 in
theorem nearest_any (Wb Cb Sb B G P N s wf : Nat) (ga gb : Nat → Int) (sel : Int → Int → Int) (hw : Way2 wf sel) (hs : s < N) (hPN : P ≤ N) (hN : N ≤ 2048) (ys : List Nat) (hnd : ys.Nodup) (hys : ∀ y ∈ ys, y < P)
    (hm : Met (fun i => sel (ga i) (gb i)) P s ys) (hlen : ys.length ≤ 1024) (w : World) (hS : Src Wb Cb Sb B G P N s wf ga gb w) :
    Calls Tryd.prog 85 #[.func (.func 86) #[] #[.pointer (some ⟨Wb, 0, none⟩), .pointer (some ⟨Cb, 0, none⟩), .pointer (some ⟨Sb, 0, none⟩)]] w fun e w' => e = .returned (ans ys.head?) ∧ Bel w w' := by
  have hK := fun w' (h : Src Wb Cb Sb B G P N s wf ga gb w') => walk_stops 3 (by omega) Wb Cb Sb B G P N s wf ga gb sel hw hs hPN hN ys hnd hys hm hlen w' h
  refine (callsIn_wide (n := 4)).1 ?_
  have hro : Fence.wide.round = none := rfl
  refine callsIn_of_wp_marks Tryd.func85 rfl trivial ?_ hro
  simp only [Tryd.ntmps85, List.size_toArray, List.length_cons, List.length_nil, Nat.reduceAdd, Nat.reduceSub, Array.replicate_succ, Array.replicate_zero, List.push_toArray, List.append_toArray, List.nil_append, List.cons_append]
  gi_wp2
  obtain ⟨w1, hw1⟩ : ∃ w1, (w.alloc (.cells #[.int .i64 0] 3)).alloc (.cells #[.bool false] 4) = w1 := ⟨_, rfl⟩
  have hB : Bel w w1 := by rw [← hw1]; exact ((Bel.refl _).alloc _ _).alloc _ _
  have r1 : w1.cell? ⟨w.heap.size, 0, none⟩ = some (.int .i64 0) := by rw [← hw1]; simp [go_sem]
  have r2 : w1.cell? ⟨w.heap.size + 1, 0, none⟩ = some (.bool false) := by rw [← hw1]; simp [go_sem]
  have f1 : w1.frozen? ⟨w.heap.size, 0, none⟩ = false := by rw [← hw1]; simp [go_sem]
  have f2 : w1.frozen? ⟨w.heap.size + 1, 0, none⟩ = false := by rw [← hw1]; simp [go_sem]
  have z1 : w.heap.size + 1 + 1 = w1.heap.size := by rw [← hw1]; simp
  have hBw : Below w.heap.size w w1 := hB.below
  have hS1 := hS.bel hB
  rw [hw1]
  refine wpIn_rangeFunc_ownG hro (by omega) (gf := 86) (lb := #[.pointer (some ⟨Wb, 0, none⟩), .pointer (some ⟨Cb, 0, none⟩), .pointer (some ⟨Sb, 0, none⟩)]) rfl trivial (enters_of Tryd.func86 (by kernel_rfl) rfl)
    (hK w1 hS1) kp_t (kp_b w1.heap.size) (Below.refl _ _) (fun _ => rfl)
    (fun pre W => (pre = [] ∧ W.cell? ⟨w.heap.size, 0, none⟩ = some (.int .i64 0) ∧ W.frozen? ⟨w.heap.size, 0, none⟩ = false ∧ W.cell? ⟨w.heap.size + 1, 0, none⟩ = some (.bool false) ∧ W.frozen? ⟨w.heap.size + 1, 0, none⟩ = false) ∧ Below w.heap.size w W)
    (fun c pre W => (c = .ret ∧ ∃ x : Nat, pre = [x] ∧ W.cell? ⟨w.heap.size, 0, none⟩ = some (.int .i64 x) ∧ W.cell? ⟨w.heap.size + 1, 0, none⟩ = some (.bool true)) ∧ Below w.heap.size w W)
    (OwnFrom.and (Own.from (fun s A B row hs hg hr => ⟨hs.1, cell_kept hs.2.1 hg hr, (frozen_kept hs.2.1 hg hr).trans hs.2.2.1, cell_kept hs.2.2.2.1 hg hr, (frozen_kept hs.2.2.2.1 hg hr).trans hs.2.2.2.2⟩) _) (ownFrom_below (Nat.le_refl _) (by omega)))
    (fun c => OwnFrom.and (Own.from (fun s A B row hs hg hr => by obtain ⟨hc, x, e1, e2, e3⟩ := hs; exact ⟨hc, x, e1, cell_kept e2 hg hr, cell_kept e3 hg hr⟩) _) (ownFrom_below (Nat.le_refl _) (by omega)))
    ⟨⟨rfl, r1, f1, r2, f2⟩, hBw⟩
    (fun x => { tmps := #[.func (.func 86) #[] #[.pointer (some ⟨Wb, 0, none⟩), .pointer (some ⟨Cb, 0, none⟩), .pointer (some ⟨Sb, 0, none⟩)], undef, .pointer (some ⟨w.heap.size, 0, none⟩), .pointer (some ⟨w.heap.size + 1, 0, none⟩), .int .i64 x, .func (.func 86) #[] #[.pointer (some ⟨Wb, 0, none⟩), .pointer (some ⟨Cb, 0, none⟩), .pointer (some ⟨Sb, 0, none⟩)], .int .i64 x, undef], defers := [] }) ?assign ?body ?done ?stop
  case assign =>
    intro l x W K hK
    gi_wp2
    exact hK
  case body =>
    rintro l pre x W ⟨⟨rfl, q1, g1, q2, g2⟩, hBl⟩ hlt
    gi_wp2
    refine ⟨((KeepsOthers.setCell _ _ _).trans (KeepsOthers.setCell _ _ _)).from _, ⟨rfl, x, rfl, ?_, ?_⟩, (hBl.setCell (p := ⟨w.heap.size, 0, none⟩) (by simp) _).setCell (p := ⟨w.heap.size + 1, 0, none⟩) (by simp) _⟩
    · simp [go_sem, q1]
    · simp [go_sem, q2]
  case done =>
    rintro D zs W hD hzs ⟨⟨rfl, q1, g1, q2, g2⟩, hBl⟩ hK
    gi_wp2
    have hK' := ((KeepsOthers.setCell W ⟨w.heap.size, 0, none⟩ (.int .i64 0)).trans (KeepsOthers.setCell _ ⟨w.heap.size + 1, 0, none⟩ (.bool false))).same D _ hK rfl
    refine ⟨by simp, .inl ⟨_, _, rfl, run_takeDeferred hK', ?_⟩⟩
    have hc5 := cell_kept (W := (W.setCell ⟨w.heap.size, 0, none⟩ (.int .i64 0)).setCell ⟨w.heap.size + 1, 0, none⟩ (.bool false)) (v := .int .i64 0) (a := ⟨w.heap.size, 0, none⟩) (by simp [go_sem, q1]) (grownBy_putObj' ((W.setCell ⟨w.heap.size, 0, none⟩ (.int .i64 0)).setCell ⟨w.heap.size + 1, 0, none⟩ (.bool false)) D (.deferred none)) (fun r e => by cases e; exact ⟨_, hK', rfl⟩)
    have hc6 := cell_kept (W := (W.setCell ⟨w.heap.size, 0, none⟩ (.int .i64 0)).setCell ⟨w.heap.size + 1, 0, none⟩ (.bool false)) (v := .bool false) (a := ⟨w.heap.size + 1, 0, none⟩) (by simp [go_sem, q2]) (grownBy_putObj' ((W.setCell ⟨w.heap.size, 0, none⟩ (.int .i64 0)).setCell ⟨w.heap.size + 1, 0, none⟩ (.bool false)) D (.deferred none)) (fun r e => by cases e; exact ⟨_, hK', rfl⟩)
    refine ⟨.tuple #[.int .i64 0, .bool false], ?_, by rw [← hzs]; rfl, bel_of (((hBl.setCell (p := ⟨w.heap.size, 0, none⟩) (by simp) _).setCell (p := ⟨w.heap.size + 1, 0, none⟩) (by simp) _).trans (belowK_b (w := w) (Nat.le_refl _) _ D _ _ (by omega) hK' rfl rfl))⟩
    simp [results, Tryd.f85, go_sem, hc5, hc6]
  case stop =>
    rintro D c pre W hD hpre ⟨⟨rfl, x, rfl, q1, q2⟩, hBl⟩ hK
    gi_wp2
    refine ⟨by simp, .inl ⟨_, _, rfl, run_takeDeferred hK, ?_⟩⟩
    have hc5 := cell_kept q1 (grownBy_putObj' _ D (.deferred none)) (fun r e => by cases e; exact ⟨_, hK, rfl⟩)
    have hc6 := cell_kept q2 (grownBy_putObj' _ D (.deferred none)) (fun r e => by cases e; exact ⟨_, hK, rfl⟩)
    have hh : ys.head? = some x := by
      obtain ⟨t, ht⟩ := hpre
      rw [← ht]
      rfl
    refine ⟨.tuple #[.int .i64 x, .bool true], ?_, by rw [hh]; rfl, bel_of (hBl.trans (belowK_b (w := w) (Nat.le_refl _) W D _ _ (by omega) hK rfl rfl))⟩
    simp [results, Tryd.f85, go_sem, hc5, hc6]
end Go.Proofs.YtdoceldofkaapaaDoor
namespace Go.Proofs.YtdoceldofkaapaaDoor
open Go.RowKit Go.Shelf
theorem first_no (B G P L : Nat) (g : Rg) (t : Int) (w : World) (h : Chn w B G P L g) (hP : P ≤ 1024) (hL : L ≤ 1024) (hn : hp L t = false) :
    Calls Tryd.prog 67 #[.pointer (some ⟨B, 0, none⟩), .int .i64 t] w fun e w' => e = .returned (ans none) ∧ Bel w w' := by
  have K1 := Lib.hid (fun w' (h : Chn w' B G P L g) => hasList_any B P L _ t w' h.head.1 h.head.2 hP hL)
  rw [hn] at K1
  have H := Lib.hid h
  clear h hn
  go_enter Tryd.func67, Tryd.ntmps67
  go_wp2_with fail
  with_reducible refine (K1.out _ H.out).mono ?_
  rintro e w1 ⟨rfl, k, rfl⟩
  go_wp2
  go_ret2
  exact ⟨rfl, (Bel.refl _).drewN k⟩
set_option maxHeartbeats 1000000 in
theorem first_yes (B G P L : Nat) (g : Rg) (t : Nat) (ys : List Nat) (w : World) (h : Chn w B G P L g) (hP : P ≤ 1024) (hL : L ≤ 1024) (ht : t < L) (hnd : ys.Nodup) (hys : ∀ y ∈ ys, y < P) (hm : Met (fun i => (g i).bh) P (P + t) ys) :
    Calls Tryd.prog 67 #[.pointer (some ⟨B, 0, none⟩), .int .i64 t] w fun e w' => e = .returned (ans ys.head?) ∧ Bel w w' := by
  have hlen : ys.length ≤ 1024 := Nat.le_trans (nodup_len P ys hnd hys) hP
  have K1 := Lib.hid (fun w' (h : Chn w' B G P L g) => hasList_any B P L _ t w' h.head.1 h.head.2 hP hL)
  rw [hp_yes ht] at K1
  have K2 := Lib.hid (fun w' (h : Chn w' B G P L g) => end_any B P t w' h.head.1 hP (by omega))
  have K3 := Lib.hid (fun w' (h : Chn w' B G P L g) => walk_any B G P L g (P + t) 70 w' h)
  have K4 := Lib.hid (fun Wb Cb Sb w' (h : Src Wb Cb Sb B G P (P + L) (P + t) 70 (fun i => (g i).ah) (fun i => (g i).bh) w') => nearest_any Wb Cb Sb B G P (P + L) (P + t) 70 (fun i => (g i).ah) (fun i => (g i).bh) (fun _ b => b) way_f (by omega) (by omega) (by omega) ys hnd hys hm hlen w' h)
  have H := Lib.hid h
  clear h hnd hys hm
  generalize P + t = E at *
  generalize ys.head? = r at *
  go_enter Tryd.func67, Tryd.ntmps67
  go_wp2_with fail
  with_reducible refine (K1.out _ H.out).mono ?_
  rintro e w1 ⟨rfl, k, rfl⟩
  have H2 := Lib.hid (H.out.bel ((Bel.refl _).drewN k))
  have HB : Hid (Bel w (w.drewN k)) := Lib.hid ((Bel.refl _).drewN k)
  go_wp2_with fail
  with_reducible refine (K2.out _ H2.out).mono ?_
  rintro e w2 ⟨rfl, rfl⟩
  go_wp2_with fail
  with_reducible refine (K3.out _ H2.out).mono ?_
  rintro e w3 ⟨Wb, Cb, Sb, rfl, hS, hb⟩
  have HS := Lib.hid hS
  have HB3 := Lib.hid (HB.out.trans hb)
  clear hS hb
  go_wp2_with fail
  with_reducible refine (K4.out Wb Cb Sb _ HS.out).mono ?_
  rintro e w4 ⟨rfl, hb⟩
  have HB4 := Lib.hid (HB3.out.trans hb)
  clear hb
  cases r with
  | none =>
    unfold ans
    go_wp2
    go_ret2
    exact ⟨rfl, HB4.out⟩
  | some x =>
    unfold ans
    go_wp2
    go_ret2
    exact ⟨rfl, HB4.out⟩
theorem which_no (B G P L : Nat) (g : Rg) (i : Int) (w : World) (h : Chn w B G P L g) (hn : hp P i = false) :
    Calls Tryd.prog 38 #[.pointer (some ⟨B, 0, none⟩), .int .i64 i] w fun e w' => e = .returned (ans none) ∧ Bel w w' := by
  have K1 := Lib.hid (fun w' (h : Chn w' B G P L g) => hasPlace_any B P i w' h.head.1)
  rw [hn] at K1
  have H := Lib.hid h
  clear h hn
  go_enter Tryd.func38, Tryd.ntmps38
  go_wp2_with fail
  with_reducible refine (K1.out _ H.out).mono ?_
  rintro e w1 ⟨rfl, rfl⟩
  go_wp2
  go_ret2
  exact ⟨rfl, Bel.refl _⟩
theorem which_none (B G P L : Nat) (g : Rg) (s : Nat) (w : World) (h : Chn w B G P L g) (hP : P ≤ 1024) (hL : L ≤ 1024) (hs : s < P) (hi : (g s).li = -1) :
    Calls Tryd.prog 38 #[.pointer (some ⟨B, 0, none⟩), .int .i64 s] w fun e w' => e = .returned (ans none) ∧ Bel w w' := by
  have K1 := Lib.hid (fun w' (h : Chn w' B G P L g) => hasPlace_any B P s w' h.head.1)
  have K3 := Lib.hid (fun w' (h : Chn w' B G P L g) => isIn_any B G P L g s w' h (by omega) (by omega))
  rw [hp_yes hs] at K1
  rw [decide_eq_true hi] at K3
  have H := Lib.hid h
  clear h hi
  go_enter Tryd.func38, Tryd.ntmps38
  go_wp2_with fail
  with_reducible refine (K1.out _ H.out).mono ?_
  rintro e w1 ⟨rfl, rfl⟩
  go_wp2_with fail
  with_reducible refine (K3.out _ H.out).mono ?_
  rintro e w1 ⟨rfl, rfl⟩
  go_wp2
  go_ret2
  exact ⟨rfl, Bel.refl _⟩
theorem which_some (B G P L : Nat) (g : Rg) (s t : Nat) (w : World) (h : Chn w B G P L g) (hP : P ≤ 1024) (hL : L ≤ 1024) (hs : s < P) (hi : (g s).li = t) :
    Calls Tryd.prog 38 #[.pointer (some ⟨B, 0, none⟩), .int .i64 s] w fun e w' => e = .returned (ans (some t)) ∧ Bel w w' := by
  have K1 := Lib.hid (fun w' (h : Chn w' B G P L g) => hasPlace_any B P s w' h.head.1)
  have K3 := Lib.hid (fun w' (h : Chn w' B G P L g) => isIn_any B G P L g s w' h (by omega) (by omega))
  rw [hp_yes hs] at K1
  rw [decide_eq_false (show ¬ (g s).li = -1 by omega)] at K3
  obtain ⟨c0, c1⟩ := h.head
  obtain ⟨_, _, x2, _⟩ := h.at (show s < P + L by omega)
  rw [hi] at x2
  have hN : s < P + L := by omega
  have hM : P + L ≤ 2048 := by omega
  have H := Lib.hid h
  clear h hi
  generalize P + L = N at *
  go_enter Tryd.func38, Tryd.ntmps38
  go_wp2_with fail
  with_reducible refine (K1.out _ H.out).mono ?_
  rintro e w1 ⟨rfl, rfl⟩
  go_wp2_with fail
  with_reducible refine (K3.out _ H.out).mono ?_
  rintro e w1 ⟨rfl, rfl⟩
  go_wp2
  go_ret2
  exact ⟨rfl, Bel.refl _⟩
end Go.Proofs.YtdoceldofkaapaaDoor
