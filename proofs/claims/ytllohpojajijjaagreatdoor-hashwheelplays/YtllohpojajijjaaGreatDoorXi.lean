/-
  Contract of chain's nearest: the first one that is met.
  Contracts of chain's First, Last, Next, Prev and Which.
  Contract of chain's All.
  Rings and the lists that they are: how each call turns both.
-/
import Derived.Test.YtllohpojajijjaaGreatDoorIter
set_option linter.unusedVariables false
set_option linter.unusedSimpArgs false
namespace Go.Proofs.YtllohpojajijjaaGreatDoor
open Go.RowKit Go.Shelf
attribute [local go_sem] Oper.semAt_some
/-- An answer of a number, if there is one. -/
def ans : Option Nat → Value
  | some m => .tuple #[.int .i64 m, .bool true]
  | none => .tuple #[.int .i64 0, .bool false]
set_option maxRecDepth 100000 in
set_option maxHeartbeats 2000000 in
theorem nearest_any (Wb Cb Sb B G P N s wf : Nat) (ga gb : Nat → Int) (sel : Int → Int → Int) (hw : Way2 wf sel) (hs : s < N) (hPN : P ≤ N) (hN : N ≤ 2048) (ys : List Nat) (hnd : ys.Nodup) (hys : ∀ y ∈ ys, y < P)
    (hm : Met (fun i => sel (ga i) (gb i)) P s ys) (hlen : ys.length ≤ 1024) (w : World) (hS : Src Wb Cb Sb B G P N s wf ga gb w) :
    Calls Tryz.prog 80 #[.func (.func 83) #[] #[.pointer (some ⟨Wb, 0, none⟩), .pointer (some ⟨Cb, 0, none⟩), .pointer (some ⟨Sb, 0, none⟩)]] w fun e w' => e = .returned (ans ys.head?) ∧ Bel w w' := by
  have hK := fun w' (h : Src Wb Cb Sb B G P N s wf ga gb w') => walk_stops 3 (by omega) Wb Cb Sb B G P N s wf ga gb sel hw hs hPN hN ys hnd hys hm hlen w' h
  refine (callsIn_wide (n := 4)).1 ?_
  have hro : Fence.wide.round = none := rfl
  refine callsIn_of_wp_marks Tryz.func80 rfl trivial ?_ hro
  simp only [Tryz.ntmps80, List.size_toArray, List.length_cons, List.length_nil, Nat.reduceAdd, Nat.reduceSub, Array.replicate_succ, Array.replicate_zero, List.push_toArray, List.append_toArray, List.nil_append, List.cons_append]
  gi_wp2
  obtain ⟨w1, hw1⟩ : ∃ w1, (w.alloc (.cells #[.int .i64 0] 3)).alloc (.cells #[.bool false] 4) = w1 := ⟨_, rfl⟩
  have hB : Bel w w1 := by rw [← hw1]; exact ((Bel.refl _).alloc _ _).alloc _ _
  have r1 : w1.cell? ⟨w.heap.size, 0, none⟩ = some (.int .i64 0) := by rw [← hw1]; simp [go_sem]
  have r2 : w1.cell? ⟨w.heap.size + 1, 0, none⟩ = some (.bool false) := by rw [← hw1]; simp [go_sem]
  have f1 : w1.frozen? ⟨w.heap.size, 0, none⟩ = false := by rw [← hw1]; simp [go_sem]
  have f2 : w1.frozen? ⟨w.heap.size + 1, 0, none⟩ = false := by rw [← hw1]; simp [go_sem]
  have z1 : w.heap.size + 1 + 1 = w1.heap.size := by rw [← hw1]; simp
  have hBw : Below w.heap.size w w1 := hB.below
  have hS1 := hS.bel hB
  rw [hw1]
  refine wpIn_rangeFunc_ownG hro (by omega) (gf := 83) (lb := #[.pointer (some ⟨Wb, 0, none⟩), .pointer (some ⟨Cb, 0, none⟩), .pointer (some ⟨Sb, 0, none⟩)]) rfl trivial (enters_of Tryz.func83 (by kernel_rfl) rfl)
    (hK w1 hS1) kp_t (kp_b w1.heap.size) (Below.refl _ _) (fun _ => rfl)
    (fun pre W => (pre = [] ∧ W.cell? ⟨w.heap.size, 0, none⟩ = some (.int .i64 0) ∧ W.frozen? ⟨w.heap.size, 0, none⟩ = false ∧ W.cell? ⟨w.heap.size + 1, 0, none⟩ = some (.bool false) ∧ W.frozen? ⟨w.heap.size + 1, 0, none⟩ = false) ∧ Below w.heap.size w W)
    (fun c pre W => (c = .ret ∧ ∃ x : Nat, pre = [x] ∧ W.cell? ⟨w.heap.size, 0, none⟩ = some (.int .i64 x) ∧ W.cell? ⟨w.heap.size + 1, 0, none⟩ = some (.bool true)) ∧ Below w.heap.size w W)
    (OwnFrom.and (Own.from (fun s A B row hs hg hr => ⟨hs.1, cell_kept hs.2.1 hg hr, (frozen_kept hs.2.1 hg hr).trans hs.2.2.1, cell_kept hs.2.2.2.1 hg hr, (frozen_kept hs.2.2.2.1 hg hr).trans hs.2.2.2.2⟩) _) (ownFrom_below (Nat.le_refl _) (by omega)))
    (fun c => OwnFrom.and (Own.from (fun s A B row hs hg hr => by obtain ⟨hc, x, e1, e2, e3⟩ := hs; exact ⟨hc, x, e1, cell_kept e2 hg hr, cell_kept e3 hg hr⟩) _) (ownFrom_below (Nat.le_refl _) (by omega)))
    ⟨⟨rfl, r1, f1, r2, f2⟩, hBw⟩
    (fun x => { tmps := #[.func (.func 83) #[] #[.pointer (some ⟨Wb, 0, none⟩), .pointer (some ⟨Cb, 0, none⟩), .pointer (some ⟨Sb, 0, none⟩)], undef, .pointer (some ⟨w.heap.size, 0, none⟩), .pointer (some ⟨w.heap.size + 1, 0, none⟩), .int .i64 x, .func (.func 83) #[] #[.pointer (some ⟨Wb, 0, none⟩), .pointer (some ⟨Cb, 0, none⟩), .pointer (some ⟨Sb, 0, none⟩)], .int .i64 x, undef], defers := [] }) ?assign ?body ?done ?stop
  case assign =>
    intro l x W K hK
    gi_wp2
    exact hK
  case body =>
    rintro l pre x W ⟨⟨rfl, q1, g1, q2, g2⟩, hBl⟩ hlt
    gi_wp2
    refine ⟨((KeepsOthers.setCell _ _ _).trans (KeepsOthers.setCell _ _ _)).from _, ⟨rfl, x, rfl, ?_, ?_⟩, (hBl.setCell (p := ⟨w.heap.size, 0, none⟩) (by simp) _).setCell (p := ⟨w.heap.size + 1, 0, none⟩) (by simp) _⟩
    · simp [go_sem, q1]
    · simp [go_sem, q2]
  case done =>
    rintro D zs W hD hzs ⟨⟨rfl, q1, g1, q2, g2⟩, hBl⟩ hK
    gi_wp2
    have hK' := ((KeepsOthers.setCell W ⟨w.heap.size, 0, none⟩ (.int .i64 0)).trans (KeepsOthers.setCell _ ⟨w.heap.size + 1, 0, none⟩ (.bool false))).same D _ hK rfl
    refine ⟨by simp, .inl ⟨_, _, rfl, run_takeDeferred hK', ?_⟩⟩
    have hc5 := cell_kept (W := (W.setCell ⟨w.heap.size, 0, none⟩ (.int .i64 0)).setCell ⟨w.heap.size + 1, 0, none⟩ (.bool false)) (v := .int .i64 0) (a := ⟨w.heap.size, 0, none⟩) (by simp [go_sem, q1]) (grownBy_putObj' ((W.setCell ⟨w.heap.size, 0, none⟩ (.int .i64 0)).setCell ⟨w.heap.size + 1, 0, none⟩ (.bool false)) D (.deferred none)) (fun r e => by cases e; exact ⟨_, hK', rfl⟩)
    have hc6 := cell_kept (W := (W.setCell ⟨w.heap.size, 0, none⟩ (.int .i64 0)).setCell ⟨w.heap.size + 1, 0, none⟩ (.bool false)) (v := .bool false) (a := ⟨w.heap.size + 1, 0, none⟩) (by simp [go_sem, q2]) (grownBy_putObj' ((W.setCell ⟨w.heap.size, 0, none⟩ (.int .i64 0)).setCell ⟨w.heap.size + 1, 0, none⟩ (.bool false)) D (.deferred none)) (fun r e => by cases e; exact ⟨_, hK', rfl⟩)
    refine ⟨.tuple #[.int .i64 0, .bool false], ?_, by rw [← hzs]; rfl, bel_of (((hBl.setCell (p := ⟨w.heap.size, 0, none⟩) (by simp) _).setCell (p := ⟨w.heap.size + 1, 0, none⟩) (by simp) _).trans (belowK_b (w := w) (Nat.le_refl _) _ D _ _ (by omega) hK' rfl rfl))⟩
    simp [results, Tryz.f80, go_sem, hc5, hc6]
  case stop =>
    rintro D c pre W hD hpre ⟨⟨rfl, x, rfl, q1, q2⟩, hBl⟩ hK
    gi_wp2
    refine ⟨by simp, .inl ⟨_, _, rfl, run_takeDeferred hK, ?_⟩⟩
    have hc5 := cell_kept q1 (grownBy_putObj' _ D (.deferred none)) (fun r e => by cases e; exact ⟨_, hK, rfl⟩)
    have hc6 := cell_kept q2 (grownBy_putObj' _ D (.deferred none)) (fun r e => by cases e; exact ⟨_, hK, rfl⟩)
    have hh : ys.head? = some x := by
      obtain ⟨t, ht⟩ := hpre
      rw [← ht]
      rfl
    refine ⟨.tuple #[.int .i64 x, .bool true], ?_, by rw [hh]; rfl, bel_of (hBl.trans (belowK_b (w := w) (Nat.le_refl _) W D _ _ (by omega) hK rfl rfl))⟩
    simp [results, Tryz.f80, go_sem, hc5, hc6]
end Go.Proofs.YtllohpojajijjaaGreatDoor
namespace Go.Proofs.YtllohpojajijjaaGreatDoor
open Go.RowKit Go.Shelf
theorem first_no (B G P L : Nat) (g : Rg) (t : Int) (w : World) (h : Chn w B G P L g) (hP : P ≤ 1024) (hL : L ≤ 1024) (hn : hp L t = false) :
    Calls Tryz.prog 58 #[.pointer (some ⟨B, 0, none⟩), .int .i64 t] w fun e w' => e = .returned (ans none) ∧ Bel w w' := by
  have K1 := Lib.hid (fun w' (h : Chn w' B G P L g) => hasList_any B P L _ t w' h.head.1 h.head.2 hP hL)
  rw [hn] at K1
  have H := Lib.hid h
  clear h hn
  go_enter Tryz.func58, Tryz.ntmps58
  go_wp2_with fail
  with_reducible refine (K1.out _ H.out).mono ?_
  rintro e w1 ⟨rfl, k, rfl⟩
  go_wp2
  go_ret2
  exact ⟨rfl, (Bel.refl _).drewN k⟩
set_option maxHeartbeats 1000000 in
theorem first_yes (B G P L : Nat) (g : Rg) (t : Nat) (ys : List Nat) (w : World) (h : Chn w B G P L g) (hP : P ≤ 1024) (hL : L ≤ 1024) (ht : t < L) (hnd : ys.Nodup) (hys : ∀ y ∈ ys, y < P) (hm : Met (fun i => (g i).bh) P (P + t) ys) :
    Calls Tryz.prog 58 #[.pointer (some ⟨B, 0, none⟩), .int .i64 t] w fun e w' => e = .returned (ans ys.head?) ∧ Bel w w' := by
  have hlen : ys.length ≤ 1024 := Nat.le_trans (nodup_len P ys hnd hys) hP
  have K1 := Lib.hid (fun w' (h : Chn w' B G P L g) => hasList_any B P L _ t w' h.head.1 h.head.2 hP hL)
  rw [hp_yes ht] at K1
  have K2 := Lib.hid (fun w' (h : Chn w' B G P L g) => end_any B P t w' h.head.1 hP (by omega))
  have K3 := Lib.hid (fun w' (h : Chn w' B G P L g) => walk_any B G P L g (P + t) 71 w' h)
  have K4 := Lib.hid (fun Wb Cb Sb w' (h : Src Wb Cb Sb B G P (P + L) (P + t) 71 (fun i => (g i).ah) (fun i => (g i).bh) w') => nearest_any Wb Cb Sb B G P (P + L) (P + t) 71 (fun i => (g i).ah) (fun i => (g i).bh) (fun _ b => b) way_f (by omega) (by omega) (by omega) ys hnd hys hm hlen w' h)
  have H := Lib.hid h
  clear h hnd hys hm
  generalize P + t = E at *
  generalize ys.head? = r at *
  go_enter Tryz.func58, Tryz.ntmps58
  go_wp2_with fail
  with_reducible refine (K1.out _ H.out).mono ?_
  rintro e w1 ⟨rfl, k, rfl⟩
  have H2 := Lib.hid (H.out.bel ((Bel.refl _).drewN k))
  have HB : Hid (Bel w (w.drewN k)) := Lib.hid ((Bel.refl _).drewN k)
  go_wp2_with fail
  with_reducible refine (K2.out _ H2.out).mono ?_
  rintro e w2 ⟨rfl, rfl⟩
  go_wp2_with fail
  with_reducible refine (K3.out _ H2.out).mono ?_
  rintro e w3 ⟨Wb, Cb, Sb, rfl, hS, hb⟩
  have HS := Lib.hid hS
  have HB3 := Lib.hid (HB.out.trans hb)
  clear hS hb
  go_wp2_with fail
  with_reducible refine (K4.out Wb Cb Sb _ HS.out).mono ?_
  rintro e w4 ⟨rfl, hb⟩
  have HB4 := Lib.hid (HB3.out.trans hb)
  clear hb
  cases r with
  | none =>
    unfold ans
    go_wp2
    go_ret2
    exact ⟨rfl, HB4.out⟩
  | some x =>
    unfold ans
    go_wp2
    go_ret2
    exact ⟨rfl, HB4.out⟩
theorem which_no (B G P L : Nat) (g : Rg) (i : Int) (w : World) (h : Chn w B G P L g) (hn : hp P i = false) :
    Calls Tryz.prog 28 #[.pointer (some ⟨B, 0, none⟩), .int .i64 i] w fun e w' => e = .returned (ans none) ∧ Bel w w' := by
  have K1 := Lib.hid (fun w' (h : Chn w' B G P L g) => hasPlace_any B P i w' h.head.1)
  rw [hn] at K1
  have H := Lib.hid h
  clear h hn
  go_enter Tryz.func28, Tryz.ntmps28
  go_wp2_with fail
  with_reducible refine (K1.out _ H.out).mono ?_
  rintro e w1 ⟨rfl, rfl⟩
  go_wp2
  go_ret2
  exact ⟨rfl, Bel.refl _⟩
theorem which_none (B G P L : Nat) (g : Rg) (s : Nat) (w : World) (h : Chn w B G P L g) (hP : P ≤ 1024) (hL : L ≤ 1024) (hs : s < P) (hi : (g s).li = -1) :
    Calls Tryz.prog 28 #[.pointer (some ⟨B, 0, none⟩), .int .i64 s] w fun e w' => e = .returned (ans none) ∧ Bel w w' := by
  have K1 := Lib.hid (fun w' (h : Chn w' B G P L g) => hasPlace_any B P s w' h.head.1)
  have K3 := Lib.hid (fun w' (h : Chn w' B G P L g) => isIn_any B G P L g s w' h (by omega) (by omega))
  rw [hp_yes hs] at K1
  rw [decide_eq_true hi] at K3
  have H := Lib.hid h
  clear h hi
  go_enter Tryz.func28, Tryz.ntmps28
  go_wp2_with fail
  with_reducible refine (K1.out _ H.out).mono ?_
  rintro e w1 ⟨rfl, rfl⟩
  go_wp2_with fail
  with_reducible refine (K3.out _ H.out).mono ?_
  rintro e w1 ⟨rfl, rfl⟩
  go_wp2
  go_ret2
  exact ⟨rfl, Bel.refl _⟩
theorem which_some (B G P L : Nat) (g : Rg) (s t : Nat) (w : World) (h : Chn w B G P L g) (hP : P ≤ 1024) (hL : L ≤ 1024) (hs : s < P) (hi : (g s).li = t) :
    Calls Tryz.prog 28 #[.pointer (some ⟨B, 0, none⟩), .int .i64 s] w fun e w' => e = .returned (ans (some t)) ∧ Bel w w' := by
  have K1 := Lib.hid (fun w' (h : Chn w' B G P L g) => hasPlace_any B P s w' h.head.1)
  have K3 := Lib.hid (fun w' (h : Chn w' B G P L g) => isIn_any B G P L g s w' h (by omega) (by omega))
  rw [hp_yes hs] at K1
  rw [decide_eq_false (show ¬ (g s).li = -1 by omega)] at K3
  obtain ⟨c0, c1⟩ := h.head
  obtain ⟨_, _, x2, _⟩ := h.at (show s < P + L by omega)
  rw [hi] at x2
  have hN : s < P + L := by omega
  have hM : P + L ≤ 2048 := by omega
  have H := Lib.hid h
  clear h hi
  generalize P + L = N at *
  go_enter Tryz.func28, Tryz.ntmps28
  go_wp2_with fail
  with_reducible refine (K1.out _ H.out).mono ?_
  rintro e w1 ⟨rfl, rfl⟩
  go_wp2_with fail
  with_reducible refine (K3.out _ H.out).mono ?_
  rintro e w1 ⟨rfl, rfl⟩
  go_wp2
  go_ret2
  exact ⟨rfl, Bel.refl _⟩
end Go.Proofs.YtllohpojajijjaaGreatDoor
namespace Go.Proofs.YtllohpojajijjaaGreatDoor
open Go.RowKit Go.Shelf
attribute [local go_sem] Oper.semAt_some
theorem own_base {w : World} {b c : Nat} {e : TypeId} {size : Nat} {v : Value} {n : Nat} {cs : List Value} (h : w.ownsRow b e size v n cs) (hc : c ≤ b) : w.ownsRow c e size v n cs := by
  refine ⟨h.1, ?_⟩
  rcases h.2 with h1 | ⟨g, cap, cur, e1, e2, rest⟩
  · exact .inl h1
  · exact .inr ⟨g, cap, cur, e1, Nat.le_trans hc e2, rest⟩
theorem boxed_app {W w1 : World} {n1 bx : Nat} {v v' : Value} {k m : Nat} {xs ys : List Value} {tmp : Obj} (hv : Boxed W bx 106 v) (hrow : W.ownsRow n1 3 1 v k xs) (hbx : bx < n1) (hn1 : n1 ≤ W.heap.size) (hown' : w1.ownsRow n1 3 1 v' m ys) (hgrow : (W.alloc tmp).grownBy w1 v.ownBlock) :
    Boxed w1 bx 106 v ∧ Boxed (w1.setCell ⟨bx, 0, none⟩ v') bx 106 v' ∧ (w1.setCell ⟨bx, 0, none⟩ v').ownsRow n1 3 1 v' m ys ∧ KeepsOthers W (w1.setCell ⟨bx, 0, none⟩ v') ∧ Below bx W (w1.setCell ⟨bx, 0, none⟩ v') ∧
      ∀ a u, a.block < n1 → a.block ≠ bx → W.cell? a = some u → (w1.setCell ⟨bx, 0, none⟩ v').cell? a = some u := by
  have h1 := hv.appended (by decide) (own_base hrow (Nat.le_of_lt hbx)) (by omega) (Nat.le_refl _) (own_base hown' (Nat.le_of_lt hbx)) hgrow
  refine ⟨h1.1, h1.2.1, ?_, h1.2.2.2.1, h1.2.2.2.2, fun a u ha hb hu => ?_⟩
  · exact hown'.kept (grownBy_setCell' w1 bx v') (.inr (h1.1.not_row (by decide) hown').symm)
  · have hlt : a.block < W.heap.size := by omega
    have e1 : (W.alloc tmp).heap[a.block]? = W.heap[a.block]? := Below.heap_alloc W _ _ hlt
    have e2 := hgrow.block a.block (by simp; omega) (fun e => by have := (hrow.lt a.block e.symm).1; omega)
    have e3 := (grownBy_setCell' w1 bx v').block a.block (by have := hgrow.size; simp at this; omega) (by simpa using hb)
    exact (World.cell?_of_block (e3.trans (e2.trans e1))).trans hu
theorem all_no (B G P L : Nat) (g : Rg) (t : Int) (w : World) (h : Chn w B G P L g) (hP : P ≤ 1024) (hL : L ≤ 1024) (hn : hp L t = false) :
    Calls Tryz.prog 49 #[.pointer (some ⟨B, 0, none⟩), .int .i64 t] w fun e w' => e = .returned (.slice none 0 0) ∧ Bel w w' := by
  have K1 := Lib.hid (fun w' (h : Chn w' B G P L g) => hasList_any B P L _ t w' h.head.1 h.head.2 hP hL)
  rw [hn] at K1
  have H := Lib.hid h
  clear h hn
  go_enter Tryz.func49, Tryz.ntmps49
  go_wp2_with fail
  with_reducible refine (K1.out _ H.out).mono ?_
  rintro e w1 ⟨rfl, k, rfl⟩
  go_wp2
  go_ret
  exact ⟨rfl, (Bel.refl _).drewN k⟩
set_option maxRecDepth 100000 in
set_option maxHeartbeats 2000000 in
theorem all_yes (B G P L : Nat) (g : Rg) (t : Nat) (ys : List Nat) (w : World) (h : Chn w B G P L g) (hP : P ≤ 1024) (hL : L ≤ 1024) (ht : t < L) (hnd : ys.Nodup) (hys : ∀ y ∈ ys, y < P) (hm : Met (fun i => (g i).bh) P (P + t) ys) :
    Calls Tryz.prog 49 #[.pointer (some ⟨B, 0, none⟩), .int .i64 t] w fun e w' => ∃ p c, e = .returned (.slice p ys.length c) ∧ ys.length ≤ c ∧ Lies (old w) w' p (encI ys) ∧ Bel w w' := by
  have hlen : ys.length ≤ 1024 := Nat.le_trans (nodup_len P ys hnd hys) hP
  have K1 := Lib.hid (fun w' (h : Chn w' B G P L g) => hasList_any B P L _ t w' h.head.1 h.head.2 hP hL)
  rw [hp_yes ht] at K1
  have K2 := Lib.hid (fun w' (h : Chn w' B G P L g) => end_any B P t w' h.head.1 hP (by omega))
  have K3 := Lib.hid (fun w' (h : Chn w' B G P L g) => walk_any B G P L g (P + t) 71 w' h)
  have hK := fun Wb Cb Sb w' (h : Src Wb Cb Sb B G P (P + L) (P + t) 71 (fun i => (g i).ah) (fun i => (g i).bh) w') => walk_stops 3 (by omega) Wb Cb Sb B G P (P + L) (P + t) 71 (fun i => (g i).ah) (fun i => (g i).bh) (fun _ b => b) way_f (by omega) (by omega) (by omega) ys hnd hys hm hlen w' h
  have H := Lib.hid h
  have HK := Lib.hid hK
  obtain ⟨i0, hi, hz0, hz1, hz2⟩ := info_parts info3
  have hBl := h.ltB
  have hGl := h.ltG
  clear h hK hnd hys hm
  generalize P + t = E at *
  refine (callsIn_wide (n := 4)).1 ?_
  have hro : Fence.wide.round = none := rfl
  refine callsIn_of_wp_marks Tryz.func49 rfl trivial ?_ hro
  simp only [Tryz.ntmps49, List.size_toArray, List.length_cons, List.length_nil, Nat.reduceAdd, Nat.reduceSub, Array.replicate_succ, Array.replicate_zero, List.push_toArray, List.append_toArray, List.nil_append, List.cons_append]
  refine wpIn_wide.2 ?_
  go_wp2_with fail
  with_reducible refine (K1.out _ H.out).mono ?_
  rintro e w1 ⟨rfl, k, rfl⟩
  have HBk : Hid (Bel w (w.drewN k)) := Lib.hid ((Bel.refl _).drewN k)
  have hsz : (w.drewN k).heap.size = w.heap.size := rfl
  generalize w.drewN k = w1 at *
  have HB2 : Hid (Bel w (w1.alloc (.cells #[.slice none 0 0] 106))) := Lib.hid (HBk.out.alloc _ _)
  have BX : Hid (Boxed (w1.alloc (.cells #[.slice none 0 0] 106)) w1.heap.size 106 (.slice none 0 0)) := Lib.hid (Boxed.new w1 106 _)
  go_wp2_with fail
  with_reducible refine (K2.out _ (H.out.bel HB2.out)).mono ?_
  rintro e w2 ⟨rfl, rfl⟩
  go_wp2_with fail
  with_reducible refine (K3.out _ (H.out.bel HB2.out)).mono ?_
  rintro e w3 ⟨Wb, Cb, Sb, rfl, hS, hb⟩
  have hB3 := HB2.out.trans hb
  have bx3 : Boxed w3 w1.heap.size 106 (.slice none 0 0) := hb.heap BX.out
  have hlt3 : w1.heap.size < w3.heap.size := bx3.lt
  rw [hsz] at bx3 hlt3
  have nW : Wb ≠ w.heap.size := fun e => by have := hS.cw; rw [e, bx3.cell] at this; cases this
  have nC : Cb ≠ w.heap.size := fun e => by have := hS.cc; rw [e, bx3.cell] at this; cases this
  have nS : Sb ≠ w.heap.size := fun e => by have := hS.cs; rw [e, bx3.cell] at this; cases this
  have lW := World.block_lt_of_cell? w3 _ hS.cw
  have lC := World.block_lt_of_cell? w3 _ hS.cc
  have lS := World.block_lt_of_cell? w3 _ hS.cs
  simp only at lW lC lS
  have hBw : Below w.heap.size w w3 := hB3.below
  have hstep : ∀ W W', (∀ a u, a.block < w3.heap.size → a.block ≠ w.heap.size → W.cell? a = some u → W'.cell? a = some u) → Kp Wb Cb Sb B G P (P + L) E 71 (fun i => (g i).ah) (fun i => (g i).bh) W W' := fun W W' k h =>
    ⟨k _ _ lW nW h.cw, k _ _ lC nC h.cc, k _ _ lS nS h.cs, k _ _ (show B < _ by omega) (show B ≠ _ by omega) h.cp, k _ _ (show B < _ by omega) (show B ≠ _ by omega) h.cr, fun i hi => ⟨k _ _ (show G < _ by omega) (show G ≠ _ by omega) (h.ca i hi).1, k _ _ (show G < _ by omega) (show G ≠ _ by omega) (h.ca i hi).2⟩⟩
  clear hb BX HB2 HBk K1 K2 K3
  go_wp2
  refine (wpIn_wide (n := 4)).1 ?_
  refine wpIn_rangeFunc_ownG hro (by omega) (gf := 83) (lb := #[.pointer (some ⟨Wb, 0, none⟩), .pointer (some ⟨Cb, 0, none⟩), .pointer (some ⟨Sb, 0, none⟩)]) rfl trivial (enters_of Tryz.func83 (by kernel_rfl) rfl)
    (HK.out Wb Cb Sb w3 hS) kp_t (kp_b w3.heap.size) (Below.refl _ _) (fun _ => rfl)
    (fun pre W => (∃ v, Boxed W w.heap.size 106 v ∧ W.ownsRow w3.heap.size 3 1 v pre.length (encI pre) ∧ True) ∧ Below w.heap.size w W ∧ w3.heap.size ≤ W.heap.size)
    (fun _ _ _ => False)
    (OwnFrom.and (Own.from (holdsRow_own w3.heap.size w.heap.size 106 3 1 (fun pre : List Nat => pre.length) (fun pre => encI pre) (fun _ _ => True)) _) (OwnFrom.and (ownFrom_below (Nat.le_refl _) (by omega)) (fun _ _ _ _ hs hg _ => Nat.le_trans hs hg.size)))
    (fun _ _ _ _ _ hs _ _ => hs)
    ⟨⟨_, bx3, World.ownsRow_nil _ _ _ _, trivial⟩, hBw, Nat.le_refl _⟩
    (fun x => { tmps := #[.pointer (some ⟨B, 0, none⟩), .int .i64 t, undef, undef, .slice none 0 0, .pointer (some ⟨w.heap.size, 0, none⟩), .int .i64 x, .pointer (some ⟨B, 0, none⟩), .int .i64 t, .bool true, .bool false, .pointer (some ⟨B, 0, none⟩), .pointer (some ⟨B, 0, none⟩), .int .i64 t, .int .i64 E, .func (.func 83) #[] #[.pointer (some ⟨Wb, 0, none⟩), .pointer (some ⟨Cb, 0, none⟩), .pointer (some ⟨Sb, 0, none⟩)], .int .i64 x, undef, undef, undef, undef, undef], defers := [] }) ?assign ?body ?done ?stop
  case assign =>
    intro l x W K hK
    gi_wp2
    exact hK
  case body =>
    rintro l pre x W ⟨⟨v, hv, hrow, _⟩, hBl, hz⟩ hlt
    have hc := hv.cell
    gi_wp2_with (gi_at_builtin; refine wpListIn_append_own _ rfl _ _ 106 rfl w3.heap.size 3 i0 (.int .i64 0) 1 8 Tryz.underlying106 hi hz0 hz1 hz2 rfl (by decide) _ _ _ rfl (hrow.alloc _) ⟨W.heap.size, 0, none⟩ 1 1 [.int .i64 x] rfl rfl (cell_one_new _ _ _) (by simp [Value.oneCell']) (by unfold maxLen; omega) (by omega) (by simp; omega) ?_; intro v' w1 hown' hgrow _; obtain ⟨g', cap', rfl⟩ := ownsRow_succ hown'; obtain ⟨hv1, hv2, hr2, hk2, hb2, hc2⟩ := boxed_app hv hrow hlt3 hz hown' hgrow; have hc1 := hv1.cell; have hf1 := hv1.frozen)
    exact ⟨hk2.from _, hstep _ _ hc2, ⟨_, hv2, by rw [encI_append, List.length_append]; exact hr2, trivial⟩, hBl.trans hb2, Nat.le_trans hz hk2.size⟩
  case done =>
    rintro D zs W hD rfl ⟨⟨v, hv, hrow, _⟩, hBl, hz⟩ hK
    have hc := hv.cell
    go_wp2
    refine ⟨by simp, .inl ⟨_, _, rfl, run_takeDeferred hK, ?_⟩⟩
    obtain ⟨p, c, rfl, hcap, _, hlies⟩ := own_slice (own_base (ownsRow_putObj hrow (.deferred none) hK rfl) (Nat.zero_le _)) (old w) (fun k e => by have := (hrow.lt k e).1; unfold old; omega)
    exact ⟨_, results_tmp rfl _ _ _, p, c, rfl, hcap, hlies, bel_of (hBl.trans (belowK_b (w := w) (Nat.le_refl _) W D _ _ (by omega) hK rfl rfl))⟩
  case stop =>
    rintro D c pre W _ _ h _
    exact h.elim
end Go.Proofs.YtllohpojajijjaaGreatDoor
namespace Go.Proofs.YtllohpojajijjaaGreatDoor
/-- Lists. -/
abbrev Ls := Nat → List Nat
def upd (ls : Ls) (t : Nat) (l : List Nat) : Ls := fun k => if k = t then l else ls k
theorem upd_same (ls : Ls) (t : Nat) (l : List Nat) : upd ls t l t = l := by simp [upd]
theorem upd_other (ls : Ls) {t k : Nat} (l : List Nat) (h : k ≠ t) : upd ls t l k = ls k := by simp [upd, h]
/-- A ring is those lists. -/
structure Rep (P L : Nat) (g : Rg) (ls : Ls) : Prop where
  fw : ∀ t, t < L → Path (fun i => (g i).bh) ((P + t) :: ls t ++ [P + t])
  bw : ∀ t, t < L → Path (fun i => (g i).ah) ((P + t) :: (ls t).reverse ++ [P + t])
  pl : ∀ t, t < L → ∀ i ∈ ls t, i < P
  li : ∀ t, t < L → ∀ i ∈ ls t, (g i).li = t
  le : ∀ t, t < L → (g (P + t)).li = t
  nd : ∀ t, t < L → (ls t).Nodup
  al : ∀ i, i < P → (∀ t, t < L → i ∉ ls t) → g i = al0
theorem Rep.nodupE {P L : Nat} {g : Rg} {ls : Ls} (h : Rep P L g ls) {t : Nat} (ht : t < L) : ((P + t) :: ls t).Nodup :=
  List.nodup_cons.2 ⟨fun e => by have := h.pl t ht _ e; omega, h.nd t ht⟩
/-- A place is in one list at most. -/
theorem Rep.one {P L : Nat} {g : Rg} {ls : Ls} (h : Rep P L g ls) {s t i : Nat} (hs : s < L) (ht : t < L) (h1 : i ∈ ls s) (h2 : i ∈ ls t) : s = t := by
  have e1 := h.li s hs i h1
  have e2 := h.li t ht i h2
  omega
/-- Is it in a list, and in which? -/
theorem Rep.cases {P L : Nat} {g : Rg} {ls : Ls} (h : Rep P L g ls) {i : Nat} (hi : i < P) : (∃ t, t < L ∧ i ∈ ls t ∧ (g i).li = t) ∨ ((∀ t, t < L → i ∉ ls t) ∧ g i = al0) := by
  by_cases e : ∃ t, t < L ∧ i ∈ ls t
  · obtain ⟨t, h1, h2⟩ := e
    exact .inl ⟨t, h1, h2, h.li t h1 i h2⟩
  · have e2 : ∀ t, t < L → i ∉ ls t := fun t h1 h2 => e ⟨t, h1, h2⟩
    exact .inr ⟨e2, h.al i hi e2⟩
theorem Rep.fwd {P L : Nat} {g : Rg} {ls : Ls} (h : Rep P L g ls) {t : Nat} (ht : t < L) : Met (fun i => (g i).bh) P (P + t) (ls t) := met_of_path (by omega) (h.fw t ht) (h.pl t ht)
theorem Rep.bwd {P L : Nat} {g : Rg} {ls : Ls} (h : Rep P L g ls) {t : Nat} (ht : t < L) : Met (fun i => (g i).ah) P (P + t) (ls t).reverse :=
  met_of_path (by omega) (h.bw t ht) (fun i hi => h.pl t ht i (List.mem_reverse.1 hi))
theorem Rep.next {P L : Nat} {g : Rg} {ls : Ls} (h : Rep P L g ls) {t : Nat} (ht : t < L) {x y : List Nat} {p : Nat} (hl : ls t = x ++ p :: y) : Met (fun i => (g i).bh) P p y := by
  have h1 := h.fw t ht
  rw [hl] at h1
  exact met_from h1 (by omega) (fun i hi => h.pl t ht i (by rw [hl]; simp [hi]))
theorem Rep.prev {P L : Nat} {g : Rg} {ls : Ls} (h : Rep P L g ls) {t : Nat} (ht : t < L) {x y : List Nat} {p : Nat} (hl : ls t = x ++ p :: y) : Met (fun i => (g i).ah) P p x.reverse := by
  have h1 := h.bw t ht
  have e : (ls t).reverse = y.reverse ++ p :: x.reverse := by rw [hl]; simp
  rw [e] at h1
  exact met_from h1 (by omega) (fun i hi => h.pl t ht i (by rw [hl]; simp [List.mem_reverse.1 hi]))
theorem Rep.alone {P : Nat} {g : Rg} {i : Nat} (h : g i = al0) : Met (fun i => (g i).bh) P i [] ∧ Met (fun i => (g i).ah) P i [] := by
  constructor
  · show ¬ (0 ≤ (g i).bh ∧ (g i).bh < P)
    rw [h]; simp
  · show ¬ (0 ≤ (g i).ah ∧ (g i).ah < P)
    rw [h]; simp
/-- What stands ahead of the end is the last one. -/
theorem Rep.endah {P L : Nat} {g : Rg} {ls : Ls} (h : Rep P L g ls) {t : Nat} (ht : t < L) : (g (P + t)).ah = lst (P + t) (ls t) := by
  have := path_first (d := fun i => (g i).ah) (h.bw t ht)
  rw [fst_reverse] at this
  exact this
theorem Rep.ahead {P L : Nat} {g : Rg} {ls : Ls} (h : Rep P L g ls) {t : Nat} (ht : t < L) {x y : List Nat} {p : Nat} (hl : ls t = x ++ p :: y) : (g p).ah = lst (P + t) x := by
  have h1 := h.bw t ht
  have e : (P + t) :: (ls t).reverse ++ [P + t] = ((P + t) :: y.reverse) ++ p :: (x.reverse ++ [P + t]) := by rw [hl]; simp
  rw [e, path_append] at h1
  have := path_first (d := fun i => (g i).ah) h1.2
  rw [fst_reverse] at this
  exact this
theorem Rep.behind {P L : Nat} {g : Rg} {ls : Ls} (h : Rep P L g ls) {t : Nat} (ht : t < L) {x y : List Nat} {p : Nat} (hl : ls t = x ++ p :: y) : (g p).bh = fst (P + t) y := by
  have h1 := h.fw t ht
  have e : (P + t) :: ls t ++ [P + t] = ((P + t) :: x) ++ p :: (y ++ [P + t]) := by rw [hl]; simp
  rw [e, path_append] at h1
  exact path_first (d := fun i => (g i).bh) h1.2
theorem Rep.lst_lt {P L : Nat} {g : Rg} {ls : Ls} (h : Rep P L g ls) {t : Nat} (ht : t < L) {x : List Nat} (hx : ∀ i ∈ x, i ∈ ls t) : lst (P + t) x < P + L := by
  rcases lst_mem (P + t) x with e | e
  · omega
  · have := h.pl t ht _ (hx _ e); omega
theorem Rep.fst_lt {P L : Nat} {g : Rg} {ls : Ls} (h : Rep P L g ls) {t : Nat} (ht : t < L) {x : List Nat} (hx : ∀ i ∈ x, i ∈ ls t) : fst (P + t) x < P + L := by
  rcases fst_mem (P + t) x with e | e
  · omega
  · have := h.pl t ht _ (hx _ e); omega

/-! How joinG and its kin turn what stands beside. -/
theorem join_bh (g : Rg) (a b k : Nat) : (joinG g a b k).bh = if k = a then (b : Int) else (g k).bh := by unfold joinG upA upB; split <;> split <;> simp_all
theorem join_ah (g : Rg) (a b k : Nat) : (joinG g a b k).ah = if k = b then (a : Int) else (g k).ah := by unfold joinG upA upB; split <;> split <;> simp_all
theorem join_li (g : Rg) (a b k : Nat) : (joinG g a b k).li = (g k).li := by unfold joinG upA upB; split <;> split <;> simp_all
theorem upL_bh (g : Rg) (p : Nat) (v : Int) (k : Nat) : (upL g p v k).bh = (g k).bh := by unfold upL; split <;> simp_all
theorem upL_ah (g : Rg) (p : Nat) (v : Int) (k : Nat) : (upL g p v k).ah = (g k).ah := by unfold upL; split <;> simp_all
theorem upL_li (g : Rg) (p : Nat) (v : Int) (k : Nat) : (upL g p v k).li = if k = p then v else (g k).li := by unfold upL; split <;> simp_all
theorem pl_ext (x y : Plc) (h1 : x.ah = y.ah) (h2 : x.bh = y.bh) (h3 : x.li = y.li) : x = y := by cases x; cases y; simp_all

/-- One is put in ahead of y. -/
theorem Rep.put {P L : Nat} {g : Rg} {ls : Ls} (h : Rep P L g ls) {t p : Nat} (ht : t < L) (hp : p < P) (hno : ∀ s, s < L → p ∉ ls s) {x y : List Nat} (hl : ls t = x ++ y) :
    Rep P L (putG g p (lst (P + t) x) (fst (P + t) y)) (upd ls t (x ++ p :: y)) := by
  have hE := h.nodupE ht
  obtain ⟨a, ha⟩ : ∃ a, lst (P + t) x = a := ⟨_, rfl⟩
  obtain ⟨b, hb⟩ : ∃ b, fst (P + t) y = b := ⟨_, rfl⟩
  rw [ha, hb]
  have hma : a = P + t ∨ a ∈ ls t := by rw [← ha, hl]; rcases lst_mem (P + t) x with e | e; exact .inl e; exact .inr (by simp [e])
  have hmb : b = P + t ∨ b ∈ ls t := by rw [← hb, hl]; rcases fst_mem (P + t) y with e | e; exact .inl e; exact .inr (by simp [e])
  have hpa : p ≠ a := fun e => by rcases hma with e2 | e2; omega; exact hno t ht (by rw [e]; exact e2)
  have hpb : p ≠ b := fun e => by rcases hmb with e2 | e2; omega; exact hno t ht (by rw [e]; exact e2)
  have hbli : (g b).li = t := by rcases hmb with e | e; rw [e]; exact h.le t ht; exact h.li t ht b e
  have hbh : ∀ k, (putG g p a b k).bh = if k = p then (b : Int) else if k = a then (p : Int) else (g k).bh := fun k => by
    unfold putG; rw [join_bh, join_bh, upL_bh]
  have hah : ∀ k, (putG g p a b k).ah = if k = b then (p : Int) else if k = p then (a : Int) else (g k).ah := fun k => by
    unfold putG; rw [join_ah, join_ah, upL_ah]
  have hli : ∀ k, (putG g p a b k).li = if k = p then (t : Int) else (g k).li := fun k => by
    unfold putG; rw [join_li, join_li, upL_li, hbli]
  have hout : ∀ s, s < L → s ≠ t → ∀ i, i = P + s ∨ i ∈ ls s → i ≠ p ∧ i ≠ a ∧ i ≠ b := fun s hs hst i hi => by
    refine ⟨fun e => ?_, fun e => ?_, fun e => ?_⟩
    · rcases hi with hi | hi
      · omega
      · exact hno s hs (by rw [← e]; exact hi)
    · rcases hi with hi | hi
      · rcases hma with e2 | e2
        · omega
        · have := h.pl t ht a e2; omega
      · rcases hma with e2 | e2
        · have := h.pl s hs i hi; omega
        · exact hst (h.one hs ht hi (by rw [e]; exact e2))
    · rcases hi with hi | hi
      · rcases hmb with e2 | e2
        · omega
        · have := h.pl t ht b e2; omega
      · rcases hmb with e2 | e2
        · have := h.pl s hs i hi; omega
        · exact hst (h.one hs ht hi (by rw [e]; exact e2))
  have hndp : ((P + t) :: (x ++ [p] ++ y)).Nodup := by
    rw [hl] at hE
    have h1 := List.nodup_cons.1 hE
    have hpn : p ∉ x ++ y := fun e => hno t ht (by rw [hl]; exact e)
    simp at hpn
    have h2 := List.nodup_append.1 h1.2
    refine List.nodup_cons.2 ⟨fun e => ?_, ?_⟩
    · simp at e
      rcases e with e | e | e
      · exact h1.1 (by simp [e])
      · omega
      · exact h1.1 (by simp [e])
    · rw [List.append_assoc]
      refine List.nodup_append.2 ⟨h2.1, List.nodup_cons.2 ⟨hpn.2, h2.2.1⟩, fun i hi j hj e => ?_⟩
      simp at hj
      rcases hj with hj | hj
      · exact hpn.1 (by rw [← hj, ← e]; exact hi)
      · exact h2.2.2 i hi j hj e
  have e2 : x ++ p :: y = x ++ [p] ++ y := by simp
  have mem2 : ∀ i, i ∈ x ++ p :: y ↔ i = p ∨ i ∈ ls t := fun i => by rw [hl]; simp; constructor <;> (intro h; rcases h with h | h | h <;> simp [h])
  refine ⟨fun s hs => ?_, fun s hs => ?_, fun s hs i hi => ?_, fun s hs i hi => ?_, fun s hs => ?_, fun s hs => ?_, fun i hi hn => ?_⟩
  · by_cases e : s = t
    · subst e
      rw [upd_same, e2]
      have h1 := h.fw s hs
      rw [hl] at h1
      refine path_in h1 (path_one _ p) (by simp) hndp ?_ ?_ (fun i hi h2 h3 => ?_)
      · simp only [hbh]; rw [ha, if_neg hpa.symm, if_pos rfl]; simp [fst]
      · simp only [hbh]; simp [lst, hb]
      · simp only [hbh]
        have h4 : i ≠ p := by simpa [lst] using h3
        rw [if_neg h4, if_neg (by rw [← ha]; exact h2)]
    · rw [upd_other _ _ e]
      refine path_congr (h.fw s hs) (fun i hi => ?_)
      have hi2 : i = P + s ∨ i ∈ ls s := by
        have e3 : ((P + s) :: ls s ++ [P + s]).dropLast = (P + s) :: ls s := List.dropLast_concat
        rw [e3] at hi
        simpa using hi
      obtain ⟨n1, n2, n3⟩ := hout s hs e i hi2
      simp only [hbh]
      rw [if_neg n1, if_neg n2]
  · by_cases e : s = t
    · subst e
      rw [upd_same]
      have h1 := h.bw s hs
      have e3 : (ls s).reverse = y.reverse ++ x.reverse := by rw [hl]; simp
      have e4 : (x ++ p :: y).reverse = y.reverse ++ [p] ++ x.reverse := by simp
      rw [e3] at h1
      rw [e4]
      refine path_in h1 (path_one _ p) (by simp) ?_ ?_ ?_ (fun i hi h2 h3 => ?_)
      · have h5 := List.nodup_cons.1 hndp
        refine List.nodup_cons.2 ⟨fun e => h5.1 ?_, ?_⟩
        · simp at e ⊢
          rcases e with e | e | e <;> simp [e]
        · have h6 : (y.reverse ++ [p] ++ x.reverse) = (x ++ [p] ++ y).reverse := by simp
          rw [h6]
          exact (List.reverse_perm _).nodup_iff.2 h5.2
      · simp only [hah]; rw [lst_reverse, hb, if_pos rfl]; simp [fst]
      · simp only [hah]
        have h7 : lst (P + s) [p] = p := by simp [lst]
        rw [h7, if_neg hpb, if_pos rfl, fst_reverse, ha]
      · simp only [hah]
        have h4 : i ≠ p := by simpa [lst] using h3
        rw [lst_reverse, hb] at h2
        rw [if_neg h2, if_neg h4]
    · rw [upd_other _ _ e]
      refine path_congr (h.bw s hs) (fun i hi => ?_)
      have hi2 : i = P + s ∨ i ∈ ls s := by
        have e3 : ((P + s) :: (ls s).reverse ++ [P + s]).dropLast = (P + s) :: (ls s).reverse := List.dropLast_concat
        rw [e3] at hi
        simpa using hi
      obtain ⟨n1, n2, n3⟩ := hout s hs e i hi2
      simp only [hah]
      rw [if_neg n3, if_neg n1]
  · by_cases e : s = t
    · subst e
      rw [upd_same, mem2] at hi
      rcases hi with hi | hi
      · omega
      · exact h.pl s hs i hi
    · rw [upd_other _ _ e] at hi
      exact h.pl s hs i hi
  · rw [hli]
    by_cases e : s = t
    · subst e
      rw [upd_same, mem2] at hi
      split
      · rfl
      · rcases hi with hi | hi
        · contradiction
        · exact h.li s hs i hi
    · rw [upd_other _ _ e] at hi
      rw [if_neg (fun e2 => hno s hs (by rw [← e2]; exact hi))]
      exact h.li s hs i hi
  · rw [hli, if_neg (by omega)]
    exact h.le s hs
  · by_cases e : s = t
    · subst e
      rw [upd_same, e2]
      exact (List.nodup_cons.1 hndp).2
    · rw [upd_other _ _ e]
      exact h.nd s hs
  · have hip : i ≠ p := fun e => hn t ht (by rw [upd_same, mem2]; exact .inl e)
    have hin : ∀ s, s < L → i ∉ ls s := fun s hs hm => hn s hs (by
      by_cases e : s = t
      · subst e; rw [upd_same, mem2]; exact .inr hm
      · rw [upd_other _ _ e]; exact hm)
    have hia : i ≠ a := fun e => by rcases hma with e2 | e2; omega; exact hin t ht (by rw [e]; exact e2)
    have hib : i ≠ b := fun e => by rcases hmb with e2 | e2; omega; exact hin t ht (by rw [e]; exact e2)
    rw [← h.al i hi hin]
    refine pl_ext _ _ ?_ ?_ ?_
    · rw [hah, if_neg hib, if_neg hip]
    · rw [hbh, if_neg hip, if_neg hia]
    · rw [hli, if_neg hip]
theorem drop_mem {P s : Nat} {l : List Nat} {i : Nat} (h : i ∈ ((P + s) :: l ++ [P + s]).dropLast) : i = P + s ∨ i ∈ l := by
  have e3 : ((P + s) :: l ++ [P + s]).dropLast = (P + s) :: l := List.dropLast_concat
  rw [e3] at h
  simpa using h
/-- One is taken out. -/
theorem Rep.drop {P L : Nat} {g : Rg} {ls : Ls} (h : Rep P L g ls) {t p : Nat} (ht : t < L) {x y : List Nat} (hl : ls t = x ++ p :: y) :
    Rep P L (dropG g p (lst (P + t) x) (fst (P + t) y)) (upd ls t (x ++ y)) := by
  have hE := h.nodupE ht
  have hpm : p ∈ ls t := by rw [hl]; simp
  have hp := h.pl t ht p hpm
  obtain ⟨a, ha⟩ : ∃ a, lst (P + t) x = a := ⟨_, rfl⟩
  obtain ⟨b, hb⟩ : ∃ b, fst (P + t) y = b := ⟨_, rfl⟩
  rw [ha, hb]
  have hma0 : a = P + t ∨ a ∈ x := by rw [← ha]; exact lst_mem _ _
  have hmb0 : b = P + t ∨ b ∈ y := by rw [← hb]; exact fst_mem _ _
  have hma : a = P + t ∨ a ∈ ls t := by rw [hl]; rcases hma0 with e | e; exact .inl e; exact .inr (by simp [e])
  have hmb : b = P + t ∨ b ∈ ls t := by rw [hl]; rcases hmb0 with e | e; exact .inl e; exact .inr (by simp [e])
  have hnl := h.nd t ht
  rw [hl] at hnl
  have n2 := List.nodup_append.1 hnl
  have n3 := List.nodup_cons.1 n2.2.1
  have hpx : p ∉ x := fun e => n2.2.2 p e p (by simp) rfl
  have hpa : p ≠ a := fun e => by rcases hma0 with e2 | e2; omega; exact hpx (by rw [e]; exact e2)
  have hpb : p ≠ b := fun e => by rcases hmb0 with e2 | e2; omega; exact n3.1 (by rw [e]; exact e2)
  have hz : ∀ k, k ≠ p → dropG g p a b k = joinG g a b k := fun k hk => by unfold dropG upZ; rw [if_neg hk]
  have hbh : ∀ k, k ≠ p → (dropG g p a b k).bh = if k = a then (b : Int) else (g k).bh := fun k hk => by rw [hz k hk, join_bh]
  have hah : ∀ k, k ≠ p → (dropG g p a b k).ah = if k = b then (a : Int) else (g k).ah := fun k hk => by rw [hz k hk, join_ah]
  have hli : ∀ k, k ≠ p → (dropG g p a b k).li = (g k).li := fun k hk => by rw [hz k hk, join_li]
  have hout : ∀ s, s < L → s ≠ t → ∀ i, i = P + s ∨ i ∈ ls s → i ≠ p ∧ i ≠ a ∧ i ≠ b := fun s hs hst i hi => by
    have key : ∀ c, c = P + t ∨ c ∈ ls t → i ≠ c := fun c hc e => by
      rcases hi with hi | hi
      · rcases hc with e2 | e2
        · omega
        · have := h.pl t ht c e2; omega
      · rcases hc with e2 | e2
        · have := h.pl s hs i hi; omega
        · exact hst (h.one hs ht hi (by rw [e]; exact e2))
    exact ⟨key p (.inr hpm), key a hma, key b hmb⟩
  have memo : ∀ i, i ∈ x ++ y → i ∈ ls t ∧ i ≠ p := fun i hi => by
    rw [hl]
    simp at hi
    refine ⟨by simp; rcases hi with e | e <;> simp [e], fun e => ?_⟩
    rcases hi with e2 | e2
    · exact hpx (by rw [← e]; exact e2)
    · exact n3.1 (by rw [← e]; exact e2)
  have hne : ∀ i, i ∈ (P + t) :: (x ++ y) → i ≠ p := fun i hi e => by
    rcases List.mem_cons.1 hi with e2 | e2
    · omega
    · exact (memo i e2).2 e
  refine ⟨fun s hs => ?_, fun s hs => ?_, fun s hs i hi => ?_, fun s hs i hi => ?_, fun s hs => ?_, fun s hs => ?_, fun i hi hn => ?_⟩
  · by_cases e : s = t
    · subst e
      rw [upd_same]
      have h1 := h.fw s hs
      rw [hl] at h1 hE
      refine path_out h1 hE ?_ (fun i hi h2 => ?_)
      · simp only [ha, hb]; rw [hbh a hpa.symm, if_pos rfl]
      · try simp only []
        rw [hbh i (hne i hi), if_neg (by rw [← ha]; exact h2)]
    · rw [upd_other _ _ e]
      refine path_congr (h.fw s hs) (fun i hi => ?_)
      obtain ⟨m1, m2, m3⟩ := hout s hs e i (drop_mem hi)
      try simp only []
      rw [hbh i m1, if_neg m2]
  · by_cases e : s = t
    · subst e
      rw [upd_same]
      have h1 := h.bw s hs
      have e3 : (ls s).reverse = y.reverse ++ p :: x.reverse := by rw [hl]; simp
      have e4 : (x ++ y).reverse = y.reverse ++ x.reverse := by simp
      have hE2 : ((P + s) :: (y.reverse ++ p :: x.reverse)).Nodup := by
        rw [← e3]
        exact List.nodup_cons.2 ⟨fun e => (List.nodup_cons.1 hE).1 (List.mem_reverse.1 e), (List.reverse_perm _).nodup_iff.2 (List.nodup_cons.1 hE).2⟩
      rw [e3] at h1
      rw [e4]
      refine path_out h1 hE2 ?_ (fun i hi h2 => ?_)
      · simp only [lst_reverse, fst_reverse, ha, hb]; rw [hah b hpb.symm, if_pos rfl]
      · have hi2 : i ∈ (P + s) :: (x ++ y) := by
          simp at hi ⊢
          rcases hi with e | e | e <;> simp [e]
        try simp only []
        rw [lst_reverse, hb] at h2
        rw [hah i (hne i hi2), if_neg h2]
    · rw [upd_other _ _ e]
      refine path_congr (h.bw s hs) (fun i hi => ?_)
      obtain ⟨m1, m2, m3⟩ := hout s hs e i (by have := drop_mem hi; simpa using this)
      try simp only []
      rw [hah i m1, if_neg m3]
  · by_cases e : s = t
    · subst e
      rw [upd_same] at hi
      exact h.pl s hs i (memo i hi).1
    · rw [upd_other _ _ e] at hi
      exact h.pl s hs i hi
  · by_cases e : s = t
    · subst e
      rw [upd_same] at hi
      rw [hli i (memo i hi).2]
      exact h.li s hs i (memo i hi).1
    · rw [upd_other _ _ e] at hi
      rw [hli i (hout s hs e i (.inr hi)).1]
      exact h.li s hs i hi
  · rw [hli _ (by omega)]
    exact h.le s hs
  · by_cases e : s = t
    · subst e
      rw [upd_same]
      exact List.nodup_append.2 ⟨n2.1, n3.2, fun i hi j hj => n2.2.2 i hi j (by simp [hj])⟩
    · rw [upd_other _ _ e]
      exact h.nd s hs
  · by_cases hip : i = p
    · subst hip
      unfold dropG upZ
      rw [if_pos rfl]
    · have hin : ∀ s, s < L → i ∉ ls s := fun s hs hm => hn s hs (by
        by_cases e : s = t
        · subst e
          rw [upd_same]
          rw [hl] at hm
          simp at hm ⊢
          rcases hm with e | e | e
          · exact .inl e
          · exact absurd e hip
          · exact .inr e
        · rw [upd_other _ _ e]; exact hm)
      have hia : i ≠ a := fun e => by rcases hma with e2 | e2; omega; exact hin t ht (by rw [e]; exact e2)
      have hib : i ≠ b := fun e => by rcases hmb with e2 | e2; omega; exact hin t ht (by rw [e]; exact e2)
      rw [← h.al i hi hin]
      refine pl_ext _ _ ?_ ?_ ?_
      · rw [hah i hip, if_neg hib]
      · rw [hbh i hip, if_neg hia]
      · rw [hli i hip]
theorem path_init {d : Nat → Int} {e : Nat} {l : List Nat} (h : Path d (l ++ [e])) : Path d l := by
  rcases List.eq_nil_or_concat l with rfl | ⟨r, a, rfl⟩
  · trivial
  · have e2 : r.concat a ++ [e] = r ++ a :: [e] := by simp
    rw [e2, path_append] at h
    simpa using h.1
theorem fst_ne (E F : Nat) {l : List Nat} (h : l ≠ []) : fst E l = fst F l := by
  cases l with
  | nil => exact absurd rfl h
  | cons a r => rfl
theorem lst_ne (E F : Nat) {l : List Nat} (h : l ≠ []) : lst E l = lst F l := by
  rcases List.eq_nil_or_concat l with rfl | ⟨r, a, rfl⟩
  · exact absurd rfl h
  · simp [lst]
theorem fst_in (E : Nat) {l : List Nat} (h : l ≠ []) : fst E l ∈ l := by
  cases l with
  | nil => exact absurd rfl h
  | cons a r => simp [fst]
theorem lst_in (E : Nat) {l : List Nat} (h : l ≠ []) : lst E l ∈ l := by
  rcases List.eq_nil_or_concat l with rfl | ⟨r, a, rfl⟩
  · exact absurd rfl h
  · simp [lst]
theorem rep_new {P L : Nat} {g : Rg} (h : NewG P L g) : Rep P L g (fun _ => []) := by
  refine ⟨fun t ht => ?_, fun t ht => ?_, fun t _ i hi => by simp at hi, fun t _ i hi => by simp at hi, fun t ht => by rw [h.le t ht], fun t _ => List.nodup_nil, fun i hi _ => h.pl i hi⟩
  · refine ⟨?_, trivial⟩
    try simp only []
    rw [h.le t ht]
  · refine ⟨?_, trivial⟩
    try simp only []
    rw [h.le t ht]
end Go.Proofs.YtllohpojajijjaaGreatDoor
