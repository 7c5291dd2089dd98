/-
  The contract of bitmap.Next.
-/
import Derived.Test.YthgiknkglnagbaaDoorList
namespace Go.Proofs.YthgiknkglnagbaaDoor
open Go.RowKit Go.Shelf
attribute [local go_sem] Oper.semAt_some

theorem each_any (B : Nat → Nat) (w : World) : Calls Tryd.prog 30 #[.agg #[.int .u64 (B 0), .int .u64 (B 1), .int .u64 (B 2), .int .u64 (B 3)]] w fun e w' =>
    ∃ Bn, e = .returned (.func (.func 35) #[] #[.pointer (some ⟨Bn, 0, none⟩)]) ∧ w.heap.size ≤ Bn ∧ w'.heap[Bn]? = some (.cells #[.int .u64 (B 0), .int .u64 (B 1), .int .u64 (B 2), .int .u64 (B 3)] 24 (0, 0)) ∧ Bel w w' := by
  refine (callsIn_wide.1 (each_in 0 B w)).mono ?_
  rintro e w' ⟨rfl, rfl⟩
  exact ⟨_, rfl, Nat.le_refl _, World.alloc_heap_new _ _, (Bel.refl _).alloc _ _⟩
/-- An answer of a number, if there is one. -/
def ans : Option Nat → Value
  | some m => .tuple #[.int .i64 m, .bool true]
  | none => .tuple #[.int .i64 0, .bool false]
theorem held_box {w0 w w' : World} {N : Nat} {x0 x1 x2 x3 : Int} (hg : Bel w w')
    (h : Bel w0 w ∧ w.cell? ⟨N, 0, none⟩ = some (.int .u64 x0) ∧ w.cell? ⟨N, 1, none⟩ = some (.int .u64 x1) ∧ w.cell? ⟨N, 2, none⟩ = some (.int .u64 x2) ∧ w.cell? ⟨N, 3, none⟩ = some (.int .u64 x3)) :
    Bel w0 w' ∧ w'.cell? ⟨N, 0, none⟩ = some (.int .u64 x0) ∧ w'.cell? ⟨N, 1, none⟩ = some (.int .u64 x1) ∧ w'.cell? ⟨N, 2, none⟩ = some (.int .u64 x2) ∧ w'.cell? ⟨N, 3, none⟩ = some (.int .u64 x3) :=
  ⟨h.1.trans hg, hg.cell h.2.1, hg.cell h.2.2.1, hg.cell h.2.2.2.1, hg.cell h.2.2.2.2⟩
set_option maxRecDepth 100000 in
set_option maxHeartbeats 2000000 in
theorem next_any (B : Nat → Nat) (hB : Wd B) (from_ : Int) (h1 : from_ ≤ 9223372036854775807) (w : World) (hT : Tab w) :
    Calls Tryd.prog 23 #[.agg #[.int .u64 (B 0), .int .u64 (B 1), .int .u64 (B 2), .int .u64 (B 3)], .int .i64 from_] w fun e W' =>
      e = .returned (ans (bo (wth B (bl from_.toNat)) 256).head?) ∧ Bel w W' := by
  have K1 := Lib.hid (below_any from_ h1)
  have K2 := Lib.hid (without_any B (bl from_.toNat) hB (bl_wd _))
  have hC := wth_wd hB (bl from_.toNat)
  generalize wth B (bl from_.toNat) = C at *
  generalize bl from_.toNat = L at *
  have K3 := Lib.hid (each_any C)
  clear hB h1
  have hp := hT.pos
  have HT := Lib.hid hT
  clear hT
  refine (callsIn_wide (n := 4)).1 ?_
  have hro : Fence.wide.round = none := rfl
  refine callsIn_of_wp_marks Tryd.func23 rfl trivial ?_ hro
  simp only [Tryd.ntmps23, List.size_toArray, List.length_cons, List.length_nil, Nat.reduceAdd, Nat.reduceSub, Array.replicate_succ, Array.replicate_zero, List.push_toArray, List.append_toArray, List.nil_append, List.cons_append]
  refine wpIn_wide.2 ?_
  go_wp2
  go_region_held3 (fun w' => Bel w w' ∧ w'.cell? ⟨w.heap.size, 0, none⟩ = some (.int .u64 (B 0)) ∧ w'.cell? ⟨w.heap.size, 1, none⟩ = some (.int .u64 (B 1)) ∧ w'.cell? ⟨w.heap.size, 2, none⟩ = some (.int .u64 (B 2)) ∧ w'.cell? ⟨w.heap.size, 3, none⟩ = some (.int .u64 (B 3)))
    (first | exact ⟨((((Bel.refl w).alloc _ _).alloc _ _).alloc _ _).drew, by simp [go_sem, World.cell?_alloc_past], by simp [go_sem, World.cell?_alloc_past], by simp [go_sem, World.cell?_alloc_past], by simp [go_sem, World.cell?_alloc_past]⟩ | exact held_box hg1 ‹_›)
    (first
      | (go_at_call 33; (with_reducible refine (K1.out _).mono ?_); rintro e w1 ⟨rfl, hg1⟩)
      | (go_at_call 32; (with_reducible refine (K2.out _).mono ?_); rintro e w1 ⟨rfl, hg1⟩)
      | (go_at_call 30; (with_reducible refine (K3.out _).mono ?_); rintro e w1 ⟨Bn, rfl, hBn, hF, hg1⟩))
  rename_i wa ga wb gb hheld
  have gw : Bel ((((w.alloc (.cells #[.int .u64 (B 0), .int .u64 (B 1), .int .u64 (B 2), .int .u64 (B 3)] 24)).alloc (.cells #[.int .i64 0] 3)).alloc (.cells #[.bool false] 4)).drew) w1 := (ga.trans gb).trans hg1
  have hBw : Below w.heap.size w w1 := hheld.1
  have hT1 : Tab w1 := HT.out.bel hheld.1
  have r1 : w1.cell? ⟨w.heap.size + 1, 0, none⟩ = some (.int .i64 0) := gw.cell (by simp [go_sem])
  have r2 : w1.cell? ⟨w.heap.size + 1 + 1, 0, none⟩ = some (.bool false) := gw.cell (by simp [go_sem])
  have f1 : w1.frozen? ⟨w.heap.size + 1, 0, none⟩ = false := gw.froz (v := .int .i64 0) (by simp [go_sem]) (by simp [go_sem])
  have f2 : w1.frozen? ⟨w.heap.size + 1 + 1, 0, none⟩ = false := gw.froz (v := .bool false) (by simp [go_sem]) (by simp [go_sem])
  have z1 : w.heap.size + 1 + 1 + 1 ≤ w1.heap.size := by have := gw.size; simpa using this
  have z2 : Bn < w1.heap.size := (Array.getElem?_eq_some_iff.1 hF).1
  have hSrc : Src Bn C w1 := ⟨hF, hT1⟩
  clear ga gb gw hg1 hheld K1 K2 K3 hBn hF
  go_wp2
  refine (wpIn_wide (n := 4)).1 ?_
  refine wpIn_rangeFunc_ownG hro (by omega) (gf := 35) (lb := #[.pointer (some ⟨Bn, 0, none⟩)]) rfl trivial (enters_of Tryd.func35 (by kernel_rfl) rfl)
    (each_stops 3 (by omega) Bn C hC w1 hSrc) kp_t (kp_b z2 (by omega)) (Below.refl _ _) (fun _ => rfl)
    (fun pre W => (pre = [] ∧ W.cell? ⟨w.heap.size + 1, 0, none⟩ = some (.int .i64 0) ∧ W.frozen? ⟨w.heap.size + 1, 0, none⟩ = false ∧ W.cell? ⟨w.heap.size + 1 + 1, 0, none⟩ = some (.bool false) ∧ W.frozen? ⟨w.heap.size + 1 + 1, 0, none⟩ = false) ∧ Below w.heap.size w W)
    (fun c pre W => (c = .ret ∧ ∃ x : Nat, pre = [x] ∧ W.cell? ⟨w.heap.size + 1, 0, none⟩ = some (.int .i64 x) ∧ W.cell? ⟨w.heap.size + 1 + 1, 0, none⟩ = some (.bool true)) ∧ Below w.heap.size w W)
    (OwnFrom.and (Own.from (fun s A B row hs hg hr => ⟨hs.1, cell_kept hs.2.1 hg hr, (frozen_kept hs.2.1 hg hr).trans hs.2.2.1, cell_kept hs.2.2.2.1 hg hr, (frozen_kept hs.2.2.2.1 hg hr).trans hs.2.2.2.2⟩) _) (ownFrom_below (Nat.le_refl _) (by omega)))
    (fun c => OwnFrom.and (Own.from (fun s A B row hs hg hr => by obtain ⟨hc, x, e1, e2, e3⟩ := hs; exact ⟨hc, x, e1, cell_kept e2 hg hr, cell_kept e3 hg hr⟩) _) (ownFrom_below (Nat.le_refl _) (by omega)))
    ⟨⟨rfl, r1, f1, r2, f2⟩, hBw⟩
    (fun x => { tmps := #[.agg #[.int .u64 (B 0), .int .u64 (B 1), .int .u64 (B 2), .int .u64 (B 3)], .int .i64 from_, .pointer (some ⟨w.heap.size, 0, none⟩), undef, .pointer (some ⟨w.heap.size + 1, 0, none⟩), .pointer (some ⟨w.heap.size + 1 + 1, 0, none⟩), .int .i64 x, .agg #[.int .u64 (B 0), .int .u64 (B 1), .int .u64 (B 2), .int .u64 (B 3)], .int .i64 from_, .agg #[.int .u64 (L 0), .int .u64 (L 1), .int .u64 (L 2), .int .u64 (L 3)], .agg #[.int .u64 (C 0), .int .u64 (C 1), .int .u64 (C 2), .int .u64 (C 3)], .func (.func 35) #[] #[.pointer (some ⟨Bn, 0, none⟩)], .int .i64 x, undef], defers := [] }) ?assign ?body ?done ?stop
  case assign =>
    intro l x W K hK
    gi_wp2
    exact hK
  case body =>
    rintro l pre x W ⟨⟨rfl, q1, g1, q2, g2⟩, hBl⟩ hlt
    gi_wp2
    refine ⟨((KeepsOthers.setCell _ _ _).trans (KeepsOthers.setCell _ _ _)).from _, ⟨rfl, x, rfl, ?_, ?_⟩, (hBl.setCell (p := ⟨w.heap.size + 1, 0, none⟩) (by simp) _).setCell (p := ⟨w.heap.size + 1 + 1, 0, none⟩) (by simp; omega) _⟩
    · simp [go_sem, q1]
    · simp [go_sem, q2]
  case done =>
    rintro D ys W hD hys ⟨⟨rfl, q1, g1, q2, g2⟩, hBl⟩ hK
    go_wp2
    have hK' := ((KeepsOthers.setCell W ⟨w.heap.size + 1, 0, none⟩ (.int .i64 0)).trans (KeepsOthers.setCell _ ⟨w.heap.size + 1 + 1, 0, none⟩ (.bool false))).same D _ hK rfl
    refine ⟨by simp, .inl ⟨_, _, rfl, run_takeDeferred hK', ?_⟩⟩
    have hc5 := cell_kept (W := (W.setCell ⟨w.heap.size + 1, 0, none⟩ (.int .i64 0)).setCell ⟨w.heap.size + 1 + 1, 0, none⟩ (.bool false)) (v := .int .i64 0) (a := ⟨w.heap.size + 1, 0, none⟩) (by simp [go_sem, q1]) (grownBy_putObj' ((W.setCell ⟨w.heap.size + 1, 0, none⟩ (.int .i64 0)).setCell ⟨w.heap.size + 1 + 1, 0, none⟩ (.bool false)) D (.deferred none)) (fun r e => by cases e; exact ⟨_, hK', rfl⟩)
    have hc6 := cell_kept (W := (W.setCell ⟨w.heap.size + 1, 0, none⟩ (.int .i64 0)).setCell ⟨w.heap.size + 1 + 1, 0, none⟩ (.bool false)) (v := .bool false) (a := ⟨w.heap.size + 1 + 1, 0, none⟩) (by simp [go_sem, q2]) (grownBy_putObj' ((W.setCell ⟨w.heap.size + 1, 0, none⟩ (.int .i64 0)).setCell ⟨w.heap.size + 1 + 1, 0, none⟩ (.bool false)) D (.deferred none)) (fun r e => by cases e; exact ⟨_, hK', rfl⟩)
    refine ⟨.tuple #[.int .i64 0, .bool false], ?_, by rw [← hys]; rfl, ((hBl.setCell (p := ⟨w.heap.size + 1, 0, none⟩) (by simp) _).setCell (p := ⟨w.heap.size + 1 + 1, 0, none⟩) (by simp; omega) _).trans (belowK_b (w := w) (Nat.le_refl _) _ D _ _ (by omega) hK' rfl rfl)⟩
    simp [results, Tryd.f23, go_sem, hc5, hc6]
  case stop =>
    rintro D c pre W hD hpre ⟨⟨rfl, x, rfl, q1, q2⟩, hBl⟩ hK
    gi_wp2
    refine ⟨by simp, .inl ⟨_, _, rfl, run_takeDeferred hK, ?_⟩⟩
    have hc5 := cell_kept q1 (grownBy_putObj' _ D (.deferred none)) (fun r e => by cases e; exact ⟨_, hK, rfl⟩)
    have hc6 := cell_kept q2 (grownBy_putObj' _ D (.deferred none)) (fun r e => by cases e; exact ⟨_, hK, rfl⟩)
    have hh : (bo C 256).head? = some x := by
      obtain ⟨t, ht⟩ := hpre
      rw [← ht]
      rfl
    refine ⟨.tuple #[.int .i64 x, .bool true], ?_, by rw [hh]; rfl, hBl.trans (belowK_b (w := w) (Nat.le_refl _) W D _ _ (by omega) hK rfl rfl)⟩
    simp [results, Tryd.f23, go_sem, hc5, hc6]
end Go.Proofs.YthgiknkglnagbaaDoor
