/-
  The contract of bitmap.List.
  The contract of bitmap.Next.
  What the laws want of a queue of four levels: the contracts of its calls, as one structure over what a queue in memory is.
  Contract of the law's do: what an act does to a queue, and what it tells.
-/
import Derived.Test.YtdoceldofkaapaaGreatDoorXai
import Derived.Test.YtdoceldofkaapaaGreatDoorWdo2
set_option linter.unusedVariables false
set_option linter.unusedSimpArgs false
namespace Go.Proofs.YtdoceldofkaapaaGreatDoor.Bm
open Go.RowKit Go.Shelf
attribute [local go_sem] Oper.semAt_some

theorem info3 : (Tryz.prog.info? 3).map (fun i => (i.zero, i.size, i.bytes)) = some (some (.int .i64 0), 1, 8) := by kernel_rfl
theorem Tab.pos {w : World} (h : Tab w) : 0 < w.heap.size := World.block_lt_of_cell? w ⟨0, 0, none⟩ (h 0 (by decide))
theorem Tab.below {n : Nat} {w w' : World} (h : Tab w) (k : Below n w w') (hn : 0 < n) : Tab w' := fun j hj => (k.cell (p := ⟨0, j, none⟩) hn).trans (h j hj)
theorem src_append {W w1 : World} {Bn bx : Nat} {B : Nat → Nat} {v v' : Value} {tmp : Obj} {n₀ k : Nat} {xs : List Value} (s : Src Bn B W) (hrow : W.ownsRow n₀ 3 1 v k xs) (hgrow : (W.alloc tmp).grownBy w1 v.ownBlock)
    (hne : Bn ≠ bx) (hb : Below n₀ W (w1.setCell ⟨bx, 0, none⟩ v')) (h0 : 0 < n₀) : Src Bn B (w1.setCell ⟨bx, 0, none⟩ v') := by
  refine ⟨?_, s.2.below hb h0⟩
  have hlt : Bn < W.heap.size := (Array.getElem?_eq_some_iff.1 s.1).1
  have h1 : (W.alloc tmp).heap[Bn]? = W.heap[Bn]? := Below.heap_alloc W _ Bn hlt
  have hno : some Bn ≠ v.ownBlock := by
    rcases hrow.2 with ⟨rfl, _⟩ | ⟨g, cap, cur, rfl, _, hgb, _⟩
    · simp [Value.ownBlock]
    · intro e
      obtain rfl : Bn = g := by simpa [Value.ownBlock] using e
      have := s.1.symm.trans hgb
      simp at this
  have h2 := hgrow.block Bn (by simp; omega) hno
  have h3 := (grownBy_setCell' w1 bx v').block Bn (by have := hgrow.size; simp at this; omega) (by simpa using hne)
  exact h3.trans (h2.trans (h1.trans s.1))
/-- A number of a bit, as a value. -/
def vi (x : Nat) : Value := .int .i64 x
end Go.Proofs.YtdoceldofkaapaaGreatDoor.Bm
namespace Go.Proofs.YtdoceldofkaapaaGreatDoor.Bm
open Go.RowKit Go.Shelf
attribute [local go_sem] Oper.semAt_some

theorem each_any (B : Nat → Nat) (w : World) : Calls Tryz.prog 121 #[.agg #[.int .u64 (B 0), .int .u64 (B 1), .int .u64 (B 2), .int .u64 (B 3)]] w fun e w' =>
    ∃ Bn, e = .returned (.func (.func 138) #[] #[.pointer (some ⟨Bn, 0, none⟩)]) ∧ w.heap.size ≤ Bn ∧ w'.heap[Bn]? = some (.cells #[.int .u64 (B 0), .int .u64 (B 1), .int .u64 (B 2), .int .u64 (B 3)] 50 (0, 0)) ∧ Bel w w' := by
  refine (callsIn_wide.1 (each_in 0 B w)).mono ?_
  rintro e w' ⟨rfl, rfl⟩
  exact ⟨_, rfl, Nat.le_refl _, World.alloc_heap_new _ _, (Bel.refl _).alloc _ _⟩
/-- An answer of a number, if there is one. -/
def ans : Option Nat → Value
  | some m => .tuple #[.int .i64 m, .bool true]
  | none => .tuple #[.int .i64 0, .bool false]
theorem held_box {w0 w w' : World} {N : Nat} {x0 x1 x2 x3 : Int} (hg : Bel w w')
    (h : Bel w0 w ∧ w.cell? ⟨N, 0, none⟩ = some (.int .u64 x0) ∧ w.cell? ⟨N, 1, none⟩ = some (.int .u64 x1) ∧ w.cell? ⟨N, 2, none⟩ = some (.int .u64 x2) ∧ w.cell? ⟨N, 3, none⟩ = some (.int .u64 x3)) :
    Bel w0 w' ∧ w'.cell? ⟨N, 0, none⟩ = some (.int .u64 x0) ∧ w'.cell? ⟨N, 1, none⟩ = some (.int .u64 x1) ∧ w'.cell? ⟨N, 2, none⟩ = some (.int .u64 x2) ∧ w'.cell? ⟨N, 3, none⟩ = some (.int .u64 x3) :=
  ⟨h.1.trans hg, hg.cell h.2.1, hg.cell h.2.2.1, hg.cell h.2.2.2.1, hg.cell h.2.2.2.2⟩
set_option maxRecDepth 100000 in
set_option maxHeartbeats 2000000 in
theorem next_any (B : Nat → Nat) (hB : Wd B) (from_ : Int) (h1 : from_ ≤ 9223372036854775807) (w : World) (hT : Tab w) :
    Calls Tryz.prog 88 #[.agg #[.int .u64 (B 0), .int .u64 (B 1), .int .u64 (B 2), .int .u64 (B 3)], .int .i64 from_] w fun e W' =>
      e = .returned (ans (bo (wth B (bl from_.toNat)) 256).head?) ∧ Bel w W' := by
  have K1 := Lib.hid (below_any from_ h1)
  have K2 := Lib.hid (without_any B (bl from_.toNat) hB (bl_wd _))
  have hC := wth_wd hB (bl from_.toNat)
  generalize wth B (bl from_.toNat) = C at *
  generalize bl from_.toNat = L at *
  have K3 := Lib.hid (each_any C)
  clear hB h1
  have hp := hT.pos
  have HT := Lib.hid hT
  clear hT
  refine (callsIn_wide (n := 4)).1 ?_
  have hro : Fence.wide.round = none := rfl
  refine callsIn_of_wp_marks Tryz.func88 rfl trivial ?_ hro
  simp only [Tryz.ntmps88, List.size_toArray, List.length_cons, List.length_nil, Nat.reduceAdd, Nat.reduceSub, Array.replicate_succ, Array.replicate_zero, List.push_toArray, List.append_toArray, List.nil_append, List.cons_append]
  refine wpIn_wide.2 ?_
  go_wp2
  go_region_held3 (fun w' => Bel w w' ∧ w'.cell? ⟨w.heap.size, 0, none⟩ = some (.int .u64 (B 0)) ∧ w'.cell? ⟨w.heap.size, 1, none⟩ = some (.int .u64 (B 1)) ∧ w'.cell? ⟨w.heap.size, 2, none⟩ = some (.int .u64 (B 2)) ∧ w'.cell? ⟨w.heap.size, 3, none⟩ = some (.int .u64 (B 3)))
    (first | exact ⟨((((Bel.refl w).alloc _ _).alloc _ _).alloc _ _).drew, by simp [go_sem, World.cell?_alloc_past], by simp [go_sem, World.cell?_alloc_past], by simp [go_sem, World.cell?_alloc_past], by simp [go_sem, World.cell?_alloc_past]⟩ | exact held_box hg1 ‹_›)
    (first
      | (go_at_call 123; (with_reducible refine (K1.out _).mono ?_); rintro e w1 ⟨rfl, hg1⟩)
      | (go_at_call 122; (with_reducible refine (K2.out _).mono ?_); rintro e w1 ⟨rfl, hg1⟩)
      | (go_at_call 121; (with_reducible refine (K3.out _).mono ?_); rintro e w1 ⟨Bn, rfl, hBn, hF, hg1⟩))
  rename_i wa ga wb gb hheld
  have gw : Bel ((((w.alloc (.cells #[.int .u64 (B 0), .int .u64 (B 1), .int .u64 (B 2), .int .u64 (B 3)] 50)).alloc (.cells #[.int .i64 0] 3)).alloc (.cells #[.bool false] 4)).drew) w1 := (ga.trans gb).trans hg1
  have hBw : Below w.heap.size w w1 := hheld.1
  have hT1 : Tab w1 := HT.out.bel hheld.1
  have r1 : w1.cell? ⟨w.heap.size + 1, 0, none⟩ = some (.int .i64 0) := gw.cell (by simp [go_sem])
  have r2 : w1.cell? ⟨w.heap.size + 1 + 1, 0, none⟩ = some (.bool false) := gw.cell (by simp [go_sem])
  have f1 : w1.frozen? ⟨w.heap.size + 1, 0, none⟩ = false := gw.froz (v := .int .i64 0) (by simp [go_sem]) (by simp [go_sem])
  have f2 : w1.frozen? ⟨w.heap.size + 1 + 1, 0, none⟩ = false := gw.froz (v := .bool false) (by simp [go_sem]) (by simp [go_sem])
  have z1 : w.heap.size + 1 + 1 + 1 ≤ w1.heap.size := by have := gw.size; simpa using this
  have z2 : Bn < w1.heap.size := (Array.getElem?_eq_some_iff.1 hF).1
  have hSrc : Src Bn C w1 := ⟨hF, hT1⟩
  clear ga gb gw hg1 hheld K1 K2 K3 hBn hF
  go_wp2
  refine (wpIn_wide (n := 4)).1 ?_
  refine wpIn_rangeFunc_ownG hro (by omega) (gf := 138) (lb := #[.pointer (some ⟨Bn, 0, none⟩)]) rfl trivial (enters_of Tryz.func138 (by kernel_rfl) rfl)
    (each_stops 3 (by omega) Bn C hC w1 hSrc) kp_t (kp_b z2 (by omega)) (Below.refl _ _) (fun _ => rfl)
    (fun pre W => (pre = [] ∧ W.cell? ⟨w.heap.size + 1, 0, none⟩ = some (.int .i64 0) ∧ W.frozen? ⟨w.heap.size + 1, 0, none⟩ = false ∧ W.cell? ⟨w.heap.size + 1 + 1, 0, none⟩ = some (.bool false) ∧ W.frozen? ⟨w.heap.size + 1 + 1, 0, none⟩ = false) ∧ Below w.heap.size w W)
    (fun c pre W => (c = .ret ∧ ∃ x : Nat, pre = [x] ∧ W.cell? ⟨w.heap.size + 1, 0, none⟩ = some (.int .i64 x) ∧ W.cell? ⟨w.heap.size + 1 + 1, 0, none⟩ = some (.bool true)) ∧ Below w.heap.size w W)
    (OwnFrom.and (Own.from (fun s A B row hs hg hr => ⟨hs.1, cell_kept hs.2.1 hg hr, (frozen_kept hs.2.1 hg hr).trans hs.2.2.1, cell_kept hs.2.2.2.1 hg hr, (frozen_kept hs.2.2.2.1 hg hr).trans hs.2.2.2.2⟩) _) (ownFrom_below (Nat.le_refl _) (by omega)))
    (fun c => OwnFrom.and (Own.from (fun s A B row hs hg hr => by obtain ⟨hc, x, e1, e2, e3⟩ := hs; exact ⟨hc, x, e1, cell_kept e2 hg hr, cell_kept e3 hg hr⟩) _) (ownFrom_below (Nat.le_refl _) (by omega)))
    ⟨⟨rfl, r1, f1, r2, f2⟩, hBw⟩
    (fun x => { tmps := #[.agg #[.int .u64 (B 0), .int .u64 (B 1), .int .u64 (B 2), .int .u64 (B 3)], .int .i64 from_, .pointer (some ⟨w.heap.size, 0, none⟩), undef, .pointer (some ⟨w.heap.size + 1, 0, none⟩), .pointer (some ⟨w.heap.size + 1 + 1, 0, none⟩), .int .i64 x, .agg #[.int .u64 (B 0), .int .u64 (B 1), .int .u64 (B 2), .int .u64 (B 3)], .int .i64 from_, .agg #[.int .u64 (L 0), .int .u64 (L 1), .int .u64 (L 2), .int .u64 (L 3)], .agg #[.int .u64 (C 0), .int .u64 (C 1), .int .u64 (C 2), .int .u64 (C 3)], .func (.func 138) #[] #[.pointer (some ⟨Bn, 0, none⟩)], .int .i64 x, undef], defers := [] }) ?assign ?body ?done ?stop
  case assign =>
    intro l x W K hK
    gi_wp2
    exact hK
  case body =>
    rintro l pre x W ⟨⟨rfl, q1, g1, q2, g2⟩, hBl⟩ hlt
    gi_wp2
    refine ⟨((KeepsOthers.setCell _ _ _).trans (KeepsOthers.setCell _ _ _)).from _, ⟨rfl, x, rfl, ?_, ?_⟩, (hBl.setCell (p := ⟨w.heap.size + 1, 0, none⟩) (by simp) _).setCell (p := ⟨w.heap.size + 1 + 1, 0, none⟩) (by simp; omega) _⟩
    · simp [go_sem, q1]
    · simp [go_sem, q2]
  case done =>
    rintro D ys W hD hys ⟨⟨rfl, q1, g1, q2, g2⟩, hBl⟩ hK
    go_wp2
    have hK' := ((KeepsOthers.setCell W ⟨w.heap.size + 1, 0, none⟩ (.int .i64 0)).trans (KeepsOthers.setCell _ ⟨w.heap.size + 1 + 1, 0, none⟩ (.bool false))).same D _ hK rfl
    refine ⟨by simp, .inl ⟨_, _, rfl, run_takeDeferred hK', ?_⟩⟩
    have hc5 := cell_kept (W := (W.setCell ⟨w.heap.size + 1, 0, none⟩ (.int .i64 0)).setCell ⟨w.heap.size + 1 + 1, 0, none⟩ (.bool false)) (v := .int .i64 0) (a := ⟨w.heap.size + 1, 0, none⟩) (by simp [go_sem, q1]) (grownBy_putObj' ((W.setCell ⟨w.heap.size + 1, 0, none⟩ (.int .i64 0)).setCell ⟨w.heap.size + 1 + 1, 0, none⟩ (.bool false)) D (.deferred none)) (fun r e => by cases e; exact ⟨_, hK', rfl⟩)
    have hc6 := cell_kept (W := (W.setCell ⟨w.heap.size + 1, 0, none⟩ (.int .i64 0)).setCell ⟨w.heap.size + 1 + 1, 0, none⟩ (.bool false)) (v := .bool false) (a := ⟨w.heap.size + 1 + 1, 0, none⟩) (by simp [go_sem, q2]) (grownBy_putObj' ((W.setCell ⟨w.heap.size + 1, 0, none⟩ (.int .i64 0)).setCell ⟨w.heap.size + 1 + 1, 0, none⟩ (.bool false)) D (.deferred none)) (fun r e => by cases e; exact ⟨_, hK', rfl⟩)
    refine ⟨.tuple #[.int .i64 0, .bool false], ?_, by rw [← hys]; rfl, ((hBl.setCell (p := ⟨w.heap.size + 1, 0, none⟩) (by simp) _).setCell (p := ⟨w.heap.size + 1 + 1, 0, none⟩) (by simp; omega) _).trans (belowK_b (w := w) (Nat.le_refl _) _ D _ _ (by omega) hK' rfl rfl)⟩
    simp [results, Tryz.f88, go_sem, hc5, hc6]
  case stop =>
    rintro D c pre W hD hpre ⟨⟨rfl, x, rfl, q1, q2⟩, hBl⟩ hK
    gi_wp2
    refine ⟨by simp, .inl ⟨_, _, rfl, run_takeDeferred hK, ?_⟩⟩
    have hc5 := cell_kept q1 (grownBy_putObj' _ D (.deferred none)) (fun r e => by cases e; exact ⟨_, hK, rfl⟩)
    have hc6 := cell_kept q2 (grownBy_putObj' _ D (.deferred none)) (fun r e => by cases e; exact ⟨_, hK, rfl⟩)
    have hh : (bo C 256).head? = some x := by
      obtain ⟨t, ht⟩ := hpre
      rw [← ht]
      rfl
    refine ⟨.tuple #[.int .i64 x, .bool true], ?_, by rw [hh]; rfl, hBl.trans (belowK_b (w := w) (Nat.le_refl _) W D _ _ (by omega) hK rfl rfl)⟩
    simp [results, Tryz.f88, go_sem, hc5, hc6]
end Go.Proofs.YtdoceldofkaapaaGreatDoor.Bm
namespace Go.Proofs.YtdoceldofkaapaaGreatDoor
open Go.RowKit
theorem tab_bel {w w' : World} (h : Bm.Tab w) (k : Bel w w') : Bm.Tab w' := fun j hj => k.cell (h j hj)
/-- Blocks that a queue has behind a call: those it had, and new ones. -/
def Grw (f f' : Nat → Prop) (w w' : World) : Prop := ∀ j, f' j → f j ∨ (w.heap.size ≤ j ∧ j < w'.heap.size)
abbrev QT := (Nat → Prop) → World → Nat → Nat → Nat → Int → Int → List T → Prop
/-- A queue (its blocks in f, at Q, of P places and bits b, its base s, k cascades so far, the timers l in order) and its calls. -/
structure Con (Qu : QT) : Prop where
  off : ∀ {f g w w' Q P b s k l}, Qu f w Q P b s k l → Off g w w' → (∀ i, f i → ¬ g i) → ¬ g 0 → Qu f w' Q P b s k l
  lt_ : ∀ {f w Q P b s k l}, Qu f w Q P b s k l → ∀ j, f j → j < w.heap.size
  z : ∀ {f w Q P b s k l}, Qu f w Q P b s k l → ¬ f 0
  pos : ∀ {f w Q P b s k l}, Qu f w Q P b s k l → 0 < w.heap.size
  so : ∀ {f w Q P b s k l}, Qu f w Q P b s k l → So l
  len : ∀ {f w Q P b s k l}, Qu f w Q P b s k l → l.length ≤ P
  hP : ∀ {f w Q P b s k l}, Qu f w Q P b s k l → P ≤ 1024
  hb : ∀ {f w Q P b s k l}, Qu f w Q P b s k l → 1 ≤ b ∧ b ≤ 6
  base : ∀ {f w Q P b s k l}, Qu f w Q P b s k l → Tk s
  ticks : ∀ {f w Q P b s k l}, Qu f w Q P b s k l → ∀ t ∈ l, Tk t.a
  places : ∀ {f w Q P b s k l}, Qu f w Q P b s k l → (l.map T.p).Nodup ∧ ∀ t ∈ l, hp P t.p = true
  zp : ∀ {f w Q P b s k l}, Qu f w Q P b s k l → ∃ Z, w.cell? ⟨Q, 0, none⟩ = some (.pointer (some ⟨Z, 0, none⟩))
  qnew_no : ∀ (P b s : Int) (w : World), ¬ ((0 ≤ P ∧ P ≤ 1024) ∧ 1 ≤ b ∧ b ≤ 6) → Calls Tryz.prog 26 #[.int .i64 P, .int .i64 b, .int .u64 s] w fun e w' => e = .returned (.tuple #[.pointer none, .int .i64 1]) ∧ Bel w w'
  qnew_yes : ∀ (P b : Nat) (s : Int) (w : World), P ≤ 1024 → 1 ≤ b ∧ b ≤ 6 → Tk s → Bm.Tab w → Calls Tryz.prog 26 #[.int .i64 P, .int .i64 b, .int .u64 s] w fun e w' => ∃ Q f, e = .returned (.tuple #[.pointer (some ⟨Q, 0, none⟩), .int .i64 0]) ∧ Qu f w' Q P b s 0 [] ∧ (∀ k, f k → w.heap.size ≤ k) ∧ Bel w w'
  insert : ∀ {f Q P b s k l} (t : T) (w : World), Qu f w Q P b s k l → Tk t.a → Calls Tryz.prog 37 #[.pointer (some ⟨Q, 0, none⟩), .agg #[.int .u64 t.a, .int .u64 t.s, .int .i64 t.p]] w fun e w' => e = .returned (.int .i64 (insE P l t)) ∧ ∃ f', Grw f f' w w' ∧ Qu f' w' Q P b s k (insL P l t) ∧ Off f w w'
  cancel : ∀ {f Q P b s k l} (p : Int) (w : World), Qu f w Q P b s k l → Calls Tryz.prog 56 #[.pointer (some ⟨Q, 0, none⟩), .int .i64 p] w fun e w' => e = .returned (canV ((fnd l p).getD default) (canE P l p)) ∧ ∃ f', Grw f f' w w' ∧ Qu f' w' Q P b s k (wo l p) ∧ Off f w w'
  move : ∀ {f Q P b s k l} (t : T) (w : World), Qu f w Q P b s k l → Tk t.a → Calls Tryz.prog 55 #[.pointer (some ⟨Q, 0, none⟩), .agg #[.int .u64 t.a, .int .u64 t.s, .int .i64 t.p]] w fun e w' => e = .returned (.int .i64 (canE P l t.p)) ∧ ∃ f', Grw f f' w w' ∧ Qu f' w' Q P b s k (movL P l t) ∧ Off f w w'
  due : ∀ {f Q P b s k l} (now : Int) (w : World), Qu f w Q P b s k l → Tk now → Calls Tryz.prog 38 #[.pointer (some ⟨Q, 0, none⟩), .int .u64 now] w fun e w' => ∃ p c f', e = .returned (.slice p (due l now true).length c) ∧ (due l now true).length ≤ c ∧ Lies (fun j => old w j ∨ f' j) w' p (encs (due l now true)) ∧ Grw f f' w w' ∧ Qu f' w' Q P b (max s now) (k + (csc b s now l : Int)) (due l now false) ∧ Off f w w'
  get : ∀ {f Q Z P b s k l} (p : Int) (w : World), Qu f w Q P b s k l → w.cell? ⟨Q, 0, none⟩ = some (.pointer (some ⟨Z, 0, none⟩)) → Calls Tryz.prog 19 #[.pointer (some ⟨Z, 0, none⟩), .int .i64 p] w fun e w' => e = .returned (ansT (fnd l p)) ∧ Bel w w'
  min : ∀ {f Q P b s k l} (w : World), Qu f w Q P b s k l → Calls Tryz.prog 34 #[.pointer (some ⟨Q, 0, none⟩)] w fun e w' => e = .returned (ansT l.head?) ∧ Bel w w'
  count : ∀ {f Q Z P b s k l} (w : World), Qu f w Q P b s k l → w.cell? ⟨Q, 0, none⟩ = some (.pointer (some ⟨Z, 0, none⟩)) → Calls Tryz.prog 18 #[.pointer (some ⟨Z, 0, none⟩)] w fun e w' => e = .returned (.int .i64 l.length) ∧ Bel w w'
  all : ∀ {f Q Z P b s k l} (w : World), Qu f w Q P b s k l → w.cell? ⟨Q, 0, none⟩ = some (.pointer (some ⟨Z, 0, none⟩)) → Calls Tryz.prog 24 #[.pointer (some ⟨Z, 0, none⟩)] w fun e w' => ∃ p c, e = .returned (.slice p l.length c) ∧ l.length ≤ c ∧ Lies (old w) w' p (encs l) ∧ Bel w w'
  based : ∀ {f Q P b s k l} (w : World), Qu f w Q P b s k l → Calls Tryz.prog 32 #[.pointer (some ⟨Q, 0, none⟩)] w fun e w' => e = .returned (.int .u64 s) ∧ Bel w w'
  cascades : ∀ {f Q P b s k l} (w : World), Qu f w Q P b s k l → 0 ≤ k → k ≤ 1000000000 → Calls Tryz.prog 33 #[.pointer (some ⟨Q, 0, none⟩)] w fun e w' => e = .returned (.int .i64 k) ∧ Bel w w'
  where_ : ∀ {f Q P b s k l} (p : Int) (w : World), Qu f w Q P b s k l → Calls Tryz.prog 30 #[.pointer (some ⟨Q, 0, none⟩), .int .i64 p] w fun e w' => e = .returned (whr b s (fnd l p)) ∧ Bel w w'
theorem Con.bel {Qu : QT} (C : Con Qu) {f w w' Q P b s k l} (h : Qu f w Q P b s k l) (hb : Bel w w') : Qu f w' Q P b s k l := C.off h hb (fun _ _ e => e) (fun e => e)
end Go.Proofs.YtdoceldofkaapaaGreatDoor
namespace Go.Proofs.YtdoceldofkaapaaGreatDoor
open Go.RowKit
/-- Behind an act: the queue, and what was told. -/
structure DidW (Qu : QT) (f : Nat → Prop) (w w' : World) (Q P b : Nat) (s kk : Int) (l : List T) (p : Option Addr) (d : List T) : Prop where
  intro ::
  ex : ∃ f', Grw f f' w w' ∧ Qu f' w' Q P b s kk l ∧ Lies (fun j => old w j ∨ f' j) w' p (encs d)
  off : Off f w w'
theorem DidW.has {Qu : QT} {f : Nat → Prop} {w w' : World} {Q P b : Nat} {s kk : Int} {l d : List T} {p : Option Addr} (h : DidW Qu f w w' Q P b s kk l p d) : Has w' p d := by
  obtain ⟨⟨f', h1, h2, h3⟩, h4⟩ := h
  exact h3.has
theorem DidW.mk' {Qu : QT} (C : Con Qu) {f f' : Nat → Prop} {w W w1 w2 : World} {Q P b b1 : Nat} {s kk : Int} {l : List T} {p : Option Addr} {d : List T} (hB : Bel w W) (ho : Off f W w1) (hff : Grw f f' W w1) (hq : Qu f' w1 Q P b s kk l) (hb : w.heap.size ≤ b1 ∧ b1 < W.heap.size) (hlt : ∀ k, f k → k < w.heap.size)
    (hd : d = [] ∨ Lies (fun j => old W j ∨ f' j) w1 p (encs d)) (o5 : Off (fun k => k = b1) w1 w2) (h0 : 0 < w.heap.size) : DidW Qu f w w2 Q P b s kk l p d := by
  have nb : ∀ i, f' i → ¬ i = b1 := fun i e e2 => by
    rcases hff i e with h | h
    · have := hlt i h; omega
    · omega
  refine ⟨⟨f', fun j e => ?_, C.off hq o5 nb (fun e => by have : 0 = b1 := e; omega), ?_⟩, Off.trans ((hB.off f).then ho) o5 (fun i e => .inr (by have : i = b1 := e; omega))⟩
  · rcases hff j e with h | h
    · exact .inl h
    · exact .inr ⟨Nat.le_trans hB.size h.1, Nat.lt_of_lt_of_le h.2 o5.size⟩
  · rcases hd with rfl | h
    · exact .inl rfl
    · exact (h.off (o5.mono (g := fun j => old W j ∨ f' j) (fun i _ e => by unfold old; have : i = b1 := e; exact .inl (by omega))) (fun i e => e)).mono (fun b _ e => by
        rcases e with e | e
        · exact .inl (Nat.lt_of_lt_of_le e hB.size)
        · exact .inr e)
theorem DidW.mk {Qu : QT} (C : Con Qu) {f f' : Nat → Prop} {w W w1 : World} {Q P b b1 : Nat} {s kk : Int} {l : List T} {p : Option Addr} {d : List T} {x0 x1 x2 x3 x4 : Value} (hB : Bel w W) (ho : Off f W w1) (hff : Grw f f' W w1) (hq : Qu f' w1 Q P b s kk l) (hb : w.heap.size ≤ b1 ∧ b1 < W.heap.size) (hlt : ∀ k, f k → k < w.heap.size)
    (hd : d = [] ∨ Lies (fun j => old W j ∨ f' j) w1 p (encs d)) (h0 : 0 < w.heap.size) : DidW Qu f w (sto5 w1 b1 x0 x1 x2 x3 x4) Q P b s kk l p d := DidW.mk' C hB ho hff hq hb hlt hd (offs5 _ _ _ _ _ _ _) h0
set_option maxHeartbeats 1000000 in
theorem do0 {Qu : QT} (C : Con Qu) (f : Nat → Prop) (Q P b : Nat) (s kk : Int) (l : List T) (t : T) (now : Int) (w : World) (h : Qu f w Q P b s kk l) (ht : Tk t.a) (hnw : Tk now) :
    Calls Tryz.prog 29 #[.pointer (some ⟨Q, 0, none⟩), akV 0 t now] w fun e w' => ∃ p c, e = .returned (tdV (insE P l t) default p 0 c) ∧ DidW Qu f w w' Q P b s kk (insL P l t) p [] := by
  have H2 := Lib.hid (two_new w #[.int .i64 0, .int .u64 t.a, .int .u64 t.s, .int .i64 t.p, .int .u64 now] #[.int .i64 0, .int .u64 0, .int .u64 0, .int .i64 0, .slice none 0 0] 43 39)
  have HLT := Lib.hid (C.lt_ h)
  have H := Lib.hid h
  have K := Lib.hid (fun w' (h : Qu f w' Q P b s kk l) => C.insert t w' h ht)
  clear h
  unfold akV tdV
  generalize insE P l t = er at *
  simp only [default]
  go_enter Tryz.func29, Tryz.ntmps29
  go_upto_region 1 with (fail)
  obtain ⟨W, eW, hB, hz, n0, n1⟩ := H2.out
  rw [eW]
  clear H2 eW
  obtain ⟨b1, e1⟩ : ∃ b, w.heap.size + 1 = b := ⟨_, rfl⟩
  rw [e1] at n1 hz ⊢
  obtain ⟨⟨x0, x1, x2, x3, x4⟩, _⟩ := box5 n0
  have HB := Lib.hid hB
  have HN1 := Lib.hid n1
  have l1 : b1 < W.heap.size := by omega
  clear hB n0 n1
  go_wp2_with fail
  with_reducible refine (K.out _ (C.bel H.out HB.out)).mono ?_
  rintro e w1 ⟨rfl, f', hff, hq, ho⟩
  have n2 : w1.heap[b1]? = some (.cells #[.int .i64 0, .int .u64 0, .int .u64 0, .int .i64 0, .slice none 0 0] 39 (0, 0)) := (ho.block _ l1 (fun e => by have := HLT.out _ e; omega)).trans HN1.out
  obtain ⟨⟨y0, y1, y2, y3, y4⟩, g0, g1, g2, g3, g4⟩ := box5 n2
  have HE : Hid (DidW Qu f w (((((w1.setCell ⟨b1, 0, none⟩ (.int .i64 er)).setCell ⟨b1, 1, none⟩ (.int .u64 0)).setCell ⟨b1, 2, none⟩ (.int .u64 0)).setCell ⟨b1, 3, none⟩ (.int .i64 0)).setCell ⟨b1, 4, none⟩ (.slice none 0 0)) Q P b s kk (insL P l t) none []) := Lib.hid (DidW.mk C HB.out ho hff hq ⟨by omega, by omega⟩ HLT.out (.inl rfl) (C.pos H.out))
  clear hq ho n2
  go_wp2
  exact bodyPost_ret (v := .agg #[.int .i64 er, .int .u64 0, .int .u64 0, .int .i64 0, .slice none 0 0]) (by simp [results, Tryz.results29, go_sem, y0, y1, y2, y3, y4]) rfl ⟨none, 0, rfl, HE.out⟩
set_option maxHeartbeats 1000000 in
theorem do2 {Qu : QT} (C : Con Qu) (f : Nat → Prop) (Q P b : Nat) (s kk : Int) (l : List T) (t : T) (now : Int) (w : World) (h : Qu f w Q P b s kk l) (ht : Tk t.a) (hnw : Tk now) :
    Calls Tryz.prog 29 #[.pointer (some ⟨Q, 0, none⟩), akV 2 t now] w fun e w' => ∃ p c, e = .returned (tdV (canE P l t.p) default p 0 c) ∧ DidW Qu f w w' Q P b s kk (movL P l t) p [] := by
  have H2 := Lib.hid (two_new w #[.int .i64 2, .int .u64 t.a, .int .u64 t.s, .int .i64 t.p, .int .u64 now] #[.int .i64 0, .int .u64 0, .int .u64 0, .int .i64 0, .slice none 0 0] 43 39)
  have HLT := Lib.hid (C.lt_ h)
  have H := Lib.hid h
  have K := Lib.hid (fun w' (h : Qu f w' Q P b s kk l) => C.move t w' h ht)
  clear h
  unfold akV tdV
  generalize canE P l t.p = er at *
  simp only [default]
  go_enter Tryz.func29, Tryz.ntmps29
  go_upto_region 1 with (fail)
  obtain ⟨W, eW, hB, hz, n0, n1⟩ := H2.out
  rw [eW]
  clear H2 eW
  obtain ⟨b1, e1⟩ : ∃ b, w.heap.size + 1 = b := ⟨_, rfl⟩
  rw [e1] at n1 hz ⊢
  obtain ⟨⟨x0, x1, x2, x3, x4⟩, _⟩ := box5 n0
  have HB := Lib.hid hB
  have HN1 := Lib.hid n1
  have l1 : b1 < W.heap.size := by omega
  clear hB n0 n1
  go_wp2_with fail
  with_reducible refine (K.out _ (C.bel H.out HB.out)).mono ?_
  rintro e w1 ⟨rfl, f', hff, hq, ho⟩
  have n2 : w1.heap[b1]? = some (.cells #[.int .i64 0, .int .u64 0, .int .u64 0, .int .i64 0, .slice none 0 0] 39 (0, 0)) := (ho.block _ l1 (fun e => by have := HLT.out _ e; omega)).trans HN1.out
  obtain ⟨⟨y0, y1, y2, y3, y4⟩, g0, g1, g2, g3, g4⟩ := box5 n2
  have HE : Hid (DidW Qu f w (((((w1.setCell ⟨b1, 0, none⟩ (.int .i64 er)).setCell ⟨b1, 1, none⟩ (.int .u64 0)).setCell ⟨b1, 2, none⟩ (.int .u64 0)).setCell ⟨b1, 3, none⟩ (.int .i64 0)).setCell ⟨b1, 4, none⟩ (.slice none 0 0)) Q P b s kk (movL P l t) none []) := Lib.hid (DidW.mk C HB.out ho hff hq ⟨by omega, by omega⟩ HLT.out (.inl rfl) (C.pos H.out))
  clear hq ho n2
  go_wp2
  exact bodyPost_ret (v := .agg #[.int .i64 er, .int .u64 0, .int .u64 0, .int .i64 0, .slice none 0 0]) (by simp [results, Tryz.results29, go_sem, y0, y1, y2, y3, y4]) rfl ⟨none, 0, rfl, HE.out⟩
set_option maxHeartbeats 1000000 in
theorem do1 {Qu : QT} (C : Con Qu) (f : Nat → Prop) (Q P b : Nat) (s kk : Int) (l : List T) (t : T) (now : Int) (w : World) (h : Qu f w Q P b s kk l) (ht : Tk t.a) (hnw : Tk now) :
    Calls Tryz.prog 29 #[.pointer (some ⟨Q, 0, none⟩), akV 1 t now] w fun e w' => ∃ p c, e = .returned (tdV (canE P l t.p) ((fnd l t.p).getD default) p 0 c) ∧ DidW Qu f w w' Q P b s kk (wo l t.p) p [] := by
  have H2 := Lib.hid (two_new w #[.int .i64 1, .int .u64 t.a, .int .u64 t.s, .int .i64 t.p, .int .u64 now] #[.int .i64 0, .int .u64 0, .int .u64 0, .int .i64 0, .slice none 0 0] 43 39)
  have HLT := Lib.hid (C.lt_ h)
  have H := Lib.hid h
  have K := Lib.hid (fun w' (h : Qu f w' Q P b s kk l) => C.cancel t.p w' h)
  clear h
  unfold akV tdV
  unfold canV at K
  generalize canE P l t.p = er at *
  generalize ((fnd l t.p).getD default).a = ta at *
  generalize ((fnd l t.p).getD default).s = ts at *
  generalize ((fnd l t.p).getD default).p = tp at *
  go_enter Tryz.func29, Tryz.ntmps29
  go_upto_region 1 with (fail)
  obtain ⟨W, eW, hB, hz, n0, n1⟩ := H2.out
  rw [eW]
  clear H2 eW
  obtain ⟨b1, e1⟩ : ∃ b, w.heap.size + 1 = b := ⟨_, rfl⟩
  rw [e1] at n1 hz ⊢
  obtain ⟨⟨x0, x1, x2, x3, x4⟩, _⟩ := box5 n0
  have HB := Lib.hid hB
  have HN1 := Lib.hid n1
  have l1 : b1 < W.heap.size := by omega
  clear hB n0 n1
  go_wp2_with fail
  with_reducible refine (K.out _ (C.bel H.out HB.out)).mono ?_
  rintro e w1 ⟨rfl, f', hff, hq, ho⟩
  have n2 : w1.heap[b1]? = some (.cells #[.int .i64 0, .int .u64 0, .int .u64 0, .int .i64 0, .slice none 0 0] 39 (0, 0)) := (ho.block _ l1 (fun e => by have := HLT.out _ e; omega)).trans HN1.out
  have HB3 : Hid (Bel w1 (w1.alloc (.cells #[.int .u64 ta, .int .u64 ts, .int .i64 tp] 37))) := Lib.hid ((Bel.refl _).alloc _ _)
  have HM : Hid ((w1.alloc (.cells #[.int .u64 ta, .int .u64 ts, .int .i64 tp] 37)).heap[w1.heap.size]? = some (.cells #[.int .u64 ta, .int .u64 ts, .int .i64 tp] 37 (0, 0))) := Lib.hid (heap_alloc_new _ _)
  have HQ3 := Lib.hid (C.bel hq HB3.out)
  have HGR : Hid (Grw f f' W (w1.alloc (.cells #[.int .u64 ta, .int .u64 ts, .int .i64 tp] 37))) := Lib.hid (fun j e => by
    rcases hff j e with e | e
    · exact .inl e
    · exact .inr ⟨e.1, Nat.lt_of_lt_of_le e.2 HB3.out.size⟩)
  have HO3 : Hid (Off f W (w1.alloc (.cells #[.int .u64 ta, .int .u64 ts, .int .i64 tp] 37))) := Lib.hid (ho.thenB HB3.out)
  have HN3 := Lib.hid (HB3.out.heap n2)
  clear hq ho n2
  go_upto_region 6 with (fail)
  generalize w1.alloc (.cells #[.int .u64 ta, .int .u64 ts, .int .i64 tp] 37) = W3 at *
  obtain ⟨⟨m0, m1, m2⟩, _⟩ := box3 HM.out
  obtain ⟨⟨y0, y1, y2, y3, y4⟩, g0, g1, g2, g3, g4⟩ := box5 HN3.out
  have HE : Hid (DidW Qu f w (((((W3.setCell ⟨b1, 0, none⟩ (.int .i64 er)).setCell ⟨b1, 1, none⟩ (.int .u64 ta)).setCell ⟨b1, 2, none⟩ (.int .u64 ts)).setCell ⟨b1, 3, none⟩ (.int .i64 tp)).setCell ⟨b1, 4, none⟩ (.slice none 0 0)) Q P b s kk (wo l t.p) none []) := Lib.hid (DidW.mk C HB.out HO3.out HGR.out HQ3.out ⟨by omega, by omega⟩ HLT.out (.inl rfl) (C.pos H.out))
  go_wp2
  exact bodyPost_ret (v := .agg #[.int .i64 er, .int .u64 ta, .int .u64 ts, .int .i64 tp, .slice none 0 0]) (by simp [results, Tryz.results29, go_sem, y0, y1, y2, y3, y4]) rfl ⟨none, 0, rfl, HE.out⟩
set_option maxHeartbeats 1000000 in
theorem do3 {Qu : QT} (C : Con Qu) (f : Nat → Prop) (Q P b : Nat) (s kk : Int) (l : List T) (t : T) (now : Int) (w : World) (h : Qu f w Q P b s kk l) (ht : Tk t.a) (hnw : Tk now) :
    Calls Tryz.prog 29 #[.pointer (some ⟨Q, 0, none⟩), akV 3 t now] w fun e w' => ∃ p c, e = .returned (tdV 0 default p (due l now true).length c) ∧ DidW Qu f w w' Q P b (max s now) (kk + (csc b s now l : Int)) (due l now false) p (due l now true) := by
  have H2 := Lib.hid (two_new w #[.int .i64 3, .int .u64 t.a, .int .u64 t.s, .int .i64 t.p, .int .u64 now] #[.int .i64 0, .int .u64 0, .int .u64 0, .int .i64 0, .slice none 0 0] 43 39)
  have HLT := Lib.hid (C.lt_ h)
  have H := Lib.hid h
  have K := Lib.hid (fun w' (h : Qu f w' Q P b s kk l) => C.due now w' h hnw)
  clear h
  unfold akV tdV
  simp only [default]
  go_enter Tryz.func29, Tryz.ntmps29
  go_upto_region 1 with (fail)
  obtain ⟨W, eW, hB, hz, n0, n1⟩ := H2.out
  rw [eW]
  clear H2 eW
  obtain ⟨b1, e1⟩ : ∃ b, w.heap.size + 1 = b := ⟨_, rfl⟩
  rw [e1] at n1 hz ⊢
  obtain ⟨⟨x0, x1, x2, x3, x4⟩, _⟩ := box5 n0
  have HB := Lib.hid hB
  have HN1 := Lib.hid n1
  have l1 : b1 < W.heap.size := by omega
  clear hB n0 n1
  go_wp2_with fail
  with_reducible refine (K.out _ (C.bel H.out HB.out)).mono ?_
  rintro e w1 ⟨p, c, f', rfl, hc, hl, hff, hq, ho⟩
  have n2 : w1.heap[b1]? = some (.cells #[.int .i64 0, .int .u64 0, .int .u64 0, .int .i64 0, .slice none 0 0] 39 (0, 0)) := (ho.block _ l1 (fun e => by have := HLT.out _ e; omega)).trans HN1.out
  obtain ⟨⟨y0, y1, y2, y3, y4⟩, g0, g1, g2, g3, g4⟩ := box5 n2
  have HE : Hid (DidW Qu f w (((((w1.setCell ⟨b1, 0, none⟩ (.int .i64 0)).setCell ⟨b1, 1, none⟩ (.int .u64 0)).setCell ⟨b1, 2, none⟩ (.int .u64 0)).setCell ⟨b1, 3, none⟩ (.int .i64 0)).setCell ⟨b1, 4, none⟩ (.slice p (due l now true).length c)) Q P b (max s now) (kk + (csc b s now l : Int)) (due l now false) p (due l now true)) := Lib.hid (DidW.mk C HB.out ho hff hq ⟨by omega, by omega⟩ HLT.out (.inr hl) (C.pos H.out))
  clear hq ho n2 hl
  go_wp2
  exact bodyPost_ret (v := .agg #[.int .i64 0, .int .u64 0, .int .u64 0, .int .i64 0, .slice p (due l now true).length c]) (by simp [results, Tryz.results29, go_sem, y0, y1, y2, y3, y4]) rfl ⟨p, c, rfl, HE.out⟩
set_option maxHeartbeats 1000000 in
theorem do9 {Qu : QT} (C : Con Qu) (f : Nat → Prop) (Q P b : Nat) (s kk : Int) (l : List T) (k : Int) (t : T) (now : Int) (w : World) (h : Qu f w Q P b s kk l) (ht : Tk t.a) (hnw : Tk now) (h0 : ¬ k = 0) (h1 : ¬ k = 1) (h2 : ¬ k = 2) (h3 : ¬ k = 3) :
    Calls Tryz.prog 29 #[.pointer (some ⟨Q, 0, none⟩), akV k t now] w fun e w' => ∃ p c, e = .returned (tdV 0 default p 0 c) ∧ DidW Qu f w w' Q P b s kk l p [] := by
  have H2 := Lib.hid (two_new w #[.int .i64 k, .int .u64 t.a, .int .u64 t.s, .int .i64 t.p, .int .u64 now] #[.int .i64 0, .int .u64 0, .int .u64 0, .int .i64 0, .slice none 0 0] 43 39)
  have HLT := Lib.hid (C.lt_ h)
  have H := Lib.hid h
  have k0 : (k == 0) = false := by simpa using h0
  have k1 : (k == 1) = false := by simpa using h1
  have k2 : (k == 2) = false := by simpa using h2
  have k3 : (k == 3) = false := by simpa using h3
  clear h h0 h1 h2 h3
  unfold akV tdV
  simp only [default]
  go_enter Tryz.func29, Tryz.ntmps29
  go_upto_region 1 with (fail)
  obtain ⟨W, eW, hB, hz, n0, n1⟩ := H2.out
  rw [eW]
  clear H2 eW
  obtain ⟨b1, e1⟩ : ∃ b, w.heap.size + 1 = b := ⟨_, rfl⟩
  rw [e1] at n1 hz ⊢
  obtain ⟨⟨x0, x1, x2, x3, x4⟩, _⟩ := box5 n0
  have HB := Lib.hid hB
  have HN1 := Lib.hid n1
  have l1 : b1 < W.heap.size := by omega
  clear hB n0 n1
  obtain ⟨⟨y0, y1, y2, y3, y4⟩, g0, g1, g2, g3, g4⟩ := box5 HN1.out
  have HE : Hid (DidW Qu f w (((((W.setCell ⟨b1, 0, none⟩ (.int .i64 0)).setCell ⟨b1, 1, none⟩ (.int .u64 0)).setCell ⟨b1, 2, none⟩ (.int .u64 0)).setCell ⟨b1, 3, none⟩ (.int .i64 0)).setCell ⟨b1, 4, none⟩ (.slice none 0 0)) Q P b s kk l none []) := Lib.hid (DidW.mk C HB.out (Off.refl _ _) (fun j e => .inl e) (C.bel H.out HB.out) ⟨by omega, by omega⟩ HLT.out (.inl rfl) (C.pos H.out))
  go_wp2
  exact bodyPost_ret (v := .agg #[.int .i64 0, .int .u64 0, .int .u64 0, .int .i64 0, .slice none 0 0]) (by simp [results, Tryz.results29, go_sem, y0, y1, y2, y3, y4]) rfl ⟨none, 0, rfl, HE.out⟩
theorem do_any {Qu : QT} (C : Con Qu) (f : Nat → Prop) (Q P b : Nat) (s kk : Int) (l : List T) (a : Ak) (w : World) (h : Qu f w Q P b s kk l) (ht : Tk a.t.a) (hnw : Tk a.now) :
    Calls Tryz.prog 29 #[.pointer (some ⟨Q, 0, none⟩), akV a.k a.t a.now] w fun e w' => ∃ p c, e = .returned (tdV (stE P l a) (stT l a) p (stD l a).length c) ∧ DidW Qu f w w' Q P b (stB s a) (stKh b s kk l a) (stL P l a) p (stD l a) := by
  obtain ⟨k, t, now⟩ := a
  by_cases h0 : k = 0
  · subst h0; exact do0 C f Q P b s kk l t now w h ht hnw
  · by_cases h1 : k = 1
    · subst h1; exact do1 C f Q P b s kk l t now w h ht hnw
    · by_cases h2 : k = 2
      · subst h2; exact do2 C f Q P b s kk l t now w h ht hnw
      · by_cases h3 : k = 3
        · subst h3; exact do3 C f Q P b s kk l t now w h ht hnw
        · have e1 : stE P l ⟨k, t, now⟩ = 0 := by unfold stE; simp [h0, h1, h2]
          have e2 : stT l ⟨k, t, now⟩ = default := by unfold stT; simp [h1]
          have e3 : stD l ⟨k, t, now⟩ = [] := by unfold stD; simp [h3]
          have e4 : stL P l ⟨k, t, now⟩ = l := by unfold stL; simp [h0, h1, h2, h3]
          have e5 : stB s ⟨k, t, now⟩ = s := by unfold stB; simp [h3]
          have e6 : stKh b s kk l ⟨k, t, now⟩ = kk := by unfold stKh; simp [h3]
          rw [e1, e2, e3, e4, e5, e6]
          exact do9 C f Q P b s kk l k t now w h ht hnw h0 h1 h2 h3
end Go.Proofs.YtdoceldofkaapaaGreatDoor
