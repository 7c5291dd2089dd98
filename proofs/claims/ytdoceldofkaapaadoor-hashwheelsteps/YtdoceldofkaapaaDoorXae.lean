/-
  The contract of bitmap.List.
  The contract of bitmap.Next.
  Blocks of a queue behind a call.
  What the laws want of a queue of slots: the contracts of its calls, as one structure over what a queue in memory is.
-/
import Derived.Test.YtdoceldofkaapaaDoorBiter
import Derived.Test.YtdoceldofkaapaaDoorXab
set_option linter.unusedVariables false
set_option linter.unusedSimpArgs false
namespace Go.Proofs.YtdoceldofkaapaaDoor.Bm
open Go.RowKit Go.Shelf
attribute [local go_sem] Oper.semAt_some

theorem info3 : (Tryd.prog.info? 3).map (fun i => (i.zero, i.size, i.bytes)) = some (some (.int .i64 0), 1, 8) := by kernel_rfl
theorem Tab.pos {w : World} (h : Tab w) : 0 < w.heap.size := World.block_lt_of_cell? w ⟨0, 0, none⟩ (h 0 (by decide))
theorem Tab.below {n : Nat} {w w' : World} (h : Tab w) (k : Below n w w') (hn : 0 < n) : Tab w' := fun j hj => (k.cell (p := ⟨0, j, none⟩) hn).trans (h j hj)
theorem src_append {W w1 : World} {Bn bx : Nat} {B : Nat → Nat} {v v' : Value} {tmp : Obj} {n₀ k : Nat} {xs : List Value} (s : Src Bn B W) (hrow : W.ownsRow n₀ 3 1 v k xs) (hgrow : (W.alloc tmp).grownBy w1 v.ownBlock)
    (hne : Bn ≠ bx) (hb : Below n₀ W (w1.setCell ⟨bx, 0, none⟩ v')) (h0 : 0 < n₀) : Src Bn B (w1.setCell ⟨bx, 0, none⟩ v') := by
  refine ⟨?_, s.2.below hb h0⟩
  have hlt : Bn < W.heap.size := (Array.getElem?_eq_some_iff.1 s.1).1
  have h1 : (W.alloc tmp).heap[Bn]? = W.heap[Bn]? := Below.heap_alloc W _ Bn hlt
  have hno : some Bn ≠ v.ownBlock := by
    rcases hrow.2 with ⟨rfl, _⟩ | ⟨g, cap, cur, rfl, _, hgb, _⟩
    · simp [Value.ownBlock]
    · intro e
      obtain rfl : Bn = g := by simpa [Value.ownBlock] using e
      have := s.1.symm.trans hgb
      simp at this
  have h2 := hgrow.block Bn (by simp; omega) hno
  have h3 := (grownBy_setCell' w1 bx v').block Bn (by have := hgrow.size; simp at this; omega) (by simpa using hne)
  exact h3.trans (h2.trans (h1.trans s.1))
/-- A number of a bit, as a value. -/
def vi (x : Nat) : Value := .int .i64 x
end Go.Proofs.YtdoceldofkaapaaDoor.Bm
namespace Go.Proofs.YtdoceldofkaapaaDoor.Bm
open Go.RowKit Go.Shelf
attribute [local go_sem] Oper.semAt_some

theorem each_any (B : Nat → Nat) (w : World) : Calls Tryd.prog 57 #[.agg #[.int .u64 (B 0), .int .u64 (B 1), .int .u64 (B 2), .int .u64 (B 3)]] w fun e w' =>
    ∃ Bn, e = .returned (.func (.func 73) #[] #[.pointer (some ⟨Bn, 0, none⟩)]) ∧ w.heap.size ≤ Bn ∧ w'.heap[Bn]? = some (.cells #[.int .u64 (B 0), .int .u64 (B 1), .int .u64 (B 2), .int .u64 (B 3)] 32 (0, 0)) ∧ Bel w w' := by
  refine (callsIn_wide.1 (each_in 0 B w)).mono ?_
  rintro e w' ⟨rfl, rfl⟩
  exact ⟨_, rfl, Nat.le_refl _, World.alloc_heap_new _ _, (Bel.refl _).alloc _ _⟩
/-- An answer of a number, if there is one. -/
def ans : Option Nat → Value
  | some m => .tuple #[.int .i64 m, .bool true]
  | none => .tuple #[.int .i64 0, .bool false]
theorem held_box {w0 w w' : World} {N : Nat} {x0 x1 x2 x3 : Int} (hg : Bel w w')
    (h : Bel w0 w ∧ w.cell? ⟨N, 0, none⟩ = some (.int .u64 x0) ∧ w.cell? ⟨N, 1, none⟩ = some (.int .u64 x1) ∧ w.cell? ⟨N, 2, none⟩ = some (.int .u64 x2) ∧ w.cell? ⟨N, 3, none⟩ = some (.int .u64 x3)) :
    Bel w0 w' ∧ w'.cell? ⟨N, 0, none⟩ = some (.int .u64 x0) ∧ w'.cell? ⟨N, 1, none⟩ = some (.int .u64 x1) ∧ w'.cell? ⟨N, 2, none⟩ = some (.int .u64 x2) ∧ w'.cell? ⟨N, 3, none⟩ = some (.int .u64 x3) :=
  ⟨h.1.trans hg, hg.cell h.2.1, hg.cell h.2.2.1, hg.cell h.2.2.2.1, hg.cell h.2.2.2.2⟩
set_option maxRecDepth 100000 in
set_option maxHeartbeats 2000000 in
theorem next_any (B : Nat → Nat) (hB : Wd B) (from_ : Int) (h1 : from_ ≤ 9223372036854775807) (w : World) (hT : Tab w) :
    Calls Tryd.prog 42 #[.agg #[.int .u64 (B 0), .int .u64 (B 1), .int .u64 (B 2), .int .u64 (B 3)], .int .i64 from_] w fun e W' =>
      e = .returned (ans (bo (wth B (bl from_.toNat)) 256).head?) ∧ Bel w W' := by
  have K1 := Lib.hid (below_any from_ h1)
  have K2 := Lib.hid (without_any B (bl from_.toNat) hB (bl_wd _))
  have hC := wth_wd hB (bl from_.toNat)
  generalize wth B (bl from_.toNat) = C at *
  generalize bl from_.toNat = L at *
  have K3 := Lib.hid (each_any C)
  clear hB h1
  have hp := hT.pos
  have HT := Lib.hid hT
  clear hT
  refine (callsIn_wide (n := 4)).1 ?_
  have hro : Fence.wide.round = none := rfl
  refine callsIn_of_wp_marks Tryd.func42 rfl trivial ?_ hro
  simp only [Tryd.ntmps42, List.size_toArray, List.length_cons, List.length_nil, Nat.reduceAdd, Nat.reduceSub, Array.replicate_succ, Array.replicate_zero, List.push_toArray, List.append_toArray, List.nil_append, List.cons_append]
  refine wpIn_wide.2 ?_
  go_wp2
  go_region_held3 (fun w' => Bel w w' ∧ w'.cell? ⟨w.heap.size, 0, none⟩ = some (.int .u64 (B 0)) ∧ w'.cell? ⟨w.heap.size, 1, none⟩ = some (.int .u64 (B 1)) ∧ w'.cell? ⟨w.heap.size, 2, none⟩ = some (.int .u64 (B 2)) ∧ w'.cell? ⟨w.heap.size, 3, none⟩ = some (.int .u64 (B 3)))
    (first | exact ⟨((((Bel.refl w).alloc _ _).alloc _ _).alloc _ _).drew, by simp [go_sem, World.cell?_alloc_past], by simp [go_sem, World.cell?_alloc_past], by simp [go_sem, World.cell?_alloc_past], by simp [go_sem, World.cell?_alloc_past]⟩ | exact held_box hg1 ‹_›)
    (first
      | (go_at_call 59; (with_reducible refine (K1.out _).mono ?_); rintro e w1 ⟨rfl, hg1⟩)
      | (go_at_call 58; (with_reducible refine (K2.out _).mono ?_); rintro e w1 ⟨rfl, hg1⟩)
      | (go_at_call 57; (with_reducible refine (K3.out _).mono ?_); rintro e w1 ⟨Bn, rfl, hBn, hF, hg1⟩))
  rename_i wa ga wb gb hheld
  have gw : Bel ((((w.alloc (.cells #[.int .u64 (B 0), .int .u64 (B 1), .int .u64 (B 2), .int .u64 (B 3)] 32)).alloc (.cells #[.int .i64 0] 3)).alloc (.cells #[.bool false] 4)).drew) w1 := (ga.trans gb).trans hg1
  have hBw : Below w.heap.size w w1 := hheld.1
  have hT1 : Tab w1 := HT.out.bel hheld.1
  have r1 : w1.cell? ⟨w.heap.size + 1, 0, none⟩ = some (.int .i64 0) := gw.cell (by simp [go_sem])
  have r2 : w1.cell? ⟨w.heap.size + 1 + 1, 0, none⟩ = some (.bool false) := gw.cell (by simp [go_sem])
  have f1 : w1.frozen? ⟨w.heap.size + 1, 0, none⟩ = false := gw.froz (v := .int .i64 0) (by simp [go_sem]) (by simp [go_sem])
  have f2 : w1.frozen? ⟨w.heap.size + 1 + 1, 0, none⟩ = false := gw.froz (v := .bool false) (by simp [go_sem]) (by simp [go_sem])
  have z1 : w.heap.size + 1 + 1 + 1 ≤ w1.heap.size := by have := gw.size; simpa using this
  have z2 : Bn < w1.heap.size := (Array.getElem?_eq_some_iff.1 hF).1
  have hSrc : Src Bn C w1 := ⟨hF, hT1⟩
  clear ga gb gw hg1 hheld K1 K2 K3 hBn hF
  go_wp2
  refine (wpIn_wide (n := 4)).1 ?_
  refine wpIn_rangeFunc_ownG hro (by omega) (gf := 73) (lb := #[.pointer (some ⟨Bn, 0, none⟩)]) rfl trivial (enters_of Tryd.func73 (by kernel_rfl) rfl)
    (each_stops 3 (by omega) Bn C hC w1 hSrc) kp_t (kp_b z2 (by omega)) (Below.refl _ _) (fun _ => rfl)
    (fun pre W => (pre = [] ∧ W.cell? ⟨w.heap.size + 1, 0, none⟩ = some (.int .i64 0) ∧ W.frozen? ⟨w.heap.size + 1, 0, none⟩ = false ∧ W.cell? ⟨w.heap.size + 1 + 1, 0, none⟩ = some (.bool false) ∧ W.frozen? ⟨w.heap.size + 1 + 1, 0, none⟩ = false) ∧ Below w.heap.size w W)
    (fun c pre W => (c = .ret ∧ ∃ x : Nat, pre = [x] ∧ W.cell? ⟨w.heap.size + 1, 0, none⟩ = some (.int .i64 x) ∧ W.cell? ⟨w.heap.size + 1 + 1, 0, none⟩ = some (.bool true)) ∧ Below w.heap.size w W)
    (OwnFrom.and (Own.from (fun s A B row hs hg hr => ⟨hs.1, cell_kept hs.2.1 hg hr, (frozen_kept hs.2.1 hg hr).trans hs.2.2.1, cell_kept hs.2.2.2.1 hg hr, (frozen_kept hs.2.2.2.1 hg hr).trans hs.2.2.2.2⟩) _) (ownFrom_below (Nat.le_refl _) (by omega)))
    (fun c => OwnFrom.and (Own.from (fun s A B row hs hg hr => by obtain ⟨hc, x, e1, e2, e3⟩ := hs; exact ⟨hc, x, e1, cell_kept e2 hg hr, cell_kept e3 hg hr⟩) _) (ownFrom_below (Nat.le_refl _) (by omega)))
    ⟨⟨rfl, r1, f1, r2, f2⟩, hBw⟩
    (fun x => { tmps := #[.agg #[.int .u64 (B 0), .int .u64 (B 1), .int .u64 (B 2), .int .u64 (B 3)], .int .i64 from_, .pointer (some ⟨w.heap.size, 0, none⟩), undef, .pointer (some ⟨w.heap.size + 1, 0, none⟩), .pointer (some ⟨w.heap.size + 1 + 1, 0, none⟩), .int .i64 x, .agg #[.int .u64 (B 0), .int .u64 (B 1), .int .u64 (B 2), .int .u64 (B 3)], .int .i64 from_, .agg #[.int .u64 (L 0), .int .u64 (L 1), .int .u64 (L 2), .int .u64 (L 3)], .agg #[.int .u64 (C 0), .int .u64 (C 1), .int .u64 (C 2), .int .u64 (C 3)], .func (.func 73) #[] #[.pointer (some ⟨Bn, 0, none⟩)], .int .i64 x, undef], defers := [] }) ?assign ?body ?done ?stop
  case assign =>
    intro l x W K hK
    gi_wp2
    exact hK
  case body =>
    rintro l pre x W ⟨⟨rfl, q1, g1, q2, g2⟩, hBl⟩ hlt
    gi_wp2
    refine ⟨((KeepsOthers.setCell _ _ _).trans (KeepsOthers.setCell _ _ _)).from _, ⟨rfl, x, rfl, ?_, ?_⟩, (hBl.setCell (p := ⟨w.heap.size + 1, 0, none⟩) (by simp) _).setCell (p := ⟨w.heap.size + 1 + 1, 0, none⟩) (by simp; omega) _⟩
    · simp [go_sem, q1]
    · simp [go_sem, q2]
  case done =>
    rintro D ys W hD hys ⟨⟨rfl, q1, g1, q2, g2⟩, hBl⟩ hK
    go_wp2
    have hK' := ((KeepsOthers.setCell W ⟨w.heap.size + 1, 0, none⟩ (.int .i64 0)).trans (KeepsOthers.setCell _ ⟨w.heap.size + 1 + 1, 0, none⟩ (.bool false))).same D _ hK rfl
    refine ⟨by simp, .inl ⟨_, _, rfl, run_takeDeferred hK', ?_⟩⟩
    have hc5 := cell_kept (W := (W.setCell ⟨w.heap.size + 1, 0, none⟩ (.int .i64 0)).setCell ⟨w.heap.size + 1 + 1, 0, none⟩ (.bool false)) (v := .int .i64 0) (a := ⟨w.heap.size + 1, 0, none⟩) (by simp [go_sem, q1]) (grownBy_putObj' ((W.setCell ⟨w.heap.size + 1, 0, none⟩ (.int .i64 0)).setCell ⟨w.heap.size + 1 + 1, 0, none⟩ (.bool false)) D (.deferred none)) (fun r e => by cases e; exact ⟨_, hK', rfl⟩)
    have hc6 := cell_kept (W := (W.setCell ⟨w.heap.size + 1, 0, none⟩ (.int .i64 0)).setCell ⟨w.heap.size + 1 + 1, 0, none⟩ (.bool false)) (v := .bool false) (a := ⟨w.heap.size + 1 + 1, 0, none⟩) (by simp [go_sem, q2]) (grownBy_putObj' ((W.setCell ⟨w.heap.size + 1, 0, none⟩ (.int .i64 0)).setCell ⟨w.heap.size + 1 + 1, 0, none⟩ (.bool false)) D (.deferred none)) (fun r e => by cases e; exact ⟨_, hK', rfl⟩)
    refine ⟨.tuple #[.int .i64 0, .bool false], ?_, by rw [← hys]; rfl, ((hBl.setCell (p := ⟨w.heap.size + 1, 0, none⟩) (by simp) _).setCell (p := ⟨w.heap.size + 1 + 1, 0, none⟩) (by simp; omega) _).trans (belowK_b (w := w) (Nat.le_refl _) _ D _ _ (by omega) hK' rfl rfl)⟩
    simp [results, Tryd.f42, go_sem, hc5, hc6]
  case stop =>
    rintro D c pre W hD hpre ⟨⟨rfl, x, rfl, q1, q2⟩, hBl⟩ hK
    gi_wp2
    refine ⟨by simp, .inl ⟨_, _, rfl, run_takeDeferred hK, ?_⟩⟩
    have hc5 := cell_kept q1 (grownBy_putObj' _ D (.deferred none)) (fun r e => by cases e; exact ⟨_, hK, rfl⟩)
    have hc6 := cell_kept q2 (grownBy_putObj' _ D (.deferred none)) (fun r e => by cases e; exact ⟨_, hK, rfl⟩)
    have hh : (bo C 256).head? = some x := by
      obtain ⟨t, ht⟩ := hpre
      rw [← ht]
      rfl
    refine ⟨.tuple #[.int .i64 x, .bool true], ?_, by rw [hh]; rfl, hBl.trans (belowK_b (w := w) (Nat.le_refl _) W D _ _ (by omega) hK rfl rfl)⟩
    simp [results, Tryd.f42, go_sem, hc5, hc6]
end Go.Proofs.YtdoceldofkaapaaDoor.Bm
namespace Go.Proofs.YtdoceldofkaapaaDoor
open Go.RowKit
/-- Blocks that a queue has behind a call: those it had, and new ones. -/
def Grw (f f' : Nat → Prop) (w w' : World) : Prop := ∀ j, f' j → f j ∨ (w.heap.size ≤ j ∧ j < w'.heap.size)
theorem tab_bel {w w' : World} (h : Bm.Tab w) (k : Bel w w') : Bm.Tab w' := fun j hj => k.cell (h j hj)
abbrev QT := (Nat → Prop) → World → Nat → Nat → Nat → Int → Int → List T → Prop
end Go.Proofs.YtdoceldofkaapaaDoor
namespace Go.Proofs.YtdoceldofkaapaaDoor.Ha
open Go.RowKit
/-- A queue (its blocks in f, at Q, of P places and bits b, its base s, k slots looked into, the timers l in order) and its calls. -/
structure Con (Qu : QT) : Prop where
  off : ∀ {f g w w' Q P b s k l}, Qu f w Q P b s k l → Off g w w' → (∀ i, f i → ¬ g i) → ¬ g 0 → Qu f w' Q P b s k l
  lt_ : ∀ {f w Q P b s k l}, Qu f w Q P b s k l → ∀ j, f j → j < w.heap.size
  z : ∀ {f w Q P b s k l}, Qu f w Q P b s k l → ¬ f 0
  pos : ∀ {f w Q P b s k l}, Qu f w Q P b s k l → 0 < w.heap.size
  so : ∀ {f w Q P b s k l}, Qu f w Q P b s k l → So l
  len : ∀ {f w Q P b s k l}, Qu f w Q P b s k l → l.length ≤ P
  hP : ∀ {f w Q P b s k l}, Qu f w Q P b s k l → P ≤ 1024
  hb : ∀ {f w Q P b s k l}, Qu f w Q P b s k l → 1 ≤ b ∧ b ≤ 6
  base : ∀ {f w Q P b s k l}, Qu f w Q P b s k l → Tk s
  ticks : ∀ {f w Q P b s k l}, Qu f w Q P b s k l → ∀ t ∈ l, Tk t.a
  places : ∀ {f w Q P b s k l}, Qu f w Q P b s k l → (l.map T.p).Nodup ∧ ∀ t ∈ l, hp P t.p = true
  zp : ∀ {f w Q P b s k l}, Qu f w Q P b s k l → ∃ Z, w.cell? ⟨Q, 0, none⟩ = some (.pointer (some ⟨Z, 0, none⟩))
  qnew_no : ∀ (P b s : Int) (w : World), ¬ ((0 ≤ P ∧ P ≤ 1024) ∧ 1 ≤ b ∧ b ≤ 6) → Calls Tryd.prog 14 #[.int .i64 P, .int .i64 b, .int .u64 s] w fun e w' => e = .returned (.tuple #[.pointer none, .int .i64 1]) ∧ Bel w w'
  qnew_yes : ∀ (P b : Nat) (s : Int) (w : World), P ≤ 1024 → 1 ≤ b ∧ b ≤ 6 → Tk s → Bm.Tab w → Calls Tryd.prog 14 #[.int .i64 P, .int .i64 b, .int .u64 s] w fun e w' => ∃ Q f, e = .returned (.tuple #[.pointer (some ⟨Q, 0, none⟩), .int .i64 0]) ∧ Qu f w' Q P b s 0 [] ∧ (∀ k, f k → w.heap.size ≤ k) ∧ Bel w w'
  insert : ∀ {f Q P b s k l} (t : T) (w : World), Qu f w Q P b s k l → Tk t.a → Calls Tryd.prog 15 #[.pointer (some ⟨Q, 0, none⟩), .agg #[.int .u64 t.a, .int .u64 t.s, .int .i64 t.p]] w fun e w' => e = .returned (.int .i64 (insE P l t)) ∧ ∃ f', Grw f f' w w' ∧ Qu f' w' Q P b s k (insL P l t) ∧ Off f w w'
  cancel : ∀ {f Q P b s k l} (p : Int) (w : World), Qu f w Q P b s k l → Calls Tryd.prog 22 #[.pointer (some ⟨Q, 0, none⟩), .int .i64 p] w fun e w' => e = .returned (canV ((fnd l p).getD default) (canE P l p)) ∧ ∃ f', Grw f f' w w' ∧ Qu f' w' Q P b s k (wo l p) ∧ Off f w w'
  move : ∀ {f Q P b s k l} (t : T) (w : World), Qu f w Q P b s k l → Tk t.a → Calls Tryd.prog 21 #[.pointer (some ⟨Q, 0, none⟩), .agg #[.int .u64 t.a, .int .u64 t.s, .int .i64 t.p]] w fun e w' => e = .returned (.int .i64 (canE P l t.p)) ∧ ∃ f', Grw f f' w w' ∧ Qu f' w' Q P b s k (movL P l t) ∧ Off f w w'
  own : ∀ {f w Q P b s k l}, Qu f w Q P b s k l → f Q
  duez : ∀ {f Q P b s k l} (now : Int) (w : World), Qu f w Q P b s k l → Tk now → Calls Tryd.prog 11 #[.pointer (some ⟨Q, 0, none⟩), .int .u64 now] w fun e w' => (∃ p c f', e = .returned (.slice p (due l now true).length c) ∧ (due l now true).length ≤ c ∧ Lies (fun j => old w j ∨ f' j) w' p (encs (due l now true)) ∧ Grw f f' w w' ∧ Qu f' w' Q P b (max s now) (lks (slo b) s now l) (due l now false) ∧ Off f w w') ∧ w'.cell? ⟨Q, 0, none⟩ = w.cell? ⟨Q, 0, none⟩
  due : ∀ {f Q P b s k l} (now : Int) (w : World), Qu f w Q P b s k l → Tk now → Calls Tryd.prog 11 #[.pointer (some ⟨Q, 0, none⟩), .int .u64 now] w fun e w' => ∃ p c f', e = .returned (.slice p (due l now true).length c) ∧ (due l now true).length ≤ c ∧ Lies (fun j => old w j ∨ f' j) w' p (encs (due l now true)) ∧ Grw f f' w w' ∧ Qu f' w' Q P b (max s now) (lks (slo b) s now l) (due l now false) ∧ Off f w w'
  get : ∀ {f Q Z P b s k l} (p : Int) (w : World), Qu f w Q P b s k l → w.cell? ⟨Q, 0, none⟩ = some (.pointer (some ⟨Z, 0, none⟩)) → Calls Tryd.prog 23 #[.pointer (some ⟨Z, 0, none⟩), .int .i64 p] w fun e w' => e = .returned (ansT (fnd l p)) ∧ Bel w w'
  min : ∀ {f Q P b s k l} (w : World), Qu f w Q P b s k l → Calls Tryd.prog 19 #[.pointer (some ⟨Q, 0, none⟩)] w fun e w' => e = .returned (ansT l.head?) ∧ Bel w w'
  count : ∀ {f Q Z P b s k l} (w : World), Qu f w Q P b s k l → w.cell? ⟨Q, 0, none⟩ = some (.pointer (some ⟨Z, 0, none⟩)) → Calls Tryd.prog 9 #[.pointer (some ⟨Z, 0, none⟩)] w fun e w' => e = .returned (.int .i64 l.length) ∧ Bel w w'
  all : ∀ {f Q Z P b s k l} (w : World), Qu f w Q P b s k l → w.cell? ⟨Q, 0, none⟩ = some (.pointer (some ⟨Z, 0, none⟩)) → Calls Tryd.prog 20 #[.pointer (some ⟨Z, 0, none⟩)] w fun e w' => ∃ p c, e = .returned (.slice p l.length c) ∧ l.length ≤ c ∧ Lies (old w) w' p (encs l) ∧ Bel w w'
  based : ∀ {f Q P b s k l} (w : World), Qu f w Q P b s k l → Calls Tryd.prog 10 #[.pointer (some ⟨Q, 0, none⟩)] w fun e w' => e = .returned (.int .u64 s) ∧ Bel w w'
  looked : ∀ {f Q P b s k l} (w : World), Qu f w Q P b s k l → Calls Tryd.prog 12 #[.pointer (some ⟨Q, 0, none⟩)] w fun e w' => e = .returned (.int .i64 k) ∧ Bel w w'
theorem Con.bel {Qu : QT} (C : Con Qu) {f w w' Q P b s k l} (h : Qu f w Q P b s k l) (hb : Bel w w') : Qu f w' Q P b s k l := C.off h hb (fun _ _ e => e) (fun e => e)
end Go.Proofs.YtdoceldofkaapaaDoor.Ha
