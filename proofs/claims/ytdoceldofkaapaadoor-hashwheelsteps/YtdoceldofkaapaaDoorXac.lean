/-
  Contracts of the document's Put, with a bit and without it.
  Contracts of bitmap.Both, Either and without.
-/
import Derived.Test.YtdoceldofkaapaaDoorBone
set_option linter.unusedVariables false
set_option linter.unusedSimpArgs false
namespace Go.Proofs.YtdoceldofkaapaaDoor.Bm
open Go.RowKit

/-- A block of four words that may be written. -/
def Box (w : World) (b : Nat) (x0 x1 x2 x3 : Int) : Prop :=
  (w.cell? ⟨b, 0, none⟩ = some (.int .u64 x0) ∧ w.cell? ⟨b, 1, none⟩ = some (.int .u64 x1) ∧ w.cell? ⟨b, 2, none⟩ = some (.int .u64 x2) ∧ w.cell? ⟨b, 3, none⟩ = some (.int .u64 x3)) ∧
  (w.frozen? ⟨b, 0, none⟩ = false ∧ w.frozen? ⟨b, 1, none⟩ = false ∧ w.frozen? ⟨b, 2, none⟩ = false ∧ w.frozen? ⟨b, 3, none⟩ = false)
theorem Bel.froz {a b : World} (h : Bel a b) {p : Addr} {v : Value} (hc : a.cell? p = some v) (hf : a.frozen? p = false) : b.frozen? p = false :=
  (Below.frozen h (World.block_lt_of_cell? _ _ hc)).trans hf
theorem Box.bel {w w' : World} {b : Nat} {x0 x1 x2 x3 : Int} (h : Box w b x0 x1 x2 x3) (k : Bel w w') : Box w' b x0 x1 x2 x3 :=
  ⟨⟨k.cell h.1.1, k.cell h.1.2.1, k.cell h.1.2.2.1, k.cell h.1.2.2.2⟩, k.froz h.1.1 h.2.1, k.froz h.1.2.1 h.2.2.1, k.froz h.1.2.2.1 h.2.2.2.1, k.froz h.1.2.2.2 h.2.2.2.2⟩
theorem Box.new (w : World) (x0 x1 x2 x3 : Int) (t : TypeId) : Box (w.alloc (.cells #[.int .u64 x0, .int .u64 x1, .int .u64 x2, .int .u64 x3] t)) w.heap.size x0 x1 x2 x3 :=
  ⟨⟨by simp [go_sem], by simp [go_sem], by simp [go_sem], by simp [go_sem]⟩, by simp, by simp, by simp, by simp⟩
theorem Box.alloc {w : World} {b : Nat} {x0 x1 x2 x3 : Int} (h : Box w b x0 x1 x2 x3) (c : Array Value) (t : TypeId) : Box (w.alloc (.cells c t)) b x0 x1 x2 x3 := h.bel ((Bel.refl _).alloc _ _)

theorem twice (k : Nat) (h : k < 63) : IntKind.u64.wrap (2 * ((2 ^ k : Nat) : Int)) = ((2 ^ (k + 1) : Nat) : Int) := by
  have := pow64 (show k + 1 < 64 by omega)
  rw [IntKind.wrap_u64, Nat.pow_succ] at *
  omega
end Go.Proofs.YtdoceldofkaapaaDoor.Bm
namespace Go.Proofs.YtdoceldofkaapaaDoor.Bm
open Go.RowKit

/-- The first k are turned. -/
def sel (F A : Nat → Nat) (k j : Nat) : Nat := if j < k then F j else A j
/-- What holds at each round's head. -/
def PairAt (w : World) (A B F : Nat → Nat) (k : Nat) (wr : World) : Prop :=
  Bel w wr ∧ Box wr w.heap.size (sel F A k 0) (sel F A k 1) (sel F A k 2) (sel F A k 3) ∧ Box wr (w.heap.size + 1) (B 0) (B 1) (B 2) (B 3) ∧ Box wr (w.heap.size + 1 + 1) 0 0 0 0
theorem Box.set {w : World} {b : Nat} {x0 x1 x2 x3 : Int} (h : Box w b x0 x1 x2 x3) {p : Addr} (hp : p.block ≠ b) (v : Value) : Box (w.setCell p v) b x0 x1 x2 x3 := by
  obtain ⟨⟨c0, c1, c2, c3⟩, f0, f1, f2, f3⟩ := h
  have hn : ∀ j, p ≠ (⟨b, j, none⟩ : Addr) := fun j e => hp (by rw [e])
  exact ⟨⟨(World.cell?_setCell_other _ _ _ _ (hn 0)).trans c0, (World.cell?_setCell_other _ _ _ _ (hn 1)).trans c1, (World.cell?_setCell_other _ _ _ _ (hn 2)).trans c2, (World.cell?_setCell_other _ _ _ _ (hn 3)).trans c3⟩, by rw [World.frozen?_setCell]; exact f0, by rw [World.frozen?_setCell]; exact f1, by rw [World.frozen?_setCell]; exact f2, by rw [World.frozen?_setCell]; exact f3⟩
theorem Box.drew {w : World} {b : Nat} {x0 x1 x2 x3 : Int} (h : Box w b x0 x1 x2 x3) : Box w.drew b x0 x1 x2 x3 := h
theorem Box.put0 {w : World} {b : Nat} {x0 x1 x2 x3 : Int} (h : Box w b x0 x1 x2 x3) (y : Int) : Box (w.setCell ⟨b, 0, none⟩ (.int .u64 y)) b y x1 x2 x3 := by
  obtain ⟨⟨c0, c1, c2, c3⟩, f0, f1, f2, f3⟩ := h
  exact ⟨⟨World.cell?_setCell_same' _ _ _ (by rw [c0]; rfl), (World.cell?_setCell_other _ _ _ _ (by simp)).trans c1, (World.cell?_setCell_other _ _ _ _ (by simp)).trans c2, (World.cell?_setCell_other _ _ _ _ (by simp)).trans c3⟩, by rw [World.frozen?_setCell]; exact f0, by rw [World.frozen?_setCell]; exact f1, by rw [World.frozen?_setCell]; exact f2, by rw [World.frozen?_setCell]; exact f3⟩
theorem Box.put1 {w : World} {b : Nat} {x0 x1 x2 x3 : Int} (h : Box w b x0 x1 x2 x3) (y : Int) : Box (w.setCell ⟨b, 1, none⟩ (.int .u64 y)) b x0 y x2 x3 := by
  obtain ⟨⟨c0, c1, c2, c3⟩, f0, f1, f2, f3⟩ := h
  exact ⟨⟨(World.cell?_setCell_other _ _ _ _ (by simp)).trans c0, World.cell?_setCell_same' _ _ _ (by rw [c1]; rfl), (World.cell?_setCell_other _ _ _ _ (by simp)).trans c2, (World.cell?_setCell_other _ _ _ _ (by simp)).trans c3⟩, by rw [World.frozen?_setCell]; exact f0, by rw [World.frozen?_setCell]; exact f1, by rw [World.frozen?_setCell]; exact f2, by rw [World.frozen?_setCell]; exact f3⟩
theorem Box.put2 {w : World} {b : Nat} {x0 x1 x2 x3 : Int} (h : Box w b x0 x1 x2 x3) (y : Int) : Box (w.setCell ⟨b, 2, none⟩ (.int .u64 y)) b x0 x1 y x3 := by
  obtain ⟨⟨c0, c1, c2, c3⟩, f0, f1, f2, f3⟩ := h
  exact ⟨⟨(World.cell?_setCell_other _ _ _ _ (by simp)).trans c0, (World.cell?_setCell_other _ _ _ _ (by simp)).trans c1, World.cell?_setCell_same' _ _ _ (by rw [c2]; rfl), (World.cell?_setCell_other _ _ _ _ (by simp)).trans c3⟩, by rw [World.frozen?_setCell]; exact f0, by rw [World.frozen?_setCell]; exact f1, by rw [World.frozen?_setCell]; exact f2, by rw [World.frozen?_setCell]; exact f3⟩
theorem Box.put3 {w : World} {b : Nat} {x0 x1 x2 x3 : Int} (h : Box w b x0 x1 x2 x3) (y : Int) : Box (w.setCell ⟨b, 3, none⟩ (.int .u64 y)) b x0 x1 x2 y := by
  obtain ⟨⟨c0, c1, c2, c3⟩, f0, f1, f2, f3⟩ := h
  exact ⟨⟨(World.cell?_setCell_other _ _ _ _ (by simp)).trans c0, (World.cell?_setCell_other _ _ _ _ (by simp)).trans c1, (World.cell?_setCell_other _ _ _ _ (by simp)).trans c2, World.cell?_setCell_same' _ _ _ (by rw [c3]; rfl)⟩, by rw [World.frozen?_setCell]; exact f0, by rw [World.frozen?_setCell]; exact f1, by rw [World.frozen?_setCell]; exact f2, by rw [World.frozen?_setCell]; exact f3⟩
set_option maxHeartbeats 1000000 in
theorem without_any (A B : Nat → Nat) (hA : Wd A) (hB : Wd B) (w : World) :
    Calls Tryd.prog 58 #[.agg #[.int .u64 (A 0), .int .u64 (A 1), .int .u64 (A 2), .int .u64 (A 3)], .agg #[.int .u64 (B 0), .int .u64 (B 1), .int .u64 (B 2), .int .u64 (B 3)]] w fun e w' => e = .returned (.agg #[.int .u64 (wth A B 0), .int .u64 (wth A B 1), .int .u64 (wth A B 2), .int .u64 (wth A B 3)]) ∧ Bel w w' := by
  have V : Hid (∀ k, bits BinOp.andNot IntKind.u64 (A k : Int) (B k : Int) = (wth A B k : Nat)) := Lib.hid fun k => u64_andNot_nat _ _ (hA k) (hB k)
  generalize wth A B = F at V ⊢
  clear hA hB
  go_enter Tryd.func58, Tryd.ntmps58
  go_wp2
  go_loopw [6] (fun i wr => ∃ k : Nat, k ≤ 4 ∧ i = .int .i64 k ∧ PairAt w A B F k wr) (fun i _ => 4 - (intOf i).toNat)
  case atStart =>
    refine ⟨0, by omega, rfl, (((Bel.refl _).alloc _ _).alloc _ _).alloc _ _, ((Box.new _ _ _ _ _ _).alloc _ _).alloc _ _, ?_, ?_⟩
    · have := (Box.new (w.alloc (.cells #[.int .u64 (A 0), .int .u64 (A 1), .int .u64 (A 2), .int .u64 (A 3)] 32)) (B 0) (B 1) (B 2) (B 3) 32).alloc #[.int .u64 0, .int .u64 0, .int .u64 0, .int .u64 0] 32
      simpa only [World.size_alloc] using this
    · have := Box.new ((w.alloc (.cells #[.int .u64 (A 0), .int .u64 (A 1), .int .u64 (A 2), .int .u64 (A 3)] 32)).alloc (.cells #[.int .u64 (B 0), .int .u64 (B 1), .int .u64 (B 2), .int .u64 (B 3)] 32)) 0 0 0 0 32
      simpa only [World.size_alloc] using this
  case round =>
    obtain ⟨k, hk, rfl, hg, b0, b1, b2⟩ := hrel
    have G := Lib.hid hg
    have B1 := Lib.hid b1
    have B2 := Lib.hid b2
    clear hg
    obtain ⟨⟨d0, d1, d2, d3⟩, _⟩ := b1
    obtain rfl | rfl | rfl | rfl | rfl : k = 0 ∨ k = 1 ∨ k = 2 ∨ k = 3 ∨ k = 4 := by omega
    · have v := V.out 0
      simp only [sel, Nat.not_lt_zero, if_false] at b0
      have B0 := Lib.hid b0
      obtain ⟨⟨c0, c1, c2, c3⟩, e0, e1, e2, e3⟩ := b0
      clear b2
      go_wp2
      go_region
      go_wp2
      go_roundw
      case rel =>
        refine ⟨1, by omega, by go_num, (G.out.setCell (by simp) _).drew, ?_, (B1.out.set (by simp) _).drew, (B2.out.set (by simp; omega) _).drew⟩
        exact (B0.out.put0 _).drew
      case measure => simp [intOf]
    · have v := V.out 1
      simp only [sel, Nat.reduceLT, if_true, if_false] at b0
      have B0 := Lib.hid b0
      obtain ⟨⟨c0, c1, c2, c3⟩, e0, e1, e2, e3⟩ := b0
      clear b2
      go_wp2
      go_region
      go_wp2
      go_roundw
      case rel =>
        refine ⟨2, by omega, by go_num, (G.out.setCell (by simp) _).drew, ?_, (B1.out.set (by simp) _).drew, (B2.out.set (by simp; omega) _).drew⟩
        exact (B0.out.put1 _).drew
      case measure => simp [intOf]
    · have v := V.out 2
      simp only [sel, Nat.reduceLT, if_true, if_false] at b0
      have B0 := Lib.hid b0
      obtain ⟨⟨c0, c1, c2, c3⟩, e0, e1, e2, e3⟩ := b0
      clear b2
      go_wp2
      go_region
      go_wp2
      go_roundw
      case rel =>
        refine ⟨3, by omega, by go_num, (G.out.setCell (by simp) _).drew, ?_, (B1.out.set (by simp) _).drew, (B2.out.set (by simp; omega) _).drew⟩
        exact (B0.out.put2 _).drew
      case measure => simp [intOf]
    · have v := V.out 3
      simp only [sel, Nat.reduceLT, if_true, if_false] at b0
      have B0 := Lib.hid b0
      obtain ⟨⟨c0, c1, c2, c3⟩, e0, e1, e2, e3⟩ := b0
      clear b2
      go_wp2
      go_region
      go_wp2
      go_roundw
      case rel =>
        refine ⟨4, by omega, by go_num, (G.out.setCell (by simp) _).drew, ?_, (B1.out.set (by simp) _).drew, (B2.out.set (by simp; omega) _).drew⟩
        exact (B0.out.put3 _).drew
      case measure => simp [intOf]
    · simp only [sel, Nat.reduceLT, if_true] at b0
      obtain ⟨⟨c0, c1, c2, c3⟩, e0, e1, e2, e3⟩ := b0
      obtain ⟨⟨g0, g1, g2, g3⟩, f0, f1, f2, f3⟩ := b2
      go_wp2
      refine bodyPost_ret (v := .agg #[.int .u64 (F 0), .int .u64 (F 1), .int .u64 (F 2), .int .u64 (F 3)]) (by simp [results, Tryd.results58, go_sem, g0, g1, g2, g3]) rfl ⟨rfl, ?_⟩
      exact (((G.out.setCell (by simp; omega) _).setCell (by simp; omega) _).setCell (by simp; omega) _).setCell (by simp; omega) _
end Go.Proofs.YtdoceldofkaapaaDoor.Bm
