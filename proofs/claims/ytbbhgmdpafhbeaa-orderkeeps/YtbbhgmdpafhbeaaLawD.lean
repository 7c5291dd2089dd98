/-
  The walk of OrderKeeps.
-/
import Derived.Test.YtbbhgmdpafhbeaaWorks
namespace Go.Proofs.Ytbbhgmdpafhbeaa
open Go.RowKit
theorem keeps_long (p : Option Addr) (n cap : Nat) (t : T) (w : World) (h : 60 < n) :
    Calls Try.prog 5 #[.slice p n cap, .agg #[.int .u64 t.a, .int .u64 t.s, .int .i64 t.p]] w fun e w' => e = .returned (.bool true) ∧ Bel w w' := by
  have h' : (60 : Int) < n := by omega
  go_enter Try.func5, Try.ntmps5
  go_wp2_with fail
  with_reducible refine (works_any _).mono ?_
  rintro e w1 ⟨rfl, hb⟩
  go_wp2
  go_ret
  exact ⟨rfl, ((Bel.refl _).alloc _ _).trans hb⟩
/-- How often a timer is in a list. -/
def ct (l : List T) (t : T) : Nat := l.countP fun x => decide (x = t)
theorem ct_le (l : List T) (t : T) (k : Nat) : ct (l.take k) t ≤ k := Nat.le_trans List.countP_le_length (by simp; omega)
theorem ct_step (l : List T) (t : T) (k : Nat) (h : k < l.length) : ct (l.take (k + 1)) t = ct (l.take k) t + (if l.getD k default = t then 1 else 0) := by
  unfold ct
  rw [List.take_succ_eq_append_getElem h, List.countP_append]
  congr 1
  have e : l.getD k default = l[k] := by simp [List.getD_eq_getElem?_getD, List.getElem?_eq_getElem h]
  rw [e, List.countP_cons, List.countP_nil]
  simp
theorem ct_yes {l : List T} {t x : T} {k : Nat} (h : k < l.length) (hx : l.getD k default = x) (e : x = t) : ct (l.take (k + 1)) t = ct (l.take k) t + 1 := by rw [ct_step l t k h, hx, if_pos e]
theorem ct_no {l : List T} {t x : T} {k : Nat} (h : k < l.length) (hx : l.getD k default = x) (e : ¬ x = t) : ct (l.take (k + 1)) t = ct (l.take k) t := by rw [ct_step l t k h, hx, if_neg e]; rfl
theorem ct_srt (l : List T) (t : T) : ct (srt l) t = ct l t := (srt_perm l).countP_eq _
set_option maxHeartbeats 4000000 in
theorem keeps_short (p : Option Addr) (n cap : Nat) (l : List T) (t : T) (w : World) (h : n ≤ 60) (hn : l.length = n) (hl : Has w p l) :
    Calls Try.prog 5 #[.slice p n cap, .agg #[.int .u64 t.a, .int .u64 t.s, .int .i64 t.p]] w fun e w' => e = .returned (.bool true) ∧ Bel w w' := by
  have h' : ¬ (60 : Int) < n := by omega
  have HN := Lib.hid hn
  have HL := Lib.hid hl
  have HSL : Hid ((srt l).length = n) := Lib.hid (by rw [srt_len, hn])
  have HSO : Hid (so (srt l) = true) := Lib.hid ((so_iff _).2 (srt_so l))
  have HCT := Lib.hid (ct_srt l t)
  clear hn hl
  have hnn : ((n : Int) == (n : Int)) = true := by simp
  go_enter Try.func5, Try.ntmps5
  go_wp2_with fail
  with_reducible refine (works_any _).mono ?_
  rintro e w1 ⟨rfl, hb1⟩
  have y0 : w1.cell? ⟨w.heap.size, 0, none⟩ = some (.int .u64 t.a) := hb1.cell (by simp [go_sem])
  have y1 : w1.cell? ⟨w.heap.size, 1, none⟩ = some (.int .u64 t.s) := hb1.cell (by simp [go_sem])
  have y2 : w1.cell? ⟨w.heap.size, 2, none⟩ = some (.int .i64 t.p) := hb1.cell (by simp [go_sem])
  have B1 := Lib.hid (((Bel.refl w).alloc _ _).trans hb1)
  clear hb1
  go_wp2_with fail
  with_reducible refine (sort_any p n cap l _ HN.out (by omega) (HL.out.bel B1.out)).mono ?_
  rintro e w2 ⟨⟨p2, c2, rfl, hc2, hp2⟩, hb2⟩
  rw [HSL.out] at hc2 ⊢
  have y0 := hb2.cell y0
  have y1 := hb2.cell y1
  have y2 := hb2.cell y2
  have P2 := Lib.hid hp2
  have B2 := Lib.hid (B1.out.trans hb2)
  clear hp2 hb2
  have KS := Lib.hid (fun w hh => sorted_any p2 n c2 (srt l) w HSL.out (by omega) hh)
  rw [HSO.out] at KS
  go_wp2_with fail
  with_reducible refine (KS.out _ P2.out).mono ?_
  rintro e w3 ⟨rfl, hb3⟩
  have y0 := hb3.cell y0
  have y1 := hb3.cell y1
  have y2 := hb3.cell y2
  have P3 := Lib.hid (P2.out.bel hb3)
  have B3 := Lib.hid (B2.out.trans hb3)
  clear hb3
  have Y : Hid (FindAt w t w3) := Lib.hid ⟨B3.out, y0, y1, y2⟩
  clear y0 y1 y2 hnn
  go_wp2
  go_loopw [7, 8] (fun v i wr => ∃ k : Nat, k ≤ n ∧ i = .int .i64 k ∧ v = .int .i64 ((ct (l.take k) t : Int) - ct ((srt l).take k) t) ∧ Bel w3 wr) (fun _ i _ => n - (intOf i).toNat)
  case atStart => exact ⟨0, by omega, rfl, by simp [ct], Bel.refl _⟩
  case round =>
    obtain ⟨k, hk, rfl, rfl, hb⟩ := hrel
    have HB := Lib.hid hb
    clear hb
    have e1 := ct_le l t k
    have e2 := ct_le (srt l) t k
    by_cases hlt : k < n
    · have l1 : k < l.length := by rw [HN.out]; exact hlt
      have l2 : k < (srt l).length := by rw [HSL.out]; exact hlt
      obtain ⟨b, off, rfl, hr⟩ := HL.out.row (by omega)
      obtain ⟨b2, off2, rfl, hr2⟩ := P3.out.row (by omega)
      obtain ⟨x, hx⟩ : ∃ x, l.getD k default = x := ⟨_, rfl⟩
      obtain ⟨y, hy⟩ : ∃ y, (srt l).getD k default = y := ⟨_, rfl⟩
      have cx := hr k l1
      have cy := hr2 k l2
      rw [hx] at cx
      rw [hy] at cy
      have CELLS : Hid (∀ w', Bel w3 w' → w'.cell? ⟨b, off + k * 3, none⟩ = some (.int .u64 x.a) ∧ w'.cell? ⟨b, off + k * 3 + 1, none⟩ = some (.int .u64 x.s) ∧ w'.cell? ⟨b, off + k * 3 + 2, none⟩ = some (.int .i64 x.p) ∧ w'.cell? ⟨b2, off2 + k * 3, none⟩ = some (.int .u64 y.a) ∧ w'.cell? ⟨b2, off2 + k * 3 + 1, none⟩ = some (.int .u64 y.s) ∧ w'.cell? ⟨b2, off2 + k * 3 + 2, none⟩ = some (.int .i64 y.p) ∧
          w'.cell? ⟨w.heap.size, 0, none⟩ = some (.int .u64 t.a) ∧ w'.cell? ⟨w.heap.size, 1, none⟩ = some (.int .u64 t.s) ∧ w'.cell? ⟨w.heap.size, 2, none⟩ = some (.int .i64 t.p)) := Lib.hid (fun w' hb => by
        have B := B3.out.trans hb
        have Z := Y.out
        exact ⟨B.cell cx.1, B.cell cx.2.1, B.cell cx.2.2, hb.cell cy.1, hb.cell cy.2.1, hb.cell cy.2.2, hb.cell Z.2.1, hb.cell Z.2.2.1, hb.cell Z.2.2.2⟩)
      have SX : Hid ((x = t → ct (l.take (k + 1)) t = ct (l.take k) t + 1) ∧ (¬ x = t → ct (l.take (k + 1)) t = ct (l.take k) t)) := Lib.hid ⟨fun e => ct_yes l1 hx e, fun e => ct_no l1 hx e⟩
      have SY : Hid ((y = t → ct ((srt l).take (k + 1)) t = ct ((srt l).take k) t + 1) ∧ (¬ y = t → ct ((srt l).take (k + 1)) t = ct ((srt l).take k) t)) := Lib.hid ⟨fun e => ct_yes l2 hy e, fun e => ct_no l2 hy e⟩
      clear hx hy cx cy hr hr2 l1 l2
      generalize ct (l.take k) t = f1 at *
      generalize ct ((srt l).take k) t = f2 at *
      have b0 : (0 : Int) ≤ (k : Int) := by omega
      have b1 : (k : Int) < (n : Int) := by omega
      by_cases hx : x = t
      · by_cases hy : y = t
        · have hE1 := eql_yes x t hx
          have hE2 := eql_yes y t hy
          have F1 := Lib.hid (SX.out.1 hx)
          have F2 := Lib.hid (SY.out.1 hy)
          clear hx hy SX SY
          go_wp2
          go_region_held3 (fun w' => w'.cell? ⟨b, off + k * 3, none⟩ = some (.int .u64 x.a) ∧ w'.cell? ⟨b, off + k * 3 + 1, none⟩ = some (.int .u64 x.s) ∧ w'.cell? ⟨b, off + k * 3 + 2, none⟩ = some (.int .i64 x.p) ∧ w'.cell? ⟨b2, off2 + k * 3, none⟩ = some (.int .u64 y.a) ∧ w'.cell? ⟨b2, off2 + k * 3 + 1, none⟩ = some (.int .u64 y.s) ∧ w'.cell? ⟨b2, off2 + k * 3 + 2, none⟩ = some (.int .i64 y.p) ∧ w'.cell? ⟨w.heap.size, 0, none⟩ = some (.int .u64 t.a) ∧ w'.cell? ⟨w.heap.size, 1, none⟩ = some (.int .u64 t.s) ∧ w'.cell? ⟨w.heap.size, 2, none⟩ = some (.int .i64 t.p)) (first | exact CELLS.out _ HB.out | exact CELLS.out _ HB.out.drew) (fail)
          go_wp2
          go_region_held3 (fun w' => w'.cell? ⟨b, off + k * 3, none⟩ = some (.int .u64 x.a) ∧ w'.cell? ⟨b, off + k * 3 + 1, none⟩ = some (.int .u64 x.s) ∧ w'.cell? ⟨b, off + k * 3 + 2, none⟩ = some (.int .i64 x.p) ∧ w'.cell? ⟨b2, off2 + k * 3, none⟩ = some (.int .u64 y.a) ∧ w'.cell? ⟨b2, off2 + k * 3 + 1, none⟩ = some (.int .u64 y.s) ∧ w'.cell? ⟨b2, off2 + k * 3 + 2, none⟩ = some (.int .i64 y.p) ∧ w'.cell? ⟨w.heap.size, 0, none⟩ = some (.int .u64 t.a) ∧ w'.cell? ⟨w.heap.size, 1, none⟩ = some (.int .u64 t.s) ∧ w'.cell? ⟨w.heap.size, 2, none⟩ = some (.int .i64 t.p)) (first | exact CELLS.out _ HB.out.drew | exact CELLS.out _ HB.out.drew.drew) (fail)
          go_wp2
          go_roundw
          case rel => exact ⟨k + 1, by omega, by go_num, by first | (rw [F1.out, F2.out]; done) | (rw [F1.out, F2.out]; go_num), HB.out.drew.drew⟩
          case measure => simp [intOf]; omega
        · have hE1 := eql_yes x t hx
          have hE2 := eql_no y t hy
          have F1 := Lib.hid (SX.out.1 hx)
          have F2 := Lib.hid (SY.out.2 hy)
          clear hx hy SX SY
          go_wp2
          go_region_held3 (fun w' => w'.cell? ⟨b, off + k * 3, none⟩ = some (.int .u64 x.a) ∧ w'.cell? ⟨b, off + k * 3 + 1, none⟩ = some (.int .u64 x.s) ∧ w'.cell? ⟨b, off + k * 3 + 2, none⟩ = some (.int .i64 x.p) ∧ w'.cell? ⟨b2, off2 + k * 3, none⟩ = some (.int .u64 y.a) ∧ w'.cell? ⟨b2, off2 + k * 3 + 1, none⟩ = some (.int .u64 y.s) ∧ w'.cell? ⟨b2, off2 + k * 3 + 2, none⟩ = some (.int .i64 y.p) ∧ w'.cell? ⟨w.heap.size, 0, none⟩ = some (.int .u64 t.a) ∧ w'.cell? ⟨w.heap.size, 1, none⟩ = some (.int .u64 t.s) ∧ w'.cell? ⟨w.heap.size, 2, none⟩ = some (.int .i64 t.p)) (first | exact CELLS.out _ HB.out | exact CELLS.out _ HB.out.drew) (fail)
          go_wp2
          go_region_held3 (fun w' => w'.cell? ⟨b, off + k * 3, none⟩ = some (.int .u64 x.a) ∧ w'.cell? ⟨b, off + k * 3 + 1, none⟩ = some (.int .u64 x.s) ∧ w'.cell? ⟨b, off + k * 3 + 2, none⟩ = some (.int .i64 x.p) ∧ w'.cell? ⟨b2, off2 + k * 3, none⟩ = some (.int .u64 y.a) ∧ w'.cell? ⟨b2, off2 + k * 3 + 1, none⟩ = some (.int .u64 y.s) ∧ w'.cell? ⟨b2, off2 + k * 3 + 2, none⟩ = some (.int .i64 y.p) ∧ w'.cell? ⟨w.heap.size, 0, none⟩ = some (.int .u64 t.a) ∧ w'.cell? ⟨w.heap.size, 1, none⟩ = some (.int .u64 t.s) ∧ w'.cell? ⟨w.heap.size, 2, none⟩ = some (.int .i64 t.p)) (first | exact CELLS.out _ HB.out.drew | exact CELLS.out _ HB.out.drew.drew) (fail)
          go_wp2
          go_roundw
          case rel => exact ⟨k + 1, by omega, by go_num, by first | (rw [F1.out, F2.out]; done) | (rw [F1.out, F2.out]; go_num), HB.out.drew.drew⟩
          case measure => simp [intOf]; omega
      · by_cases hy : y = t
        · have hE1 := eql_no x t hx
          have hE2 := eql_yes y t hy
          have F1 := Lib.hid (SX.out.2 hx)
          have F2 := Lib.hid (SY.out.1 hy)
          clear hx hy SX SY
          go_wp2
          go_region_held3 (fun w' => w'.cell? ⟨b, off + k * 3, none⟩ = some (.int .u64 x.a) ∧ w'.cell? ⟨b, off + k * 3 + 1, none⟩ = some (.int .u64 x.s) ∧ w'.cell? ⟨b, off + k * 3 + 2, none⟩ = some (.int .i64 x.p) ∧ w'.cell? ⟨b2, off2 + k * 3, none⟩ = some (.int .u64 y.a) ∧ w'.cell? ⟨b2, off2 + k * 3 + 1, none⟩ = some (.int .u64 y.s) ∧ w'.cell? ⟨b2, off2 + k * 3 + 2, none⟩ = some (.int .i64 y.p) ∧ w'.cell? ⟨w.heap.size, 0, none⟩ = some (.int .u64 t.a) ∧ w'.cell? ⟨w.heap.size, 1, none⟩ = some (.int .u64 t.s) ∧ w'.cell? ⟨w.heap.size, 2, none⟩ = some (.int .i64 t.p)) (first | exact CELLS.out _ HB.out | exact CELLS.out _ HB.out.drew) (fail)
          go_wp2
          go_region_held3 (fun w' => w'.cell? ⟨b, off + k * 3, none⟩ = some (.int .u64 x.a) ∧ w'.cell? ⟨b, off + k * 3 + 1, none⟩ = some (.int .u64 x.s) ∧ w'.cell? ⟨b, off + k * 3 + 2, none⟩ = some (.int .i64 x.p) ∧ w'.cell? ⟨b2, off2 + k * 3, none⟩ = some (.int .u64 y.a) ∧ w'.cell? ⟨b2, off2 + k * 3 + 1, none⟩ = some (.int .u64 y.s) ∧ w'.cell? ⟨b2, off2 + k * 3 + 2, none⟩ = some (.int .i64 y.p) ∧ w'.cell? ⟨w.heap.size, 0, none⟩ = some (.int .u64 t.a) ∧ w'.cell? ⟨w.heap.size, 1, none⟩ = some (.int .u64 t.s) ∧ w'.cell? ⟨w.heap.size, 2, none⟩ = some (.int .i64 t.p)) (first | exact CELLS.out _ HB.out.drew | exact CELLS.out _ HB.out.drew.drew) (fail)
          go_wp2
          go_roundw
          case rel => exact ⟨k + 1, by omega, by go_num, by first | (rw [F1.out, F2.out]; done) | (rw [F1.out, F2.out]; go_num), HB.out.drew.drew⟩
          case measure => simp [intOf]; omega
        · have hE1 := eql_no x t hx
          have hE2 := eql_no y t hy
          have F1 := Lib.hid (SX.out.2 hx)
          have F2 := Lib.hid (SY.out.2 hy)
          clear hx hy SX SY
          go_wp2
          go_region_held3 (fun w' => w'.cell? ⟨b, off + k * 3, none⟩ = some (.int .u64 x.a) ∧ w'.cell? ⟨b, off + k * 3 + 1, none⟩ = some (.int .u64 x.s) ∧ w'.cell? ⟨b, off + k * 3 + 2, none⟩ = some (.int .i64 x.p) ∧ w'.cell? ⟨b2, off2 + k * 3, none⟩ = some (.int .u64 y.a) ∧ w'.cell? ⟨b2, off2 + k * 3 + 1, none⟩ = some (.int .u64 y.s) ∧ w'.cell? ⟨b2, off2 + k * 3 + 2, none⟩ = some (.int .i64 y.p) ∧ w'.cell? ⟨w.heap.size, 0, none⟩ = some (.int .u64 t.a) ∧ w'.cell? ⟨w.heap.size, 1, none⟩ = some (.int .u64 t.s) ∧ w'.cell? ⟨w.heap.size, 2, none⟩ = some (.int .i64 t.p)) (first | exact CELLS.out _ HB.out | exact CELLS.out _ HB.out.drew) (fail)
          go_wp2
          go_region_held3 (fun w' => w'.cell? ⟨b, off + k * 3, none⟩ = some (.int .u64 x.a) ∧ w'.cell? ⟨b, off + k * 3 + 1, none⟩ = some (.int .u64 x.s) ∧ w'.cell? ⟨b, off + k * 3 + 2, none⟩ = some (.int .i64 x.p) ∧ w'.cell? ⟨b2, off2 + k * 3, none⟩ = some (.int .u64 y.a) ∧ w'.cell? ⟨b2, off2 + k * 3 + 1, none⟩ = some (.int .u64 y.s) ∧ w'.cell? ⟨b2, off2 + k * 3 + 2, none⟩ = some (.int .i64 y.p) ∧ w'.cell? ⟨w.heap.size, 0, none⟩ = some (.int .u64 t.a) ∧ w'.cell? ⟨w.heap.size, 1, none⟩ = some (.int .u64 t.s) ∧ w'.cell? ⟨w.heap.size, 2, none⟩ = some (.int .i64 t.p)) (first | exact CELLS.out _ HB.out.drew | exact CELLS.out _ HB.out.drew.drew) (fail)
          go_wp2
          go_roundw
          case rel => exact ⟨k + 1, by omega, by go_num, by first | (rw [F1.out, F2.out]; done) | (rw [F1.out, F2.out]; go_num), HB.out.drew.drew⟩
          case measure => simp [intOf]; omega
    · obtain rfl : k = n := by omega
      have H1 : Hid ((ct (l.take k) t : Int) - ct ((srt l).take k) t = 0) := Lib.hid (by
        rw [List.take_of_length_le (by have := HN.out; omega), List.take_of_length_le (by have := HSL.out; omega), HCT.out]
        omega)
      rw [H1.out]
      clear e1 e2
      go_wp2
      go_ret
      exact ⟨rfl, B3.out.trans HB.out⟩
end Go.Proofs.Ytbbhgmdpafhbeaa
