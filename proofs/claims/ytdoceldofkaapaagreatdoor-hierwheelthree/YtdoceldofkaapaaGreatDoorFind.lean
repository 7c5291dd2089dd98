/-
  Contracts of slices.BinarySearchFunc at timers and of order.Find.
-/
import Derived.Test.YtdoceldofkaapaaGreatDoorXap
import Derived.Test.YtdoceldofkaapaaGreatDoorXae
import Derived.Deep.QuietTactic
import Derived.BigQuiet
import Derived.IntWalk
set_option linter.unusedVariables false
set_option linter.unusedSimpArgs false
namespace Go.Proofs.YtdoceldofkaapaaGreatDoor
open Go.RowKit
theorem getD_mem (l : List T) (k : Nat) (h : k < l.length) : l.getD k default = l[k] := by simp [List.getD_eq_getElem?_getD, List.getElem?_eq_getElem h]
theorem cnt_at (l : List T) (t : T) (i : Nat) (hi : i ≤ l.length) (h1 : ∀ k, k < i → lt (l.getD k default) t = true) (h2 : ∀ k, i ≤ k → k < l.length → lt (l.getD k default) t = false) : cnt l t = i := by
  unfold cnt
  rw [← List.take_append_drop i l, List.countP_append]
  have e1 : (l.take i).countP (fun x => lt x t) = i := by
    rw [List.countP_eq_length.2, List.length_take, Nat.min_eq_left hi]
    intro x hx
    obtain ⟨k, hk, rfl⟩ := List.getElem_of_mem hx
    have hk' : k < i ∧ k < l.length := by simp at hk; omega
    have := h1 k hk'.1
    rw [getD_mem l k hk'.2] at this
    simpa using this
  have e2 : (l.drop i).countP (fun x => lt x t) = 0 := by
    rw [List.countP_eq_zero]
    intro x hx
    obtain ⟨k, hk, rfl⟩ := List.getElem_of_mem hx
    have hk' : i + k < l.length := by simp at hk; omega
    have := h2 (i + k) (by omega) hk'
    rw [getD_mem l (i + k) hk'] at this
    simp [this]
  rw [e1, e2]; rfl
theorem so_mono {l : List T} (h : So l) {a b : Nat} (hab : a ≤ b) (hb : b < l.length) : lt (l.getD b default) (l.getD a default) = false := by
  rcases Nat.lt_or_eq_of_le hab with hlt | rfl
  · have k := List.pairwise_iff_getElem.1 h a b (by omega) hb hlt
    rwa [getD_mem l a (by omega), getD_mem l b hb]
  · exact lt_irrefl _
/-- Where the search stands: those ahead of i are before t, those from j on are not. -/
def Mid (l : List T) (t : T) (i j : Nat) : Prop := i ≤ j ∧ j ≤ l.length ∧ (∀ k, k < i → lt (l.getD k default) t = true) ∧ ∀ k, j ≤ k → k < l.length → lt (l.getD k default) t = false
theorem Mid.start (l : List T) (t : T) : Mid l t 0 l.length := ⟨by omega, by omega, fun k h => by omega, fun k h1 h2 => by omega⟩
theorem Mid.up {l : List T} {t : T} {i j h : Nat} (hs : So l) (m : Mid l t i j) (hj : h < j) (hl : lt (l.getD h default) t = true) : Mid l t (h + 1) j := by
  refine ⟨by omega, m.2.1, fun k hk => ?_, m.2.2.2⟩
  have mono := so_mono hs (show k ≤ h by omega) (by have := m.2.1; omega)
  cases e : lt (l.getD k default) t with
  | true => rfl
  | false => rw [lt_ntrans mono e] at hl; cases hl
theorem Mid.down {l : List T} {t : T} {i j h : Nat} (hs : So l) (m : Mid l t i j) (hi : i ≤ h) (hj : h < j) (hl : lt (l.getD h default) t = false) : Mid l t i h := by
  refine ⟨hi, by have := m.2.1; omega, m.2.2.1, fun k hk hk2 => ?_⟩
  exact lt_ntrans (so_mono hs hk hk2) hl
theorem Mid.done {l : List T} {t : T} {i : Nat} (m : Mid l t i i) : cnt l t = i := cnt_at l t i m.2.1 m.2.2.1 m.2.2.2
set_option maxHeartbeats 1000000 in
theorem search_any (p : Option Addr) (n cap : Nat) (l : List T) (t : T) (w : World) (hn : l.length = n) (hm : n ≤ 5000) (hs : So l) (hl : Has w p l) :
    Calls Tryz.prog 152 #[.slice p n cap, .agg #[.int .u64 t.a, .int .u64 t.s, .int .i64 t.p], .func (.func 53) #[] #[]] w fun e w' => (∃ c, e = .returned (.tuple #[.int .i64 (cnt l t), .bool c])) ∧ Bel w w' := by
  have HL := Lib.hid hl
  have HN := Lib.hid hn
  have HS := Lib.hid hs
  clear hl hn hs
  go_enter Tryz.func152, Tryz.ntmps152
  go_wp2
  go_loopw [9, 10] (fun u v wr => ∃ i j : Nat, u = .int .i64 i ∧ v = .int .i64 j ∧ i ≤ j ∧ j ≤ n ∧ Mid l t i j ∧ FindAt w t wr) (fun u v _ => (intOf v - intOf u).toNat)
  case atStart => exact ⟨0, n, rfl, rfl, by omega, by omega, by rw [← HN.out]; exact Mid.start l t, (Bel.refl _).alloc _ _, by simp [go_sem], by simp [go_sem], by simp [go_sem]⟩
  case round =>
    obtain ⟨i, j, rfl, rfl, hij, hjn, hmid, hf⟩ := hrel
    have HM := Lib.hid hmid
    have HF := Lib.hid hf
    obtain ⟨_, y0, y1, y2⟩ := hf
    clear hmid
    by_cases h : i < j
    · obtain ⟨b, off, rfl, hr⟩ := HL.out.row (by have := HN.out; omega)
      obtain ⟨m, hm', him, hmj⟩ : ∃ m : Nat, ((i : Int) + j) / 2 = m ∧ i ≤ m ∧ m < j := ⟨(i + j) / 2, by omega, by omega, by omega⟩
      obtain ⟨x, hx⟩ : ∃ x, l.getD m default = x := ⟨_, rfl⟩
      have cx := (hr.bel HF.out.1) m (by have := HN.out; omega)
      rw [hx] at cx
      obtain ⟨x0, x1, x2⟩ := cx
      have HX := Lib.hid hx
      clear hx hr
      have b0 : (0 : Int) ≤ (m : Int) := by omega
      have b1 : (m : Int) < (n : Int) := by omega
      by_cases hc : cf x t < 0
      · have HM2 : Hid (Mid l t (m + 1) j) := Lib.hid (HM.out.up HS.out hmj (by rw [HX.out]; unfold lt; exact decide_eq_true hc))
        go_wp2
        go_region_held3 (fun w' => w'.cell? ⟨b, off + m * 3, none⟩ = some (.int .u64 x.a) ∧ w'.cell? ⟨b, off + m * 3 + 1, none⟩ = some (.int .u64 x.s) ∧ w'.cell? ⟨b, off + m * 3 + 2, none⟩ = some (.int .i64 x.p) ∧
            w'.cell? ⟨w.heap.size, 0, none⟩ = some (.int .u64 t.a) ∧ w'.cell? ⟨w.heap.size, 1, none⟩ = some (.int .u64 t.s) ∧ w'.cell? ⟨w.heap.size, 2, none⟩ = some (.int .i64 t.p)) (first | exact ⟨x0, x1, x2, y0, y1, y2⟩ | exact ⟨hg1.cell x0, hg1.cell x1, hg1.cell x2, hg1.cell y0, hg1.cell y1, hg1.cell y2⟩)
          (first | (go_at_call 53; refine (compare_any x t _).mono ?_; rintro e w1 ⟨rfl, hg1⟩))
        have HF2 := Lib.hid (HF.out.later ((Bel.refl _).drew.trans hg1))
        clear hg1
        go_wp2
        go_roundw
        case rel => exact ⟨m + 1, j, by go_num, rfl, by omega, by omega, HM2.out, HF2.out⟩
        case measure => simp [intOf]; omega
      · have HM2 : Hid (Mid l t i m) := Lib.hid (HM.out.down HS.out him hmj (by rw [HX.out]; unfold lt; exact decide_eq_false hc))
        go_wp2
        go_region_held3 (fun w' => w'.cell? ⟨b, off + m * 3, none⟩ = some (.int .u64 x.a) ∧ w'.cell? ⟨b, off + m * 3 + 1, none⟩ = some (.int .u64 x.s) ∧ w'.cell? ⟨b, off + m * 3 + 2, none⟩ = some (.int .i64 x.p) ∧
            w'.cell? ⟨w.heap.size, 0, none⟩ = some (.int .u64 t.a) ∧ w'.cell? ⟨w.heap.size, 1, none⟩ = some (.int .u64 t.s) ∧ w'.cell? ⟨w.heap.size, 2, none⟩ = some (.int .i64 t.p)) (first | exact ⟨x0, x1, x2, y0, y1, y2⟩ | exact ⟨hg1.cell x0, hg1.cell x1, hg1.cell x2, hg1.cell y0, hg1.cell y1, hg1.cell y2⟩)
          (first | (go_at_call 53; refine (compare_any x t _).mono ?_; rintro e w1 ⟨rfl, hg1⟩))
        have HF2 := Lib.hid (HF.out.later ((Bel.refl _).drew.trans hg1))
        clear hg1
        go_wp2
        go_roundw
        case rel => exact ⟨i, m, rfl, by go_num, by omega, by omega, HM2.out, HF2.out⟩
        case measure => simp [intOf]; omega
    · obtain rfl : i = j := by omega
      have HC := Lib.hid HM.out.done
      by_cases hin : i < n
      · obtain ⟨m, hmi⟩ : ∃ m, m = i := ⟨_, rfl⟩
        subst hmi
        obtain ⟨b, off, rfl, hr⟩ := HL.out.row (by have := HN.out; omega)
        obtain ⟨x, hx⟩ : ∃ x, l.getD m default = x := ⟨_, rfl⟩
        have cx := (hr.bel HF.out.1) m (by have := HN.out; omega)
        rw [hx] at cx
        obtain ⟨x0, x1, x2⟩ := cx
        clear hx hr
        have b0 : (0 : Int) ≤ (m : Int) := by omega
        have b1 : (m : Int) < (n : Int) := by omega
        go_wp2
        go_region_held3 (fun w' => w'.cell? ⟨b, off + m * 3, none⟩ = some (.int .u64 x.a) ∧ w'.cell? ⟨b, off + m * 3 + 1, none⟩ = some (.int .u64 x.s) ∧ w'.cell? ⟨b, off + m * 3 + 2, none⟩ = some (.int .i64 x.p) ∧
            w'.cell? ⟨w.heap.size, 0, none⟩ = some (.int .u64 t.a) ∧ w'.cell? ⟨w.heap.size, 1, none⟩ = some (.int .u64 t.s) ∧ w'.cell? ⟨w.heap.size, 2, none⟩ = some (.int .i64 t.p)) (first | exact ⟨x0, x1, x2, y0, y1, y2⟩ | exact ⟨hg1.cell x0, hg1.cell x1, hg1.cell x2, hg1.cell y0, hg1.cell y1, hg1.cell y2⟩)
          (first | (go_at_call 53; refine (compare_any x t _).mono ?_; rintro e w1 ⟨rfl, hg1⟩))
        go_wp2
        refine bodyPost_ret (v := .tuple #[.int .i64 m, .bool (cf x t == 0)]) (by simp [results, Tryz.results152, go_sem]) rfl ⟨⟨_, by rw [HC.out]⟩, HF.out.1.trans ((Bel.refl _).drew.trans hg1)⟩
      · have b1 : ¬ (i : Int) < (n : Int) := by omega
        go_wp2
        go_quiet (fail)
        go_wp2
        refine bodyPost_ret (v := .tuple #[.int .i64 i, .bool false]) (by simp [results, Tryz.results152, go_sem]) rfl ⟨⟨_, by rw [HC.out]⟩, HF.out.1.drewN nq⟩
/-- order.Find of a list in order. -/
theorem find_yes (p : Option Addr) (n cap : Nat) (l : List T) (t : T) (w : World) (hn : l.length = n) (hm : n ≤ 5000) (hs : So l) (hl : Has w p l) :
    Calls Tryz.prog 132 #[.slice p n cap, .agg #[.int .u64 t.a, .int .u64 t.s, .int .i64 t.p]] w fun e w' => e = .returned (.tuple #[.int .i64 (cnt l t), .int .i64 0]) ∧ Bel w w' := by
  have HL := Lib.hid hl
  have HN := Lib.hid hn
  have HS := Lib.hid hs
  clear hl hn hs
  have KS := Lib.hid (fun w h => sorted_any p n cap l w HN.out hm h)
  rw [(so_iff l).2 HS.out] at KS
  go_enter Tryz.func132, Tryz.ntmps132
  go_wp2_with fail
  with_reducible refine (KS.out _ (HL.out.bel ((Bel.refl _).alloc _ _))).mono ?_
  rintro e w1 ⟨rfl, hb⟩
  have y0 : w1.cell? ⟨w.heap.size, 0, none⟩ = some (.int .u64 t.a) := hb.cell (by simp [go_sem])
  have y1 : w1.cell? ⟨w.heap.size, 1, none⟩ = some (.int .u64 t.s) := hb.cell (by simp [go_sem])
  have y2 : w1.cell? ⟨w.heap.size, 2, none⟩ = some (.int .i64 t.p) := hb.cell (by simp [go_sem])
  have HB : Hid (Bel w w1) := Lib.hid (((Bel.refl _).alloc _ _).trans hb)
  clear hb
  go_wp2_with fail
  with_reducible refine (search_any p n cap l t _ HN.out hm HS.out (HL.out.bel HB.out)).mono ?_
  rintro e w2 ⟨⟨c, rfl⟩, hb2⟩
  have HB2 := Lib.hid (HB.out.trans hb2)
  clear hb2
  go_wp2
  refine bodyPost_ret (v := .tuple #[.int .i64 (cnt l t), .int .i64 0]) (by simp [results, Tryz.results132, go_sem]) rfl ⟨rfl, HB2.out⟩
theorem find_no (p : Option Addr) (n cap : Nat) (l : List T) (t : T) (w : World) (hn : l.length = n) (hm : n ≤ 5000) (hs : ¬ So l) (hl : Has w p l) :
    Calls Tryz.prog 132 #[.slice p n cap, .agg #[.int .u64 t.a, .int .u64 t.s, .int .i64 t.p]] w fun e w' => e = .returned (.tuple #[.int .i64 0, .int .i64 12]) ∧ Bel w w' := by
  have HL := Lib.hid hl
  have HN := Lib.hid hn
  have HS := Lib.hid hs
  clear hl hn hs
  have KS := Lib.hid (fun w h => sorted_any p n cap l w HN.out hm h)
  rw [(so_no l).2 HS.out] at KS
  go_enter Tryz.func132, Tryz.ntmps132
  go_wp2_with fail
  with_reducible refine (KS.out _ (HL.out.bel ((Bel.refl _).alloc _ _))).mono ?_
  rintro e w1 ⟨rfl, hb⟩
  have HB : Hid (Bel w w1) := Lib.hid (((Bel.refl _).alloc _ _).trans hb)
  clear hb
  go_wp2
  refine bodyPost_ret (v := .tuple #[.int .i64 0, .int .i64 12]) (by simp [results, Tryz.results132, go_sem]) rfl ⟨rfl, HB.out⟩
end Go.Proofs.YtdoceldofkaapaaGreatDoor
