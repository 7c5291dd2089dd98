/-
  Contracts of the document's Sorted and Find.
  Contracts of the document's Put, Sort and Due, and of order's fresh.
  Contracts of the document's queue: New, Get, Min, without.
  Contracts of the document's without, Insert, Cancel, Move and Due.
-/
import Derived.Test.YtdoceldofkaapaaGreatDoorXad
import Derived.Test.YtdoceldofkaapaaGreatDoorXac
set_option linter.unusedVariables false
set_option linter.unusedSimpArgs false
namespace Go.Proofs.YtdoceldofkaapaaGreatDoor
open Go.RowKit
theorem cnt_step (l : List T) (t : T) (k : Nat) (h : k < l.length) : cnt (l.take (k + 1)) t = cnt (l.take k) t + (if lt (l.getD k default) t = true then 1 else 0) := by
  unfold cnt
  rw [List.take_succ_eq_append_getElem h, List.countP_append]
  congr 1
  have e : l.getD k default = l[k] := by simp [List.getD_eq_getElem?_getD, List.getElem?_eq_getElem h]
  rw [e, List.countP_cons, List.countP_nil]
  simp
/-- What holds at each round's head of Find. -/
def FindAt (w : World) (t : T) (wr : World) : Prop :=
  Bel w wr ∧ wr.cell? ⟨w.heap.size, 0, none⟩ = some (.int .u64 t.a) ∧ wr.cell? ⟨w.heap.size, 1, none⟩ = some (.int .u64 t.s) ∧ wr.cell? ⟨w.heap.size, 2, none⟩ = some (.int .i64 t.p)
theorem FindAt.later {w wr w1 : World} {t : T} (h : FindAt w t wr) (hb : Bel wr w1) : FindAt w t w1 :=
  ⟨h.1.trans hb, hb.cell h.2.1, hb.cell h.2.2.1, hb.cell h.2.2.2⟩
set_option maxHeartbeats 1000000 in
theorem rfind_any (p : Option Addr) (n cap : Nat) (l : List T) (t : T) (w : World) (hn : l.length = n) (hm : n ≤ 5000) (hl : Has w p l) :
    Calls Tryz.prog 136 #[.slice p n cap, .agg #[.int .u64 t.a, .int .u64 t.s, .int .i64 t.p]] w fun e w' => e = .returned (.int .i64 (cnt l t)) ∧ Bel w w' := by
  have HL := Lib.hid hl
  have HN := Lib.hid hn
  clear hl hn
  go_enter Tryz.func136, Tryz.ntmps136
  go_wp2
  go_loopw [5, 6] (fun c v wr => ∃ m : Nat, v = .int .i64 m ∧ m ≤ n ∧ c = .int .i64 (cnt (l.take m) t) ∧ FindAt w t wr) (fun _ v _ => n - (intOf v).toNat)
  case atStart => exact ⟨0, rfl, by omega, by simp [cnt], (Bel.refl _).alloc _ _, by simp [go_sem], by simp [go_sem], by simp [go_sem]⟩
  case round =>
    obtain ⟨m, rfl, hi, rfl, hf⟩ := hrel
    have hle : cnt (l.take m) t ≤ m := Nat.le_trans (cnt_le _ _) (by simp; omega)
    have HF := Lib.hid hf
    obtain ⟨_, y0, y1, y2⟩ := hf
    obtain ⟨c0, hc0⟩ : ∃ c0, cnt (l.take m) t = c0 := ⟨_, rfl⟩
    rw [hc0] at hle ⊢
    have HC0 := Lib.hid hc0
    clear hc0
    by_cases h : m < n
    · obtain ⟨b, off, rfl, hr⟩ := HL.out.row (by have := HN.out; omega)
      obtain ⟨x, hx⟩ : ∃ x, l.getD m default = x := ⟨_, rfl⟩
      have cx := (hr.bel HF.out.1) m (by have := HN.out; omega)
      rw [hx] at cx
      obtain ⟨x0, x1, x2⟩ := cx
      have hst := cnt_step l t m (by have := HN.out; omega)
      rw [hx, HC0.out] at hst
      have HX := Lib.hid hx
      clear hx hr
      obtain ⟨c, hc⟩ : ∃ c, lt x t = c := ⟨_, rfl⟩
      have KB := Lib.hid (before_any x t)
      rw [hc] at KB hst
      have HST := Lib.hid hst
      clear hc hst
      cases c with
      | true =>
        go_wp2
        go_region_held3 (fun w' => w'.cell? ⟨b, off + m * 3, none⟩ = some (.int .u64 x.a) ∧ w'.cell? ⟨b, off + m * 3 + 1, none⟩ = some (.int .u64 x.s) ∧ w'.cell? ⟨b, off + m * 3 + 2, none⟩ = some (.int .i64 x.p) ∧
            w'.cell? ⟨w.heap.size, 0, none⟩ = some (.int .u64 t.a) ∧ w'.cell? ⟨w.heap.size, 1, none⟩ = some (.int .u64 t.s) ∧ w'.cell? ⟨w.heap.size, 2, none⟩ = some (.int .i64 t.p)) (first | exact ⟨x0, x1, x2, y0, y1, y2⟩ | exact ⟨hg1.cell x0, hg1.cell x1, hg1.cell x2, hg1.cell y0, hg1.cell y1, hg1.cell y2⟩)
          (first | (go_at_call 153; refine (KB.out _).mono ?_; rintro e w1 ⟨rfl, hg1⟩))
        have HF2 := Lib.hid (HF.out.later ((Bel.refl _).drew.trans hg1))
        clear hg1
        go_wp2
        go_roundw
        case rel => exact ⟨m + 1, by go_num, by omega, by rw [HST.out]; simp, HF2.out⟩
        case measure => simp [intOf]; omega
      | false =>
        go_wp2
        go_region_held3 (fun w' => w'.cell? ⟨b, off + m * 3, none⟩ = some (.int .u64 x.a) ∧ w'.cell? ⟨b, off + m * 3 + 1, none⟩ = some (.int .u64 x.s) ∧ w'.cell? ⟨b, off + m * 3 + 2, none⟩ = some (.int .i64 x.p) ∧
            w'.cell? ⟨w.heap.size, 0, none⟩ = some (.int .u64 t.a) ∧ w'.cell? ⟨w.heap.size, 1, none⟩ = some (.int .u64 t.s) ∧ w'.cell? ⟨w.heap.size, 2, none⟩ = some (.int .i64 t.p)) (first | exact ⟨x0, x1, x2, y0, y1, y2⟩ | exact ⟨hg1.cell x0, hg1.cell x1, hg1.cell x2, hg1.cell y0, hg1.cell y1, hg1.cell y2⟩)
          (first | (go_at_call 153; refine (KB.out _).mono ?_; rintro e w1 ⟨rfl, hg1⟩))
        have HF2 := Lib.hid (HF.out.later ((Bel.refl _).drew.trans hg1))
        clear hg1
        go_wp2
        go_roundw
        case rel => exact ⟨m + 1, by go_num, by omega, by rw [HST.out]; simp, HF2.out⟩
        case measure => simp [intOf]; omega
    · have HE : Hid (cnt l t = c0) := Lib.hid (by
        have := HN.out
        rw [← HC0.out, List.take_of_length_le (by omega)])
      go_wp2
      go_ret
      exact ⟨ret_int (by rw [HE.out]), HF.out.1⟩
end Go.Proofs.YtdoceldofkaapaaGreatDoor
namespace Go.Proofs.YtdoceldofkaapaaGreatDoor
open Go.RowKit
theorem has_one (w : World) (t : T) : Has (w.alloc (.cells #[.int .u64 t.a, .int .u64 t.s, .int .i64 t.p] 37)) (some ⟨w.heap.size, 0, none⟩) [t] := by
  refine .inr ⟨_, _, rfl, fun i hi => ?_⟩
  obtain rfl : i = 0 := by simp at hi; exact hi
  simp [go_sem]
theorem own_one (w : World) (t : T) (base : Nat) (hb : base ≤ w.heap.size) : OwnT (w.alloc (.cells #[.int .u64 t.a, .int .u64 t.s, .int .i64 t.p] 37)) base (.slice (some ⟨w.heap.size, 0, none⟩) 1 1) [t] :=
  World.ownsRow_lit w #[.int .u64 t.a, .int .u64 t.s, .int .i64 t.p] 1 hb (by simp [maxLen]) rfl
set_option maxHeartbeats 1000000 in
theorem rput_any (p : Option Addr) (n cap : Nat) (l : List T) (t : T) (w : World) (hn : l.length = n) (hm : n ≤ 5000) (hcap : n ≤ cap) (hl : Has w p l) :
    Calls Tryz.prog 115 #[.slice p n cap, .agg #[.int .u64 t.a, .int .u64 t.s, .int .i64 t.p]] w fun e w' => OutN w w' e (put l t) ∧ Bel w w' := by
  have HL := Lib.hid hl
  have HN := Lib.hid hn
  clear hl hn
  go_enter Tryz.func115, Tryz.ntmps115
  go_wp2_with fail
  with_reducible refine (rfind_any p n cap l t _ HN.out hm (HL.out.bel ((Bel.refl _).alloc _ _))).mono ?_
  rintro e w1 ⟨rfl, hb⟩
  have hle : cnt l t ≤ n := by rw [← HN.out]; exact cnt_le l t
  have y0 : w1.cell? ⟨w.heap.size, 0, none⟩ = some (.int .u64 t.a) := hb.cell (by simp [go_sem])
  have y1 : w1.cell? ⟨w.heap.size, 1, none⟩ = some (.int .u64 t.s) := hb.cell (by simp [go_sem])
  have y2 : w1.cell? ⟨w.heap.size, 2, none⟩ = some (.int .i64 t.p) := hb.cell (by simp [go_sem])
  have HB : Hid (Bel w w1) := Lib.hid (((Bel.refl _).alloc _ _).trans hb)
  clear hb
  obtain ⟨c, hc⟩ : ∃ c, cnt l t = c := ⟨_, rfl⟩
  rw [hc] at hle ⊢
  have HC := Lib.hid hc
  clear hc
  have ht : (l.take c).length = c := by have := HN.out; simp; omega
  have hd : (l.drop c).length = n - c := by have := HN.out; simp; omega
  have HT := Lib.hid ht
  have HD := Lib.hid hd
  clear ht hd
  go_wp2_with (at_builtin; refine wpList_append_any rfl (.tmp 10) (.tmp 13) rfl w1.heap.size _ [] rfl (OwnT.empty _ _ (Nat.le_refl _)) _ _ _ (l.take c) rfl HT.out ((HL.out.bel (HB.out.alloc _ _)).take c) (by simp; omega) (by simp) ?_)
  intro v2 w2 hown hgrow hnil
  have HO := Lib.hid hown
  have HB2 : Hid (Bel w1 w2) := Lib.hid (OwnT.grown ((Bel.refl w1).alloc #[] 37) (OwnT.empty w1 w1.heap.size (Nat.le_refl _)) (by simp) hgrow)
  have y0 := HB2.out.cell y0
  have y1 := HB2.out.cell y1
  have y2 := HB2.out.cell y2
  clear hown hgrow hnil
  go_wp2_with (at_builtin; refine wpList_append_any rfl (.tmp 15) (.tmp 17) rfl w1.heap.size _ (l.take c) rfl (HO.out.bel ((Bel.refl _).alloc _ _)) _ _ _ [t] rfl rfl (has_one _ _) (by have := HT.out; omega) (by have := HB2.out.size; simp; omega) ?_)
  intro v3 w3 hown hgrow hnil
  have HO3 := Lib.hid hown
  have HB3 : Hid (Bel w1 w3) := Lib.hid (OwnT.grown (HB2.out.alloc _ _) (HO.out.bel ((Bel.refl _).alloc _ _)) (by have := HB2.out.size; simp; omega) hgrow)
  clear hown hgrow hnil
  go_wp2_with (at_builtin; refine wpList_append_any rfl (.tmp 19) (.tmp 22) rfl w1.heap.size _ (l.take c ++ [t]) rfl HO3.out _ _ _ (l.drop c) rfl HD.out ((HL.out.bel (HB.out.trans HB3.out)).cut HN.out hcap c) (by have := HT.out; simp; omega) HB3.out.size ?_)
  all_goals
    intro v4 w4 hown hgrow hnil
    have HO4 := Lib.hid hown
    have HB4 : Hid (Bel w1 w4) := Lib.hid (OwnT.grown HB3.out HO3.out HB3.out.size hgrow)
    clear hown hgrow hnil
    go_wp2
    go_ret
    refine ⟨?_, HB.out.trans HB4.out⟩
    have k := HO4.out.outN (w := w) HB.out.size
    unfold put
    rw [HC.out]
    simpa using k
theorem due_take (l : List T) (now : Int) (d : Bool) (k : Nat) (h : k < l.length) : due (l.take (k + 1)) now d = due (l.take k) now d ++ (if decide ((l.getD k default).a ≤ now) == d then [l.getD k default] else []) := by
  unfold due
  rw [List.take_succ_eq_append_getElem h, List.filter_append]
  have e : l.getD k default = l[k] := by simp [List.getD_eq_getElem?_getD, List.getElem?_eq_getElem h]
  rw [e]
  simp [List.filter_cons]
theorem due_len (l : List T) (now : Int) (d : Bool) : (due l now d).length ≤ l.length := List.length_filter_le _ _
set_option maxHeartbeats 1000000 in
theorem rdue_any (p : Option Addr) (n cap : Nat) (l : List T) (now : Int) (d : Bool) (w : World) (hn : l.length = n) (hm : n ≤ 5000) (hl : Has w p l) :
    Calls Tryz.prog 117 #[.slice p n cap, .int .u64 now, .bool d] w fun e w' => OutN w w' e (due l now d) ∧ Bel w w' := by
  have HL := Lib.hid hl
  have HN := Lib.hid hn
  clear hl hn
  go_enter Tryz.func117, Tryz.ntmps117
  go_wp2
  go_loopw [7, 8] (fun o v wr => ∃ m : Nat, v = .int .i64 m ∧ m ≤ n ∧ OwnT wr w.heap.size o (due (l.take m) now d) ∧ Bel w wr) (fun _ v _ => n - (intOf v).toNat)
  case atStart => exact ⟨0, rfl, by omega, OwnT.nil _ _, Bel.refl _⟩
  case round =>
    obtain ⟨m, rfl, hi, ho, hb⟩ := hrel
    have HO := Lib.hid ho
    have HB := Lib.hid hb
    clear ho hb
    by_cases h : m < n
    · obtain ⟨b, off, rfl, hr⟩ := HL.out.row (by have := HN.out; omega)
      obtain ⟨x, hx⟩ : ∃ x, l.getD m default = x := ⟨_, rfl⟩
      have cx := (hr.bel HB.out) m (by have := HN.out; omega)
      rw [hx] at cx
      obtain ⟨x0, x1, x2⟩ := cx
      have HS := Lib.hid (due_take l now d m (by have := HN.out; omega))
      rw [hx] at HS
      clear hx hr
      have HSL : Hid ((due (l.take m) now d).length ≤ m) := Lib.hid (Nat.le_trans (due_len _ _ _) (by simp; omega))
      by_cases hc : (decide (x.a ≤ now) == d) = true
      · go_wp2_with (at_builtin; refine wpList_append_any rfl (.tmp 24) (.tmp 29) rfl w.heap.size _ (due (l.take m) now d) rfl (HO.out.bel ((Bel.refl _).alloc _ _)) _ _ _ [x] rfl rfl (has_one _ _) (by have := HSL.out; omega) (by have := HB.out.size; simp; omega) ?_)
        intro v' w1 hown hgrow hnil
        have HE : Hid (due (List.take (m + 1) l) now d = due (List.take m l) now d ++ [x]) := Lib.hid (by rw [HS.out, if_pos hc])
        have HO2 : Hid (OwnT w1 w.heap.size v' (due (List.take (m + 1) l) now d)) := Lib.hid (by rw [HE.out]; exact hown)
        have HB2 : Hid (Bel w w1) := Lib.hid (OwnT.grown (HB.out.alloc _ _) (HO.out.bel ((Bel.refl _).alloc _ _)) (by have := HB.out.size; simp; omega) hgrow)
        clear hown hgrow hnil hc x0 x1 x2
        go_wp2
        go_roundw
        case rel => exact ⟨m + 1, by go_num, by omega, HO2.out, HB2.out⟩
        case measure => simp [intOf]; omega
      · have HE : Hid (due (List.take (m + 1) l) now d = due (List.take m l) now d) := Lib.hid (by rw [HS.out, if_neg hc, List.append_nil])
        have hc : (decide (x.a ≤ now) == d) = false := by simpa using hc
        go_wp2
        go_roundw
        case rel => exact ⟨m + 1, by go_num, by omega, by rw [HE.out]; exact HO.out, HB.out⟩
        case measure => simp [intOf]; omega
    · obtain rfl : m = n := by omega
      have HE : Hid (l.take m = l) := Lib.hid (List.take_of_length_le (by have := HN.out; omega))
      go_wp2
      go_ret
      have k := HO.out.outN (w := w) (Nat.le_refl _)
      rw [HE.out] at k
      exact ⟨k, HB.out⟩
end Go.Proofs.YtdoceldofkaapaaGreatDoor
namespace Go.Proofs.YtdoceldofkaapaaGreatDoor
open Go.RowKit
theorem dnew_no (P : Int) (w : World) (h : ¬ (0 ≤ P ∧ P ≤ 1024)) :
    Calls Tryz.prog 44 #[.int .i64 P] w fun e w' => e = .returned (.tuple #[.agg #[.int .i64 0, .slice none 0 0], .int .i64 1]) ∧ Bel w w' := by
  by_cases a0 : P < 0
  · go_enter Tryz.func44, Tryz.ntmps44
    go_wp2
    exact bodyPost_ret (v := .tuple #[.agg #[.int .i64 0, .slice none 0 0], .int .i64 1]) (by simp [results, Tryz.results44, go_sem]) rfl ⟨rfl, (Bel.refl _).alloc _ _⟩
  · have a1 : 1024 < P := by omega
    clear h
    go_enter Tryz.func44, Tryz.ntmps44
    go_wp2
    exact bodyPost_ret (v := .tuple #[.agg #[.int .i64 0, .slice none 0 0], .int .i64 1]) (by simp [results, Tryz.results44, go_sem]) rfl ⟨rfl, (Bel.refl _).alloc _ _⟩
theorem dnew_yes (P : Int) (w : World) (h : 0 ≤ P ∧ P ≤ 1024) :
    Calls Tryz.prog 44 #[.int .i64 P] w fun e w' => e = .returned (.tuple #[.agg #[.int .i64 P, .slice none 0 0], .int .i64 0]) ∧ Bel w w' := by
  have a0 : ¬ P < 0 := by omega
  have a1 : ¬ 1024 < P := by omega
  clear h
  go_enter Tryz.func44, Tryz.ntmps44
  go_wp2
  exact bodyPost_ret (v := .tuple #[.agg #[.int .i64 P, .slice none 0 0], .int .i64 0]) (by simp [results, Tryz.results44, go_sem]) rfl ⟨rfl, (Bel.refl _).alloc _ _⟩
theorem fnd_at (l : List T) (k : Int) (m : Nat) (hm : m < l.length) (h : ∀ j, j < m → ¬ (l.getD j default).p = k) (e : (l.getD m default).p = k) : fnd l k = some (l.getD m default) := by
  have e2 : l.getD m default = l[m] := by simp [List.getD_eq_getElem?_getD, List.getElem?_eq_getElem hm]
  unfold fnd
  rw [List.find?_eq_some_iff_getElem]
  refine ⟨by simpa using e, m, hm, e2.symm, fun j hj => ?_⟩
  have := h j hj
  have e3 : l.getD j default = l[j] := by simp [List.getD_eq_getElem?_getD, List.getElem?_eq_getElem (Nat.lt_trans hj hm)]
  rw [e3] at this
  simpa using this
theorem fnd_no (l : List T) (k : Int) (h : ∀ j, j < l.length → ¬ (l.getD j default).p = k) : fnd l k = none := by
  unfold fnd
  rw [List.find?_eq_none]
  intro t ht
  obtain ⟨j, hj, rfl⟩ := List.getElem_of_mem ht
  have := h j hj
  have e3 : l.getD j default = l[j] := by simp [List.getD_eq_getElem?_getD, List.getElem?_eq_getElem hj]
  rw [e3] at this
  simpa using this
set_option maxHeartbeats 1000000 in
theorem dget_any (P : Int) (p : Option Addr) (n c : Nat) (l : List T) (k : Int) (w : World) (hn : l.length = n) (hm : n ≤ 5000) (hl : Has w p l) :
    Calls Tryz.prog 20 #[.agg #[.int .i64 P, .slice p n c], .int .i64 k] w fun e w' => e = .returned (ansT (fnd l k)) ∧ Bel w w' := by
  have HB0 : Hid (Bel w ((w.alloc (.cells #[.int .i64 P, .slice p n c] 31)).alloc (.cells #[.int .u64 0, .int .u64 0, .int .i64 0] 37))) := Lib.hid (((Bel.refl _).alloc _ _).alloc _ _)
  have HN0 : Hid (((w.alloc (.cells #[.int .i64 P, .slice p n c] 31)).alloc (.cells #[.int .u64 0, .int .u64 0, .int .i64 0] 37)).heap[w.heap.size]? = some (.cells #[.int .i64 P, .slice p n c] 31 (0, 0))) := Lib.hid (by rw [Below.heap_alloc _ _ _ (by simp), heap_alloc_new])
  have HN1 : Hid (((w.alloc (.cells #[.int .i64 P, .slice p n c] 31)).alloc (.cells #[.int .u64 0, .int .u64 0, .int .i64 0] 37)).heap[w.heap.size + 1]? = some (.cells #[.int .u64 0, .int .u64 0, .int .i64 0] 37 (0, 0))) := Lib.hid (by
    have := heap_alloc_new (w.alloc (.cells #[.int .i64 P, .slice p n c] 31)) (.cells #[.int .u64 0, .int .u64 0, .int .i64 0] 37)
    simpa using this)
  have HL := Lib.hid hl
  have HNn := Lib.hid hn
  clear hl hn
  go_enter Tryz.func20, Tryz.ntmps20
  go_upto_region 1 with (fail)
  generalize (w.alloc (.cells #[.int .i64 P, .slice p n c] 31)).alloc (.cells #[.int .u64 0, .int .u64 0, .int .i64 0] 37) = W at *
  obtain ⟨e1, he1⟩ : ∃ b, w.heap.size + 1 = b := ⟨_, rfl⟩
  have hle1 : w.heap.size ≤ e1 := by omega
  rw [he1] at HN1 ⊢
  clear he1
  obtain ⟨⟨q0, q1⟩, _⟩ := box2 HN0.out
  obtain ⟨⟨b0, b1, b2⟩, f0, f1, f2⟩ := box3 HN1.out
  have HLW := Lib.hid (HL.out.bel HB0.out)
  clear HN0 HN1 HL
  go_wp2
  go_loopw [6] (fun v wr => ∃ m : Nat, v = .int .i64 m ∧ m ≤ n ∧ wr = W ∧ ∀ j, j < m → ¬ (l.getD j default).p = k) (fun v _ => n - (intOf v).toNat)
  case atStart => exact ⟨0, rfl, by omega, rfl, fun j hj => by omega⟩
  case round =>
    obtain ⟨m, rfl, hi, rfl, hall⟩ := hrel
    have HA := Lib.hid hall
    clear hall
    by_cases h : m < n
    · obtain ⟨b, off, rfl, hr⟩ := HLW.out.row (by have := HNn.out; omega)
      obtain ⟨x, hx⟩ : ∃ x, l.getD m default = x := ⟨_, rfl⟩
      have cx := hr m (by have := HNn.out; omega)
      rw [hx] at cx
      obtain ⟨x0, x1, x2⟩ := cx
      have HX := Lib.hid hx
      clear hx hr
      by_cases hk : x.p = k
      · have HF : Hid (fnd l k = some x) := Lib.hid (by
          rw [← HX.out]
          exact fnd_at l k m (by have := HNn.out; omega) HA.out (by rw [HX.out]; exact hk))
        have HE := Lib.hid (bel3 HB0.out hle1 (.int .u64 x.a) (.int .u64 x.s) (.int .i64 x.p))
        have hk2 : (x.p == k) = true := by simpa using hk
        clear hk
        go_wp2
        exact bodyPost_ret (v := ansT (some x)) (by simp [results, Tryz.results20, go_sem, b0, b1, b2, ansT]) rfl ⟨by rw [HF.out], HE.out⟩
      · have hk2 : (x.p == k) = false := by simpa using hk
        have HK := Lib.hid hk
        clear hk
        go_wp2
        go_roundw
        case rel =>
          refine ⟨m + 1, by go_num, by omega, trivial, fun j hj => ?_⟩
          by_cases e : j = m
          · subst e; rw [HX.out]; exact HK.out
          · exact HA.out j (by omega)
        case measure => simp [intOf]; omega
    · have HF : Hid (fnd l k = none) := Lib.hid (fnd_no l k (fun j hj => HA.out j (by have := HNn.out; omega)))
      have HE := Lib.hid (bel3 HB0.out hle1 (.int .u64 0) (.int .u64 0) (.int .i64 0))
      go_wp2
      exact bodyPost_ret (v := ansT none) (by simp [results, Tryz.results20, go_sem, b0, b1, b2, ansT]) rfl ⟨by rw [HF.out], HE.out⟩
theorem dmin_any (P : Int) (p : Option Addr) (n c : Nat) (l : List T) (w : World) (hn : l.length = n) (hl : Has w p l) :
    Calls Tryz.prog 22 #[.agg #[.int .i64 P, .slice p n c]] w fun e w' => e = .returned (ansT l.head?) ∧ Bel w w' := by
  have HB : Hid (∀ x : T, Bel w ((w.alloc (.cells #[.int .i64 P, .slice p n c] 31)).alloc (.cells #[.int .u64 x.a, .int .u64 x.s, .int .i64 x.p] 37))) := Lib.hid (fun x => ((Bel.refl _).alloc _ _).alloc _ _)
  cases l with
  | nil =>
    obtain rfl : n = 0 := by simpa using hn.symm
    clear hn hl
    go_enter Tryz.func22, Tryz.ntmps22
    go_wp2
    exact bodyPost_ret (v := ansT none) (by simp [results, Tryz.results22, go_sem, ansT]) rfl ⟨rfl, HB.out ⟨0, 0, 0⟩⟩
  | cons x r =>
    obtain ⟨b, off, rfl, hr⟩ := hl.row (by simp)
    have cx := hr 0 (by simp)
    simp only [Nat.zero_mul, Nat.add_zero] at cx
    obtain ⟨x0, x1, x2⟩ := cx
    have x0 : w.cell? ⟨b, off, none⟩ = some (.int .u64 x.a) := x0
    have x1 : w.cell? ⟨b, off + 1, none⟩ = some (.int .u64 x.s) := x1
    have x2 : w.cell? ⟨b, off + 2, none⟩ = some (.int .i64 x.p) := x2
    have lb := World.block_lt_of_cell? w _ x0
    have hn1 : ¬ (n : Int) = 0 := by simp at hn; omega
    have hn2 : ((n : Int) == 0) = false := by simpa using hn1
    have hn3 : (0 : Int) < n := by omega
    clear hn hl hr hn1
    go_enter Tryz.func22, Tryz.ntmps22
    go_wp2
    exact bodyPost_ret (v := ansT (some x)) (by simp [results, Tryz.results22, go_sem, ansT]) rfl ⟨rfl, HB.out x⟩
end Go.Proofs.YtdoceldofkaapaaGreatDoor
namespace Go.Proofs.YtdoceldofkaapaaGreatDoor
open Go.RowKit
theorem wo_take (l : List T) (k : Int) (m : Nat) (h : m < l.length) : wo (l.take (m + 1)) k = wo (l.take m) k ++ (if (l.getD m default).p = k then [] else [l.getD m default]) := by
  unfold wo
  rw [List.take_succ_eq_append_getElem h, List.filter_append]
  have e : l.getD m default = l[m] := by simp [List.getD_eq_getElem?_getD, List.getElem?_eq_getElem h]
  rw [e]
  by_cases hk : l[m].p = k <;> simp [hk]
theorem wo_len (l : List T) (k : Int) : (wo l k).length ≤ l.length := List.length_filter_le _ _
set_option maxHeartbeats 1000000 in
theorem dwo_any (P : Int) (p : Option Addr) (n c : Nat) (l : List T) (k : Int) (w : World) (hn : l.length = n) (hm : n ≤ 5000) (hl : Has w p l) :
    Calls Tryz.prog 116 #[.agg #[.int .i64 P, .slice p n c], .int .i64 k] w fun e w' => ∃ p' c', e = .returned (.agg #[.int .i64 P, .slice p' (wo l k).length c']) ∧ (wo l k).length ≤ c' ∧ Lies (old w) w' p' (encs (wo l k)) ∧ Bel w w' := by
  have HB0 : Hid (Bel w ((w.alloc (.cells #[.int .i64 P, .slice p n c] 31)).alloc (.cells #[.int .i64 0, .slice none 0 0] 31))) := Lib.hid (((Bel.refl _).alloc _ _).alloc _ _)
  have HN0 : Hid (((w.alloc (.cells #[.int .i64 P, .slice p n c] 31)).alloc (.cells #[.int .i64 0, .slice none 0 0] 31)).heap[w.heap.size]? = some (.cells #[.int .i64 P, .slice p n c] 31 (0, 0))) := Lib.hid (by rw [Below.heap_alloc _ _ _ (by simp), heap_alloc_new])
  have HN1 : Hid (((w.alloc (.cells #[.int .i64 P, .slice p n c] 31)).alloc (.cells #[.int .i64 0, .slice none 0 0] 31)).heap[w.heap.size + 1]? = some (.cells #[.int .i64 0, .slice none 0 0] 31 (0, 0))) := Lib.hid (by
    have := heap_alloc_new (w.alloc (.cells #[.int .i64 P, .slice p n c] 31)) (.cells #[.int .i64 0, .slice none 0 0] 31)
    simpa using this)
  have HL := Lib.hid hl
  have HNn := Lib.hid hn
  clear hl hn
  go_enter Tryz.func116, Tryz.ntmps116
  go_upto_region 1 with (fail)
  generalize (w.alloc (.cells #[.int .i64 P, .slice p n c] 31)).alloc (.cells #[.int .i64 0, .slice none 0 0] 31) = W at *
  obtain ⟨e1, he1⟩ : ∃ b, w.heap.size + 1 = b := ⟨_, rfl⟩
  have hle1 : w.heap.size ≤ e1 := by omega
  have hne1 : ¬ e1 = w.heap.size := by omega
  rw [he1] at HN1 ⊢
  clear he1
  have lW0 : w.heap.size < W.heap.size := (Array.getElem?_eq_some_iff.1 HN0.out).1
  have lW1 : e1 < W.heap.size := (Array.getElem?_eq_some_iff.1 HN1.out).1
  have HLW := Lib.hid (HL.out.bel HB0.out)
  clear HL
  go_wp2
  go_loopw [5, 6] (fun o v wr => ∃ m : Nat, v = .int .i64 m ∧ m ≤ n ∧ OwnT wr W.heap.size o (wo (l.take m) k) ∧ Bel W wr) (fun _ v _ => n - (intOf v).toNat)
  case atStart => exact ⟨0, rfl, by omega, OwnT.nil _ _, Bel.refl _⟩
  case round =>
    obtain ⟨m, rfl, hi, ho, hb⟩ := hrel
    have HO := Lib.hid ho
    have HB := Lib.hid hb
    obtain ⟨⟨q0, q1⟩, _⟩ := box2 (hb.heap HN0.out)
    obtain ⟨⟨b0, b1⟩, f0, f1⟩ := box2 (hb.heap HN1.out)
    have hsz := hb.size
    clear ho hb
    by_cases h : m < n
    · obtain ⟨b, off, rfl, hr⟩ := HLW.out.row (by have := HNn.out; omega)
      obtain ⟨x, hx⟩ : ∃ x, l.getD m default = x := ⟨_, rfl⟩
      have cx := (hr.bel HB.out) m (by have := HNn.out; omega)
      rw [hx] at cx
      obtain ⟨x0, x1, x2⟩ := cx
      have HS := Lib.hid (wo_take l k m (by have := HNn.out; omega))
      rw [hx] at HS
      clear hx hr b0 b1 f0 f1
      have HSL : Hid ((wo (l.take m) k).length ≤ m) := Lib.hid (Nat.le_trans (wo_len _ _) (by simp; omega))
      by_cases hk : x.p = k
      · have HE : Hid (wo (List.take (m + 1) l) k = wo (List.take m l) k) := Lib.hid (by rw [HS.out, if_pos hk, List.append_nil])
        have hk2 : (x.p == k) = true := by simpa using hk
        clear hk
        go_wp2
        go_roundw
        case rel => exact ⟨m + 1, by go_num, by omega, by rw [HE.out]; exact HO.out, HB.out⟩
        case measure => simp [intOf]; omega
      · have HE : Hid (wo (List.take (m + 1) l) k = wo (List.take m l) k ++ [x]) := Lib.hid (by rw [HS.out, if_neg hk])
        have hk2 : (x.p == k) = false := by simpa using hk
        clear hk
        go_wp2_with (at_builtin; refine wpList_append_any rfl (.tmp 22) (.tmp 28) rfl W.heap.size _ (wo (l.take m) k) rfl (HO.out.bel ((Bel.refl _).alloc _ _)) _ _ _ [x] rfl rfl (has_one _ _) (by have := HSL.out; omega) (by simp; omega) ?_)
        intro v' w1 hown hgrow hnil
        have HO2 : Hid (OwnT w1 W.heap.size v' (wo (List.take (m + 1) l) k)) := Lib.hid (by rw [HE.out]; exact hown)
        have HB2 : Hid (Bel W w1) := Lib.hid (OwnT.grown (HB.out.alloc _ _) (HO.out.bel ((Bel.refl _).alloc _ _)) (by simp; omega) hgrow)
        clear hown hgrow hnil x0 x1 x2
        go_wp2
        go_roundw
        case rel => exact ⟨m + 1, by go_num, by omega, HO2.out, HB2.out⟩
        case measure => simp [intOf]; omega
    · obtain rfl : m = n := by omega
      have HE : Hid (l.take m = l) := Lib.hid (List.take_of_length_le (by have := HNn.out; omega))
      obtain ⟨p', c', rfl, hc', hl'⟩ := HO.out.lies (w := w) HB0.out.size
      rw [HE.out] at hc' hl' ⊢
      have o2 := off2 wr e1 (.int .i64 P) (.slice p' (wo l k).length c')
      have HZ : Hid (Lies (old w) ((wr.setCell ⟨e1, 0, none⟩ (.int .i64 P)).setCell ⟨e1, 1, none⟩ (.slice p' (wo l k).length c')) p' (encs (wo l k)) ∧ Bel w ((wr.setCell ⟨e1, 0, none⟩ (.int .i64 P)).setCell ⟨e1, 1, none⟩ (.slice p' (wo l k).length c'))) := Lib.hid (by
        refine ⟨?_, Off.trans (HB0.out.trans HB.out) o2 (fun i e => .inr (by omega))⟩
        have hl3 : Lies (old W) wr p' (encs (wo l k)) := by
          obtain ⟨p3, c3, e3, _, h3⟩ := HO.out.lies (w := W) (Nat.le_refl _)
          rw [HE.out] at e3 h3
          injection e3 with e4
          rw [e4]
          exact h3
        have hl4 := (hl3.off (o2.mono (g := old W) (fun i _ e => by unfold old; omega)) (fun i e => e))
        exact hl4.mono (fun b _ e => Nat.lt_of_lt_of_le e HB0.out.size))
      have HC := Lib.hid hc'
      clear hc' hl' o2
      go_wp2
      exact bodyPost_ret (v := .agg #[.int .i64 P, .slice p' (wo l k).length c']) (by simp [results, Tryz.results116, go_sem, b0, b1]) rfl ⟨p', c', rfl, HC.out, HZ.out⟩
end Go.Proofs.YtdoceldofkaapaaGreatDoor
