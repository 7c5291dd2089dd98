/-
  Contracts of slices.BinarySearchFunc at timers and of order.Find.
  Contract of placed.Line: a timer is put into a list that is in order, where it stays so.
-/
import Derived.Test.YtdoceldofkaapaaGreatDoorXao
import Derived.Test.YtdoceldofkaapaaGreatDoorXae
import Derived.Deep.QuietTactic
import Derived.BigQuiet
import Derived.IntWalk
import Derived.Test.YtdoceldofkaapaaGreatDoorXaq
set_option linter.unusedVariables false
set_option linter.unusedSimpArgs false
namespace Go.Proofs.YtdoceldofkaapaaGreatDoor
open Go.RowKit
theorem getD_mem (l : List T) (k : Nat) (h : k < l.length) : l.getD k default = l[k] := by simp [List.getD_eq_getElem?_getD, List.getElem?_eq_getElem h]
theorem cnt_at (l : List T) (t : T) (i : Nat) (hi : i ≤ l.length) (h1 : ∀ k, k < i → lt (l.getD k default) t = true) (h2 : ∀ k, i ≤ k → k < l.length → lt (l.getD k default) t = false) : cnt l t = i := by
  unfold cnt
  rw [← List.take_append_drop i l, List.countP_append]
  have e1 : (l.take i).countP (fun x => lt x t) = i := by
    rw [List.countP_eq_length.2, List.length_take, Nat.min_eq_left hi]
    intro x hx
    obtain ⟨k, hk, rfl⟩ := List.getElem_of_mem hx
    have hk' : k < i ∧ k < l.length := by simp at hk; omega
    have := h1 k hk'.1
    rw [getD_mem l k hk'.2] at this
    simpa using this
  have e2 : (l.drop i).countP (fun x => lt x t) = 0 := by
    rw [List.countP_eq_zero]
    intro x hx
    obtain ⟨k, hk, rfl⟩ := List.getElem_of_mem hx
    have hk' : i + k < l.length := by simp at hk; omega
    have := h2 (i + k) (by omega) hk'
    rw [getD_mem l (i + k) hk'] at this
    simp [this]
  rw [e1, e2]; rfl
theorem so_mono {l : List T} (h : So l) {a b : Nat} (hab : a ≤ b) (hb : b < l.length) : lt (l.getD b default) (l.getD a default) = false := by
  rcases Nat.lt_or_eq_of_le hab with hlt | rfl
  · have k := List.pairwise_iff_getElem.1 h a b (by omega) hb hlt
    rwa [getD_mem l a (by omega), getD_mem l b hb]
  · exact lt_irrefl _
/-- Where the search stands: those ahead of i are before t, those from j on are not. -/
def Mid (l : List T) (t : T) (i j : Nat) : Prop := i ≤ j ∧ j ≤ l.length ∧ (∀ k, k < i → lt (l.getD k default) t = true) ∧ ∀ k, j ≤ k → k < l.length → lt (l.getD k default) t = false
theorem Mid.start (l : List T) (t : T) : Mid l t 0 l.length := ⟨by omega, by omega, fun k h => by omega, fun k h1 h2 => by omega⟩
theorem Mid.up {l : List T} {t : T} {i j h : Nat} (hs : So l) (m : Mid l t i j) (hj : h < j) (hl : lt (l.getD h default) t = true) : Mid l t (h + 1) j := by
  refine ⟨by omega, m.2.1, fun k hk => ?_, m.2.2.2⟩
  have mono := so_mono hs (show k ≤ h by omega) (by have := m.2.1; omega)
  cases e : lt (l.getD k default) t with
  | true => rfl
  | false => rw [lt_ntrans mono e] at hl; cases hl
theorem Mid.down {l : List T} {t : T} {i j h : Nat} (hs : So l) (m : Mid l t i j) (hi : i ≤ h) (hj : h < j) (hl : lt (l.getD h default) t = false) : Mid l t i h := by
  refine ⟨hi, by have := m.2.1; omega, m.2.2.1, fun k hk hk2 => ?_⟩
  exact lt_ntrans (so_mono hs hk hk2) hl
theorem Mid.done {l : List T} {t : T} {i : Nat} (m : Mid l t i i) : cnt l t = i := cnt_at l t i m.2.1 m.2.2.1 m.2.2.2
set_option maxHeartbeats 1000000 in
theorem search_any (p : Option Addr) (n cap : Nat) (l : List T) (t : T) (w : World) (hn : l.length = n) (hm : n ≤ 5000) (hs : So l) (hl : Has w p l) :
    Calls Tryz.prog 152 #[.slice p n cap, .agg #[.int .u64 t.a, .int .u64 t.s, .int .i64 t.p], .func (.func 53) #[] #[]] w fun e w' => (∃ c, e = .returned (.tuple #[.int .i64 (cnt l t), .bool c])) ∧ Bel w w' := by
  have HL := Lib.hid hl
  have HN := Lib.hid hn
  have HS := Lib.hid hs
  clear hl hn hs
  go_enter Tryz.func152, Tryz.ntmps152
  go_wp2
  go_loopw [9, 10] (fun u v wr => ∃ i j : Nat, u = .int .i64 i ∧ v = .int .i64 j ∧ i ≤ j ∧ j ≤ n ∧ Mid l t i j ∧ FindAt w t wr) (fun u v _ => (intOf v - intOf u).toNat)
  case atStart => exact ⟨0, n, rfl, rfl, by omega, by omega, by rw [← HN.out]; exact Mid.start l t, (Bel.refl _).alloc _ _, by simp [go_sem], by simp [go_sem], by simp [go_sem]⟩
  case round =>
    obtain ⟨i, j, rfl, rfl, hij, hjn, hmid, hf⟩ := hrel
    have HM := Lib.hid hmid
    have HF := Lib.hid hf
    obtain ⟨_, y0, y1, y2⟩ := hf
    clear hmid
    by_cases h : i < j
    · obtain ⟨b, off, rfl, hr⟩ := HL.out.row (by have := HN.out; omega)
      obtain ⟨m, hm', him, hmj⟩ : ∃ m : Nat, ((i : Int) + j) / 2 = m ∧ i ≤ m ∧ m < j := ⟨(i + j) / 2, by omega, by omega, by omega⟩
      obtain ⟨x, hx⟩ : ∃ x, l.getD m default = x := ⟨_, rfl⟩
      have cx := (hr.bel HF.out.1) m (by have := HN.out; omega)
      rw [hx] at cx
      obtain ⟨x0, x1, x2⟩ := cx
      have HX := Lib.hid hx
      clear hx hr
      have b0 : (0 : Int) ≤ (m : Int) := by omega
      have b1 : (m : Int) < (n : Int) := by omega
      by_cases hc : cf x t < 0
      · have HM2 : Hid (Mid l t (m + 1) j) := Lib.hid (HM.out.up HS.out hmj (by rw [HX.out]; unfold lt; exact decide_eq_true hc))
        go_wp2
        go_region_held3 (fun w' => w'.cell? ⟨b, off + m * 3, none⟩ = some (.int .u64 x.a) ∧ w'.cell? ⟨b, off + m * 3 + 1, none⟩ = some (.int .u64 x.s) ∧ w'.cell? ⟨b, off + m * 3 + 2, none⟩ = some (.int .i64 x.p) ∧
            w'.cell? ⟨w.heap.size, 0, none⟩ = some (.int .u64 t.a) ∧ w'.cell? ⟨w.heap.size, 1, none⟩ = some (.int .u64 t.s) ∧ w'.cell? ⟨w.heap.size, 2, none⟩ = some (.int .i64 t.p)) (first | exact ⟨x0, x1, x2, y0, y1, y2⟩ | exact ⟨hg1.cell x0, hg1.cell x1, hg1.cell x2, hg1.cell y0, hg1.cell y1, hg1.cell y2⟩)
          (first | (go_at_call 53; refine (compare_any x t _).mono ?_; rintro e w1 ⟨rfl, hg1⟩))
        have HF2 := Lib.hid (HF.out.later ((Bel.refl _).drew.trans hg1))
        clear hg1
        go_wp2
        go_roundw
        case rel => exact ⟨m + 1, j, by go_num, rfl, by omega, by omega, HM2.out, HF2.out⟩
        case measure => simp [intOf]; omega
      · have HM2 : Hid (Mid l t i m) := Lib.hid (HM.out.down HS.out him hmj (by rw [HX.out]; unfold lt; exact decide_eq_false hc))
        go_wp2
        go_region_held3 (fun w' => w'.cell? ⟨b, off + m * 3, none⟩ = some (.int .u64 x.a) ∧ w'.cell? ⟨b, off + m * 3 + 1, none⟩ = some (.int .u64 x.s) ∧ w'.cell? ⟨b, off + m * 3 + 2, none⟩ = some (.int .i64 x.p) ∧
            w'.cell? ⟨w.heap.size, 0, none⟩ = some (.int .u64 t.a) ∧ w'.cell? ⟨w.heap.size, 1, none⟩ = some (.int .u64 t.s) ∧ w'.cell? ⟨w.heap.size, 2, none⟩ = some (.int .i64 t.p)) (first | exact ⟨x0, x1, x2, y0, y1, y2⟩ | exact ⟨hg1.cell x0, hg1.cell x1, hg1.cell x2, hg1.cell y0, hg1.cell y1, hg1.cell y2⟩)
          (first | (go_at_call 53; refine (compare_any x t _).mono ?_; rintro e w1 ⟨rfl, hg1⟩))
        have HF2 := Lib.hid (HF.out.later ((Bel.refl _).drew.trans hg1))
        clear hg1
        go_wp2
        go_roundw
        case rel => exact ⟨i, m, rfl, by go_num, by omega, by omega, HM2.out, HF2.out⟩
        case measure => simp [intOf]; omega
    · obtain rfl : i = j := by omega
      have HC := Lib.hid HM.out.done
      by_cases hin : i < n
      · obtain ⟨m, hmi⟩ : ∃ m, m = i := ⟨_, rfl⟩
        subst hmi
        obtain ⟨b, off, rfl, hr⟩ := HL.out.row (by have := HN.out; omega)
        obtain ⟨x, hx⟩ : ∃ x, l.getD m default = x := ⟨_, rfl⟩
        have cx := (hr.bel HF.out.1) m (by have := HN.out; omega)
        rw [hx] at cx
        obtain ⟨x0, x1, x2⟩ := cx
        clear hx hr
        have b0 : (0 : Int) ≤ (m : Int) := by omega
        have b1 : (m : Int) < (n : Int) := by omega
        go_wp2
        go_region_held3 (fun w' => w'.cell? ⟨b, off + m * 3, none⟩ = some (.int .u64 x.a) ∧ w'.cell? ⟨b, off + m * 3 + 1, none⟩ = some (.int .u64 x.s) ∧ w'.cell? ⟨b, off + m * 3 + 2, none⟩ = some (.int .i64 x.p) ∧
            w'.cell? ⟨w.heap.size, 0, none⟩ = some (.int .u64 t.a) ∧ w'.cell? ⟨w.heap.size, 1, none⟩ = some (.int .u64 t.s) ∧ w'.cell? ⟨w.heap.size, 2, none⟩ = some (.int .i64 t.p)) (first | exact ⟨x0, x1, x2, y0, y1, y2⟩ | exact ⟨hg1.cell x0, hg1.cell x1, hg1.cell x2, hg1.cell y0, hg1.cell y1, hg1.cell y2⟩)
          (first | (go_at_call 53; refine (compare_any x t _).mono ?_; rintro e w1 ⟨rfl, hg1⟩))
        go_wp2
        refine bodyPost_ret (v := .tuple #[.int .i64 m, .bool (cf x t == 0)]) (by simp [results, Tryz.results152, go_sem]) rfl ⟨⟨_, by rw [HC.out]⟩, HF.out.1.trans ((Bel.refl _).drew.trans hg1)⟩
      · have b1 : ¬ (i : Int) < (n : Int) := by omega
        go_wp2
        go_quiet (fail)
        go_wp2
        refine bodyPost_ret (v := .tuple #[.int .i64 i, .bool false]) (by simp [results, Tryz.results152, go_sem]) rfl ⟨⟨_, by rw [HC.out]⟩, HF.out.1.drewN nq⟩
/-- order.Find of a list in order. -/
theorem find_yes (p : Option Addr) (n cap : Nat) (l : List T) (t : T) (w : World) (hn : l.length = n) (hm : n ≤ 5000) (hs : So l) (hl : Has w p l) :
    Calls Tryz.prog 132 #[.slice p n cap, .agg #[.int .u64 t.a, .int .u64 t.s, .int .i64 t.p]] w fun e w' => e = .returned (.tuple #[.int .i64 (cnt l t), .int .i64 0]) ∧ Bel w w' := by
  have HL := Lib.hid hl
  have HN := Lib.hid hn
  have HS := Lib.hid hs
  clear hl hn hs
  have KS := Lib.hid (fun w h => sorted_any p n cap l w HN.out hm h)
  rw [(so_iff l).2 HS.out] at KS
  go_enter Tryz.func132, Tryz.ntmps132
  go_wp2_with fail
  with_reducible refine (KS.out _ (HL.out.bel ((Bel.refl _).alloc _ _))).mono ?_
  rintro e w1 ⟨rfl, hb⟩
  have y0 : w1.cell? ⟨w.heap.size, 0, none⟩ = some (.int .u64 t.a) := hb.cell (by simp [go_sem])
  have y1 : w1.cell? ⟨w.heap.size, 1, none⟩ = some (.int .u64 t.s) := hb.cell (by simp [go_sem])
  have y2 : w1.cell? ⟨w.heap.size, 2, none⟩ = some (.int .i64 t.p) := hb.cell (by simp [go_sem])
  have HB : Hid (Bel w w1) := Lib.hid (((Bel.refl _).alloc _ _).trans hb)
  clear hb
  go_wp2_with fail
  with_reducible refine (search_any p n cap l t _ HN.out hm HS.out (HL.out.bel HB.out)).mono ?_
  rintro e w2 ⟨⟨c, rfl⟩, hb2⟩
  have HB2 := Lib.hid (HB.out.trans hb2)
  clear hb2
  go_wp2
  refine bodyPost_ret (v := .tuple #[.int .i64 (cnt l t), .int .i64 0]) (by simp [results, Tryz.results132, go_sem]) rfl ⟨rfl, HB2.out⟩
theorem find_no (p : Option Addr) (n cap : Nat) (l : List T) (t : T) (w : World) (hn : l.length = n) (hm : n ≤ 5000) (hs : ¬ So l) (hl : Has w p l) :
    Calls Tryz.prog 132 #[.slice p n cap, .agg #[.int .u64 t.a, .int .u64 t.s, .int .i64 t.p]] w fun e w' => e = .returned (.tuple #[.int .i64 0, .int .i64 12]) ∧ Bel w w' := by
  have HL := Lib.hid hl
  have HN := Lib.hid hn
  have HS := Lib.hid hs
  clear hl hn hs
  have KS := Lib.hid (fun w h => sorted_any p n cap l w HN.out hm h)
  rw [(so_no l).2 HS.out] at KS
  go_enter Tryz.func132, Tryz.ntmps132
  go_wp2_with fail
  with_reducible refine (KS.out _ (HL.out.bel ((Bel.refl _).alloc _ _))).mono ?_
  rintro e w1 ⟨rfl, hb⟩
  have HB : Hid (Bel w w1) := Lib.hid (((Bel.refl _).alloc _ _).trans hb)
  clear hb
  go_wp2
  refine bodyPost_ret (v := .tuple #[.int .i64 0, .int .i64 12]) (by simp [results, Tryz.results132, go_sem]) rfl ⟨rfl, HB.out⟩
end Go.Proofs.YtdoceldofkaapaaGreatDoor
namespace Go.Proofs.YtdoceldofkaapaaGreatDoor
open Go.RowKit
section
variable {Z B G R P L : Nat} {lo : T → Nat} {ls : Ls} {r : Nat → T} {l : List T}
theorem insert_qp_no {w : World} (q : Qp w Z B G R P L lo ls r l) {x : T} {b : Nat} (hb : b < P) (hn : ¬ insE P l x = 0) :
    Calls Tryz.prog 133 #[.pointer (some ⟨B, 0, none⟩), .int .i64 x.p, .int .i64 b] w fun e w' => e = .returned (.int .i64 (insE P l x)) ∧ Bel w w' := by
  obtain ⟨⟨g, q1, q2⟩, hi, hP, hL⟩ := q
  rcases insE_cases P l x with ⟨e, hk⟩ | ⟨k, e, hk, (⟨e2, y, hf⟩ | ⟨e2, hf⟩)⟩
  · rw [e]
    exact insert_arg B G P L g x.p b w q1.ch (by rw [hk]; simp)
  · rw [e2, e]
    obtain ⟨h1, h2, h3, h4⟩ := hi.inn hf
    exact insert_in B G P L g k b w q1.ch hP (by omega) hk hb (by rw [q2.li _ h3 k h4]; omega)
  · exact absurd e2 hn
theorem insert_qp_ok {w : World} (q : Qp w Z B G R P L lo ls r l) {t : Nat} (ht : t < L) {x : T} {k b : Nat} {a c : List Nat} (hl : ls t = a ++ b :: c) (e : x.p = k) (hk : k < P) (hf : fnd l k = none) :
    Calls Tryz.prog 133 #[.pointer (some ⟨B, 0, none⟩), .int .i64 k, .int .i64 b] w fun e w' => e = .returned (.int .i64 0) ∧ (∃ g, Que w' Z B G R P L g r ∧ Rep P L g (upd ls t (a ++ k :: b :: c))) ∧ Off (Only G) w w' := by
  obtain ⟨⟨g, q1, q2⟩, hi, hP, hL⟩ := q
  have ho := hi.out hf
  have hbm : b ∈ ls t := by rw [hl]; simp
  refine (insert_ok B G P L g k b (lst (P + t) a) w q1.ch hP (by omega) hk (q2.pl t ht b hbm) (by rw [q2.al k hk ho]) (by rw [q2.li t ht b hbm]; omega) (q2.lst_lt ht (fun i hi => by rw [hl]; simp [hi])) (q2.ahead ht hl)).mono fun e w' ⟨h1, h2, h3⟩ => ⟨h1, ⟨_, q1.chain h3 h2, ?_⟩, h3⟩
  have := q2.put ht hk ho (x := a) (y := b :: c) hl
  exact this
set_option maxHeartbeats 2000000 in
theorem line_end {t : Nat} (ht : t < L) (x : T) (w : World) (q : Qp w Z B G R P L lo ls r l) (hs : So ((ls t).map r)) (hc0 : cnt ((ls t).map r) x = (ls t).length) {Rl : Ending → World → World → Prop} (K7 : ∀ w', Bel w w' → Calls Tryz.prog 73 #[.pointer (some ⟨Z, 0, none⟩), .int .i64 t, .agg #[.int .u64 x.a, .int .u64 x.s, .int .i64 x.p]] w' fun e w2 => (∃ v : Int, e = .returned (.int .i64 v)) ∧ Rl e w' w2) :
    Calls Tryz.prog 101 #[.pointer (some ⟨Z, 0, none⟩), .int .i64 t, .agg #[.int .u64 x.a, .int .u64 x.s, .int .i64 x.p]] w fun e w2 => ∃ w', Bel w w' ∧ Rl e w' w2 := by
  have HQ := Lib.hid q
  have lZ := q.lt.1
  have HB0 : Hid (Bel w (w.alloc (.cells #[.int .u64 x.a, .int .u64 x.s, .int .i64 x.p] 37))) := Lib.hid ((Bel.refl _).alloc _ _)
  have HBd : Hid (Bel w (w.alloc (.cells #[.int .u64 x.a, .int .u64 x.s, .int .i64 x.p] 37)).drew) := Lib.hid HB0.out.drew
  have HN : Hid ((w.alloc (.cells #[.int .u64 x.a, .int .u64 x.s, .int .i64 x.p] 37)).heap[w.heap.size]? = some (.cells #[.int .u64 x.a, .int .u64 x.s, .int .i64 x.p] 37 (0, 0))) := Lib.hid (heap_alloc_new _ _)
  have HX : Hid (∀ w', Bel (w.alloc (.cells #[.int .u64 x.a, .int .u64 x.s, .int .i64 x.p] 37)) w' → w'.cell? ⟨w.heap.size, 0, none⟩ = some (.int .u64 x.a) ∧ w'.cell? ⟨w.heap.size, 1, none⟩ = some (.int .u64 x.s) ∧ w'.cell? ⟨w.heap.size, 2, none⟩ = some (.int .i64 x.p)) := Lib.hid (fun w' hb => (box3 (hb.heap HN.out)).1)
  have HD0 : Hid (Bel (w.alloc (.cells #[.int .u64 x.a, .int .u64 x.s, .int .i64 x.p] 37)) (w.alloc (.cells #[.int .u64 x.a, .int .u64 x.s, .int .i64 x.p] 37)).drew) := Lib.hid (Bel.refl _).drew
  have hlen := q.lslen ht
  have KI : Hid (∀ w', Bel w w' → Calls Tryz.prog 50 #[.pointer (some ⟨Z, 0, none⟩), .int .i64 t] w' fun e w2 => OutN w' w2 e ((ls t).map r) ∧ Bel w' w2) := Lib.hid (fun w' hb => in_any ht w' (q.bel hb))
  have KP : Hid (∀ w', Bel w w' → Calls Tryz.prog 86 #[.pointer (some ⟨B, 0, none⟩), .int .i64 t] w' fun e w2 => ∃ p c, e = .returned (.slice p (ls t).length c) ∧ (ls t).length ≤ c ∧ Lies (old w') w2 p (encI (ls t)) ∧ Bel w' w2) := Lib.hid (fun w' hb => places_qp (q.bel hb) ht)
  have HLN : Hid (((ls t).map r).length = (ls t).length) := Lib.hid (by simp)
  have KF : Hid (∀ w' p c, Has w' p ((ls t).map r) → Calls Tryz.prog 132 #[.slice p (ls t).length c, .agg #[.int .u64 x.a, .int .u64 x.s, .int .i64 x.p]] w' fun e w2 => e = .returned (.tuple #[.int .i64 (cnt ((ls t).map r) x), .int .i64 0]) ∧ Bel w' w2) :=
    Lib.hid (fun w' p c h => find_yes p _ c _ x w' (by simp) (by omega) hs h)
  have K8 := Lib.hid K7
  rw [hc0] at KF
  have heq : (((ls t).length : Int) == ((ls t).length : Int)) = true := by simp
  clear q K7 hs hc0
  generalize hnn : (ls t).length = n at *
  go_enter Tryz.func101, Tryz.ntmps101
  go_wp2
  go_region_held3 (fun w' => w'.cell? ⟨w.heap.size, 0, none⟩ = some (.int .u64 x.a) ∧ w'.cell? ⟨w.heap.size, 1, none⟩ = some (.int .u64 x.s) ∧ w'.cell? ⟨w.heap.size, 2, none⟩ = some (.int .i64 x.p))
    (first | (with_reducible exact HX.out _ HD0.out) | (with_reducible exact HX.out _ (HD0.out.trans hb1)) | exact HX.out _ ((HD0.out.trans hb1).trans hb2))
    (first
      | (go_at_call 50; (with_reducible refine (KI.out _ HBd.out).mono ?_); rintro e w1 ⟨⟨p, c, rfl, hc, hl1⟩, hb1⟩)
      | (go_at_call 132; (with_reducible refine (KF.out _ _ _ hl1.has).mono ?_); rintro e w2 ⟨rfl, hb2⟩))
  have HB2 : Hid (Bel w w2) := Lib.hid ((HBd.out.trans hb1).trans hb2)
  have HD2 : Hid (Bel (w.alloc (.cells #[.int .u64 x.a, .int .u64 x.s, .int .i64 x.p] 37)) w2) := Lib.hid ((HD0.out.trans hb1).trans hb2)
  obtain ⟨c0, c1⟩ := (HQ.out.bel HB2.out).head
  have lZ2 : Z < w2.heap.size := (HQ.out.bel HB2.out).lt.1
  clear hb1 hb2 hl1 hc KI KF
  go_wp2_with fail
  with_reducible refine (KP.out _ HB2.out).mono ?_
  rintro e w3 ⟨p3, c3, rfl, hc3, hl3, hb3⟩
  have HB3 : Hid (Bel w w3) := Lib.hid (HB2.out.trans hb3)
  have HD3 : Hid (Bel (w.alloc (.cells #[.int .u64 x.a, .int .u64 x.s, .int .i64 x.p] 37)) w3) := Lib.hid (HD2.out.trans hb3)
  obtain ⟨x0, x1, x2⟩ := HX.out _ HD3.out
  have HL3 := Lib.hid hl3
  clear hb3 hl3 c0 c1 lZ2 KP
  go_wp2_with fail
  with_reducible refine (K8.out _ HB3.out).mono ?_
  rintro e w4 ⟨⟨v, rfl⟩, hr⟩
  go_wp2
  go_ret
  exact ⟨_, HB3.out, hr⟩
set_option maxHeartbeats 2000000 in
theorem line_mid_no {t : Nat} (ht : t < L) (x : T) (w : World) (q : Qp w Z B G R P L lo ls r l) (hs : So ((ls t).map r)) (hlt : cnt ((ls t).map r) x < (ls t).length) (hn : ¬ insE P l x = 0) :
    Calls Tryz.prog 101 #[.pointer (some ⟨Z, 0, none⟩), .int .i64 t, .agg #[.int .u64 x.a, .int .u64 x.s, .int .i64 x.p]] w fun e w2 => e = .returned (.int .i64 (insE P l x)) ∧ Bel w w2 := by
  have HQ := Lib.hid q
  have lZ := q.lt.1
  have HB0 : Hid (Bel w (w.alloc (.cells #[.int .u64 x.a, .int .u64 x.s, .int .i64 x.p] 37))) := Lib.hid ((Bel.refl _).alloc _ _)
  have HBd : Hid (Bel w (w.alloc (.cells #[.int .u64 x.a, .int .u64 x.s, .int .i64 x.p] 37)).drew) := Lib.hid HB0.out.drew
  have HN : Hid ((w.alloc (.cells #[.int .u64 x.a, .int .u64 x.s, .int .i64 x.p] 37)).heap[w.heap.size]? = some (.cells #[.int .u64 x.a, .int .u64 x.s, .int .i64 x.p] 37 (0, 0))) := Lib.hid (heap_alloc_new _ _)
  have HX : Hid (∀ w', Bel (w.alloc (.cells #[.int .u64 x.a, .int .u64 x.s, .int .i64 x.p] 37)) w' → w'.cell? ⟨w.heap.size, 0, none⟩ = some (.int .u64 x.a) ∧ w'.cell? ⟨w.heap.size, 1, none⟩ = some (.int .u64 x.s) ∧ w'.cell? ⟨w.heap.size, 2, none⟩ = some (.int .i64 x.p)) := Lib.hid (fun w' hb => (box3 (hb.heap HN.out)).1)
  have HD0 : Hid (Bel (w.alloc (.cells #[.int .u64 x.a, .int .u64 x.s, .int .i64 x.p] 37)) (w.alloc (.cells #[.int .u64 x.a, .int .u64 x.s, .int .i64 x.p] 37)).drew) := Lib.hid (Bel.refl _).drew
  have hlen := q.lslen ht
  have KI : Hid (∀ w', Bel w w' → Calls Tryz.prog 50 #[.pointer (some ⟨Z, 0, none⟩), .int .i64 t] w' fun e w2 => OutN w' w2 e ((ls t).map r) ∧ Bel w' w2) := Lib.hid (fun w' hb => in_any ht w' (q.bel hb))
  have KP : Hid (∀ w', Bel w w' → Calls Tryz.prog 86 #[.pointer (some ⟨B, 0, none⟩), .int .i64 t] w' fun e w2 => ∃ p c, e = .returned (.slice p (ls t).length c) ∧ (ls t).length ≤ c ∧ Lies (old w') w2 p (encI (ls t)) ∧ Bel w' w2) := Lib.hid (fun w' hb => places_qp (q.bel hb) ht)
  have HLN : Hid (((ls t).map r).length = (ls t).length) := Lib.hid (by simp)
  have KF : Hid (∀ w' p c, Has w' p ((ls t).map r) → Calls Tryz.prog 132 #[.slice p (ls t).length c, .agg #[.int .u64 x.a, .int .u64 x.s, .int .i64 x.p]] w' fun e w2 => e = .returned (.tuple #[.int .i64 (cnt ((ls t).map r) x), .int .i64 0]) ∧ Bel w' w2) :=
    Lib.hid (fun w' p c h => find_yes p _ c _ x w' (by simp) (by omega) hs h)
  obtain ⟨cn, hcn⟩ : ∃ cn, cnt ((ls t).map r) x = cn := ⟨_, rfl⟩
  rw [hcn] at KF hlt
  obtain ⟨bb, hbb⟩ : ∃ bb, (ls t)[cn]? = some bb := ⟨_, List.getElem?_eq_getElem hlt⟩
  have hbP : bb < P := (q.rep ht).2 bb (List.mem_of_getElem? hbb)
  have K9 : Hid (∀ w', Bel w w' → Calls Tryz.prog 133 #[.pointer (some ⟨B, 0, none⟩), .int .i64 x.p, .int .i64 bb] w' fun e w2 => e = .returned (.int .i64 (insE P l x)) ∧ Bel w' w2) := Lib.hid (fun w' hb => insert_qp_no (q.bel hb) hbP hn)
  have hne : (insE P l x == 0) = false := by simpa using hn
  have HBB := Lib.hid hbb
  have HLL : Hid (∀ w2' w' p, Lies (old w2') w' p (encI (ls t)) → ∃ b off, p = some ⟨b, off, none⟩ ∧ w'.cell? ⟨b, off + cn, none⟩ = some (.int .i64 bb)) := Lib.hid (fun w2' w' p h => by
    obtain ⟨b, off, e, _, hr⟩ := lies_int h (i := cn) hlt
    exact ⟨b, off, e, row_int hr hbb⟩)
  have heq : ((cn : Int) == ((ls t).length : Int)) = false := by simp; omega
  have hb0 : (0 : Int) ≤ (cn : Int) := by omega
  have hb1' : (cn : Int) < ((ls t).length : Int) := by omega
  generalize insE P l x = er at *
  clear q hs hbb hn hbP
  generalize hnn : (ls t).length = n at *
  go_enter Tryz.func101, Tryz.ntmps101
  go_wp2
  go_region_held3 (fun w' => w'.cell? ⟨w.heap.size, 0, none⟩ = some (.int .u64 x.a) ∧ w'.cell? ⟨w.heap.size, 1, none⟩ = some (.int .u64 x.s) ∧ w'.cell? ⟨w.heap.size, 2, none⟩ = some (.int .i64 x.p))
    (first | (with_reducible exact HX.out _ HD0.out) | (with_reducible exact HX.out _ (HD0.out.trans hb1)) | exact HX.out _ ((HD0.out.trans hb1).trans hb2))
    (first
      | (go_at_call 50; (with_reducible refine (KI.out _ HBd.out).mono ?_); rintro e w1 ⟨⟨p, c, rfl, hc, hl1⟩, hb1⟩)
      | (go_at_call 132; (with_reducible refine (KF.out _ _ _ hl1.has).mono ?_); rintro e w2 ⟨rfl, hb2⟩))
  have HB2 : Hid (Bel w w2) := Lib.hid ((HBd.out.trans hb1).trans hb2)
  have HD2 : Hid (Bel (w.alloc (.cells #[.int .u64 x.a, .int .u64 x.s, .int .i64 x.p] 37)) w2) := Lib.hid ((HD0.out.trans hb1).trans hb2)
  obtain ⟨c0, c1⟩ := (HQ.out.bel HB2.out).head
  have lZ2 : Z < w2.heap.size := (HQ.out.bel HB2.out).lt.1
  clear hb1 hb2 hl1 hc KI KF
  go_wp2_with fail
  with_reducible refine (KP.out _ HB2.out).mono ?_
  rintro e w3 ⟨p3, c3, rfl, hc3, hl3, hb3⟩
  have HB3 : Hid (Bel w w3) := Lib.hid (HB2.out.trans hb3)
  have HD3 : Hid (Bel (w.alloc (.cells #[.int .u64 x.a, .int .u64 x.s, .int .i64 x.p] 37)) w3) := Lib.hid (HD2.out.trans hb3)
  obtain ⟨x0, x1, x2⟩ := HX.out _ HD3.out
  have HL3 := Lib.hid hl3
  clear hb3 hl3 c0 c1 lZ2 KP
  obtain ⟨b3, off3, rfl, y0⟩ := HLL.out _ _ _ HL3.out
  have lZ3 : Z < w3.heap.size := (HQ.out.bel HB3.out).lt.1
  obtain ⟨c0, c1⟩ := (HQ.out.bel HB3.out).head
  have HB3d : Hid (Bel w w3.drew) := Lib.hid HB3.out.drew
  have KX := Lib.hid (K9.out _ HB3d.out)
  go_wp2
  go_region_with (go_at_call 133; (with_reducible refine KX.out.mono ?_); rintro e w4 ⟨rfl, hb4⟩)
  all_goals
    have HB4 := Lib.hid (HB3d.out.trans hb4)
    clear hb4
    go_wp2
    go_ret
    exact ⟨rfl, HB4.out⟩
set_option maxHeartbeats 2000000 in
theorem line_mid_ok {t : Nat} (ht : t < L) (x : T) (w : World) (q : Qp w Z B G R P L lo ls r l) (hs : So ((ls t).map r)) (hlt : cnt ((ls t).map r) x < (ls t).length) {k : Nat} (e : x.p = k) (hk : k < P) (hf : fnd l k = none) (hlo : lo x = t) :
    Calls Tryz.prog 101 #[.pointer (some ⟨Z, 0, none⟩), .int .i64 t, .agg #[.int .u64 x.a, .int .u64 x.s, .int .i64 x.p]] w fun e w2 => e = .returned (.int .i64 0) ∧ Qp w2 Z B G R P L lo (upd ls t ((ls t).take (cnt ((ls t).map r) x) ++ k :: (ls t).drop (cnt ((ls t).map r) x))) (upT r k x) (put l x) ∧ Off (Fo2 G R) w w2 := by
  obtain ⟨xa, xs, xp⟩ := x
  simp only at e
  subst e
  have e : (⟨xa, xs, (k : Int)⟩ : T).p = (k : Int) := rfl
  simp only
  have HQ := Lib.hid q
  have lZ := q.lt.1
  have HB0 : Hid (Bel w (w.alloc (.cells #[.int .u64 xa, .int .u64 xs, .int .i64 (k : Int)] 37))) := Lib.hid ((Bel.refl _).alloc _ _)
  have HBd : Hid (Bel w (w.alloc (.cells #[.int .u64 xa, .int .u64 xs, .int .i64 (k : Int)] 37)).drew) := Lib.hid HB0.out.drew
  have HN : Hid ((w.alloc (.cells #[.int .u64 xa, .int .u64 xs, .int .i64 (k : Int)] 37)).heap[w.heap.size]? = some (.cells #[.int .u64 xa, .int .u64 xs, .int .i64 (k : Int)] 37 (0, 0))) := Lib.hid (heap_alloc_new _ _)
  have HX : Hid (∀ w', Bel (w.alloc (.cells #[.int .u64 xa, .int .u64 xs, .int .i64 (k : Int)] 37)) w' → w'.cell? ⟨w.heap.size, 0, none⟩ = some (.int .u64 xa) ∧ w'.cell? ⟨w.heap.size, 1, none⟩ = some (.int .u64 xs) ∧ w'.cell? ⟨w.heap.size, 2, none⟩ = some (.int .i64 (k : Int))) := Lib.hid (fun w' hb => (box3 (hb.heap HN.out)).1)
  have HD0 : Hid (Bel (w.alloc (.cells #[.int .u64 xa, .int .u64 xs, .int .i64 (k : Int)] 37)) (w.alloc (.cells #[.int .u64 xa, .int .u64 xs, .int .i64 (k : Int)] 37)).drew) := Lib.hid (Bel.refl _).drew
  have hlen := q.lslen ht
  have KI : Hid (∀ w', Bel w w' → Calls Tryz.prog 50 #[.pointer (some ⟨Z, 0, none⟩), .int .i64 t] w' fun e w2 => OutN w' w2 e ((ls t).map r) ∧ Bel w' w2) := Lib.hid (fun w' hb => in_any ht w' (q.bel hb))
  have KP : Hid (∀ w', Bel w w' → Calls Tryz.prog 86 #[.pointer (some ⟨B, 0, none⟩), .int .i64 t] w' fun e w2 => ∃ p c, e = .returned (.slice p (ls t).length c) ∧ (ls t).length ≤ c ∧ Lies (old w') w2 p (encI (ls t)) ∧ Bel w' w2) := Lib.hid (fun w' hb => places_qp (q.bel hb) ht)
  have HLN : Hid (((ls t).map r).length = (ls t).length) := Lib.hid (by simp)
  have KF : Hid (∀ w' p c, Has w' p ((ls t).map r) → Calls Tryz.prog 132 #[.slice p (ls t).length c, .agg #[.int .u64 xa, .int .u64 xs, .int .i64 (k : Int)]] w' fun e w2 => e = .returned (.tuple #[.int .i64 (cnt ((ls t).map r) (⟨xa, xs, (k : Int)⟩ : T)), .int .i64 0]) ∧ Bel w' w2) :=
    Lib.hid (fun w' p c h => find_yes p _ c _ (⟨xa, xs, (k : Int)⟩ : T) w' (by simp) (by omega) hs h)
  obtain ⟨cn, hcn⟩ : ∃ cn, cnt ((ls t).map r) (⟨xa, xs, (k : Int)⟩ : T) = cn := ⟨_, rfl⟩
  rw [hcn] at KF hlt ⊢
  obtain ⟨bb, hbb⟩ : ∃ bb, (ls t)[cn]? = some bb := ⟨_, List.getElem?_eq_getElem hlt⟩
  have hspl : ls t = (ls t).take cn ++ bb :: (ls t).drop (cn + 1) := by
    obtain ⟨h1, h2⟩ := List.getElem?_eq_some_iff.1 hbb
    rw [← h2, List.getElem_cons_drop, List.take_append_drop]
  have hdr : (ls t).drop cn = bb :: (ls t).drop (cn + 1) := by
    obtain ⟨h1, h2⟩ := List.getElem?_eq_some_iff.1 hbb
    rw [← h2, List.getElem_cons_drop]
  have HI := Lib.hid (q.is.putm (a := (ls t).take cn) (b := (ls t).drop cn) e hk hf hlo ht (by rw [List.take_append_drop]))
  rw [hdr] at HI ⊢
  have K9 : Hid (∀ w', Bel w w' → Calls Tryz.prog 133 #[.pointer (some ⟨B, 0, none⟩), .int .i64 k, .int .i64 bb] w' fun e w2 => e = .returned (.int .i64 0) ∧ (∃ g, Que w2 Z B G R P L g r ∧ Rep P L g (upd ls t ((ls t).take cn ++ k :: bb :: (ls t).drop (cn + 1)))) ∧ Off (Only G) w' w2) := Lib.hid (fun w' hb => insert_qp_ok (q.bel hb) ht hspl e hk hf)
  have HLL : Hid (∀ w2' w' p, Lies (old w2') w' p (encI (ls t)) → ∃ b off, p = some ⟨b, off, none⟩ ∧ w'.cell? ⟨b, off + cn, none⟩ = some (.int .i64 bb)) := Lib.hid (fun w2' w' p h => by
    obtain ⟨b, off, e, _, hr⟩ := lies_int h (i := cn) hlt
    exact ⟨b, off, e, row_int hr hbb⟩)
  have heq : ((cn : Int) == ((ls t).length : Int)) = false := by simp; omega
  have hb0 : (0 : Int) ≤ (cn : Int) := by omega
  have hb1' : (cn : Int) < ((ls t).length : Int) := by omega
  obtain ⟨_, lB, lG, lR⟩ := q.lt
  have nZG := q.ne.2.1
  have HSZ : Hid (Z < w.heap.size ∧ G < w.heap.size ∧ R < w.heap.size) := Lib.hid ⟨lZ, lG, lR⟩
  have hnG : ¬ w.heap.size = G := by omega
  have hnR : ¬ w.heap.size = R := by omega
  have hRn : ¬ R = w.heap.size := by omega
  have hP := q.hP
  have hL := q.hL
  generalize hls : upd ls t ((ls t).take cn ++ k :: bb :: (ls t).drop (cn + 1)) = ls1 at *
  clear q hs hbb hf e hlo hspl hdr hls
  generalize hnn : (ls t).length = n at *
  go_enter Tryz.func101, Tryz.ntmps101
  go_wp2
  go_region_held3 (fun w' => w'.cell? ⟨w.heap.size, 0, none⟩ = some (.int .u64 xa) ∧ w'.cell? ⟨w.heap.size, 1, none⟩ = some (.int .u64 xs) ∧ w'.cell? ⟨w.heap.size, 2, none⟩ = some (.int .i64 (k : Int)))
    (first | (with_reducible exact HX.out _ HD0.out) | (with_reducible exact HX.out _ (HD0.out.trans hb1)) | exact HX.out _ ((HD0.out.trans hb1).trans hb2))
    (first
      | (go_at_call 50; (with_reducible refine (KI.out _ HBd.out).mono ?_); rintro e w1 ⟨⟨p, c, rfl, hc, hl1⟩, hb1⟩)
      | (go_at_call 132; (with_reducible refine (KF.out _ _ _ hl1.has).mono ?_); rintro e w2 ⟨rfl, hb2⟩))
  have HB2 : Hid (Bel w w2) := Lib.hid ((HBd.out.trans hb1).trans hb2)
  have HD2 : Hid (Bel (w.alloc (.cells #[.int .u64 xa, .int .u64 xs, .int .i64 (k : Int)] 37)) w2) := Lib.hid ((HD0.out.trans hb1).trans hb2)
  obtain ⟨c0, c1⟩ := (HQ.out.bel HB2.out).head
  have lZ2 : Z < w2.heap.size := (HQ.out.bel HB2.out).lt.1
  clear hb1 hb2 hl1 hc KI KF
  go_wp2_with fail
  with_reducible refine (KP.out _ HB2.out).mono ?_
  rintro e w3 ⟨p3, c3, rfl, hc3, hl3, hb3⟩
  have HB3 : Hid (Bel w w3) := Lib.hid (HB2.out.trans hb3)
  have HD3 : Hid (Bel (w.alloc (.cells #[.int .u64 xa, .int .u64 xs, .int .i64 (k : Int)] 37)) w3) := Lib.hid (HD2.out.trans hb3)
  obtain ⟨x0, x1, x2⟩ := HX.out _ HD3.out
  have HL3 := Lib.hid hl3
  clear hb3 hl3 c0 c1 lZ2 KP
  obtain ⟨b3, off3, rfl, y0⟩ := HLL.out _ _ _ HL3.out
  have lZ3 : Z < w3.heap.size := (HQ.out.bel HB3.out).lt.1
  obtain ⟨c0, c1⟩ := (HQ.out.bel HB3.out).head
  have HB3d : Hid (Bel w w3.drew) := Lib.hid HB3.out.drew
  have HNB3 := Lib.hid (HD3.out.drew.heap HN.out)
  have KX := Lib.hid (K9.out _ HB3d.out)
  have hN3 : w.heap.size < w3.heap.size := (Array.getElem?_eq_some_iff.1 HNB3.out).1
  have HN3 := Lib.hid hN3
  go_wp2
  go_region_with (go_at_call 133; (with_reducible refine KX.out.mono ?_); rintro e w4 ⟨rfl, ⟨g1, q1, rp1⟩, ho⟩)
  all_goals
    have hb1 : w4.heap[w.heap.size]? = some (.cells #[.int .u64 xa, .int .u64 xs, .int .i64 (k : Int)] 37 (0, 0)) := (ho.block _ HN3.out hnG).trans HNB3.out
    obtain ⟨⟨b0, b1, b2⟩, _⟩ := box3 hb1
    have d1 : w4.cell? ⟨Z, 1, none⟩ = some (.slice (some ⟨R, 0, none⟩) P P) := q1.cell rfl
    obtain ⟨⟨y0', y1', y2'⟩, fz⟩ := q1.at hk
    have z0 := fz (k * 3)
    have z1 := fz (k * 3 + 1)
    have z2 := fz (k * 3 + 2)
    have lQ1 := q1.ltZ
    have lR1 := q1.ltR
    have HO : Hid (Off (Fo2 G R) w w4.drew) := Lib.hid (((HB3d.out.off (Only G)).then ho).mono (fun _ _ e => .inl e)).drew
    obtain ⟨q2, o2⟩ := (q1.bel (Bel.refl _).drew).put hk ⟨xa, xs, k⟩
    have FIN : Hid (Qp (set3 w4.drew R k ⟨xa, xs, k⟩) Z B G R P L lo ls1 (upT r k ⟨xa, xs, k⟩) (put l ⟨xa, xs, k⟩) ∧ Off (Fo2 G R) w (set3 w4.drew R k ⟨xa, xs, k⟩)) :=
      Lib.hid ⟨⟨⟨_, q2, rp1⟩, HI.out, hP, hL⟩, HO.out.then (o2.mono (fun _ _ e => .inr e))⟩
    clear q1 rp1 ho fz q2 o2 hb1 y0 c0 c1
    generalize (r k).a = r0 at *
    generalize (r k).s = r1 at *
    generalize (r k).p = r2 at *
    go_wp2
    go_region
    all_goals
      go_wp2
      go_ret
      exact ⟨rfl, FIN.out.1, FIN.out.2⟩
/-- Put into a list in order: what it answers, and what it leaves. -/
theorem line_no {t : Nat} (ht : t < L) (x : T) (w : World) (q : Qp w Z B G R P L lo ls r l) (hs : So ((ls t).map r)) (hn : ¬ insE P l x = 0) :
    Calls Tryz.prog 101 #[.pointer (some ⟨Z, 0, none⟩), .int .i64 t, .agg #[.int .u64 x.a, .int .u64 x.s, .int .i64 x.p]] w fun e w2 => e = .returned (.int .i64 (insE P l x)) ∧ Bel w w2 := by
  have h1 := cnt_le ((ls t).map r) x
  rw [List.length_map] at h1
  by_cases h : cnt ((ls t).map r) x < (ls t).length
  · exact line_mid_no ht x w q hs h hn
  · exact (line_end (Rl := fun e w' w2 => e = .returned (.int .i64 (insE P l x)) ∧ Bel w' w2) ht x w q hs (by omega) (fun w' hb => (put_no ht x w' (q.bel hb) hn).mono fun e w2 ⟨a, b⟩ => ⟨⟨_, a⟩, a, b⟩)).mono fun e w2 ⟨w', hb, a, b⟩ => ⟨a, hb.trans b⟩
theorem line_ok {t k : Nat} (ht : t < L) (x : T) (w : World) (q : Qp w Z B G R P L lo ls r l) (hs : So ((ls t).map r)) (e : x.p = k) (hk : k < P) (hf : fnd l k = none) (hlo : lo x = t) :
    Calls Tryz.prog 101 #[.pointer (some ⟨Z, 0, none⟩), .int .i64 t, .agg #[.int .u64 x.a, .int .u64 x.s, .int .i64 x.p]] w fun e w2 => e = .returned (.int .i64 0) ∧ (∃ m, Qp w2 Z B G R P L lo (upd ls t m) (upT r k x) (put l x) ∧ m.map (upT r k x) = put ((ls t).map r) x ∧ m ≠ []) ∧ Off (Fo2 G R) w w2 := by
  have h1 := cnt_le ((ls t).map r) x
  rw [List.length_map] at h1
  have hno : k ∉ ls t := q.is.out hf t ht
  have hup : upT r k x k = x := by unfold upT; rw [if_pos rfl]
  by_cases h : cnt ((ls t).map r) x < (ls t).length
  · refine (line_mid_ok ht x w q hs h e hk hf hlo).mono fun e w2 ⟨a, b, c⟩ => ⟨a, ⟨_, b, ?_, by simp⟩, c⟩
    unfold put
    rw [List.map_append, List.map_cons, hup, map_out (fun e => hno (List.mem_of_mem_take e)), map_out (fun e => hno (List.mem_of_mem_drop e)), List.map_take, List.map_drop]
  · have hc : cnt ((ls t).map r) x = (ls t).length := by omega
    refine (line_end (Rl := fun e w' w2 => e = .returned (.int .i64 0) ∧ Qp w2 Z B G R P L lo (upd ls t (ls t ++ [k])) (upT r k x) (put l x) ∧ Off (Fo2 G R) w' w2) ht x w q hs hc (fun w' hb => (put_ok ht x w' (q.bel hb) e hk hf hlo).mono fun e w2 ⟨a, b, c⟩ => ⟨⟨_, a⟩, a, b, c⟩)).mono fun e w2 ⟨w', hb, a, b, c⟩ => ⟨a, ⟨_, b, ?_, by simp⟩, (hb.off _).then c⟩
    unfold put
    rw [hc, List.map_append, map_out hno, List.map_cons, hup, List.take_of_length_le (by simp), List.drop_eq_nil_of_le (by simp)]
    rfl
end
end Go.Proofs.YtdoceldofkaapaaGreatDoor
