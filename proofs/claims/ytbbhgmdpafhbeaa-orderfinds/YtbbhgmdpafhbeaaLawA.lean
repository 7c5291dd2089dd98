/-
  The walks of OrderSorts, OrderFinds and OrderCuts.
-/
import Derived.Test.YtbbhgmdpafhbeaaWorks
namespace Go.Proofs.Ytbbhgmdpafhbeaa
open Go.RowKit
theorem sorts_long (p : Option Addr) (n cap : Nat) (w : World) (h : 60 < n) :
    Calls Try.prog 3 #[.slice p n cap] w fun e w' => e = .returned (.bool true) ∧ Bel w w' := by
  have h' : (60 : Int) < n := by omega
  go_enter Try.func3, Try.ntmps3
  go_wp2_with fail
  with_reducible refine (works_any _).mono ?_
  rintro e w1 ⟨rfl, hb⟩
  go_wp2
  go_ret
  exact ⟨rfl, hb⟩
theorem sorts_short (p : Option Addr) (n cap : Nat) (l : List T) (w : World) (h : n ≤ 60) (hn : l.length = n) (hl : Has w p l) :
    Calls Try.prog 3 #[.slice p n cap] w fun e w' => e = .returned (.bool true) ∧ Bel w w' := by
  have h' : ¬ (60 : Int) < n := by omega
  have HN := Lib.hid hn
  have HL := Lib.hid hl
  have HSL : Hid ((srt l).length = n) := Lib.hid (by rw [srt_len, hn])
  clear hn hl
  obtain ⟨c, hc⟩ : ∃ c, so l = c := ⟨_, rfl⟩
  have K13 := Lib.hid (fun w h => sorted_any p n cap l w HN.out (by omega) h)
  have K14 := Lib.hid (fun w h => rsorted_any p n cap l w HN.out (by omega) h)
  rw [hc] at K13 K14
  clear hc
  have hcc : (c == c) = true := by simp
  go_enter Try.func3, Try.ntmps3
  go_wp2_with fail
  with_reducible refine (works_any _).mono ?_
  rintro e w1 ⟨rfl, hb1⟩
  have B1 := Lib.hid hb1
  clear hb1
  go_wp2_with fail
  with_reducible refine (rsort_any p n cap l _ HN.out (by omega) (HL.out.bel B1.out)).mono ?_
  rintro e w2 ⟨⟨p2, c2, rfl, hc2, hp2⟩, hb2⟩
  rw [HSL.out] at hc2 ⊢
  have P2 := Lib.hid hp2
  have B2 := Lib.hid (B1.out.trans hb2)
  clear hp2 hb2
  go_wp2_with fail
  with_reducible refine (sort_any p n cap l _ HN.out (by omega) (HL.out.bel B2.out)).mono ?_
  rintro e w3 ⟨⟨p3, c3, rfl, hc3, hp3⟩, hb3⟩
  rw [HSL.out] at hc3 ⊢
  have P3 := Lib.hid hp3
  have P2' := Lib.hid (P2.out.bel hb3)
  have B3 := Lib.hid (B2.out.trans hb3)
  clear hp3 hb3
  go_wp2_with fail
  with_reducible refine (ex_same p3 p2 c3 c2 n (srt l) _ HSL.out (by omega) P3.out P2'.out).mono ?_
  rintro e w4 ⟨rfl, hb4⟩
  have B4 := Lib.hid (B3.out.trans hb4)
  clear hb4
  go_wp2_with fail
  with_reducible refine (K13.out _ (HL.out.bel B4.out)).mono ?_
  rintro e w5 ⟨rfl, hb5⟩
  have B5 := Lib.hid (B4.out.trans hb5)
  clear hb5
  go_wp2_with fail
  with_reducible refine (K14.out _ (HL.out.bel B5.out)).mono ?_
  rintro e w6 ⟨rfl, hb6⟩
  have B6 := Lib.hid (B5.out.trans hb6)
  clear hb6
  go_wp2
  go_ret
  exact ⟨rfl, B6.out⟩
theorem finds_long (p : Option Addr) (n cap : Nat) (t : T) (w : World) (h : 60 < n) :
    Calls Try.prog 7 #[.slice p n cap, .agg #[.int .u64 t.a, .int .u64 t.s, .int .i64 t.p]] w fun e w' => e = .returned (.bool true) ∧ Bel w w' := by
  have h' : (60 : Int) < n := by omega
  go_enter Try.func7, Try.ntmps7
  go_wp2_with fail
  with_reducible refine (works_any _).mono ?_
  rintro e w1 ⟨rfl, hb⟩
  go_wp2
  go_ret
  exact ⟨rfl, ((Bel.refl _).alloc _ _).trans hb⟩
theorem finds_no (p : Option Addr) (n cap : Nat) (l : List T) (t : T) (w : World) (h : n ≤ 60) (hn : l.length = n) (hs : ¬ So l) (hl : Has w p l) :
    Calls Try.prog 7 #[.slice p n cap, .agg #[.int .u64 t.a, .int .u64 t.s, .int .i64 t.p]] w fun e w' => e = .returned (.bool true) ∧ Bel w w' := by
  have h' : ¬ (60 : Int) < n := by omega
  have HN := Lib.hid hn
  have HL := Lib.hid hl
  have HS := Lib.hid hs
  have K14 := Lib.hid (fun w h => rsorted_any p n cap l w HN.out (by omega) h)
  rw [(so_no l).2 hs] at K14
  clear hn hl hs
  go_enter Try.func7, Try.ntmps7
  go_wp2_with fail
  with_reducible refine (works_any _).mono ?_
  rintro e w1 ⟨rfl, hb1⟩
  have y0 : w1.cell? ⟨w.heap.size, 0, none⟩ = some (.int .u64 t.a) := hb1.cell (by simp [go_sem])
  have y1 : w1.cell? ⟨w.heap.size, 1, none⟩ = some (.int .u64 t.s) := hb1.cell (by simp [go_sem])
  have y2 : w1.cell? ⟨w.heap.size, 2, none⟩ = some (.int .i64 t.p) := hb1.cell (by simp [go_sem])
  have B1 := Lib.hid (((Bel.refl w).alloc _ _).trans hb1)
  clear hb1
  go_wp2_with fail
  with_reducible refine (find_no p n cap l t _ HN.out (by omega) HS.out (HL.out.bel B1.out)).mono ?_
  rintro e w2 ⟨rfl, hb2⟩
  have y0 := hb2.cell y0
  have y1 := hb2.cell y1
  have y2 := hb2.cell y2
  have B2 := Lib.hid (B1.out.trans hb2)
  clear hb2
  go_wp2_with fail
  with_reducible refine (put_no p n cap l t _ HN.out (by omega) HS.out (HL.out.bel B2.out)).mono ?_
  rintro e w3 ⟨rfl, hb3⟩
  have B3 := Lib.hid (B2.out.trans hb3)
  clear hb3 y0 y1 y2
  go_wp2_with fail
  with_reducible refine (K14.out _ (HL.out.bel B3.out)).mono ?_
  rintro e w4 ⟨rfl, hb4⟩
  have B4 := Lib.hid (B3.out.trans hb4)
  clear hb4
  go_wp2
  go_ret
  exact ⟨rfl, B4.out⟩
theorem finds_yes (p : Option Addr) (n cap : Nat) (l : List T) (t : T) (w : World) (h : n ≤ 60) (hn : l.length = n) (hcap : n ≤ cap) (hs : So l) (hl : Has w p l) :
    Calls Try.prog 7 #[.slice p n cap, .agg #[.int .u64 t.a, .int .u64 t.s, .int .i64 t.p]] w fun e w' => e = .returned (.bool true) ∧ Bel w w' := by
  have h' : ¬ (60 : Int) < n := by omega
  have HN := Lib.hid hn
  have HL := Lib.hid hl
  have K14 := Lib.hid (fun w h => rsorted_any p n cap l w HN.out (by omega) h)
  rw [(so_iff l).2 hs] at K14
  have KF := Lib.hid (fun w h => find_yes p n cap l t w HN.out (by omega) hs h)
  have KR := Lib.hid (fun w h => rfind_any p n cap l t w HN.out (by omega) h)
  have KP := Lib.hid (fun w h => put_yes p n cap l t w HN.out (by omega) hcap hs h)
  have hcl : cnt l t ≤ n := by rw [← hn]; exact cnt_le l t
  obtain ⟨c, hc⟩ : ∃ c, cnt l t = c := ⟨_, rfl⟩
  rw [hc] at KF KR hcl
  have HPL : Hid ((put l t).length = n + 1) := Lib.hid (by rw [(put_perm l t).length_eq, List.length_cons, hn])
  clear hn hl hs hc
  have hcc : ((c : Int) == (c : Int)) = true := by simp
  go_enter Try.func7, Try.ntmps7
  go_wp2_with fail
  with_reducible refine (works_any _).mono ?_
  rintro e w1 ⟨rfl, hb1⟩
  have y0 : w1.cell? ⟨w.heap.size, 0, none⟩ = some (.int .u64 t.a) := hb1.cell (by simp [go_sem])
  have y1 : w1.cell? ⟨w.heap.size, 1, none⟩ = some (.int .u64 t.s) := hb1.cell (by simp [go_sem])
  have y2 : w1.cell? ⟨w.heap.size, 2, none⟩ = some (.int .i64 t.p) := hb1.cell (by simp [go_sem])
  have B1 := Lib.hid (((Bel.refl w).alloc _ _).trans hb1)
  clear hb1
  go_wp2_with fail
  with_reducible refine (KF.out _ (HL.out.bel B1.out)).mono ?_
  rintro e w2 ⟨rfl, hb2⟩
  have y0 := hb2.cell y0
  have y1 := hb2.cell y1
  have y2 := hb2.cell y2
  have B2 := Lib.hid (B1.out.trans hb2)
  clear hb2
  go_wp2_with fail
  with_reducible refine (KP.out _ (HL.out.bel B2.out)).mono ?_
  rintro e w3 ⟨⟨q, k, rfl, hk, hq⟩, hb3⟩
  have y0 := hb3.cell y0
  have y1 := hb3.cell y1
  have y2 := hb3.cell y2
  have Q3 := Lib.hid hq
  have B3 := Lib.hid (B2.out.trans hb3)
  clear hb3 hq
  go_wp2_with fail
  with_reducible refine (K14.out _ (HL.out.bel B3.out)).mono ?_
  rintro e w4 ⟨rfl, hb4⟩
  have y0 := hb4.cell y0
  have y1 := hb4.cell y1
  have y2 := hb4.cell y2
  have Q4 := Lib.hid (Q3.out.bel hb4)
  have B4 := Lib.hid (B3.out.trans hb4)
  clear hb4
  go_wp2_with fail
  with_reducible refine (rput_any p n cap l t _ HN.out (by omega) hcap (HL.out.bel B4.out)).mono ?_
  rintro e w5 ⟨⟨p5, c5, rfl, hc5, hp5⟩, hb5⟩
  rw [HPL.out] at hc5 ⊢
  have y0 := hb5.cell y0
  have y1 := hb5.cell y1
  have y2 := hb5.cell y2
  have Q5 := Lib.hid (Q4.out.bel hb5)
  have P5 := Lib.hid hp5
  have B5 := Lib.hid (B4.out.trans hb5)
  clear hb5 hp5
  go_wp2_with fail
  with_reducible refine (ex_same q p5 k c5 (n + 1) (put l t) _ HPL.out (by omega) Q5.out P5.out).mono ?_
  rintro e w6 ⟨rfl, hb6⟩
  have y0 := hb6.cell y0
  have y1 := hb6.cell y1
  have y2 := hb6.cell y2
  have B6 := Lib.hid (B5.out.trans hb6)
  clear hb6
  go_wp2_with fail
  with_reducible refine (KR.out _ (HL.out.bel B6.out)).mono ?_
  rintro e w7 ⟨rfl, hb7⟩
  have B7 := Lib.hid (B6.out.trans hb7)
  clear hb7 y0 y1 y2
  go_wp2
  go_ret
  exact ⟨rfl, B7.out⟩
end Go.Proofs.Ytbbhgmdpafhbeaa
