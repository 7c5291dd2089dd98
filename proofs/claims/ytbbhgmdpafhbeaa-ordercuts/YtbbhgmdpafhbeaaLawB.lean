/-
  The walk of OrderCuts.
-/
import Derived.Test.YtbbhgmdpafhbeaaWorks
namespace Go.Proofs.Ytbbhgmdpafhbeaa
open Go.RowKit
theorem cuts_long (p : Option Addr) (n cap : Nat) (now : Int) (w : World) (h : 60 < n) :
    Calls Try.prog 8 #[.slice p n cap, .int .u64 now] w fun e w' => e = .returned (.bool true) ∧ Bel w w' := by
  have h' : (60 : Int) < n := by omega
  go_enter Try.func8, Try.ntmps8
  go_wp2_with fail
  with_reducible refine (works_any _).mono ?_
  rintro e w1 ⟨rfl, hb⟩
  go_wp2
  go_ret
  exact ⟨rfl, hb⟩
theorem cuts_no (p : Option Addr) (n cap : Nat) (l : List T) (now : Int) (w : World) (h : n ≤ 60) (hn : l.length = n) (hs : ¬ So l) (hl : Has w p l) :
    Calls Try.prog 8 #[.slice p n cap, .int .u64 now] w fun e w' => e = .returned (.bool true) ∧ Bel w w' := by
  have h' : ¬ (60 : Int) < n := by omega
  have HN := Lib.hid hn
  have HL := Lib.hid hl
  have HS := Lib.hid hs
  have K14 := Lib.hid (fun w h => rsorted_any p n cap l w HN.out (by omega) h)
  rw [(so_no l).2 hs] at K14
  clear hn hl hs
  go_enter Try.func8, Try.ntmps8
  go_wp2_with fail
  with_reducible refine (works_any _).mono ?_
  rintro e w1 ⟨rfl, hb1⟩
  have B1 := Lib.hid hb1
  clear hb1
  go_wp2_with fail
  with_reducible refine (cut_no p n cap l now _ HN.out (by omega) HS.out (HL.out.bel B1.out)).mono ?_
  rintro e w2 ⟨rfl, hb2⟩
  have B2 := Lib.hid (B1.out.trans hb2)
  clear hb2
  go_wp2_with fail
  with_reducible refine (K14.out _ (HL.out.bel B2.out)).mono ?_
  rintro e w4 ⟨rfl, hb4⟩
  have B4 := Lib.hid (B2.out.trans hb4)
  clear hb4
  go_wp2
  go_ret
  exact ⟨rfl, B4.out⟩
theorem cuts_yes (p : Option Addr) (n cap : Nat) (l : List T) (now : Int) (w : World) (h : n ≤ 60) (hn : l.length = n) (hcap : n ≤ cap) (hs : So l) (hl : Has w p l) :
    Calls Try.prog 8 #[.slice p n cap, .int .u64 now] w fun e w' => e = .returned (.bool true) ∧ Bel w w' := by
  have h' : ¬ (60 : Int) < n := by omega
  have HN := Lib.hid hn
  have HL := Lib.hid hl
  have K14 := Lib.hid (fun w h => rsorted_any p n cap l w HN.out (by omega) h)
  rw [(so_iff l).2 hs] at K14
  have KC := Lib.hid (fun w h => cut_yes p n cap l now w HN.out (by omega) hcap hs h)
  have hd1 := due_len l now true
  have hd2 := due_len l now false
  have HF : Hid ([due l now true, due l now false].flatten.length = n) := Lib.hid (by
    have e := congrArg List.length (due_both hs now)
    rw [srt_len] at e
    simpa [hn] using e)
  have KM := Lib.hid (fun w q (hq : HasL w q [due l now true, due l now false]) => merge_yes q 2 2 n [due l now true, due l now false] w rfl (by omega) (by omega) HF.out (by omega) hq (by
    intro x hx
    simp at hx
    rcases hx with rfl | rfl
    · exact so_due hs now true
    · exact so_due hs now false))
  have HB : Hid (srt [due l now true, due l now false].flatten = l) := Lib.hid (by simpa using due_both hs now)
  rw [HB.out] at KM
  clear hs hl
  rw [hn] at hd1 hd2
  clear hn
  obtain ⟨m1, hm1⟩ : ∃ m, (due l now true).length = m := ⟨_, rfl⟩
  obtain ⟨m2, hm2⟩ : ∃ m, (due l now false).length = m := ⟨_, rfl⟩
  rw [hm1] at hd1
  rw [hm2] at hd2
  have HM1 := Lib.hid hm1
  have HM2 := Lib.hid hm2
  clear hm1 hm2
  go_enter Try.func8, Try.ntmps8
  go_wp2_with fail
  with_reducible refine (works_any _).mono ?_
  rintro e w1 ⟨rfl, hb1⟩
  have B1 := Lib.hid hb1
  clear hb1
  go_wp2_with fail
  with_reducible refine (KC.out _ (HL.out.bel B1.out)).mono ?_
  rintro e w2 ⟨⟨q1, q2, n1, n2, k1, k2, rfl, hn1, hn2, hk1, hk2, hq1, hq2⟩, hb2⟩
  obtain rfl : m1 = n1 := by rw [← hn1, HM1.out]
  obtain rfl : m2 = n2 := by rw [← hn2, HM2.out]
  have Q1 := Lib.hid hq1
  have Q2 := Lib.hid hq2
  have B2 := Lib.hid (B1.out.trans hb2)
  clear hb2 hq1 hq2 hn1 hn2
  go_wp2_with fail
  with_reducible refine (K14.out _ (HL.out.bel B2.out)).mono ?_
  rintro e w3 ⟨rfl, hb3⟩
  have C3 := Lib.hid hb3
  have B3 := Lib.hid (B2.out.trans hb3)
  clear hb3
  go_wp2_with fail
  with_reducible refine (rdue_any p n cap l now true _ HN.out (by omega) (HL.out.bel B3.out)).mono ?_
  rintro e w4 ⟨⟨p4, c4, rfl, hc4, hp4⟩, hb4⟩
  rw [HM1.out] at hc4 ⊢
  have P4 := Lib.hid hp4
  have C4 := Lib.hid (C3.out.trans hb4)
  have B4 := Lib.hid (B3.out.trans hb4)
  clear hb4 hp4
  go_wp2_with fail
  with_reducible refine (ex_same q1 p4 k1 c4 m1 (due l now true) _ HM1.out (by omega) (Q1.out.bel C4.out) P4.out).mono ?_
  rintro e w5 ⟨rfl, hb5⟩
  have C5 := Lib.hid (C4.out.trans hb5)
  have B5 := Lib.hid (B4.out.trans hb5)
  clear hb5
  go_wp2_with fail
  with_reducible refine (rdue_any p n cap l now false _ HN.out (by omega) (HL.out.bel B5.out)).mono ?_
  rintro e w6 ⟨⟨p6, c6, rfl, hc6, hp6⟩, hb6⟩
  rw [HM2.out] at hc6 ⊢
  have P6 := Lib.hid hp6
  have C6 := Lib.hid (C5.out.trans hb6)
  have B6 := Lib.hid (B5.out.trans hb6)
  clear hb6 hp6
  go_wp2_with fail
  with_reducible refine (ex_same q2 p6 k2 c6 m2 (due l now false) _ HM2.out (by omega) (Q2.out.bel C6.out) P6.out).mono ?_
  rintro e w7 ⟨rfl, hb7⟩
  have C7 := Lib.hid (C6.out.trans hb7)
  have B7 := Lib.hid (B6.out.trans hb7)
  clear hb7
  go_wp2_with fail
  with_reducible refine (KM.out _ _ ?hm).mono ?_
  case hm => exact hasL_two (p1 := q1) (p2 := q2) (c1 := k1) (c2 := k2) HM1.out HM2.out (by simp [go_sem]) (by simp [go_sem]) hk1 hk2 (Q1.out.bel (C7.out.alloc _ _)) (Q2.out.bel (C7.out.alloc _ _))
  rintro e w8 ⟨⟨p8, k8, rfl, hk8, hp8⟩, hb8⟩
  have P8 := Lib.hid hp8
  have B8 := Lib.hid ((B7.out.alloc _ _).trans hb8)
  clear hb8 hp8
  go_wp2_with fail
  with_reducible refine (ex_same p8 p k8 cap n l _ HN.out (by omega) P8.out (HL.out.bel B8.out)).mono ?_
  rintro e w9 ⟨rfl, hb9⟩
  have B9 := Lib.hid (B8.out.trans hb9)
  clear hb9
  go_wp2
  go_ret
  exact ⟨rfl, B9.out⟩
end Go.Proofs.Ytbbhgmdpafhbeaa
