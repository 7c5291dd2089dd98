/-
  The walk of BinheapKeys.
-/
import Derived.Test.YtaabalkfpjeheaaLawA
import Derived.Test.YtaabalkfpjeheaaPut
namespace Go.Proofs.Ytaabalkfpjeheaa
open Go.RowKit
theorem wo_next (l : List T) (k : Int) (m : Nat) (h : m < l.length) : wo (l.take (m + 1)) k = wo (l.take m) k ++ (if (l.getD m default).p = k then [] else [l.getD m default]) := by
  unfold wo
  rw [List.take_succ_eq_append_getElem h, List.filter_append]
  have e : l.getD m default = l[m] := by simp [List.getD_eq_getElem?_getD, List.getElem?_eq_getElem h]
  rw [e]
  by_cases hk : l[m].p = k <;> simp [hk]
theorem wo_le (l : List T) (k : Int) : (wo l k).length ≤ l.length := List.length_filter_le _ _
theorem wo_one {k : Int} {x : T} : ∀ (l : List T), (l.map T.p).Nodup → fnd l k = some x → (wo l k).length + 1 = l.length
  | [], _, h => by cases h
  | y :: r, hnd, h => by
    by_cases e : y.p = k
    · subst e
      rw [wo_head hnd]
      rfl
    · have e1 : fnd (y :: r) k = fnd r k := by unfold fnd; rw [List.find?_cons_of_neg (by simpa using e)]
      have e2 : wo (y :: r) k = y :: wo r k := by unfold wo; rw [List.filter_cons_of_pos (by simpa using e)]
      rw [e1] at h
      rw [List.map_cons, List.nodup_cons] at hnd
      have ih := wo_one r hnd.2 h
      rw [e2, List.length_cons, List.length_cons, ih]
theorem keys_long (P : Int) (pa : Option Addr) (N ca : Nat) (t : T) (w : World) (h : 60 < N) :
    Calls Try.prog 5 #[.int .i64 P, .slice pa N ca, .agg #[.int .u64 t.a, .int .u64 t.s, .int .i64 t.p]] w fun e w' => e = .returned (.bool true) ∧ Bel w w' := by
  have K := Lib.hid (works_any (w.alloc (.cells #[.int .u64 t.a, .int .u64 t.s, .int .i64 t.p] 25)))
  have HB : Hid (Bel w (w.alloc (.cells #[.int .u64 t.a, .int .u64 t.s, .int .i64 t.p] 25))) := Lib.hid ((Bel.refl _).alloc _ _)
  have h0 : (60 : Int) < N := by omega
  go_enter Try.func5, Try.ntmps5
  go_wp2_with fail
  with_reducible refine K.out.mono ?_
  rintro e w1 ⟨rfl, hb⟩
  have HB1 := Lib.hid (HB.out.trans hb)
  clear hb
  go_wp2
  go_ret
  exact ⟨rfl, HB1.out⟩
theorem keys_no (P : Int) (pa : Option Addr) (N ca : Nat) (t : T) (w : World) (hN : N ≤ 60) (h : ¬ (0 ≤ P ∧ P ≤ 1024)) :
    Calls Try.prog 5 #[.int .i64 P, .slice pa N ca, .agg #[.int .u64 t.a, .int .u64 t.s, .int .i64 t.p]] w fun e w' => e = .returned (.bool true) ∧ Bel w w' := by
  have K := Lib.hid (works_any (w.alloc (.cells #[.int .u64 t.a, .int .u64 t.s, .int .i64 t.p] 25)))
  have HB : Hid (Bel w (w.alloc (.cells #[.int .u64 t.a, .int .u64 t.s, .int .i64 t.p] 25))) := Lib.hid ((Bel.refl _).alloc _ _)
  have KB := Lib.hid (fun w' => built_no P pa N ca w' h)
  have h0 : ¬ (60 : Int) < N := by omega
  clear h hN
  go_enter Try.func5, Try.ntmps5
  go_wp2_with fail
  with_reducible refine K.out.mono ?_
  rintro e w1 ⟨rfl, hb⟩
  have HB1 := Lib.hid (HB.out.trans hb)
  clear hb
  go_wp2_with fail
  with_reducible refine (KB.out _).mono ?_
  rintro e w2 ⟨rfl, rfl⟩
  go_wp2
  go_ret
  exact ⟨rfl, HB1.out⟩
set_option maxHeartbeats 4000000 in
set_option maxRecDepth 100000 in
theorem keys_yes (P : Nat) (pa : Option Addr) (N ca : Nat) (al : List Ak) (t : T) (w : World) (hN : N ≤ 60) (hl : al.length = N) (hA : Lies nof w pa (encK al)) (hP : P ≤ 1024) :
    Calls Try.prog 5 #[.int .i64 P, .slice pa N ca, .agg #[.int .u64 t.a, .int .u64 t.s, .int .i64 t.p]] w fun e w' => e = .returned (.bool true) ∧ Bel w w' := by
  have KB := Lib.hid (fun w' (h : Bel w w') => built_yes P pa N ca al w' hP hl hN (hA.bel h))
  have HB0 : Hid (Bel w (w.alloc (.cells #[.int .u64 t.a, .int .u64 t.s, .int .i64 t.p] 25))) := Lib.hid ((Bel.refl _).alloc _ _)
  have HN0 : Hid ((w.alloc (.cells #[.int .u64 t.a, .int .u64 t.s, .int .i64 t.p] 25)).heap[w.heap.size]? = some (.cells #[.int .u64 t.a, .int .u64 t.s, .int .i64 t.p] 25 (0, 0))) := Lib.hid (heap_alloc_new _ _)
  have h0 : ¬ (60 : Int) < N := by omega
  have HP := Lib.hid hP
  clear hN hA hl hP
  generalize pla P al = l at *
  go_enter Try.func5, Try.ntmps5
  go_upto_region 1 with (fail)
  generalize w.alloc (.cells #[.int .u64 t.a, .int .u64 t.s, .int .i64 t.p] 25) = W at *
  obtain ⟨b5, e5⟩ : ∃ b, w.heap.size = b := ⟨_, rfl⟩
  rw [e5] at HN0 ⊢
  clear e5
  have K := Lib.hid (works_any W)
  go_wp2_with fail
  with_reducible refine K.out.mono ?_
  rintro e w1 ⟨rfl, hb⟩
  have HB := Lib.hid hb
  clear hb K
  go_wp2_with fail
  with_reducible refine (KB.out _ (HB0.out.trans HB.out)).mono ?_
  rintro e w2 ⟨Q, rfl, ⟨f, hq, hf⟩, hb2⟩
  have hlen : l.length ≤ 1024 := Nat.le_trans hq.len HP.out
  have HSo := Lib.hid hq.so
  have HPl := Lib.hid hq.places
  have HQ := Lib.hid hq
  have HF : Hid (∀ k, f k → W.heap.size ≤ k) := Lib.hid (fun k e => Nat.le_trans HB.out.size (hf k e))
  have HB2 := Lib.hid (HB.out.trans hb2)
  have A1 := Lib.hid (all_any f Q P l w2 hq)
  clear hq hf hb2 KB
  go_wp2_with fail
  with_reducible refine (A1.out).mono ?_
  rintro e w3 ⟨⟨p, c, rfl, hc, hl3⟩, hb3⟩
  have G3 : Hid (Ag W w3 Q P p l l) := Lib.hid ⟨⟨f, HQ.out.bel hb3, hl3.fresh HQ.out.lt_, HF.out⟩, HB2.out.trans hb3⟩
  have hx3 := box3 ((HB2.out.trans hb3).heap HN0.out)
  obtain ⟨⟨t0, t1, t2⟩, _⟩ := hx3
  have KM : Hid (Calls Try.prog 25 #[.pointer (some ⟨Q, 0, none⟩), .agg #[.int .u64 t.a, .int .u64 t.s, .int .i64 t.p]] w3 fun e w' => e = .returned (.int .i64 (canE P l t.p)) ∧ Ag W w' Q P p l (movL P l t)) := Lib.hid (by
    obtain ⟨⟨f, h1, h2, h3⟩, h4⟩ := G3.out
    exact (move_any f Q P l t w3 h1).mono fun e w' ⟨he, hq, ho⟩ => ⟨he, ⟨f, hq, h2.off ho (fun i e => e), h3⟩, Off.trans h4 ho (fun i e => .inr (h3 i e))⟩)
  clear hl3 hb3 A1 HQ HB2 HF
  obtain ⟨n, en⟩ : ∃ n, l.length = n := ⟨_, rfl⟩
  have HN := Lib.hid en
  rw [en] at hlen hc ⊢
  clear en
  by_cases hcan : canE P l t.p = 0
  · have em : movL P l t = put (wo l t.p) t := by unfold movL; rw [hcan]; rfl
    rw [hcan, em] at KM
    have hx : Hid ((wo l t.p).length + 1 = n) := Lib.hid (by
      rcases canE_cases P l t.p with ⟨h1, _⟩ | ⟨_, j, ej, _, x, hx⟩
      · exact absurd hcan h1
      · rw [← HN.out]
        exact wo_one l HPl.out.1 (by rw [ej]; exact hx))
    clear hcan em
    go_wp2_with fail
    with_reducible refine (KM.out).mono ?_
    rintro e w4 ⟨rfl, hg4⟩
    have G4 := Lib.hid hg4
    clear hg4 KM t0 t1 t2 G3
    go_wp2
    go_loopw [13, 14] (fun v i wr => ∃ k : Nat, i = .int .i64 k ∧ k ≤ n ∧ OwnT wr w4.heap.size v (wo (l.take k) t.p) ∧ Bel w4 wr) (fun _ i _ => n - (intOf i).toNat)
    case atStart => exact ⟨0, rfl, by omega, OwnT.nil _ _, Bel.refl _⟩
    case round =>
      obtain ⟨k, rfl, hk, hown, hbl⟩ := hrel
      have HO := Lib.hid hown
      have HBL := Lib.hid hbl
      clear hown hbl
      have hlk : (wo (l.take k) t.p).length ≤ 1024 := Nat.le_trans (wo_le _ _) (by simp; omega)
      by_cases h : k < n
      · obtain ⟨b, off, rfl, hr⟩ := (G4.out.le HBL.out).has.row (by rw [HN.out]; omega)
        obtain ⟨x, hx'⟩ : ∃ x, l.getD k default = x := ⟨_, rfl⟩
        have cx := hr k (by rw [HN.out]; omega)
        have hnx := wo_next l t.p k (by rw [HN.out]; omega)
        rw [hx'] at cx hnx
        obtain ⟨x0, x1, x2⟩ := cx
        obtain ⟨⟨t0, t1, t2⟩, _⟩ := box3 ((G4.out.bel.trans HBL.out).heap HN0.out)
        have HNX := Lib.hid hnx
        have b1 : (k : Int) < (n : Int) := by omega
        clear hr hx' hnx
        by_cases he : x.p = t.p
        · have hne : (x.p != t.p) = false := by simp [he]
          have HE : Hid (wo (l.take (k + 1)) t.p = wo (l.take k) t.p) := Lib.hid (by rw [HNX.out, if_pos he, List.append_nil])
          clear he HNX
          go_wp2
          go_quiet (fail)
          go_wp2
          go_roundw
          case rel => exact ⟨k + 1, by go_num, by omega, by rw [HE.out]; exact HO.out.bel ((Bel.refl _).drewN nq), HBL.out.drewN nq⟩
          case measure => simp [intOf]; omega
        · have hne : (x.p != t.p) = true := by simpa using he
          have HE : Hid (wo (l.take (k + 1)) t.p = wo (l.take k) t.p ++ [x]) := Lib.hid (by rw [HNX.out, if_neg he])
          clear he HNX
          go_wp2
          go_quiet (fail)
          have y0 := ((Bel.refl wr).drewN nq).cell x0
          have y1 := ((Bel.refl wr).drewN nq).cell x1
          have y2 := ((Bel.refl wr).drewN nq).cell x2
          have HBd := Lib.hid (HBL.out.drewN nq)
          have HOd := Lib.hid (HO.out.bel ((Bel.refl wr).drewN nq))
          clear x0 x1 x2 t0 t1 t2 HBL HO
          generalize wr.drewN nq = V at *
          have HB3 : Hid (Bel V (V.alloc (.cells #[.int .u64 x.a, .int .u64 x.s, .int .i64 x.p] 25))) := Lib.hid ((Bel.refl _).alloc _ _)
          have HO3 := Lib.hid (HOd.out.bel HB3.out)
          have HS3 := Lib.hid (HBd.out.trans HB3.out)
          go_wp2_with (at_builtin; refine wpList_append_any rfl (.tmp 71) (.tmp 76) rfl w4.heap.size _ (wo (l.take k) t.p) rfl HO3.out _ 1 _ [x] rfl rfl (has_one V x) (by omega) HS3.out.size ?_)
          intro v5 w5 hown5 hgrow5 hnil5
          have HO5 : Hid (OwnT w5 w4.heap.size v5 (wo (l.take (k + 1)) t.p)) := Lib.hid (by rw [HE.out]; exact hown5)
          have HB5 : Hid (Bel w4 w5) := Lib.hid (OwnT.grown HS3.out HO3.out HS3.out.size hgrow5)
          clear hown5 hgrow5 hnil5 y0 y1 y2
          go_wp2
          go_roundw
          case rel => exact ⟨k + 1, by go_num, by omega, HO5.out, HB5.out⟩
          case measure => simp [intOf]; omega
      · have hO : OwnT wr w4.heap.size u13 (wo l t.p) := by
          have := HO.out
          rw [List.take_of_length_le (by rw [HN.out]; omega)] at this
          exact this
        obtain ⟨po, co, rfl, hco, _, hho⟩ := hO.slice
        have hz := hx.out
        obtain ⟨z, ez⟩ : ∃ z, (wo l t.p).length = z := ⟨_, rfl⟩
        have KP := Lib.hid (put_yes po (wo l t.p).length co (wo l t.p) t wr rfl (by omega) hco (wo_so HSo.out _) hho)
        have HZ := Lib.hid ez
        have hnz : (n : Int) - 1 = z := by omega
        rw [ez] at KP ⊢
        have G5 := Lib.hid (G4.out.le HBL.out)
        obtain ⟨⟨t0, t1, t2⟩, _⟩ := box3 ((G4.out.bel.trans HBL.out).heap HN0.out)
        have b1 : ¬ (k : Int) < (n : Int) := by omega
        have hzb : z + 1 ≤ 1024 := by omega
        clear hO hho hco HO HBL hlk hz ez G4
        go_wp2_with fail
        with_reducible refine (KP.out).mono ?_
        rintro e w6 ⟨⟨q6, c6, rfl, _, hh6⟩, hb6⟩
        have G6 := Lib.hid (G5.out.le hb6)
        have HH6 := Lib.hid hh6
        have KA := Lib.hid G6.out.allB
        have hpl : (put (wo l t.p) t).length = z + 1 := by
          rw [(put_perm _ _).length_eq, List.length_cons, HZ.out]
        rw [hpl] at KA
        have HPL := Lib.hid hpl
        clear hh6 hb6 KP t0 t1 t2 G5 hpl
        go_wp2_with fail
        with_reducible refine (KA.out).mono ?_
        rintro e w7 ⟨q7, c7, rfl, hh7, hg7, hb7⟩
        have KS : Hid (Calls Try.prog 18 #[.slice q7 (z + 1) c7, .slice q6 (z + 1) c6] w7 fun e w' => e = .returned (.bool true) ∧ Bel w7 w') := Lib.hid (by
          have hb67 : Has w7 q6 (put (wo l t.p) t) := HH6.out.bel hb7
          have k := same_yes q7 q6 c7 c6 (put (wo l t.p) t) w7 (by rw [HPL.out]; omega) hh7 hb67
          rw [HPL.out] at k
          exact k)
        have HG7 := Lib.hid hg7
        clear hh7 hg7 KA G6 hb7
        go_wp2_with fail
        with_reducible refine (KS.out).mono ?_
        rintro e w8 ⟨rfl, hb8⟩
        have HE := Lib.hid (HB0.out.trans (HG7.out.bel.trans hb8))
        clear hb8 KS
        go_wp2
        go_ret
        exact ⟨rfl, HE.out⟩
  · have em : movL P l t = l := by unfold movL; rw [if_neg hcan]
    rw [em] at KM
    obtain ⟨er, her⟩ : ∃ er, canE P l t.p = er := ⟨_, rfl⟩
    rw [her] at KM hcan
    have hne : (er != 0) = true := by simpa using hcan
    clear hcan em her
    go_wp2_with fail
    with_reducible refine (KM.out).mono ?_
    rintro e w4 ⟨rfl, hg4⟩
    have KA := Lib.hid hg4.all
    rw [HN.out] at KA
    clear hg4 KM t0 t1 t2 G3
    go_wp2_with fail
    with_reducible refine (KA.out).mono ?_
    rintro e w5 ⟨q5, c5, rfl, hh5, hg5⟩
    have KS := Lib.hid (same_yes q5 p c5 c l w5 (by rw [HN.out]; omega) hh5 hg5.has)
    rw [HN.out] at KS
    have HG5 := Lib.hid hg5
    clear hh5 hg5 KA
    go_wp2_with fail
    with_reducible refine (KS.out).mono ?_
    rintro e w6 ⟨rfl, hb6⟩
    have HE := Lib.hid (HB0.out.trans (HG5.out.bel.trans hb6))
    clear hb6 KS
    go_wp2
    go_ret
    exact ⟨rfl, HE.out⟩
end Go.Proofs.Ytaabalkfpjeheaa
