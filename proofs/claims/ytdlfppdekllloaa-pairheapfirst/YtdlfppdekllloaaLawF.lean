/-
  The walk of PairheapFirst.
-/
import Derived.Test.YtdlfppdekllloaaFi
set_option linter.unusedVariables false
set_option linter.unusedSimpArgs false
namespace Go.Proofs.Ytdlfppdekllloaa
open Go.RowKit
theorem first_long (P : Int) (pa : Option Addr) (N ca : Nat) (n : Int) (w : World) (h : 60 < N ∨ n < 0 ∨ 60 < n) :
    Calls Try.prog 7 #[.int .i64 P, .slice pa N ca, .int .i64 n] w fun e w' => e = .returned (.bool true) ∧ Bel w w' := by
  have K := Lib.hid (works_any w)
  by_cases h0 : (60 : Int) < N
  · clear h
    go_enter Try.func7, Try.ntmps7
    go_wp2_with fail
    with_reducible refine K.out.mono ?_
    rintro e w1 ⟨rfl, hb⟩
    have HB := Lib.hid hb
    clear hb
    go_wp2
    go_ret
    exact ⟨rfl, HB.out⟩
  · by_cases h1 : n < 0
    · clear h
      go_enter Try.func7, Try.ntmps7
      go_wp2_with fail
      with_reducible refine K.out.mono ?_
      rintro e w1 ⟨rfl, hb⟩
      have HB := Lib.hid hb
      clear hb
      go_wp2
      go_ret
      exact ⟨rfl, HB.out⟩
    · have h2 : 60 < n := by omega
      clear h
      go_enter Try.func7, Try.ntmps7
      go_wp2_with fail
      with_reducible refine K.out.mono ?_
      rintro e w1 ⟨rfl, hb⟩
      have HB := Lib.hid hb
      clear hb
      go_wp2
      go_ret
      exact ⟨rfl, HB.out⟩
theorem first_no (P : Int) (pa : Option Addr) (N ca : Nat) (n : Nat) (w : World) (hN : N ≤ 60) (hn : n ≤ 60) (h : ¬ (0 ≤ P ∧ P ≤ 1024)) :
    Calls Try.prog 7 #[.int .i64 P, .slice pa N ca, .int .i64 n] w fun e w' => e = .returned (.bool true) ∧ Bel w w' := by
  have K := Lib.hid (works_any w)
  have KB := Lib.hid (fun w' => built_no P pa N ca w' h)
  have h0 : ¬ (60 : Int) < N := by omega
  have h1 : ¬ (60 : Int) < n := by omega
  clear h hN hn
  go_enter Try.func7, Try.ntmps7
  go_wp2_with fail
  with_reducible refine K.out.mono ?_
  rintro e w1 ⟨rfl, hb⟩
  have HB := Lib.hid hb
  clear hb
  go_wp2_with fail
  with_reducible refine (KB.out _).mono ?_
  rintro e w2 ⟨rfl, rfl⟩
  go_wp2
  go_ret
  exact ⟨rfl, HB.out⟩
set_option maxRecDepth 100000 in
set_option maxHeartbeats 4000000 in
theorem first_yes (P : Nat) (pa : Option Addr) (N ca : Nat) (al : List Ak) (n : Nat) (w : World) (hN : N ≤ 60) (hn : n ≤ 60) (hl : al.length = N) (hA : Lies nof w pa (encK al)) (hP : P ≤ 1024) :
    Calls Try.prog 7 #[.int .i64 P, .slice pa N ca, .int .i64 n] w fun e w' => e = .returned (.bool true) ∧ Bel w w' := by
  have K := Lib.hid (works_any w)
  have KB := Lib.hid (fun w' (h : Bel w w') => built_yes P pa N ca al w' hP hl hN (hA.bel h))
  have h0 : ¬ (60 : Int) < N := by omega
  have h1 : ¬ (60 : Int) < n := by omega
  clear hN hA hl hP
  generalize pla P al = L at *
  go_enter Try.func7, Try.ntmps7
  go_wp2_with fail
  with_reducible refine K.out.mono ?_
  rintro e w1 ⟨rfl, hb⟩
  have HB1 := Lib.hid hb
  clear hb K
  go_wp2_with fail
  with_reducible refine (KB.out _ HB1.out).mono ?_
  rintro e w2 ⟨Q, rfl, hbu⟩
  have hL : L.length ≤ 1024 := hbu.len
  have KA := Lib.hid (bu_all hbu)
  clear hbu KB
  go_wp2_with fail
  with_reducible refine KA.out.mono ?_
  rintro e w3 ⟨p, c, rfl, hc, hfi⟩
  have F0 : Hid (Fi w1 w3 Q P (L.drop 0) p L) := Lib.hid hfi
  clear hfi KA
  obtain ⟨M, eM⟩ : ∃ M, L.length = M := ⟨_, rfl⟩
  rw [eM] at hc hL ⊢
  have EM := Lib.hid eM
  clear eM
  go_wp2
  go_loopw [11] (fun v wr => ∃ i : Nat, v = .int .i64 i ∧ i ≤ n ∧ i ≤ M ∧ Fi w1 wr Q P (L.drop i) p L) (fun v _ => n - (intOf v).toNat)
  case atStart => exact ⟨0, rfl, Nat.zero_le _, Nat.zero_le _, F0.out⟩
  case round =>
    clear F0
    obtain ⟨i, rfl, hi, hiM, hfi⟩ := hrel
    have HF := Lib.hid hfi
    clear hfi
    by_cases h : i < n ∧ i < M
    · have b1 : (i : Int) < (n : Int) := by omega
      have b2 : (i : Int) < (M : Int) := by omega
      obtain ⟨x, hx⟩ : ∃ x, L[i]? = some x := ⟨_, List.getElem?_eq_getElem (by rw [EM.out]; omega)⟩
      obtain ⟨hx1, hx2⟩ := List.getElem?_eq_some_iff.1 hx
      have hd : L.drop i = x :: L.drop (i + 1) := by rw [List.drop_eq_getElem_cons hx1, hx2]
      have hff := HF.out
      rw [hd] at hff
      obtain ⟨nd1, nd2⟩ := hff.nodup
      have ef : fnd (x :: L.drop (i + 1)) x.p = some x := by unfold fnd; rw [List.find?_cons_of_pos (by simp)]
      have ec : canE P (x :: L.drop (i + 1)) x.p = 0 := by unfold canE; rw [nd2 x (by simp), ef]; rfl
      have ew : wo (x :: L.drop (i + 1)) x.p = L.drop (i + 1) := wo_head nd1
      have KM : Hid (Calls Try.prog 26 #[.pointer (some ⟨Q, 0, none⟩)] wr fun e w2 => e = .returned (.tuple #[.agg #[.int .u64 x.a, .int .u64 x.s, .int .i64 x.p], .bool true]) ∧ Bel wr w2) := Lib.hid (fi_min hff)
      have KC : Hid (∀ w', Fi w1 w' Q P (x :: L.drop (i + 1)) p L → Calls Try.prog 25 #[.pointer (some ⟨Q, 0, none⟩), .int .i64 x.p] (w'.alloc (.cells #[.int .u64 x.a, .int .u64 x.s, .int .i64 x.p] 35)) fun e w2 => e = .returned (.tuple #[.agg #[.int .u64 x.a, .int .u64 x.s, .int .i64 x.p], .int .i64 0]) ∧ Fi w1 w2 Q P (L.drop (i + 1)) p L ∧ w2.heap[w'.heap.size]? = some (.cells #[.int .u64 x.a, .int .u64 x.s, .int .i64 x.p] 35 (0, 0))) := Lib.hid (fun w' h => by
        have k := fi_cancel_box (k := x.p) h #[.int .u64 x.a, .int .u64 x.s, .int .i64 x.p] 35
        rw [ef, ec, ew] at k
        exact k)
      have HFF := Lib.hid hff
      have hneq := neq_no x x rfl
      have HR : Hid (∀ w', Has w' p L → ∃ b off, p = some ⟨b, off, none⟩ ∧ w'.cell? ⟨b, off + i * 3, none⟩ = some (.int .u64 x.a) ∧ w'.cell? ⟨b, off + i * 3 + 1, none⟩ = some (.int .u64 x.s) ∧ w'.cell? ⟨b, off + i * 3 + 2, none⟩ = some (.int .i64 x.p)) := Lib.hid (fun w' hh => by
        obtain ⟨b, off, e, hr⟩ := hh.row (by omega)
        have hr := hr i hx1
        have e2 : L.getD i default = x := by rw [List.getD_eq_getElem?_getD, hx]; rfl
        rw [e2] at hr
        exact ⟨b, off, e, hr⟩)
      clear hff nd1 nd2 ef ec ew hx hx1 hx2 hd
      generalize x.a = y0 at *
      generalize x.s = y1 at *
      generalize x.p = y2 at *
      go_wp2_with fail
      with_reducible refine KM.out.mono ?_
      rintro e w4 ⟨rfl, hb4⟩
      have HN := Lib.hid (heap_alloc_new w4 (.cells #[.int .u64 y0, .int .u64 y1, .int .i64 y2] 35))
      have KC4 := Lib.hid (KC.out _ (HFF.out.le hb4))
      clear hb4 KM KC HFF HF
      go_upto_region 14 with (fail)
      generalize w4.alloc (.cells #[.int .u64 y0, .int .u64 y1, .int .i64 y2] 35) = W4 at *
      generalize w4.heap.size = b12 at *
      obtain ⟨⟨c0, c1, c2⟩, _⟩ := box3 HN.out
      go_wp2_with fail
      with_reducible refine KC4.out.mono ?_
      rintro e w5 ⟨rfl, hf5, hb5⟩
      have HB5 : Hid (Bel w5 (w5.alloc (.cells #[.int .u64 y0, .int .u64 y1, .int .i64 y2] 35))) := Lib.hid ((Bel.refl _).alloc _ _)
      have HF5 := Lib.hid (hf5.le HB5.out)
      obtain ⟨⟨d0, d1, d2⟩, _⟩ := box3 (HB5.out.heap hb5)
      obtain ⟨b, off, rfl, r0, r1, r2⟩ := HR.out _ HF5.out.has
      clear hf5 hb5 KC4 c0 c1 c2 HR HN
      go_upto_region 15 with (fail)
      generalize w5.alloc (.cells #[.int .u64 y0, .int .u64 y1, .int .i64 y2] 35) = W5 at *
      generalize w5.heap.size = b14 at *
      have HF6 := Lib.hid (HF5.out.le (Bel.refl W5).drew)
      go_wp2
      go_region
      go_wp2
      go_roundw
      case rel => exact ⟨i + 1, by go_num, by omega, by omega, HF6.out⟩
      case measure => simp [intOf]; omega
    · have KA := Lib.hid (fun w' (hb : Bel wr w') => fi_all (HF.out.le hb))
      have HLen : Hid ((L.drop i).length = M - i) := Lib.hid (by rw [List.length_drop, EM.out])
      rw [HLen.out] at KA
      have HBw : Hid (Bel w wr) := Lib.hid (HB1.out.trans HF.out.bel)
      have HDr : Hid (Bel wr wr.drew) := Lib.hid (Bel.refl wr).drew
      have HHas := Lib.hid HF.out.has
      clear HF
      by_cases hiM2 : i = M
      · have HE0 : Hid (L.drop i = []) := Lib.hid (List.drop_eq_nil_of_le (by rw [EM.out]; omega))
        have e0 : M - i = 0 := by omega
        rw [HE0.out, e0] at KA
        have KS : Hid (∀ q p' d e w', Has w' q [] → Bel wr w' → Calls Try.prog 23 #[.slice q 0 d, .slice p' 0 e] w' fun e w2 => e = .returned (.bool true) ∧ Bel w' w2) := Lib.hid (fun q p' d e w' h1 _ => same_yes q p' d e [] w' (by simp) h1 (.inl rfl))
        subst hiM2
        have hmin : min (n : Int) (i : Int) = (i : Int) := by omega
        have hmin2 : min (i : Int) (n : Int) = (i : Int) := by omega
        have b3 : (i : Int) ≤ (c : Int) := by omega
        have b0 : (0 : Int) ≤ (i : Int) := by omega
        clear h EM HLen HE0 e0 HHas hL hn
        by_cases hin : i = n
        · subst hin
          by_cases hci : c = i
          · subst hci
            clear hmin hmin2 hi hiM hc b3
            go_wp2
            go_region_with (first | (go_at_call 20; (with_reducible refine (KA.out _ HDr.out).mono ?_); rintro e w4 ⟨q, d, rfl, hq, hg1⟩) | (go_at_call 23; (with_reducible refine (KS.out _ _ _ _ _ hq (HDr.out.trans hg1)).mono ?_); rintro e w5 ⟨rfl, hg2⟩))
            all_goals
              have HZ := Lib.hid (HBw.out.trans ((HDr.out.trans hg1).trans hg2))
              clear hq hg1 hg2
              go_wp2
              go_ret
              exact ⟨rfl, HZ.out⟩
          · clear hmin hmin2 hi hiM hc
            go_wp2
            go_region_with (first | (go_at_call 20; (with_reducible refine (KA.out _ HDr.out).mono ?_); rintro e w4 ⟨q, d, rfl, hq, hg1⟩) | (go_at_call 23; (with_reducible refine (KS.out _ _ _ _ _ hq (HDr.out.trans hg1)).mono ?_); rintro e w5 ⟨rfl, hg2⟩))
            all_goals
              have HZ := Lib.hid (HBw.out.trans ((HDr.out.trans hg1).trans hg2))
              clear hq hg1 hg2
              go_wp2
              go_ret
              exact ⟨rfl, HZ.out⟩
        · have b1 : (i : Int) < (n : Int) := by omega
          clear hin hi
          by_cases hci : c = i
          · subst hci
            clear hiM hc b3
            go_wp2
            go_region_with (first | (go_at_call 20; (with_reducible refine (KA.out _ HDr.out).mono ?_); rintro e w4 ⟨q, d, rfl, hq, hg1⟩) | (go_at_call 23; (with_reducible refine (KS.out _ _ _ _ _ hq (HDr.out.trans hg1)).mono ?_); rintro e w5 ⟨rfl, hg2⟩))
            all_goals
              have HZ := Lib.hid (HBw.out.trans ((HDr.out.trans hg1).trans hg2))
              clear hq hg1 hg2
              go_wp2
              go_ret
              exact ⟨rfl, HZ.out⟩
          · clear hiM hc
            go_wp2
            go_region_with (first | (go_at_call 20; (with_reducible refine (KA.out _ HDr.out).mono ?_); rintro e w4 ⟨q, d, rfl, hq, hg1⟩) | (go_at_call 23; (with_reducible refine (KS.out _ _ _ _ _ hq (HDr.out.trans hg1)).mono ?_); rintro e w5 ⟨rfl, hg2⟩))
            all_goals
              have HZ := Lib.hid (HBw.out.trans ((HDr.out.trans hg1).trans hg2))
              clear hq hg1 hg2
              go_wp2
              go_ret
              exact ⟨rfl, HZ.out⟩
      · obtain rfl : i = n := by omega
        have hlt : i < M := by omega
        have hci : ¬ c = i := by omega
        obtain ⟨r, er⟩ : ∃ r, M - i = r := ⟨_, rfl⟩
        rw [er] at KA HLen
        have KS : Hid (∀ q (_ : Unit) d e w', Has w' q (L.drop i) → Bel wr w' → Calls Try.prog 23 #[.slice q r d, .slice (p.map (·.add (i * 3))) r e] w' fun e w2 => e = .returned (.bool true) ∧ Bel w' w2) := Lib.hid (fun q _ d e w' h1 hb => by
          have k := same_yes q (p.map (·.add (i * 3))) d e (L.drop i) w' (by rw [HLen.out]; omega) h1 ((HHas.out.drop i).bel hb)
          rw [HLen.out] at k
          exact k)
        have hmin : min (i : Int) (M : Int) = (i : Int) := by omega
        have b1 : (i : Int) ≤ (M : Int) := by omega
        have b3 : (M : Int) ≤ (c : Int) := by omega
        have b4 : (i : Int) ≤ (c : Int) := by omega
        have b0 : (0 : Int) ≤ (i : Int) := by omega
        clear h EM HLen HHas hL hn hi hiM hc hiM2 hlt
        go_wp2
        go_region_with (first | (go_at_call 20; (with_reducible refine (KA.out _ HDr.out).mono ?_); rintro e w4 ⟨q, d, rfl, hq, hg1⟩) | (go_at_call 23; (with_reducible refine (KS.out _ () _ _ _ hq (HDr.out.trans hg1)).mono ?_); rintro e w5 ⟨rfl, hg2⟩))
        all_goals
          have HZ := Lib.hid (HBw.out.trans ((HDr.out.trans hg1).trans hg2))
          clear hq hg1 hg2
          go_wp2
          go_ret
          exact ⟨rfl, HZ.out⟩
end Go.Proofs.Ytdlfppdekllloaa
