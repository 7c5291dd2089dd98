/-
  The walk of PairheapMerged.
-/
import Derived.Test.YtdlfppdekllloaaTl
import Derived.Test.YtdlfppdekllloaaMerge
import Derived.Test.YtdlfppdekllloaaCut
import Derived.Test.YtdlfppdekllloaaBehind
set_option linter.unusedVariables false
set_option linter.unusedSimpArgs false
namespace Go.Proofs.Ytdlfppdekllloaa
open Go.RowKit
theorem merged_long (P : Int) (pa : Option Addr) (N ca : Nat) (pb : Option Addr) (M cb : Nat) (now : Int) (w : World) (h : 60 < N ∨ 60 < M) :
    Calls Try.prog 5 #[.int .i64 P, .slice pa N ca, .slice pb M cb, .int .u64 now] w fun e w' => e = .returned (.bool true) ∧ Bel w w' := by
  have K := Lib.hid (works_any w)
  by_cases h0 : (60 : Int) < N
  · clear h
    go_enter Try.func5, Try.ntmps5
    go_wp2_with fail
    with_reducible refine K.out.mono ?_
    rintro e w1 ⟨rfl, hb⟩
    have HB := Lib.hid hb
    clear hb
    go_wp2
    go_ret
    exact ⟨rfl, HB.out⟩
  · have h1 : (60 : Int) < M := by omega
    clear h
    go_enter Try.func5, Try.ntmps5
    go_wp2_with fail
    with_reducible refine K.out.mono ?_
    rintro e w1 ⟨rfl, hb⟩
    have HB := Lib.hid hb
    clear hb
    go_wp2
    go_ret
    exact ⟨rfl, HB.out⟩
theorem merged_no (P : Int) (pa : Option Addr) (N ca : Nat) (pb : Option Addr) (M cb : Nat) (now : Int) (w : World) (hN : N ≤ 60) (hM : M ≤ 60) (h : ¬ (0 ≤ P ∧ P ≤ 1024)) :
    Calls Try.prog 5 #[.int .i64 P, .slice pa N ca, .slice pb M cb, .int .u64 now] w fun e w' => e = .returned (.bool true) ∧ Bel w w' := by
  have K := Lib.hid (works_any w)
  have KB := Lib.hid (fun w' => built_no P pa N ca w' h)
  have KC := Lib.hid (fun w' => built_no P pb M cb w' h)
  have h0 : ¬ (60 : Int) < N := by omega
  have h1 : ¬ (60 : Int) < M := by omega
  clear h hN hM
  go_enter Try.func5, Try.ntmps5
  go_wp2_with fail
  with_reducible refine K.out.mono ?_
  rintro e w1 ⟨rfl, hb⟩
  have HB := Lib.hid hb
  clear hb
  go_wp2_with fail
  with_reducible refine (KB.out _).mono ?_
  rintro e w2 ⟨rfl, rfl⟩
  go_wp2_with fail
  with_reducible refine (KC.out _).mono ?_
  rintro e w3 ⟨rfl, rfl⟩
  go_wp2
  go_ret
  exact ⟨rfl, HB.out⟩
theorem row_two {w : World} {b : Nat} {A B : List T} {pA pB : Option Addr} {cA cB : Nat} (h : w.heap[b]? = some (.cells #[.slice pA A.length cA, .slice pB B.length cB] 28 (0, 0))) (hA : Has w pA A) (hB : Has w pB B) (h1 : A.length ≤ cA) (h2 : B.length ≤ cB) : RowL w b 0 [A, B] := by
  intro i hi
  have hi : i = 0 ∨ i = 1 := by simp at hi; omega
  rcases hi with rfl | rfl
  · exact ⟨pA, cA, by rw [cell_of_row w b _ _ 28 (0, 0) h]; rfl, h1, hA⟩
  · exact ⟨pB, cB, by rw [cell_of_row w b _ _ 28 (0, 0) h]; rfl, h2, hB⟩
theorem mrg_is {A B : List T} (hA : So A) (hB : So B) : mrg A B = srt (A ++ B) := mrg_srt hA hB
theorem melE_same (P : Nat) (A B : List T) : melE P P A B = 0 ∨ melE P P A B = 4 := by
  unfold melE
  rw [if_pos rfl]
  split
  · exact .inr rfl
  · exact .inl rfl
set_option maxRecDepth 100000 in
set_option maxHeartbeats 8000000 in
theorem merged_yes (P : Nat) (pa : Option Addr) (N ca : Nat) (al : List Ak) (pb : Option Addr) (M cb : Nat) (bl : List Ak) (now : Int) (w : World) (hN : N ≤ 60) (hM : M ≤ 60) (hl : al.length = N) (hl2 : bl.length = M) (hA : Lies nof w pa (encK al)) (hA2 : Lies nof w pb (encK bl)) (hP : P ≤ 1024) :
    Calls Try.prog 5 #[.int .i64 P, .slice pa N ca, .slice pb M cb, .int .u64 now] w fun e w' => e = .returned (.bool true) ∧ Bel w w' := by
  have K := Lib.hid (works_any w)
  have KB := Lib.hid (fun w' (h : Bel w w') => built_yes P pa N ca al w' hP hl hN (hA.bel h))
  have KC := Lib.hid (fun w' (h : Bel w w') => built_yes P pb M cb bl w' hP hl2 hM (hA2.bel h))
  have hlA : (pla P al).length ≤ 60 := by
    have := (pla_in P al N).2
    rw [List.take_of_length_le (by omega)] at this
    omega
  have hlB : (pla P bl).length ≤ 60 := by
    have := (pla_in P bl M).2
    rw [List.take_of_length_le (by omega)] at this
    omega
  have h0 : ¬ (60 : Int) < N := by omega
  have h1 : ¬ (60 : Int) < M := by omega
  clear hN hM hA hA2 hl hl2 hP
  generalize pla P al = A at *
  generalize pla P bl = B at *
  go_enter Try.func5, Try.ntmps5
  go_wp2_with fail
  with_reducible refine K.out.mono ?_
  rintro e w1 ⟨rfl, hb⟩
  have HB1 := Lib.hid hb
  clear hb K
  go_wp2_with fail
  with_reducible refine (KB.out _ HB1.out).mono ?_
  rintro e w2 ⟨Q, rfl, hbu⟩
  have KC2 := Lib.hid (KC.out w2 (HB1.out.trans hbu.bel))
  have HBU := Lib.hid hbu
  clear hbu KB KC
  go_wp2_with fail
  with_reducible refine KC2.out.mono ?_
  rintro e w3 ⟨O, rfl, hbu2⟩
  have T3 := Lib.hid (tl_new HBU.out hbu2)
  clear hbu2 KC2 HBU
  have KA1 := Lib.hid (tl_all T3.out)
  go_wp2_with fail
  with_reducible refine KA1.out.mono ?_
  rintro e w4 ⟨pA, cA, rfl, hcA, hqA, hb4⟩
  have T4 := Lib.hid (T3.out.le hb4)
  have HQA := Lib.hid hqA
  have HCA := Lib.hid hcA
  clear hb4 hqA hcA KA1 T3
  have KA2 := Lib.hid (tl_all T4.out.sw)
  go_wp2_with fail
  with_reducible refine KA2.out.mono ?_
  rintro e w5 ⟨pB, cB, rfl, hcB, hqB, hb5⟩
  have T5 := Lib.hid (T4.out.le hb5)
  have HBa : Hid (Bel w5 (w5.alloc (.cells #[.slice pA A.length cA, .slice pB B.length cB] 28))) := Lib.hid ((Bel.refl _).alloc _ _)
  have KM := Lib.hid (merge_two w5.heap.size 0 2 (A.length + B.length) A B (w5.alloc (.cells #[.slice pA A.length cA, .slice pB B.length cB] 28)) (by omega) rfl (by omega) (row_two (heap_alloc_new _ _) ((HQA.out.bel hb5).bel HBa.out) (hqB.bel HBa.out) HCA.out hcB) T5.out.so T5.out.sw.so)
  clear hb5 hqB hcB KA2 T4 HQA HCA
  obtain ⟨nA, enA⟩ : ∃ n, A.length = n := ⟨_, rfl⟩
  obtain ⟨nB, enB⟩ : ∃ n, B.length = n := ⟨_, rfl⟩
  simp only [enA, enB] at KM HBa hlA hlB ⊢
  have ENA := Lib.hid enA
  have ENB := Lib.hid enB
  clear enA enB
  go_wp2_with fail
  with_reducible refine KM.out.mono ?_
  rintro e w6 ⟨⟨pM, kM, rfl, hkM, hpM⟩, hb6⟩
  have T6 : Hid (Tl w1 Q O P P A B pM (mrg A B) w6) := Lib.hid ((T5.out.le HBa.out).re hb6 hpM)
  have HKM := Lib.hid hkM
  clear hb6 hpM KM T5 HBa hkM
  have KE := Lib.hid (tl_meld T6.out)
  have hw9 : IntKind.i64.wrap ((nA : Int) + nB) = (nA : Int) + nB := i64_in _ (by omega) (by omega)
  rcases melE_same P A B with e0 | e0
  · have eL : melL P P A B = mrg A B := by unfold melL; rw [if_pos e0, mrg_is T6.out.so T6.out.sw.so]
    have eM : melM P P A B = [] := by unfold melM; rw [if_pos e0]
    have HLen : Hid ((mrg A B).length = nA + nB) := Lib.hid (by rw [mrg_len, ENA.out, ENB.out])
    have HSo : Hid (So (mrg A B)) := Lib.hid (by rw [mrg_is T6.out.so T6.out.sw.so]; exact srt_so _)
    rw [e0, eL, eM] at KE
    clear e0 eL eM T6 ENA ENB
    generalize mrg A B = C at *
    obtain ⟨nC, enC⟩ : ∃ n, nA + nB = n := ⟨_, rfl⟩
    have hnC : nC ≤ 120 := by omega
    have KCut := Lib.hid (fun w' (h : Has w' pM C) => cut_yes pM nC kM C now w' (by rw [HLen.out, enC]) (by omega) (by have := HKM.out; omega) HSo.out h)
    have KS := Lib.hid (fun q d w' (h1 : Has w' q C) (h2 : Has w' pM C) => same_yes q pM d kM C w' (by rw [HLen.out]; omega) h1 h2)
    rw [HLen.out, enC] at KS
    go_wp2_with fail
    with_reducible refine KE.out.mono ?_
    rintro e w7 ⟨rfl, ht7⟩
    have T7 := Lib.hid ht7
    clear ht7 KE
    have KCut7 := Lib.hid (KCut.out _ T7.out.has)
    go_wp2_with fail
    with_reducible refine KCut7.out.mono ?_
    rintro e w8 ⟨⟨q1, q2, n1, n2, k1, k2, rfl, hn1, hn2, hk1, hk2, hq1, hq2⟩, hb8⟩
    have T8 := Lib.hid (T7.out.le hb8)
    have HL8 : Hid (Lies (old w7) w8 q1 (encs (due C now true))) := Lib.hid hq1
    have HB8 := Lib.hid hb8
    have HN1 := Lib.hid hn1
    have hD : n1 ≤ 120 := by
      have h9 : (due C now true).length ≤ C.length := List.length_filter_le _ _
      rw [hn1, HLen.out] at h9
      omega
    clear hn2 hq1 hq2 hb8 hk1 hk2 KCut7 KCut hn1
    have KA8 := Lib.hid (tl_all T8.out)
    rw [HLen.out, enC] at KA8
    go_wp2_with fail
    with_reducible refine KA8.out.mono ?_
    rintro e w9 ⟨q9, c9, rfl, _, hq9, hb9⟩
    have T9 := Lib.hid (T8.out.le hb9)
    have KS9 := Lib.hid (KS.out q9 c9 w9 hq9 T9.out.has)
    have HB9 := Lib.hid hb9
    clear hq9 hb9 KA8 KS
    go_wp2_with fail
    with_reducible refine KS9.out.mono ?_
    rintro e w10 ⟨rfl, hb10⟩
    have TA : Hid (Tl w1 Q O P P C [] q1 (due C now true) w10) := Lib.hid (by
      have hb := (HB9.out.trans hb10)
      exact T7.out.re (HB8.out.trans hb) (HL8.out.bel hb))
    clear hb10 KS9 T8 T9 HB8 HB9 HL8 T7
    have KD := Lib.hid (tl_due (now := now) TA.out)
    rw [HN1.out] at KD
    have KS2 := Lib.hid (fun q d w' (h1 : Has w' q (due C now true)) (h2 : Has w' q1 (due C now true)) => same_yes q q1 d k1 (due C now true) w' (by rw [HN1.out]; omega) h1 h2)
    rw [HN1.out] at KS2
    clear TA HN1
    generalize due C now true = D at *
    generalize due C now false = E at *
    go_wp2_with fail
    with_reducible refine KD.out.mono ?_
    rintro e w11 ⟨q11, c11, rfl, hq11, ht11⟩
    have T11 := Lib.hid ht11
    have KS11 := Lib.hid (KS2.out q11 c11 w11 hq11 ht11.has)
    clear hq11 ht11 KD KS2
    go_wp2_with fail
    with_reducible refine KS11.out.mono ?_
    rintro e w12 ⟨rfl, hb12⟩
    have T12 := Lib.hid (T11.out.le hb12)
    clear hb12 KS11 T11
    have KL := Lib.hid (tl_len T12.out.sw)
    rw [show (([] : List T).length : Nat) = 0 from rfl] at KL
    go_wp2_with fail
    with_reducible refine KL.out.mono ?_
    rintro e w13 ⟨rfl, hb13⟩
    have KD2 := Lib.hid (tl_due (now := 18446744073709551615) (T12.out.le hb13).sw)
    rw [show due ([] : List T) 18446744073709551615 true = [] from rfl, show (([] : List T).length : Nat) = 0 from rfl] at KD2
    clear hb13 KL T12
    go_wp2_with fail
    with_reducible refine KD2.out.mono ?_
    rintro e w14 ⟨q14, c14, rfl, _, ht14⟩
    have HE := Lib.hid (HB1.out.trans ht14.bel)
    clear ht14 KD2
    go_wp2
    go_ret
    exact ⟨rfl, HE.out⟩
  · have eL : melL P P A B = A := by unfold melL; rw [if_neg (by rw [e0]; decide)]
    have eM : melM P P A B = B := by unfold melM; rw [if_neg (by rw [e0]; decide)]
    rw [e0, eL, eM] at KE
    clear e0 eL eM T6
    go_wp2_with fail
    with_reducible refine KE.out.mono ?_
    rintro e w7 ⟨rfl, ht7⟩
    have T7 := Lib.hid ht7
    clear ht7 KE
    have KL := Lib.hid (tl_len T7.out)
    rw [ENA.out] at KL
    go_wp2_with fail
    with_reducible refine KL.out.mono ?_
    rintro e w8 ⟨rfl, hb8⟩
    have T8 := Lib.hid (T7.out.le hb8)
    have KL2 := Lib.hid (tl_len T8.out.sw)
    rw [ENB.out] at KL2
    clear hb8 KL T7
    go_wp2_with fail
    with_reducible refine KL2.out.mono ?_
    rintro e w9 ⟨rfl, hb9⟩
    have HE := Lib.hid (HB1.out.trans (T8.out.le hb9).bel)
    clear hb9 KL2 T8
    have hz : (((nA : Int) + nB) == (nA : Int) + nB) = true := by simp
    go_wp2
    go_ret
    exact ⟨rfl, HE.out⟩
end Go.Proofs.Ytdlfppdekllloaa
