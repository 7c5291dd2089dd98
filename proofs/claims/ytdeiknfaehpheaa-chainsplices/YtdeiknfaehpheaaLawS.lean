/-
  The walk of ChainSplices.
-/
import Derived.Test.YtdeiknfaehpheaaMadeOk
namespace Go.Proofs.Ytdeiknfaehpheaa
open Go.RowKit
theorem splices_long (P L : Int) (pa : Option Addr) (N ca : Nat) (x y : Int) (w : World) (h : 40 < N) :
    Calls Try.prog 7 #[.int .i64 P, .int .i64 L, .slice pa N ca, .int .i64 x, .int .i64 y] w fun e w' => e = .returned (.bool true) ∧ Bel w w' := by
  have h' : (40 : Int) < N := by omega
  go_enter Try.func7, Try.ntmps7
  go_wp2_with fail
  with_reducible refine (works_any _).mono ?_
  rintro e w1 ⟨rfl, hb⟩
  go_wp2
  go_ret
  exact ⟨rfl, hb⟩
theorem splices_no (P L : Int) (pa : Option Addr) (N ca : Nat) (x y : Int) (w : World) (h : N ≤ 40) (hP : ¬ (0 ≤ P ∧ P ≤ 1024 ∧ 0 ≤ L ∧ L ≤ 1024)) :
    Calls Try.prog 7 #[.int .i64 P, .int .i64 L, .slice pa N ca, .int .i64 x, .int .i64 y] w fun e w' => e = .returned (.bool true) ∧ Bel w w' := by
  have h' : ¬ (40 : Int) < N := by omega
  have K := Lib.hid (fun w => made_no P L pa N ca w hP)
  clear hP
  go_enter Try.func7, Try.ntmps7
  go_wp2_with fail
  with_reducible refine (works_any _).mono ?_
  rintro e w1 ⟨rfl, hb⟩
  have HB := Lib.hid hb
  clear hb
  go_wp2_with fail
  with_reducible refine (K.out _).mono ?_
  rintro e w2 ⟨p, c, rfl, hb⟩
  have HB2 := Lib.hid (HB.out.trans hb)
  clear hb
  go_wp2
  go_ret
  exact ⟨rfl, HB2.out.alloc _ _⟩
set_option maxHeartbeats 4000000 in
set_option maxRecDepth 100000 in
theorem splices_yes (P L : Nat) (pa : Option Addr) (N ca : Nat) (l : List Ac) (x y : Int) (w : World) (h : N ≤ 40) (hl : l.length = N) (hA : Lies nof w pa (encA l)) (hP : P ≤ 1024) (hL : L ≤ 1024) :
    Calls Try.prog 7 #[.int .i64 P, .int .i64 L, .slice pa N ca, .int .i64 x, .int .i64 y] w fun e w' => e = .returned (.bool true) ∧ Bel w w' := by
  have h' : ¬ (40 : Int) < N := by omega
  have HA := Lib.hid hA
  have HL := Lib.hid hl
  clear hA hl
  go_enter Try.func7, Try.ntmps7
  go_wp2_with fail
  with_reducible refine (works_any _).mono ?_
  rintro e w1 ⟨rfl, hb⟩
  have HB := Lib.hid hb
  clear hb
  go_wp2_with fail
  with_reducible refine (made_yes P L pa N ca l _ hP hL HL.out (by omega) (HA.out.bel HB.out)).mono ?_
  rintro e w2 ⟨B, G, ls, p, c, rfl, hc, hw, hr, hBw⟩
  unfold rv
  have W2 := Lib.hid (hw.bel ((Bel.refl w2).alloc #[.int .i64 P, .slice p L c] 27))
  have R2 := Lib.hid (hr.bel ((Bel.refl w2).alloc #[.int .i64 P, .slice p L c] 27))
  have M2 := Lib.hid (heap_alloc_new w2 (.cells #[.int .i64 P, .slice p L c] 27))
  have hG2 : G < w2.heap.size := hw.ch.ltG.1
  have hB2 : B < w2.heap.size := hw.ch.ltG.2.1
  clear hw hr
  go_upto_region 7 with (fail)
  generalize w2.alloc (.cells #[.int .i64 P, .slice p L c] 27) = W at *
  generalize hT : w2.heap.size = T at *
  clear hT
  have hlenx := allL_len W2.out.ch.good x
  have hleny := allL_len W2.out.ch.good y
  have hcase : (∃ er, (er = 1 ∧ PDo P L ls 21 [.int .i64 x, .int .i64 y] er ls)) ∨ (x = y ∧ PDo P L ls 21 [.int .i64 x, .int .i64 y] 0 ls) ∨ (¬ x = y ∧ ∃ ls', PDo P L ls 21 [.int .i64 x, .int .i64 y] 0 ls' ∧ allL L ls' x = allL L ls x ++ allL L ls y ∧ allL L ls' y = []) := by
    cases hb : hp L x && hp L y with
    | false => exact .inl ⟨1, rfl, pdo_no fun w B G g h _ h3 h4 => splice_arg B G P L g x y w h h3 h4 hb⟩
    | true =>
      rw [Bool.and_eq_true] at hb
      obtain ⟨t, rfl, ht⟩ := hp_nat hb.1
      obtain ⟨f, rfl, hf⟩ := hp_nat hb.2
      by_cases htf : t = f
      · subst htf
        exact .inr (.inl ⟨rfl, pdo_no fun w B G g h h2 h3 h4 => splice_same B G P L g t t (ls t) w h h3 h4 ht hf (h2.nd t hf) (h2.pl t hf) (h2.fwd hf) (.inl rfl)⟩)
      · refine .inr (.inr ⟨by omega, _, splice_prog P L ls t f ht hf htf, ?_, ?_⟩)
        · rw [allL_yes ht, allL_yes ht, allL_yes hf, upd_other _ _ htf, upd_same]
        · rw [allL_yes hf, upd_same]
  have K1 := Lib.hid (fun w' (h : Bel W w') => all_any B G P L ls x w' (W2.out.ch.bel h))
  have K2 := Lib.hid (fun w' (h : Bel W w') => all_any B G P L ls y w' (W2.out.ch.bel h))
  have HC := Lib.hid hcase
  have HW := Lib.hid (HB.out.trans W2.out.off)
  have hGe : w1.heap.size ≤ G := W2.out.ge
  clear hcase HA HL
  generalize hax : allL L ls x = ax at *
  generalize hay : allL L ls y = ay at *
  obtain ⟨n, hn⟩ : ∃ n, ax.length = n := ⟨_, rfl⟩
  obtain ⟨m, hm⟩ : ∃ m, ay.length = m := ⟨_, rfl⟩
  rw [hn] at K1 hlenx
  rw [hm] at K2 hleny
  have HN : Hid ((encI ax).length = n * 1) := Lib.hid (by rw [encI_len, hn])
  have HM : Hid ((encI ay).length = m * 1) := Lib.hid (by rw [encI_len, hm])
  have HNM : Hid ((ax ++ ay).length = n + m) := Lib.hid (by rw [List.length_append, hn, hm])
  clear hn hm hax hay
  have OE := Lib.hid (own_empty W 3 1)
  have HBE : Hid (Bel W (W.alloc (.cells #[] 3))) := Lib.hid ((Bel.refl W).alloc _ _)
  go_wp2_with fail
  with_reducible refine (K1.out _ HBE.out).mono ?_
  rintro e w3 ⟨q3, k3, rfl, hk3, hl3, hb3⟩
  have HO3 := Lib.hid (own_bel OE.out hb3)
  have HL3 := Lib.hid hl3.any
  have HB3 := Lib.hid (HBE.out.trans hb3)
  have hz3 : W.heap.size < w3.heap.size := by have := hb3.size; simp at this; omega
  clear hl3 hb3
  go_wp2_with (at_builtin; refine wpList_append_gen el36 rfl _ _ rfl _ 0 [] rfl HO3.out _ _ _ (encI ax) rfl HN.out HL3.out (encI_one ax) (by omega) ?_)
  intro v4 w4 hown hgrow hnew
  have hb4 : Off (fun i => W.heap.size ≤ i) w3 w4 := Off.grown (Off.refl _ _) hgrow (fun k e => by simp [Value.ownBlock] at e; exact .inl (by omega))
  have HB4 : Hid (Bel W w4) := Lib.hid (Off.trans HB3.out hb4 (fun i e => .inr e))
  have HNW : Hid (∀ i, v4.ownBlock = some i → W.heap.size ≤ i) := Lib.hid (fun i hi => by
    rcases hnew i hi with e | e
    · simp [Value.ownBlock] at e; omega
    · omega)
  obtain ⟨q4, k4, hv, hk4, _, _⟩ := own_slice hown nof (fun _ _ e => e)
  subst hv
  have HO4 := Lib.hid hown
  clear hown hgrow hnew hb4
  go_wp2_with fail
  with_reducible refine (K2.out _ HB4.out).mono ?_
  rintro e w5 ⟨q5, k5, rfl, hk5, hl5, hb5⟩
  have HO5 := Lib.hid (own_bel HO4.out hb5)
  have HL5 := Lib.hid hl5.any
  have HB5 := Lib.hid (HB4.out.trans hb5)
  clear hl5 hb5
  go_wp2_with (at_builtin; refine wpList_append_gen el36 rfl _ _ rfl _ n (encI ax) rfl HO5.out _ _ _ (encI ay) rfl HM.out HL5.out (encI_one ay) (by omega) ?_)
  intro v6 w6 hown hgrow hnew
  have hb6 : Off (fun i => W.heap.size ≤ i) w5 w6 := Off.grown (Off.refl _ _) hgrow (fun k e => .inl (HNW.out k e))
  have HB6 : Hid (Bel W w6) := Lib.hid (Off.trans HB5.out hb6 (fun i e => .inr e))
  have hzW := HB5.out.size
  have hGW : G < W.heap.size := W2.out.ch.ltG.1
  obtain ⟨q6, k6, hv, hk6, _, hl6⟩ := own_slice hown (Only G) (fun i hi e => by
    have h1 : i = G := e
    rcases hnew i hi with e | e
    · have := HNW.out i e; omega
    · omega)
  subst hv
  rw [← encI_append] at hl6
  have HL6 := Lib.hid hl6
  clear hown hgrow hnew hb6 hl6 HO3 HO4 HO5 HL3 HL5 OE HBE HB3 HB4 HNW
  generalize hnm : n + m = nm at *
  rcases HC.out with ⟨er, rfl, hp⟩ | ⟨rfl, hp⟩ | ⟨hxy, ls', hp, e1, e2⟩
  · have KD := Lib.hid (hp w6 B G (W2.out.ch.bel HB6.out))
    simp only [List.size_toArray, List.append_toArray, List.cons_append, List.nil_append] at KD
    clear hp HC
    go_wp2_with fail
    with_reducible refine KD.out.mono ?_
    rintro e w7 ⟨rfl, hc7, ho7⟩
    have HB7 : Hid (Bel w w7) := Lib.hid (Off.trans (HW.out.trans HB6.out) ho7 (fun i e => .inr (by have h1 : i = G := e; have := HB.out.size; omega)))
    clear hc7 ho7
    go_wp2
    go_ret
    exact ⟨rfl, HB7.out⟩
  · have KD := Lib.hid (hp w6 B G (W2.out.ch.bel HB6.out))
    simp only [List.size_toArray, List.append_toArray, List.cons_append, List.nil_append] at KD
    have hxx : (x == x) = true := by simp
    clear hp HC
    go_wp2_with fail
    with_reducible refine KD.out.mono ?_
    rintro e w7 ⟨rfl, hc7, ho7⟩
    have HB7 : Hid (Bel w w7) := Lib.hid (Off.trans (HW.out.trans HB6.out) ho7 (fun i e => .inr (by have h1 : i = G := e; have := HB.out.size; omega)))
    clear hc7 ho7
    go_wp2
    go_ret
    exact ⟨rfl, HB7.out⟩
  · have KD := Lib.hid (hp w6 B G (W2.out.ch.bel HB6.out))
    simp only [List.size_toArray, List.append_toArray, List.cons_append, List.nil_append] at KD
    have hxx : (x == y) = false := by simpa using hxy
    have E1 := Lib.hid e1
    have E2 := Lib.hid e2
    clear hp HC hxy e1 e2
    go_wp2_with fail
    with_reducible refine KD.out.mono ?_
    rintro e w7 ⟨rfl, hc7, ho7⟩
    have HB7 : Hid (Bel w w7) := Lib.hid (Off.trans (HW.out.trans HB6.out) ho7 (fun i e => .inr (by have h1 : i = G := e; have := HB.out.size; omega)))
    have KA := Lib.hid (fun w' (h : Bel w7 w') => all_any B G P L ls' x w' (hc7.bel h))
    have KE := Lib.hid (fun w' (h : Bel w7 w') => all_any B G P L ls' y w' (hc7.bel h))
    rw [E1.out, HNM.out] at KA
    rw [E2.out] at KE
    have HL7 := Lib.hid ((HL6.out.off ho7 (fun i e => e)).any)
    clear hc7 ho7
    go_wp2_with fail
    with_reducible refine (KA.out _ (Bel.refl _)).mono ?_
    rintro e w8 ⟨q8, k8, rfl, hk8, hl8, hb8⟩
    have KS := Lib.hid (same_yes q8 q6 nm k8 k6 (ax ++ ay) w8 HNM.out (by omega) hl8.any (HL7.out.bel hb8))
    have HB8 := Lib.hid hb8
    clear hl8 hb8
    go_wp2_with fail
    with_reducible refine KS.out.mono ?_
    rintro e w9 ⟨rfl, hb9⟩
    have HB9 := Lib.hid (HB8.out.trans hb9)
    clear hb9
    go_wp2_with fail
    with_reducible refine (KE.out _ HB9.out).mono ?_
    rintro e w10 ⟨q10, k10, rfl, hk10, hl10, hb10⟩
    have HB10 := Lib.hid (HB7.out.trans (HB9.out.trans hb10))
    clear hl10 hb10
    go_wp2
    go_ret
    exact ⟨rfl, HB10.out⟩
end Go.Proofs.Ytdeiknfaehpheaa
