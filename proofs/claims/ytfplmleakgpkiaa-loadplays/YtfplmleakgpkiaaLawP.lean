/-
  The walk of LoadPlays.
-/
import Derived.Test.YtfplmleakgpkiaaLawR
set_option linter.unusedVariables false
set_option linter.unusedSimpArgs false
namespace Go.Proofs.Ytfplmleakgpkiaa
open Go.RowKit
theorem plays_far (a : Option Addr) (n cap : Nat) (x : Int) (w : World) (h : 150 < n) :
    Calls Try.prog 3 #[.slice a n cap, .int .i64 x] w fun e w' => e = .returned (.bool true) ∧ Bel w w' := by
  have h' : (150 : Int) < n := by omega
  have K : Hid (∀ w', Calls Try.prog 7 #[] w' fun e w'' => e = .returned (.bool true) ∧ Bel w' w'') := Lib.hid works_any
  go_enter Try.func3, Try.ntmps3
  go_wp2_with fail
  with_reducible refine (K.out _).mono ?_
  rintro e w1 ⟨rfl, hb⟩
  have HB := Lib.hid hb
  clear hb
  go_wp2
  go_ret
  exact ⟨rfl, HB.out⟩
set_option maxHeartbeats 4000000 in
set_option maxRecDepth 20000 in
theorem plays_main (a : Option Addr) (n cap : Nat) (l : List T) (x : Int) (w : World) (h : n ≤ 150) (hn : l.length = n) (hl : Has nof w a l) :
    Calls Try.prog 3 #[.slice a n cap, .int .i64 x] w fun e w' => e = .returned (.bool true) ∧ Bel w w' := by
  have h' : ¬ (150 : Int) < n := by omega
  have K : Hid (∀ w', Calls Try.prog 7 #[] w' fun e w'' => e = .returned (.bool true) ∧ Bel w' w'') := Lib.hid works_any
  have HN := Lib.hid hn
  have HL := Lib.hid hl
  clear hn hl
  go_enter Try.func3, Try.ntmps3
  go_wp2_with fail
  with_reducible refine (K.out _).mono ?_
  rintro e w1 ⟨rfl, hb⟩
  have HB := Lib.hid hb
  clear hb K
  go_wp2_with fail
  with_reducible refine (new_any _).mono ?_
  rintro e w2 ⟨p, rfl, hp, hq, hb⟩
  have HP : Hid (w1.heap.size ≤ p) := Lib.hid hp
  have HQ := Lib.hid hq
  have HB2 := Lib.hid hb
  clear hp hq hb
  go_wp2
  go_loopw [7] (fun i wr => ∃ k : Nat, k ≤ n ∧ i = .int .i64 k ∧ Ld wr p (good (l.take k)) ∧ Bel w1 wr) (fun i _ => n - (intOf i).toNat)
  case atStart => exact ⟨0, by omega, rfl, HQ.out, HB2.out⟩
  case round =>
    obtain ⟨k, hk, rfl, hq, hb⟩ := hrel
    have HQk := Lib.hid hq
    have HBk := Lib.hid hb
    clear hq hb HQ HB2
    by_cases hlt : k < n
    · obtain ⟨b, off, rfl, _, hr⟩ := HL.out.row (by have := HN.out; omega)
      obtain ⟨x, hx⟩ : ∃ x, l.getD k default = x := ⟨_, rfl⟩
      have cx := hr k (by have := HN.out; omega)
      have HG := good_take l (k := k) (by have := HN.out; omega)
      rw [hx] at cx HG
      have HX : Hid (∀ w', Bel w1 w' → w'.cell? ⟨b, off + k * 3, none⟩ = some (.int .i64 x.a) ∧ w'.cell? ⟨b, off + k * 3 + 1, none⟩ = some (.int .i64 x.b) ∧ w'.cell? ⟨b, off + k * 3 + 2, none⟩ = some (.int .i64 x.c)) := Lib.hid fun w' hb =>
        ⟨(HB.out.trans hb).cell cx.1, (HB.out.trans hb).cell cx.2.1, (HB.out.trans hb).cell cx.2.2⟩
      have KN : Hid (∀ w', Bel wr w' → Calls Try.prog 9 #[.pointer (some ⟨p, 0, none⟩), .int .i64 x.a, .int .i64 x.b, .int .i64 x.c] w' fun e w'' => e = .returned (.int .i64 x.bad) ∧ Ld w'' p (good (l.take (k + 1))) ∧ Bel w1 w'') := Lib.hid fun w' hb => by
        have K := note_any p (good (l.take k)) x w' (HQk.out.bel hb) (by have := good_len (l.take k); rw [List.length_take] at this; omega)
        rw [← HG] at K
        exact K.mono fun e w'' ⟨h1, h2, h3⟩ => ⟨h1, h2, h3.belp (HBk.out.trans hb) HP.out⟩
      have KR : Hid (∀ w', Calls Try.prog 10 #[.agg #[.int .i64 x.a, .int .i64 x.b, .int .i64 x.c]] w' fun e w'' => e = .returned (.int .i64 x.bad) ∧ Bel w' w'') := Lib.hid fun w' => wrong_any x w'
      clear hx hr cx HG
      generalize x.bad = y at *
      generalize x.a = xa at *
      generalize x.b = xb at *
      generalize x.c = xc at *
      have b0 : (0 : Int) ≤ (k : Int) := by omega
      have b1 : (k : Int) < (n : Int) := by omega
      go_wp2
      go_region_held3 (fun w' => w'.cell? ⟨b, off + k * 3, none⟩ = some (.int .i64 xa) ∧ w'.cell? ⟨b, off + k * 3 + 1, none⟩ = some (.int .i64 xb) ∧ w'.cell? ⟨b, off + k * 3 + 2, none⟩ = some (.int .i64 xc))
        (first | exact HX.out _ HBk.out.drew | exact HX.out _ HBk.out | exact HX.out _ hb3)
        (first | (go_at_call 9; (with_reducible refine (KN.out _ (by repeat (first | exact Bel.refl _ | refine Bel.drew ?_))).mono ?_); rintro e w3 ⟨rfl, hq3, hb3⟩))
      have HQ3 := Lib.hid hq3
      have HB3 := Lib.hid hb3
      obtain ⟨x0, x1, x2⟩ := HX.out _ HB3.out
      clear hq3 hb3 HX KN
      go_wp2_with fail
      with_reducible refine (KR.out _).mono ?_
      rintro e w4 ⟨rfl, hb⟩
      have HQ4 := Lib.hid (HQ3.out.bel hb)
      have HB4 := Lib.hid (HB3.out.trans hb)
      clear hb x0 x1 x2 HQ3 HB3 KR
      go_wp2
      go_roundw
      case rel => exact ⟨k + 1, by omega, by go_num, HQ4.out, HB4.out⟩
      case measure => simp [intOf]; omega
    · obtain rfl : k = n := by omega
      have hq := HQk.out
      rw [List.take_of_length_le (by have := HN.out; omega)] at hq
      have hgl : (good l).length ≤ 150 := Nat.le_trans (good_len l) (by have := HN.out; omega)
      have KG : Hid (∀ w', Bel w1 w' → Calls Try.prog 11 #[.slice a k cap] w' fun e w'' => ∃ v, e = .returned v ∧ Own w'' w'.heap.size v (good l) ∧ Bel w' w'') := Lib.hid fun w' hb => rgood_any a k cap l w' HN.out (by omega) (HL.out.bel (HB.out.trans hb))
      generalize good l = g at *
      have HQ := Lib.hid hq
      have HG := Lib.hid hgl
      clear hq hgl HQk
      go_wp2_with fail
      with_reducible refine (KG.out _ HBk.out).mono ?_
      rintro e w3 ⟨v, rfl, hown, hb⟩
      obtain ⟨gp, gc, rfl, hgc, _, hgp⟩ := hown.slice nof (fun _ _ e => e)
      have HQ3 := Lib.hid (HQ.out.bel hb)
      have HB3 := Lib.hid (HBk.out.trans hb)
      have HGP := Lib.hid hgp
      have HGC := Lib.hid hgc
      clear hown hb hgp hgc HQ HBk KG
      obtain ⟨N, eN⟩ : ∃ N, g.length = N := ⟨_, rfl⟩
      have EN := Lib.hid eN
      rw [eN] at HGC ⊢
      clear eN
      have HN150 : Hid (N ≤ 150) := Lib.hid (by have := HG.out; have := EN.out; omega)
      obtain ⟨r, er⟩ : ∃ r, N % 32 = r := ⟨_, rfl⟩
      obtain ⟨q, eq⟩ : ∃ q, N / 32 = q := ⟨_, rfl⟩
      have ER : Hid (N % 32 = r ∧ N / 32 = q) := Lib.hid ⟨er, eq⟩
      have hdiv : (N : Int).tdiv 32 = (q : Int) := by rw [Int.tdiv_eq_ediv_of_nonneg (by omega)]; omega
      have hq10 : q ≤ 10 := by have := HN150.out; omega
      clear er eq
      have KO : Hid (∀ w', Bel w3 w' → Calls Try.prog 12 #[.slice gp N gc] w' fun e w'' => OutS w' e r (opn g) ∧ w'' = w') := Lib.hid fun w' hb => by
        have K := ropen_any gp N gc g w' EN.out (by have := HN150.out; omega) HGC.out (HGP.out.bel hb)
        rw [ER.out.1] at K
        exact K
      go_wp2_with fail
      with_reducible refine (KO.out _ (Bel.refl _)).mono ?_
      rintro e w4 ⟨⟨op, oc, rfl, hop⟩, rfl⟩
      have HOP := Lib.hid hop
      clear hop KO
      have KL := llast_any p g w4 HQ3.out (by have := HG.out; omega)
      have KRL : Calls Try.prog 14 #[.slice gp N gc] w4 fun e w' => e = .returned (.tuple #[talV (lst g), .bool (decide (32 ≤ N))]) ∧ Bel w4 w' := by
        by_cases h32 : N < 32
        · exact rlast_no gp N gc g w4 EN.out h32
        · exact rlast_yes gp N gc g w4 EN.out (by have := HN150.out; omega) (by omega) HGC.out HGP.out HQ3.out.ok
      have KRL2 : Hid (∀ w', Bel w4 w' → Calls Try.prog 14 #[.slice gp N gc] w' fun e w'' => e = .returned (.tuple #[talV (lst g), .bool (decide (32 ≤ N))]) ∧ Bel w' w'') := Lib.hid fun w' hb => by
        by_cases h32 : N < 32
        · exact rlast_no gp N gc g w' EN.out h32
        · exact rlast_yes gp N gc g w' EN.out (by have := HN150.out; omega) (by omega) HGC.out (HGP.out.bel hb) HQ3.out.ok
      rw [EN.out] at KL
      have KLH := Lib.hid KL
      clear KL KRL
      unfold talV at KLH KRL2
      obtain ⟨fl, efl⟩ : ∃ f, decide (32 ≤ N) = f := ⟨_, rfl⟩
      rw [efl] at KLH KRL2
      clear efl
      go_wp2_with fail
      with_reducible refine KLH.out.mono ?_
      rintro e w5 ⟨rfl, hb5⟩
      have L1 := Lib.hid (tal_new w5 (lst g))
      obtain ⟨b11, e11⟩ : ∃ b, w5.heap.size = b := ⟨_, rfl⟩
      obtain ⟨W5, eW⟩ : ∃ W, w5.alloc (.cells #[.int .i64 (tot 0 (lst g)), .int .i64 (tot 1 (lst g)), .int .i64 (tot 2 (lst g)), .int .i64 (tot 3 (lst g)), .int .i64 (mx (lst g))] 33) = W := ⟨_, rfl⟩
      have HB5 : Hid (Bel w4 W5) := Lib.hid (by rw [← eW]; exact hb5.alloc _ _)
      rw [eW, e11] at L1
      clear hb5 KLH
      go_wp2_with fail
      with_reducible refine (KRL2.out _ HB5.out).mono ?_
      rintro e w6 ⟨rfl, hb6⟩
      clear eW e11 KRL2
      have L2 := Lib.hid (L1.out.bel hb6)
      have HB6 := Lib.hid (HB5.out.trans hb6)
      have M1 := Lib.hid (tal_new w6 (lst g))
      obtain ⟨b13, e13⟩ : ∃ b, w6.heap.size = b := ⟨_, rfl⟩
      obtain ⟨W6, eW⟩ : ∃ W, w6.alloc (.cells #[.int .i64 (tot 0 (lst g)), .int .i64 (tot 1 (lst g)), .int .i64 (tot 2 (lst g)), .int .i64 (tot 3 (lst g)), .int .i64 (mx (lst g))] 33) = W := ⟨_, rfl⟩
      have HB7 : Hid (Bel w4 W6) := Lib.hid (by rw [← eW]; exact HB6.out.alloc _ _)
      have L3 : Hid (Tal W6 b11 (lst g)) := Lib.hid (by rw [← eW]; exact L2.out.bel ((Bel.refl _).alloc _ _))
      rw [eW, e13] at M1
      clear hb6 HB5 L1
      have HE : Hid (∀ w', Bel W6 w' → Bel w w') := Lib.hid fun w' hb => ((HB.out.trans HB3.out).trans HB7.out).trans hb
      have KX : Hid (∀ w', Bel W6 w' → Calls Try.prog 16 #[.pointer (some ⟨p, 0, none⟩)] w' fun e w'' => e = .returned (talV (opn g)) ∧ Bel W6 w'') := Lib.hid fun w' hb => (lopen_any p g w' (HQ3.out.bel (HB7.out.trans hb))).mono fun e w'' ⟨h1, h2⟩ => ⟨h1, hb.trans h2⟩
      have KY : Hid (∀ w', Bel W6 w' → Calls Try.prog 17 #[.slice op r oc] w' fun e w'' => e = .returned (talV (opn g)) ∧ Bel W6 w'') := Lib.hid fun w' hb => (rtally_any op r oc (opn g) w' (by rw [opn_len, EN.out, ER.out.1]) (by have := ER.out; omega) (HOP.out.bel (HB7.out.trans hb)) HQ3.out.ok.opn).mono fun e w'' ⟨h1, h2⟩ => ⟨h1, hb.trans h2⟩
      unfold talV at KX KY
      have KN : Hid (∀ w', Bel W6 w' → Calls Try.prog 18 #[.pointer (some ⟨p, 0, none⟩)] w' fun e w'' => e = .returned (.int .i64 r) ∧ w'' = w') := Lib.hid fun w' hb => by
        have K := lnotes_any p g w' (HQ3.out.bel (HB7.out.trans hb)) (by have := HG.out; omega)
        rw [EN.out, ER.out.1] at K
        exact K
      have KW : Hid (∀ w', Bel W6 w' → Calls Try.prog 19 #[.pointer (some ⟨p, 0, none⟩)] w' fun e w'' => e = .returned (.int .i64 q) ∧ w'' = w') := Lib.hid fun w' hb => by
        have K := lwindows_any p g w' (HQ3.out.bel (HB7.out.trans hb)) (by have := HG.out; omega)
        rw [EN.out, ER.out.2] at K
        exact K
      have HX : Hid (∀ w', Bel W6 w' → (w'.cell? ⟨b11, 0, none⟩ = some (.int .i64 (tot 0 (lst g))) ∧ w'.cell? ⟨b11, 1, none⟩ = some (.int .i64 (tot 1 (lst g))) ∧ w'.cell? ⟨b11, 2, none⟩ = some (.int .i64 (tot 2 (lst g))) ∧ w'.cell? ⟨b11, 3, none⟩ = some (.int .i64 (tot 3 (lst g))) ∧ w'.cell? ⟨b11, 4, none⟩ = some (.int .i64 (mx (lst g)))) ∧
          (w'.cell? ⟨b13, 0, none⟩ = some (.int .i64 (tot 0 (lst g))) ∧ w'.cell? ⟨b13, 1, none⟩ = some (.int .i64 (tot 1 (lst g))) ∧ w'.cell? ⟨b13, 2, none⟩ = some (.int .i64 (tot 2 (lst g))) ∧ w'.cell? ⟨b13, 3, none⟩ = some (.int .i64 (tot 3 (lst g))) ∧ w'.cell? ⟨b13, 4, none⟩ = some (.int .i64 (mx (lst g))))) :=
        Lib.hid fun w' hb => ⟨L3.out.bel hb, M1.out.bel hb⟩
      by_cases hw : 0 ≤ x ∧ x ≤ 3
      · obtain ⟨i, hi⟩ : ∃ i : Nat, x = i := ⟨x.toNat, by omega⟩
        subst hi
        obtain ⟨hw0, hw1⟩ := hw
        have KTt : Hid (∀ w', Bel W6 w' → Calls Try.prog 20 #[.pointer (some ⟨p, 0, none⟩), .int .i64 i] w' fun e w'' => e = .returned (.int .i64 (tot i g)) ∧ w'' = w') := Lib.hid fun w' hb => ltotal_yes p g i w' (HQ3.out.bel (HB7.out.trans hb)) (by omega)
        have KRt : Hid (∀ w', Bel W6 w' → Calls Try.prog 15 #[.slice gp N gc, .int .i64 i] w' fun e w'' => e = .returned (.int .i64 (tot i g)) ∧ w'' = w') := Lib.hid fun w' hb => rtotal_any gp N gc g i w' EN.out (by have := HN150.out; omega) (HGP.out.bel (HB7.out.trans hb)) HQ3.out.ok
        generalize tot i g = z at *
        go_wp2_with fail
        with_reducible refine (KRt.out _ (Bel.refl _)).mono ?_
        rintro e w7 ⟨rfl, rfl⟩
        clear eW e13 L2 L3 M1 HB6 HB7
        generalize tot 0 (opn g) = x0 at *
        generalize tot 1 (opn g) = x1 at *
        generalize tot 2 (opn g) = x2 at *
        generalize tot 3 (opn g) = x3 at *
        generalize mx (opn g) = x4 at *
        generalize tot 0 (lst g) = y0 at *
        generalize tot 1 (lst g) = y1 at *
        generalize tot 2 (lst g) = y2 at *
        generalize tot 3 (lst g) = y3 at *
        generalize mx (lst g) = y4 at *
        go_wp2_with fail
        with_reducible refine (KX.out _ (Bel.refl _)).mono ?_
        rintro e w8 ⟨rfl, hb8⟩
        have HB8 := Lib.hid hb8
        clear hb8
        go_wp2_with fail
        with_reducible refine (KY.out _ HB8.out).mono ?_
        rintro e w9 ⟨rfl, hb9⟩
        have HB9 := Lib.hid hb9
        obtain ⟨⟨c0, c1, c2, c3, c4⟩, d0, d1, d2, d3, d4⟩ := HX.out _ hb9
        clear hb9
        go_wp2_with fail
        with_reducible refine (KN.out _ HB9.out).mono ?_
        rintro e w10 ⟨rfl, rfl⟩
        go_wp2_with fail
        with_reducible refine (KW.out _ HB9.out).mono ?_
        rintro e w10 ⟨rfl, rfl⟩
        go_wp2_with fail
        with_reducible refine (KTt.out _ HB9.out).mono ?_
        rintro e w10 ⟨rfl, rfl⟩
        go_wp2
        go_ret
        exact ⟨rfl, HE.out _ HB9.out⟩
      · have KTt : Hid (∀ w', Bel W6 w' → Calls Try.prog 20 #[.pointer (some ⟨p, 0, none⟩), .int .i64 x] w' fun e w'' => e = .returned (.int .i64 0) ∧ w'' = w') := Lib.hid fun w' hb => total_no p x w' hw
        by_cases hw0 : 0 ≤ x
        · have hw1 : ¬ x ≤ 3 := fun k => hw ⟨hw0, k⟩
          clear hw
          generalize tot 0 (opn g) = x0 at *
          generalize tot 1 (opn g) = x1 at *
          generalize tot 2 (opn g) = x2 at *
          generalize tot 3 (opn g) = x3 at *
          generalize mx (opn g) = x4 at *
          generalize tot 0 (lst g) = y0 at *
          generalize tot 1 (lst g) = y1 at *
          generalize tot 2 (lst g) = y2 at *
          generalize tot 3 (lst g) = y3 at *
          generalize mx (lst g) = y4 at *
          go_wp2_with fail
          with_reducible refine (KX.out _ (Bel.refl _)).mono ?_
          rintro e w8 ⟨rfl, hb8⟩
          clear eW e13 L2 L3 M1 HB6 HB7
          have HB8 := Lib.hid hb8
          clear hb8
          go_wp2_with fail
          with_reducible refine (KY.out _ HB8.out).mono ?_
          rintro e w9 ⟨rfl, hb9⟩
          have HB9 := Lib.hid hb9
          obtain ⟨⟨c0, c1, c2, c3, c4⟩, d0, d1, d2, d3, d4⟩ := HX.out _ hb9
          clear hb9
          go_wp2_with fail
          with_reducible refine (KN.out _ HB9.out).mono ?_
          rintro e w10 ⟨rfl, rfl⟩
          go_wp2_with fail
          with_reducible refine (KW.out _ HB9.out).mono ?_
          rintro e w10 ⟨rfl, rfl⟩
          go_wp2_with fail
          with_reducible refine (KTt.out _ HB9.out).mono ?_
          rintro e w10 ⟨rfl, rfl⟩
          go_wp2
          go_ret
          exact ⟨rfl, HE.out _ HB9.out⟩
        · clear hw
          generalize tot 0 (opn g) = x0 at *
          generalize tot 1 (opn g) = x1 at *
          generalize tot 2 (opn g) = x2 at *
          generalize tot 3 (opn g) = x3 at *
          generalize mx (opn g) = x4 at *
          generalize tot 0 (lst g) = y0 at *
          generalize tot 1 (lst g) = y1 at *
          generalize tot 2 (lst g) = y2 at *
          generalize tot 3 (lst g) = y3 at *
          generalize mx (lst g) = y4 at *
          go_wp2_with fail
          with_reducible refine (KX.out _ (Bel.refl _)).mono ?_
          rintro e w8 ⟨rfl, hb8⟩
          clear eW e13 L2 L3 M1 HB6 HB7
          have HB8 := Lib.hid hb8
          clear hb8
          go_wp2_with fail
          with_reducible refine (KY.out _ HB8.out).mono ?_
          rintro e w9 ⟨rfl, hb9⟩
          have HB9 := Lib.hid hb9
          obtain ⟨⟨c0, c1, c2, c3, c4⟩, d0, d1, d2, d3, d4⟩ := HX.out _ hb9
          clear hb9
          go_wp2_with fail
          with_reducible refine (KN.out _ HB9.out).mono ?_
          rintro e w10 ⟨rfl, rfl⟩
          go_wp2_with fail
          with_reducible refine (KW.out _ HB9.out).mono ?_
          rintro e w10 ⟨rfl, rfl⟩
          go_wp2_with fail
          with_reducible refine (KTt.out _ HB9.out).mono ?_
          rintro e w10 ⟨rfl, rfl⟩
          go_wp2
          go_ret
          exact ⟨rfl, HE.out _ HB9.out⟩
theorem plays_any (a : Option Addr) (n cap : Nat) (l : List T) (x : Int) (w : World) (hn : l.length = n) (hl : Has nof w a l) :
    Calls Try.prog 3 #[.slice a n cap, .int .i64 x] w fun e w' => e = .returned (.bool true) ∧ Bel w w' := by
  by_cases h : 150 < n
  · exact plays_far a n cap x w h
  · exact plays_main a n cap l x w (by omega) hn hl
end Go.Proofs.Ytfplmleakgpkiaa
