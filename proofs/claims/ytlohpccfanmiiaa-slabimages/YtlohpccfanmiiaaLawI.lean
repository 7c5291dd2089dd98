/-
  The walk of SlabImages.
-/
import Derived.Test.YtlohpccfanmiiaaGood
import Derived.Deep.Cut
namespace Go.Proofs.Ytlohpccfanmiiaa
open Go.RowKit
theorem images_long (P G : Int) (pa pb : Option Addr) (N ca K cb : Nat) (w : World) (h : ¬ (N ≤ 60 ∧ K ≤ 60)) :
    Calls Try.prog 7 #[.int .i64 P, .int .i64 G, .slice pa N ca, .slice pb K cb] w fun e w' => e = .returned (.bool true) ∧ Bel w w' := by
  by_cases h1 : N ≤ 60
  · have h1' : ¬ (60 : Int) < N := by omega
    have h2' : (60 : Int) < K := by omega
    clear h
    go_enter Try.func7, Try.ntmps7
    go_wp2_with fail
    with_reducible refine (works_any _).mono ?_
    rintro e w1 ⟨rfl, hb⟩
    go_wp2
    go_ret
    exact ⟨rfl, hb⟩
  · have h1' : (60 : Int) < N := by omega
    clear h
    go_enter Try.func7, Try.ntmps7
    go_wp2_with fail
    with_reducible refine (works_any _).mono ?_
    rintro e w1 ⟨rfl, hb⟩
    go_wp2
    go_ret
    exact ⟨rfl, hb⟩
set_option maxRecDepth 100000 in
theorem images_no (P G : Int) (pa pb : Option Addr) (N ca K cb : Nat) (w : World) (h : N ≤ 60) (hk : K ≤ 60) (hP : ¬ (0 ≤ P ∧ P ≤ 1024 ∧ 1 ≤ G ∧ G ≤ 65535)) :
    Calls Try.prog 7 #[.int .i64 P, .int .i64 G, .slice pa N ca, .slice pb K cb] w fun e w' => e = .returned (.bool true) ∧ Bel w w' := by
  have h' : ¬ (60 : Int) < N := by omega
  have h2' : ¬ (60 : Int) < K := by omega
  have K1 := Lib.hid (fun w => new_no P G w hP)
  have K2 := Lib.hid (fun w => rnew_no P G w hP)
  clear hP
  go_enter Try.func7, Try.ntmps7
  go_wp2_with fail
  with_reducible refine (works_any _).mono ?_
  rintro e w1 ⟨rfl, hb⟩
  have HB := Lib.hid hb
  clear hb
  go_wp2_with fail
  with_reducible refine (K1.out _).mono ?_
  rintro e w2 ⟨rfl, rfl⟩
  go_wp2_with fail
  with_reducible refine (K2.out _).mono ?_
  rintro e w3 ⟨rfl, hb⟩
  have HB3 := Lib.hid (HB.out.trans hb)
  clear hb
  go_wp2
  go_ret
  exact ⟨rfl, HB3.out.alloc _ _⟩
theorem play_rv {X : Nat → Prop} {w1 w : World} {B : Nat} {f : Nat → Prop} {S0 : St} {p : Option Addr} {n c : Nat} {tk : List Hd} {N : Nat} {e : Ending} {w' : World} (h : PlayPost X w1 B f S0 p n c tk N w e w') :
    ∃ f' S' R' x' p' n' c' tk', e = .returned (.tuple #[.agg #[.int .i64 R'.pl, .int .i64 R'.gn, .slice x'.p1 R'.used.length x'.c1, .slice x'.p2 R'.free.length x'.c2, .slice x'.p3 R'.alive.length x'.c3], .slice p' n' c', .bool true]) ∧ Way w1 B f' S' w' ∧ Wf S' ∧ Sim S' R' ∧ Tkn w1 f' w' p' n' c' tk' ∧ RefIn (D2 (fX f' X) (.slice p' n' c')) w' x' R' ∧
    w'.ownsRow 0 38 2 (.slice p n c) n (encH tk) ∧ Steps (D2 f (.slice p n c)) w (D2 f' (.slice p' n' c')) w' ∧ n' ≤ n + N ∧ S'.pl = S0.pl ∧ S'.gn = S0.gn := h
set_option maxHeartbeats 8000000 in
set_option maxRecDepth 100000 in
theorem images_yes (P G : Int) (pa pb : Option Addr) (N ca K cb : Nat) (l l2 : List Ac) (w : World) (h : N ≤ 60) (hk : K ≤ 60) (hl : l.length = N) (hl2 : l2.length = K) (hA : Lies nof w pa (encA l)) (hA2 : Lies nof w pb (encA l2)) (h0 : 0 ≤ P) (h1 : P ≤ 1024) (h2 : 1 ≤ G) (h3 : G ≤ 65535) :
    Calls Try.prog 7 #[.int .i64 P, .int .i64 G, .slice pa N ca, .slice pb K cb] w fun e w' => e = .returned (.bool true) ∧ Bel w w' := by
  have h' : ¬ (60 : Int) < N := by omega
  have h2' : ¬ (60 : Int) < K := by omega
  obtain ⟨Pn, hPn⟩ : ∃ Pn : Nat, P = Pn := ⟨P.toNat, by omega⟩
  subst hPn
  have HA := Lib.hid hA
  have HA2 := Lib.hid hA2
  have HL := Lib.hid hl
  have HL2 := Lib.hid hl2
  clear hA hA2 hl hl2
  go_enter Try.func7, Try.ntmps7
  go_wp2_with fail
  with_reducible refine (works_any _).mono ?_
  rintro e w1 ⟨rfl, hb⟩
  have HB := Lib.hid hb
  clear hb
  go_wp2_with fail
  with_reducible refine (new_ok Pn G _ h0 h1 h2 h3).mono ?_
  rintro e w2 ⟨B, f, rfl, hS, hb, hf⟩
  have W2 : Hid (Way w1 B f (newS Pn G) w2) := Lib.hid ⟨hS, hb, hf⟩
  clear hS hb hf
  go_wp2_with fail
  with_reducible refine (rnew_yes Pn G _ h0 h1 h2 h3).mono ?_
  rintro e w3 ⟨rfl, hb⟩
  have W3 := Lib.hid ((W2.out.bel hb).bel ((Bel.refl w3).alloc #[.int .i64 Pn, .int .i64 G, .slice none 0 0, .slice none 0 0, .slice none 0 0] 31))
  have hw13 : w1.heap.size ≤ w3.heap.size := (W2.out.bel hb).off.size
  have KM : Hid (Keep (D2 f (.slice none 0 0)) (w3.alloc (.cells #[.int .i64 Pn, .int .i64 G, .slice none 0 0, .slice none 0 0, .slice none 0 0] 31)) w3.heap.size (.cells #[.int .i64 Pn, .int .i64 G, .slice none 0 0, .slice none 0 0, .slice none 0 0] 31)) := Lib.hid (Keep.new _ (fun k e => by
    rcases e with e | e
    · exact (W2.out.bel hb).sl.lt k e
    · cases e))
  clear hb
  have KP := Lib.hid (play_any (fun k => k = w3.heap.size) w1 B f (newS Pn G) (newR Pn G) ⟨none, 0, none, 0, none, 0⟩ none pa 0 0 N ca [] l _ W3.out (wf_new Pn G h0 h1 h2 h3) (sim_new Pn G) (Tkn.nil _ _ _) ⟨Nat.le_refl _, Nat.le_refl _, Nat.le_refl _, Lies.nil _ _ _, Lies.nil _ _ _, Lies.nil _ _ _⟩ (fun k e => by rw [e]; simp) HL.out h (by omega) (HA.out.bel HB.out))
  unfold rv newR at KP
  simp only [List.length_nil] at KP
  go_wp2_with fail
  with_reducible refine (KP.out).mono ?_
  intro e w4 hpost
  obtain ⟨f4, S, R, x, p, n, c, tk, rfl, hw4, hwf, hsim, htk, href, _, hst, hn, hpl0, hgn0⟩ := play_rv hpost
  have W4 := Lib.hid hw4
  have HWf := Lib.hid hwf
  have HSim := Lib.hid hsim
  have HTk := Lib.hid htk
  have HRef := Lib.hid href
  have KM := Lib.hid (KM.out.steps hst)
  have HPL : Hid (S.pl = Pn) := Lib.hid hpl0
  have HGN : Hid (S.gn = G) := Lib.hid hgn0
  have hSt := Lib.hid hst
  clear hpost hw4 hwf hsim htk href hst KP W3 hpl0 hgn0
  obtain ⟨⟨m0, m1, m2, m3, m4⟩, ⟨i0, i1, i2, i3, i4⟩⟩ := box5 KM.out.2
  have HO5 := Lib.hid (off5 w4 w3.heap.size (.int .i64 R.pl) (.int .i64 R.gn) (.slice x.p1 R.used.length x.c1) (.slice x.p2 R.free.length x.c2) (.slice x.p3 R.alive.length x.c3))
  have HM5 := Lib.hid (set5 (a' := .int .i64 R.pl) (b' := .int .i64 R.gn) (c' := .slice x.p1 R.used.length x.c1) (d' := .slice x.p2 R.free.length x.c2) (e' := .slice x.p3 R.alive.length x.c3) KM.out.2)
  have W5 := Lib.hid (W4.out.away HO5.out (fun i e => ⟨fun e2 => KM.out.1 (.inl (by rw [← e]; exact e2)), by omega⟩))
  have T5 := Lib.hid (HTk.out.away HO5.out (fun i hi e => KM.out.1 (.inr (by rw [← e]; exact hi))))
  have R5 := Lib.hid ((HRef.out.off (HO5.out.mono (g := D2 (fX f4 (fun k => k = w3.heap.size)) (.slice p n c)) (fun i _ e => .inl (.inr e)))))
  have hB5 : Hid (Off (D2 f4 (.slice p n c)) w4 w4) := Lib.hid (Off.refl _ _)
  clear hB5
  have hz5 : w3.heap.size < w4.heap.size := KM.out.lt
  have KM1 := Lib.hid KM.out.1
  have hsz5 := HO5.out.size
  have KM' := KM
  clear KM'
  go_upto_region 13 with (fail)
  generalize ((((w4.setCell ⟨w3.heap.size, 0, none⟩ (.int .i64 R.pl)).setCell ⟨w3.heap.size, 1, none⟩ (.int .i64 R.gn)).setCell ⟨w3.heap.size, 2, none⟩ (.slice x.p1 R.used.length x.c1)).setCell ⟨w3.heap.size, 3, none⟩ (.slice x.p2 R.free.length x.c2)).setCell ⟨w3.heap.size, 4, none⟩ (.slice x.p3 R.alive.length x.c3) = w5 at *
  clear i0 i1 i2 i3 i4 m0 m1 m2 m3 m4
  go_wp2_with fail
  with_reducible refine (image_any B f4 S _ W5.out.sl HWf.out.sm).mono ?_
  rintro e w6 ⟨pu, cu, pf, cf, rfl, hcu, hcf, hpu, hpf, hb⟩
  have HPu := Lib.hid hpu
  have HPf := Lib.hid hpf
  have W6 := Lib.hid (W5.out.bel hb)
  have T6 := Lib.hid (T5.out.bel hb)
  have R6 := Lib.hid (R5.out.bel hb)
  have HM6 := Lib.hid (hb.heap HM5.out)
  have hs56 := hb.size
  clear hb hpu hpf
  have hpl : S.pl = Pn := HPL.out
  have hgn : S.gn = G := HGN.out
  have HG := Lib.hid (image_good HWf.out HSim.out hpl)
  rw [hgn] at HG
  have hal : R.alive.length ≤ 1024 := by have h5 := HSim.out.len; have h6 := lenS_le S; have h7 := HWf.out.sm.t1; omega
  have htl := HWf.out.sm.t1
  have hfl := HWf.out.sm.f1
  have HIns : Hid (Ins w6 (us S.tk) S.fr R.alive pu pf x.p3 S.tk.length S.fr.length R.alive.length) := Lib.hid ⟨us_len _, rfl, rfl, htl, hfl, hal, HPu.out.any, HPf.out.any, R6.out.i3.any⟩
  have KO := Lib.hid (of_any Pn G (us S.tk) S.fr R.alive pu pf x.p3 S.tk.length cu S.fr.length cf R.alive.length x.c3 w6 (by omega) h2 h3 HIns.out (fun _ q hq => by
    obtain ⟨k, e1, e2⟩ := HG.out.1.g5 q hq
    exact ⟨k, e1, by have := get_lt e2; rw [us_len] at this; exact this⟩))
  clear hpl hgn
  obtain ⟨⟨m0, m1, m2, m3, m4⟩, _⟩ := box5 HM6.out
  go_wp2_with fail
  with_reducible refine (KO.out).mono ?_
  intro e w7 hof
  obtain ⟨Bo, fo, rfl, hwo⟩ := hof.2 ((upto_good _ _ _ _ _).2 HG.out.1)
  rw [HG.out.2] at hwo
  have WO := Lib.hid hwo
  clear hof hwo KO m0 m1 m2 m3 m4
  have HB67 := Lib.hid WO.out.off
  have W7 := Lib.hid (W6.out.bel WO.out.off)
  have T7 := Lib.hid (T6.out.bel WO.out.off)
  have R7 := Lib.hid (R6.out.bel WO.out.off)
  have HM7 := Lib.hid (WO.out.off.heap HM6.out)
  have hs67 := WO.out.off.size
  have hlT : ∀ k, (Value.slice p n c).ownBlock = some k → k < w6.heap.size := fun k e => (T6.out.own.lt k e).2
  have hlf : ∀ k, f4 k → k < w6.heap.size := W6.out.sl.lt
  have WO7 : Hid (Way w1 Bo fo S w7) := Lib.hid ⟨WO.out.sl, W7.out.off, fun k e => Nat.le_trans W6.out.off.size (WO.out.ge k e)⟩
  have TO7 : Hid (Tkn w1 fo w7 p n c tk) := Lib.hid ⟨T7.out.len, T7.out.own, fun k e e2 => by have := WO.out.ge k e2; have := hlT k e; omega, T7.out.ge⟩
  have RO7 : Hid (RefIn (D2 (fX fo (fun k => fX f4 (fun k => k = w3.heap.size) k)) (.slice p n c)) w7 x R) := Lib.hid ((R6.out.mono (fun b hb e => by
    rcases e with (e | e) | e
    · have := WO.out.ge b e; omega
    · exact .inl e
    · exact .inr e)).bel WO.out.off)
  have KP2 := Lib.hid (play_any (fun k => fX f4 (fun k => k = w3.heap.size) k) w1 Bo fo S R x p pb n c K cb tk l2 w7 WO7.out HWf.out HSim.out TO7.out RO7.out (fun k e => by
    rcases e with e | e
    · have := hlf k e; omega
    · rw [e]; omega) HL2.out hk (by omega) (HA2.out.bel HB.out))
  unfold rv at KP2
  obtain ⟨⟨m0, m1, m2, m3, m4⟩, _⟩ := box5 HM7.out
  go_wp2_with fail
  with_reducible refine (KP2.out).mono ?_
  intro e w8 hpost
  obtain ⟨f8, S8, R8, x8, p8, n8, c8, tk8, rfl, hw8, _, _, _, _, hrow, hst, _⟩ := play_rv hpost
  have HRow := Lib.hid hrow
  have HSt := Lib.hid hst
  clear hpost hw8 hrow hst KP2 m0 m1 m2 m3 m4
  have hfo : ∀ k, fo k → w6.heap.size ≤ k := WO.out.ge
  have W8 : Hid (Way w1 B f4 S w8) := Lib.hid (W7.out.away HSt.out.1 (fun i e => by
    rcases e with e | e
    · exact ⟨fun e2 => by have := hfo i e; have := hlf i e2; omega, WO7.out.ge i e⟩
    · exact ⟨fun e2 => T7.out.nf i e e2, T7.out.ge i e⟩))
  have T8 : Hid (Tkn w1 f4 w8 p n c tk) := Lib.hid ⟨T7.out.len, HRow.out, T7.out.nf, T7.out.ge⟩
  have R8' : Hid (RefIn (D2 (fX f4 nof) (.slice p n c)) w8 x R) := Lib.hid ((RO7.out.off (HSt.out.1.mono (fun i _ e => by
    rcases e with e | e
    · exact .inl (.inl e)
    · exact .inr e))).mono (fun b _ e => by
    rcases e with (e | e) | e
    · exact .inl (.inr (.inl e))
    · exact e.elim
    · exact .inr e))
  have HM8 : Hid (w8.heap[w3.heap.size]? = some (rbox x R)) := Lib.hid ((HSt.out.1.block w3.heap.size (by omega) (fun e => by
    rcases e with e | e
    · have := hfo _ e; omega
    · exact KM1.out (.inr e))).trans HM7.out)
  have hz8 : w3.heap.size < w8.heap.size := (Array.getElem?_eq_some_iff.1 HM8.out).1
  have K8 := Lib.hid (Bel.refl (w8.alloc (.cells #[.int .i64 R8.pl, .int .i64 R8.gn, .slice x8.p1 R8.used.length x8.c1, .slice x8.p2 R8.free.length x8.c2, .slice x8.p3 R8.alive.length x8.c3] 31)))
  have hb8 : Bel w8 (w8.alloc (.cells #[.int .i64 R8.pl, .int .i64 R8.gn, .slice x8.p1 R8.used.length x8.c1, .slice x8.p2 R8.free.length x8.c2, .slice x8.p3 R8.alive.length x8.c3] 31)) := (Bel.refl _).alloc _ _
  have KP3 := Lib.hid (play_any nof w1 B f4 S R x p pb n c K cb tk l2 _ (W8.out.bel hb8) HWf.out HSim.out (T8.out.bel hb8) (R8'.out.bel hb8) (fun _ e => e.elim) HL2.out hk (by omega) (HA2.out.bel HB.out))
  unfold rv at KP3
  obtain ⟨⟨m0, m1, m2, m3, m4⟩, _⟩ := box5 HM8.out
  clear K8 hb8
  go_wp2_with fail
  with_reducible refine (KP3.out).mono ?_
  intro e w9 hpost
  obtain ⟨f9, S9, R9, x9, p9, n9, c9, tk9, rfl, hw9, _⟩ := play_rv hpost
  have W9 := Lib.hid (HB.out.trans hw9.off)
  clear hpost hw9 KP3 m0 m1 m2 m3 m4
  go_wp2
  go_ret
  exact ⟨rfl, W9.out.alloc _ _⟩
end Go.Proofs.Ytlohpccfanmiiaa
