/-
  Contracts of the document's Insert, Drop and Splice, where they refuse or do nothing.
-/
import Derived.Test.YtdeiknfaehpheaaRappOk
namespace Go.Proofs.Ytdeiknfaehpheaa
open Go.RowKit
theorem rinsert_arg1 (P : Nat) (p : Option Addr) (L c : Nat) (x y : Int) (w : World) (h1 : hp P x = false) :
    Calls Try.prog 27 #[rv P p L c, .int .i64 x, .int .i64 y] w fun e w' => e = .returned (.tuple #[rv P p L c, .int .i64 1]) ∧ Bel w w' := by
  have K1 := Lib.hid (ris_any P p L c x)
  rw [h1] at K1
  have TC := Lib.hid (two_cells w P p L c)
  have TB := Lib.hid (two_bel w P p L c)
  unfold rv two at *
  clear h1
  go_enter Try.func27, Try.ntmps27
  go_wp2_with fail
  with_reducible refine (K1.out _).mono ?_
  rintro e w1 ⟨rfl, hb⟩
  obtain ⟨⟨d0, d1⟩, ⟨e0, e1⟩, ⟨g0, g1⟩, hz⟩ := TC.out _ (hb)
  have HB1 := Lib.hid (hb)
  clear hb
  go_wp2
  exact bodyPost_ret (v := .tuple #[.agg #[.int .i64 P, .slice p L c], .int .i64 1]) (by simp [results, Try.results27, go_sem, e0, e1]) rfl ⟨rfl, off_two (TB.out.trans HB1.out) (by omega)⟩
theorem rinsert_arg2 (P : Nat) (p : Option Addr) (L c : Nat) (x y : Int) (w : World) (h1 : hp P x = true) (h2 : hp P y = false) :
    Calls Try.prog 27 #[rv P p L c, .int .i64 x, .int .i64 y] w fun e w' => e = .returned (.tuple #[rv P p L c, .int .i64 1]) ∧ Bel w w' := by
  have K1 := Lib.hid (ris_any P p L c x)
  have K2 := Lib.hid (ris_any P p L c y)
  rw [h1] at K1
  rw [h2] at K2
  have TC := Lib.hid (two_cells w P p L c)
  have TB := Lib.hid (two_bel w P p L c)
  unfold rv two at *
  clear h1 h2
  go_enter Try.func27, Try.ntmps27
  go_wp2_with fail
  with_reducible refine (K1.out _).mono ?_
  rintro e w1 ⟨rfl, hb⟩
  obtain ⟨⟨d0, d1⟩, _⟩ := TC.out _ (hb)
  have HB1 := Lib.hid (hb)
  clear hb
  go_wp2_with fail
  with_reducible refine (K2.out _).mono ?_
  rintro e w2 ⟨rfl, hb⟩
  clear d0 d1
  obtain ⟨⟨d0, d1⟩, ⟨e0, e1⟩, ⟨g0, g1⟩, hz⟩ := TC.out _ (HB1.out.trans hb)
  have HB2 := Lib.hid (HB1.out.trans hb)
  clear hb
  go_wp2
  exact bodyPost_ret (v := .tuple #[.agg #[.int .i64 P, .slice p L c], .int .i64 1]) (by simp [results, Try.results27, go_sem, e0, e1]) rfl ⟨rfl, off_two (TB.out.trans HB2.out) (by omega)⟩
theorem rinsert_in (P : Nat) (p : Option Addr) (L c : Nat) (ls : Ls) (x y s : Nat) (w : World) (hR : RefIn nof w p L ls) (hP : P ≤ 1024) (hL : L ≤ 1024) (hg : Good P L ls) (hx : x < P) (hy : y < P) (hs : s < L) (hi : x ∈ ls s) :
    Calls Try.prog 27 #[rv P p L c, .int .i64 x, .int .i64 y] w fun e w' => e = .returned (.tuple #[rv P p L c, .int .i64 4]) ∧ Bel w w' := by
  have K1 := Lib.hid (ris_any P p L c x)
  have K2 := Lib.hid (ris_any P p L c y)
  have K3 := Lib.hid (fun w' (h : Bel w w') => rwhich_in P p L c ls x s w' (hR.bel h) hP hL hg hs hi)
  rw [hp_yes hx] at K1
  rw [hp_yes hy] at K2
  have TC := Lib.hid (two_cells w P p L c)
  have TB := Lib.hid (two_bel w P p L c)
  unfold rv two at *
  clear hR hg hi
  go_enter Try.func27, Try.ntmps27
  go_wp2_with fail
  with_reducible refine (K1.out _).mono ?_
  rintro e w1 ⟨rfl, hb⟩
  obtain ⟨⟨d0, d1⟩, _⟩ := TC.out _ (hb)
  have HB1 := Lib.hid (hb)
  clear hb
  go_wp2_with fail
  with_reducible refine (K2.out _).mono ?_
  rintro e w2 ⟨rfl, hb⟩
  clear d0 d1
  obtain ⟨⟨d0, d1⟩, _⟩ := TC.out _ (HB1.out.trans hb)
  have HB2 := Lib.hid (HB1.out.trans hb)
  clear hb
  go_wp2_with fail
  with_reducible refine (K3.out _ (TB.out.trans HB2.out)).mono ?_
  rintro e w3 ⟨rfl, hb⟩
  clear d0 d1
  obtain ⟨⟨d0, d1⟩, ⟨e0, e1⟩, ⟨g0, g1⟩, hz⟩ := TC.out _ (HB2.out.trans hb)
  have HB3 := Lib.hid (HB2.out.trans hb)
  clear hb
  go_wp2
  exact bodyPost_ret (v := .tuple #[.agg #[.int .i64 P, .slice p L c], .int .i64 4]) (by simp [results, Try.results27, go_sem, e0, e1]) rfl ⟨rfl, off_two (TB.out.trans HB3.out) (by omega)⟩
theorem rinsert_none (P : Nat) (p : Option Addr) (L c : Nat) (ls : Ls) (x y : Nat) (w : World) (hR : RefIn nof w p L ls) (hP : P ≤ 1024) (hL : L ≤ 1024) (hg : Good P L ls) (hx : x < P) (hy : y < P) (hi : ∀ s, s < L → x ∉ ls s) (hj : ∀ s, s < L → y ∉ ls s) :
    Calls Try.prog 27 #[rv P p L c, .int .i64 x, .int .i64 y] w fun e w' => e = .returned (.tuple #[rv P p L c, .int .i64 5]) ∧ Bel w w' := by
  have K1 := Lib.hid (ris_any P p L c x)
  have K2 := Lib.hid (ris_any P p L c y)
  have K3 := Lib.hid (fun w' (h : Bel w w') => rwhich_out P p L c ls x w' (hR.bel h) hP hL hg (not_in hi))
  have K4 := Lib.hid (fun w' (h : Bel w w') => rwhich_out P p L c ls y w' (hR.bel h) hP hL hg (not_in hj))
  rw [hp_yes hx] at K1
  rw [hp_yes hy] at K2
  have TC := Lib.hid (two_cells w P p L c)
  have TB := Lib.hid (two_bel w P p L c)
  unfold rv two at *
  clear hR hg hi hj
  go_enter Try.func27, Try.ntmps27
  go_wp2_with fail
  with_reducible refine (K1.out _).mono ?_
  rintro e w1 ⟨rfl, hb⟩
  obtain ⟨⟨d0, d1⟩, _⟩ := TC.out _ (hb)
  have HB1 := Lib.hid (hb)
  clear hb
  go_wp2_with fail
  with_reducible refine (K2.out _).mono ?_
  rintro e w2 ⟨rfl, hb⟩
  clear d0 d1
  obtain ⟨⟨d0, d1⟩, _⟩ := TC.out _ (HB1.out.trans hb)
  have HB2 := Lib.hid (HB1.out.trans hb)
  clear hb
  go_wp2_with fail
  with_reducible refine (K3.out _ (TB.out.trans HB2.out)).mono ?_
  rintro e w3 ⟨rfl, hb⟩
  clear d0 d1
  obtain ⟨⟨d0, d1⟩, _⟩ := TC.out _ (HB2.out.trans hb)
  have HB3 := Lib.hid (HB2.out.trans hb)
  clear hb
  go_wp2_with fail
  with_reducible refine (K4.out _ (TB.out.trans HB3.out)).mono ?_
  rintro e w4 ⟨rfl, hb⟩
  clear d0 d1
  obtain ⟨⟨d0, d1⟩, ⟨e0, e1⟩, ⟨g0, g1⟩, hz⟩ := TC.out _ (HB3.out.trans hb)
  have HB4 := Lib.hid (HB3.out.trans hb)
  clear hb
  go_wp2
  exact bodyPost_ret (v := .tuple #[.agg #[.int .i64 P, .slice p L c], .int .i64 5]) (by simp [results, Try.results27, go_sem, e0, e1]) rfl ⟨rfl, off_two (TB.out.trans HB4.out) (by omega)⟩
theorem rdrop_arg (P : Nat) (p : Option Addr) (L c : Nat) (x : Int) (w : World) (h1 : hp P x = false) :
    Calls Try.prog 28 #[rv P p L c, .int .i64 x] w fun e w' => e = .returned (.tuple #[rv P p L c, .int .i64 1]) ∧ Bel w w' := by
  have K1 := Lib.hid (ris_any P p L c x)
  rw [h1] at K1
  have TC := Lib.hid (two_cells w P p L c)
  have TB := Lib.hid (two_bel w P p L c)
  unfold rv two at *
  clear h1
  go_enter Try.func28, Try.ntmps28
  go_wp2_with fail
  with_reducible refine (K1.out _).mono ?_
  rintro e w1 ⟨rfl, hb⟩
  obtain ⟨⟨d0, d1⟩, ⟨e0, e1⟩, ⟨g0, g1⟩, hz⟩ := TC.out _ (hb)
  have HB1 := Lib.hid (hb)
  clear hb
  go_wp2
  exact bodyPost_ret (v := .tuple #[.agg #[.int .i64 P, .slice p L c], .int .i64 1]) (by simp [results, Try.results28, go_sem, e0, e1]) rfl ⟨rfl, off_two (TB.out.trans HB1.out) (by omega)⟩
theorem rdrop_none (P : Nat) (p : Option Addr) (L c : Nat) (ls : Ls) (x : Nat) (w : World) (hR : RefIn nof w p L ls) (hP : P ≤ 1024) (hL : L ≤ 1024) (hg : Good P L ls) (hx : x < P) (hi : ∀ s, s < L → x ∉ ls s) :
    Calls Try.prog 28 #[rv P p L c, .int .i64 x] w fun e w' => e = .returned (.tuple #[rv P p L c, .int .i64 5]) ∧ Bel w w' := by
  have K1 := Lib.hid (ris_any P p L c x)
  have K3 := Lib.hid (fun w' (h : Bel w w') => rwhich_out P p L c ls x w' (hR.bel h) hP hL hg (not_in hi))
  rw [hp_yes hx] at K1
  have TC := Lib.hid (two_cells w P p L c)
  have TB := Lib.hid (two_bel w P p L c)
  unfold rv two at *
  clear hR hg hi
  go_enter Try.func28, Try.ntmps28
  go_wp2_with fail
  with_reducible refine (K1.out _).mono ?_
  rintro e w1 ⟨rfl, hb⟩
  obtain ⟨⟨d0, d1⟩, _⟩ := TC.out _ (hb)
  have HB1 := Lib.hid (hb)
  clear hb
  go_wp2_with fail
  with_reducible refine (K3.out _ (TB.out.trans HB1.out)).mono ?_
  rintro e w2 ⟨rfl, hb⟩
  clear d0 d1
  obtain ⟨⟨d0, d1⟩, ⟨e0, e1⟩, ⟨g0, g1⟩, hz⟩ := TC.out _ (HB1.out.trans hb)
  have HB2 := Lib.hid (HB1.out.trans hb)
  clear hb
  go_wp2
  exact bodyPost_ret (v := .tuple #[.agg #[.int .i64 P, .slice p L c], .int .i64 5]) (by simp [results, Try.results28, go_sem, e0, e1]) rfl ⟨rfl, off_two (TB.out.trans HB2.out) (by omega)⟩
theorem rsplice_arg1 (P : Nat) (p : Option Addr) (L c : Nat) (t f : Int) (w : World) (h1 : hp L t = false) :
    Calls Try.prog 29 #[rv P p L c, .int .i64 t, .int .i64 f] w fun e w' => e = .returned (.tuple #[rv P p L c, .int .i64 1]) ∧ Bel w w' := by
  have K1 := Lib.hid (rhas_any P p L c t)
  rw [h1] at K1
  have TC := Lib.hid (two_cells w P p L c)
  have TB := Lib.hid (two_bel w P p L c)
  unfold rv two at *
  clear h1
  go_enter Try.func29, Try.ntmps29
  go_wp2_with fail
  with_reducible refine (K1.out _).mono ?_
  rintro e w1 ⟨rfl, hb⟩
  obtain ⟨⟨d0, d1⟩, ⟨e0, e1⟩, ⟨g0, g1⟩, hz⟩ := TC.out _ (hb)
  have HB1 := Lib.hid (hb)
  clear hb
  go_wp2
  exact bodyPost_ret (v := .tuple #[.agg #[.int .i64 P, .slice p L c], .int .i64 1]) (by simp [results, Try.results29, go_sem, e0, e1]) rfl ⟨rfl, off_two (TB.out.trans HB1.out) (by omega)⟩
theorem rsplice_arg2 (P : Nat) (p : Option Addr) (L c : Nat) (t f : Int) (w : World) (h1 : hp L t = true) (h2 : hp L f = false) :
    Calls Try.prog 29 #[rv P p L c, .int .i64 t, .int .i64 f] w fun e w' => e = .returned (.tuple #[rv P p L c, .int .i64 1]) ∧ Bel w w' := by
  have K1 := Lib.hid (rhas_any P p L c t)
  have K2 := Lib.hid (rhas_any P p L c f)
  rw [h1] at K1
  rw [h2] at K2
  have TC := Lib.hid (two_cells w P p L c)
  have TB := Lib.hid (two_bel w P p L c)
  unfold rv two at *
  clear h1 h2
  go_enter Try.func29, Try.ntmps29
  go_wp2_with fail
  with_reducible refine (K1.out _).mono ?_
  rintro e w1 ⟨rfl, hb⟩
  obtain ⟨⟨d0, d1⟩, _⟩ := TC.out _ (hb)
  have HB1 := Lib.hid (hb)
  clear hb
  go_wp2_with fail
  with_reducible refine (K2.out _).mono ?_
  rintro e w2 ⟨rfl, hb⟩
  clear d0 d1
  obtain ⟨⟨d0, d1⟩, ⟨e0, e1⟩, ⟨g0, g1⟩, hz⟩ := TC.out _ (HB1.out.trans hb)
  have HB2 := Lib.hid (HB1.out.trans hb)
  clear hb
  go_wp2
  exact bodyPost_ret (v := .tuple #[.agg #[.int .i64 P, .slice p L c], .int .i64 1]) (by simp [results, Try.results29, go_sem, e0, e1]) rfl ⟨rfl, off_two (TB.out.trans HB2.out) (by omega)⟩
theorem rsplice_same (P : Nat) (p : Option Addr) (L c : Nat) (t : Nat) (w : World) (ht : t < L) :
    Calls Try.prog 29 #[rv P p L c, .int .i64 t, .int .i64 t] w fun e w' => e = .returned (.tuple #[rv P p L c, .int .i64 0]) ∧ Bel w w' := by
  have K1 := Lib.hid (rhas_any P p L c t)
  rw [hp_yes ht] at K1
  have hd : ((t : Int) == t) = true := by simp
  have TC := Lib.hid (two_cells w P p L c)
  have TB := Lib.hid (two_bel w P p L c)
  unfold rv two at *
  clear ht
  go_enter Try.func29, Try.ntmps29
  go_wp2_with fail
  with_reducible refine (K1.out _).mono ?_
  rintro e w1 ⟨rfl, hb⟩
  obtain ⟨⟨d0, d1⟩, _⟩ := TC.out _ (hb)
  have HB1 := Lib.hid (hb)
  clear hb
  go_wp2_with fail
  with_reducible refine (K1.out _).mono ?_
  rintro e w2 ⟨rfl, hb⟩
  clear d0 d1
  obtain ⟨⟨d0, d1⟩, ⟨e0, e1⟩, ⟨g0, g1⟩, hz⟩ := TC.out _ (HB1.out.trans hb)
  have HB2 := Lib.hid (HB1.out.trans hb)
  clear hb
  go_wp2
  exact bodyPost_ret (v := .tuple #[.agg #[.int .i64 P, .slice p L c], .int .i64 0]) (by simp [results, Try.results29, go_sem, e0, e1]) rfl ⟨rfl, off_two (TB.out.trans HB2.out) (by omega)⟩
end Go.Proofs.Ytdeiknfaehpheaa
