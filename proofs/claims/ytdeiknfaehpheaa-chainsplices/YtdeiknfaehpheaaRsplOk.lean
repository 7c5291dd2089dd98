/-
  Contract of the document's Splice, where all of a list go to another one.
-/
import Derived.Test.YtdeiknfaehpheaaRno
namespace Go.Proofs.Ytdeiknfaehpheaa
open Go.RowKit
set_option maxHeartbeats 2000000 in
theorem rsplice_ok (f : Nat → Prop) (P : Nat) (p : Option Addr) (L c : Nat) (ls : Ls) (t u : Nat) (w : World) (hR : RefIn f w p L ls) (hP : P ≤ 1024) (hL : L ≤ 1024) (hg : Good P L ls) (ht : t < L) (hf : ∀ j, f j → j < w.heap.size) (hu : u < L) (htu : ¬ t = u) :
    Calls Try.prog 29 #[rv P p L c, .int .i64 t, .int .i64 u] w fun e w' => ∃ p' c', e = .returned (.tuple #[rv P p' L c', .int .i64 0]) ∧ L ≤ c' ∧ RefIn f w' p' L (upd (upd ls t (ls t ++ ls u)) u []) ∧ Bel w w' := by
  have K1 := Lib.hid (rhas_any P p L c t)
  rw [hp_yes ht] at K1
  have K2 := Lib.hid (rhas_any P p L c u)
  rw [hp_yes hu] at K2
  have TC := Lib.hid (two_cells w P p L c)
  have TB := Lib.hid (two_bel w P p L c)
  have hlen := hg.len ht
  have hlen2 := hg.len hu
  obtain ⟨b0, off, q, cq, rfl, _, x0, hcq, hq⟩ := hR.at ht
  obtain ⟨b1, off1, r, cr, eb, _, y0, hcr, hr⟩ := hR.at hu
  injection eb with eb
  injection eb with eb1 eb2
  subst eb1 eb2
  have K7 := Lib.hid (fun w' k k2 (h : Bel w w') (hT : w.heap.size + 1 < w'.heap.size) => cat_k (fT f (w.heap.size + 1)) q r (ls t).length (ls u).length k k2 (ls t) (ls u) w' rfl rfl (by omega) (by omega) (hq.any.bel h) (hr.any.bel h) (fT_lt hf h.size hT))
  have K8 := Lib.hid (fun w' q' k' (h : Bel w w') (hT : w.heap.size + 1 < w'.heap.size) (hk : (ls t ++ ls u).length ≤ k') (hl : LiesT (fT f (w.heap.size + 1)) w' q' 3 (encI (ls t ++ ls u))) => with_k (fT f (w.heap.size + 1)) P (some ⟨b0, off, none⟩) L c ls t q' (ls t ++ ls u).length k' (ls t ++ ls u) w' ((hR.fT (by omega)).bel h) hL ht rfl hk hl (fT_lt hf h.size hT))
  have K9 := Lib.hid (fun w' p' c' (h : Bel w w') (hT : w.heap.size + 1 < w'.heap.size) (hr : RefIn (fT f (w.heap.size + 1)) w' p' L (upd ls t (ls t ++ ls u))) => with_any (fT f (w.heap.size + 1)) P p' L c' (upd ls t (ls t ++ ls u)) u none 0 0 [] w' hr hL hu rfl (Nat.le_refl _) ⟨.inl rfl, .inl rfl⟩ (fT_lt hf h.size hT))
  have X0 := Lib.hid x0
  have Y0 := Lib.hid y0
  unfold rv two at *
  clear hR hg hq hf x0 y0 hr
  generalize upd (upd ls t (ls t ++ ls u)) u [] = ls3 at *
  generalize upd ls t (ls t ++ ls u) = ls2 at *
  generalize ls t ++ ls u = l3 at *
  generalize (ls t).length = n at *
  generalize (ls u).length = m at *
  have htl : (t : Int) < L := by omega
  have hul : (u : Int) < L := by omega
  have hd1 : ((t : Int) == u) = false := by simp; omega
  go_enter Try.func29, Try.ntmps29
  go_wp2_with fail
  with_reducible refine (K1.out _).mono ?_
  rintro e w1 ⟨rfl, hb⟩
  obtain ⟨⟨d0, d1⟩, _⟩ := TC.out _ (hb)
  have HB1 := Lib.hid (hb)
  clear hb
  go_wp2_with fail
  with_reducible refine (K2.out _).mono ?_
  rintro e w2 ⟨rfl, hb⟩
  clear d0 d1
  obtain ⟨⟨d0, d1⟩, ⟨e0, e1⟩, ⟨g0, g1⟩, hz⟩ := TC.out _ (HB1.out.trans hb)
  have HB2 := Lib.hid (HB1.out.trans hb)
  clear hb
  have x1 := (TB.out.trans HB2.out).cell X0.out
  have y1 := (TB.out.trans HB2.out).cell Y0.out
  have hbl : b0 < w2.heap.size := World.block_lt_of_cell? w2 _ x1
  have hz0 : w.heap.size < w2.heap.size := by omega
  have HBx := HB2
  have HWx := Lib.hid (TB.out.trans HB2.out)
  go_wp2
  refine wp_region_end (RKd [Kd.val (.agg #[.int .i64 P, .slice (some ⟨b0, off, none⟩) L c]), Kd.val (.int .i64 t), Kd.val (.pointer (some ⟨w.heap.size, 1, none⟩)), Kd.val (.slice (some ⟨b0, off, none⟩) L c), Kd.val (.int .i64 t), Kd.val (.pointer (some ⟨b0, off + t, none⟩)), Kd.val (.slice q n cq), Kd.val (.pointer (some ⟨w.heap.size, 1, none⟩)), Kd.val (.slice (some ⟨b0, off, none⟩) L c), Kd.val (.int .i64 u), Kd.val (.pointer (some ⟨b0, off + u, none⟩)), Kd.val (.slice r m cr), Kd.lst (fT f (w.heap.size + 1)) (l3), Kd.rf (fT f (w.heap.size + 1)) P L (ls2), Kd.box (w2.drew.heap.size)]) 15 (by kernel_rfl) (RKd_mono _) (by decide) (by show eachOk _ 41 = true; decide +kernel) (by decide +kernel) (by decide +kernel) (by decide +kernel) ?paid ?fin
  case paid =>
    refine ⟨?_, ?_⟩
    · intro a' w' hw hB H
      have h3 : a'.tmps[3]? = some (.pointer (some ⟨w.heap.size, 0, none⟩)) := (hB 3 rfl).trans rfl
      have kd0 := hw.cell d0
      have kd1 := hw.cell d1
      exact pay_same (v := .agg #[.int .i64 P, .slice (some ⟨b0, off, none⟩) L c]) rfl (by simp [execOp, go_sem, h3, kd0, kd1]) rfl
    refine ⟨?_, ?_⟩
    · intro a' w' hw hB H
      have h1 : a'.tmps[1]? = some (.int .i64 t) := (hB 1 rfl).trans rfl
      exact pay_same (v := .int .i64 t) rfl (by simp [execOp, go_sem, h1]) rfl
    refine ⟨?_, ?_⟩
    · intro a' w' hw hB H
      have h3 : a'.tmps[3]? = some (.pointer (some ⟨w.heap.size, 0, none⟩)) := (hB 3 rfl).trans rfl
      exact pay_same (v := .pointer (some ⟨w.heap.size, 1, none⟩)) rfl (by simp [execOp, go_sem, h3]) rfl
    refine ⟨?_, ?_⟩
    · intro a' w' hw hB H
      have h26 := gotV (d := 26) (c := .pointer (some ⟨w.heap.size, 1, none⟩)) (H 2 rfl) rfl rfl
      have kd1 := hw.cell d1
      exact pay_same (v := .slice (some ⟨b0, off, none⟩) L c) rfl (by simp [execOp, go_sem, h26, kd1]) rfl
    refine ⟨?_, ?_⟩
    · intro a' w' hw hB H
      have h1 : a'.tmps[1]? = some (.int .i64 t) := (hB 1 rfl).trans rfl
      exact pay_same (v := .int .i64 t) rfl (by simp [execOp, go_sem, h1]) rfl
    refine ⟨?_, ?_⟩
    · intro a' w' hw hB H
      have h27 := gotV (d := 27) (c := .slice (some ⟨b0, off, none⟩) L c) (H 3 rfl) rfl rfl
      have h28 := gotV (d := 28) (c := .int .i64 t) (H 4 rfl) rfl rfl
      exact pay_same (v := .pointer (some ⟨b0, off + t, none⟩)) rfl (by simp [execOp, go_sem, h27, h28, htl, ht, Try.underlying25]) rfl
    refine ⟨?_, ?_⟩
    · intro a' w' hw hB H
      have h29 := gotV (d := 29) (c := .pointer (some ⟨b0, off + t, none⟩)) (H 5 rfl) rfl rfl
      have kx1 := hw.cell x1
      exact pay_same (v := .slice q n cq) rfl (by simp [execOp, go_sem, h29, kx1]) rfl
    refine ⟨?_, ?_⟩
    · intro a' w' hw hB H
      have h3 : a'.tmps[3]? = some (.pointer (some ⟨w.heap.size, 0, none⟩)) := (hB 3 rfl).trans rfl
      exact pay_same (v := .pointer (some ⟨w.heap.size, 1, none⟩)) rfl (by simp [execOp, go_sem, h3]) rfl
    refine ⟨?_, ?_⟩
    · intro a' w' hw hB H
      have h31 := gotV (d := 31) (c := .pointer (some ⟨w.heap.size, 1, none⟩)) (H 7 rfl) rfl rfl
      have kd1 := hw.cell d1
      exact pay_same (v := .slice (some ⟨b0, off, none⟩) L c) rfl (by simp [execOp, go_sem, h31, kd1]) rfl
    refine ⟨?_, ?_⟩
    · intro a' w' hw hB H
      have h2 : a'.tmps[2]? = some (.int .i64 u) := (hB 2 rfl).trans rfl
      exact pay_same (v := .int .i64 u) rfl (by simp [execOp, go_sem, h2]) rfl
    refine ⟨?_, ?_⟩
    · intro a' w' hw hB H
      have h32 := gotV (d := 32) (c := .slice (some ⟨b0, off, none⟩) L c) (H 8 rfl) rfl rfl
      have h33 := gotV (d := 33) (c := .int .i64 u) (H 9 rfl) rfl rfl
      exact pay_same (v := .pointer (some ⟨b0, off + u, none⟩)) rfl (by simp [execOp, go_sem, h32, h33, hul, hu, Try.underlying25]) rfl
    refine ⟨?_, ?_⟩
    · intro a' w' hw hB H
      have h34 := gotV (d := 34) (c := .pointer (some ⟨b0, off + u, none⟩)) (H 10 rfl) rfl rfl
      have ky1 := hw.cell y1
      exact pay_same (v := .slice r m cr) rfl (by simp [execOp, go_sem, h34, ky1]) rfl
    refine ⟨?_, ?_⟩
    · intro a' w' hw hB H
      have h30 := gotV (d := 30) (c := .slice q n cq) (H 6 rfl) rfl rfl
      have h35 := gotV (d := 35) (c := .slice r m cr) (H 11 rfl) rfl rfl
      refine pay_call (f := 46) (args := #[.slice q n cq, .slice r m cr]) rfl (by simp [go_sem, h30, h35]) ?_
      exact K7.out _ _ _ (HWx.out.drew.trans hw) (Nat.lt_of_lt_of_le hz hw.size)
    refine ⟨?_, ?_⟩
    · intro a' w' hw hB H
      have h24 := gotV (d := 24) (c := .agg #[.int .i64 P, .slice (some ⟨b0, off, none⟩) L c]) (H 0 rfl) rfl rfl
      have h25 := gotV (d := 25) (c := .int .i64 t) (H 1 rfl) rfl rfl
      obtain ⟨q36, k36, h36, z36, l36⟩ := gotL (d := 36) (f := fT f (w.heap.size + 1)) (l := l3) (H 12 rfl) rfl rfl
      refine pay_call (f := 45) (args := #[.agg #[.int .i64 P, .slice (some ⟨b0, off, none⟩) L c], .int .i64 t, .slice q36 l3.length k36]) rfl (by simp [go_sem, h24, h25, h36]) ?_
      exact K8.out _ _ _ (HWx.out.drew.trans hw) (Nat.lt_of_lt_of_le hz hw.size) z36 l36
    refine ⟨?_, ?_⟩
    · intro a' w' hw hB H
      exact pay_new (v := .pointer (some ⟨w'.heap.size, 0, none⟩)) (w2 := w'.alloc (.cells #[.int .i64 0, .slice none 0 0] 27)) rfl (by simp [execOp, go_sem]) ⟨_, rfl, hw.size, newB w'⟩ ((Bel.refl _).alloc _ _)
    trivial
  case fin =>
    intro a' w' hw hd hsz hB hall
    obtain ⟨p6, c6, h37, hc6, hr6⟩ := gotR (d := 37) (f := fT f (w.heap.size + 1)) (P := P) (L := L) (ls := ls2) (hall 13 (by decide)) rfl rfl
    obtain ⟨T8, h8, hT8, hb8⟩ := gotB (d := 8) (m := w2.drew.heap.size) (hall 14 (by decide)) rfl rfl
    have h1 : a'.tmps[1]? = some (.int .i64 t) := (hB 1 rfl).trans rfl
    have h2 : a'.tmps[2]? = some (.int .i64 u) := (hB 2 rfl).trans rfl
    have h6 : a'.tmps[6]? = some (.pointer (some ⟨w.heap.size + 1, 0, none⟩)) := (hB 6 rfl).trans rfl
    obtain ⟨⟨y8, y9⟩, z8, z9⟩ := box2 hb8
    have hO8 := off2 w' T8 (.int .i64 P) (.slice p6 L c6)
    have hr8 := hr6.apart hO8 hb8
    have hT82 : w.heap.size + 1 < T8 := by have h9 : w2.heap.size ≤ T8 := hT8; omega
    have hbw := HWx.out.drew.trans hw
    have hb82 : Bel w ((w'.setCell ⟨T8, 0, none⟩ (.int .i64 P)).setCell ⟨T8, 1, none⟩ (.slice p6 L c6)) := off_two hbw (by omega)
    obtain ⟨_, ⟨e0, e1⟩, ⟨g0, g1⟩, hz⟩ := TC.out _ (HBx.out.drew.trans hw)
    have e0 := hO8.cell (show ¬ w.heap.size + 1 = T8 by omega) e0
    have e1 := hO8.cell (show ¬ w.heap.size + 1 = T8 by omega) e1
    have g0 : ((w'.setCell ⟨T8, 0, none⟩ (.int .i64 P)).setCell ⟨T8, 1, none⟩ (.slice p6 L c6)).frozen? ⟨w.heap.size + 1, 0, none⟩ = false := (World.frozen?_of_block (hO8.block _ (by omega) (show ¬ w.heap.size + 1 = T8 by omega))).trans g0
    have g1 : ((w'.setCell ⟨T8, 0, none⟩ (.int .i64 P)).setCell ⟨T8, 1, none⟩ (.slice p6 L c6)).frozen? ⟨w.heap.size + 1, 1, none⟩ = false := (World.frozen?_of_block (hO8.block _ (by omega) (show ¬ w.heap.size + 1 = T8 by omega))).trans g1
    have i0 : ((w'.setCell ⟨T8, 0, none⟩ (.int .i64 P)).setCell ⟨T8, 1, none⟩ (.slice p6 L c6)).cell? ⟨T8, 0, none⟩ = some (.int .i64 P) := by simp [go_sem, y8]
    have i1 : ((w'.setCell ⟨T8, 0, none⟩ (.int .i64 P)).setCell ⟨T8, 1, none⟩ (.slice p6 L c6)).cell? ⟨T8, 1, none⟩ = some (.slice p6 L c6) := by simp [go_sem, y9]
    have hz8 : w.heap.size + 1 < ((w'.setCell ⟨T8, 0, none⟩ (.int .i64 P)).setCell ⟨T8, 1, none⟩ (.slice p6 L c6)).heap.size := Nat.lt_of_lt_of_le hz hO8.size
    refine store_op (w' := (w'.setCell ⟨T8, 0, none⟩ (.int .i64 P)).setCell ⟨T8, 1, none⟩ (.slice p6 L c6)) rfl rfl rfl (by simp [execOp, go_sem, h8, h37, y8, y9, z8, z9]) ?_
    generalize (w'.setCell ⟨T8, 0, none⟩ (.int .i64 P)).setCell ⟨T8, 1, none⟩ (.slice p6 L c6) = W8 at *
    have K9x := Lib.hid (K9.out _ _ c6 hb82 hz8 hr8)
    clear y8 y9 z8 z9 hO8 hb8 hr8 hr6 h37 hall hw hbw d0 d1 x1 y1
    have h3 : a'.tmps[3]? = some (.pointer (some ⟨w.heap.size, 0, none⟩)) := (hB 3 rfl).trans rfl
    have hs41 : a'.tmps.size = 41 := hsz
    have ea : a'.tmps = #[a'.tmps.getD 0 undef, .int .i64 t, .int .i64 u, .pointer (some ⟨w.heap.size, 0, none⟩), a'.tmps.getD 4 undef, a'.tmps.getD 5 undef, .pointer (some ⟨w.heap.size + 1, 0, none⟩), a'.tmps.getD 7 undef, .pointer (some ⟨T8, 0, none⟩), a'.tmps.getD 9 undef, a'.tmps.getD 10 undef, a'.tmps.getD 11 undef, a'.tmps.getD 12 undef, a'.tmps.getD 13 undef, a'.tmps.getD 14 undef, a'.tmps.getD 15 undef, a'.tmps.getD 16 undef, a'.tmps.getD 17 undef, a'.tmps.getD 18 undef, a'.tmps.getD 19 undef, a'.tmps.getD 20 undef, a'.tmps.getD 21 undef, a'.tmps.getD 22 undef, a'.tmps.getD 23 undef, a'.tmps.getD 24 undef, a'.tmps.getD 25 undef, a'.tmps.getD 26 undef, a'.tmps.getD 27 undef, a'.tmps.getD 28 undef, a'.tmps.getD 29 undef, a'.tmps.getD 30 undef, a'.tmps.getD 31 undef, a'.tmps.getD 32 undef, a'.tmps.getD 33 undef, a'.tmps.getD 34 undef, a'.tmps.getD 35 undef, a'.tmps.getD 36 undef, a'.tmps.getD 37 undef, a'.tmps.getD 38 undef, a'.tmps.getD 39 undef, a'.tmps.getD 40 undef] := by
      refine arr_eq hs41 (fun k hk => ?_)
      match k, hk with
      | 0, _ => exact self_get (by omega)
      | 1, _ => exact h1
      | 2, _ => exact h2
      | 3, _ => exact h3
      | 4, _ => exact self_get (by omega)
      | 5, _ => exact self_get (by omega)
      | 6, _ => exact h6
      | 7, _ => exact self_get (by omega)
      | 8, _ => exact h8
      | 9, _ => exact self_get (by omega)
      | 10, _ => exact self_get (by omega)
      | 11, _ => exact self_get (by omega)
      | 12, _ => exact self_get (by omega)
      | 13, _ => exact self_get (by omega)
      | 14, _ => exact self_get (by omega)
      | 15, _ => exact self_get (by omega)
      | 16, _ => exact self_get (by omega)
      | 17, _ => exact self_get (by omega)
      | 18, _ => exact self_get (by omega)
      | 19, _ => exact self_get (by omega)
      | 20, _ => exact self_get (by omega)
      | 21, _ => exact self_get (by omega)
      | 22, _ => exact self_get (by omega)
      | 23, _ => exact self_get (by omega)
      | 24, _ => exact self_get (by omega)
      | 25, _ => exact self_get (by omega)
      | 26, _ => exact self_get (by omega)
      | 27, _ => exact self_get (by omega)
      | 28, _ => exact self_get (by omega)
      | 29, _ => exact self_get (by omega)
      | 30, _ => exact self_get (by omega)
      | 31, _ => exact self_get (by omega)
      | 32, _ => exact self_get (by omega)
      | 33, _ => exact self_get (by omega)
      | 34, _ => exact self_get (by omega)
      | 35, _ => exact self_get (by omega)
      | 36, _ => exact self_get (by omega)
      | 37, _ => exact self_get (by omega)
      | 38, _ => exact self_get (by omega)
      | 39, _ => exact self_get (by omega)
      | 40, _ => exact self_get (by omega)
      | k + 41, h => exact absurd h (by simp)
    have ea2 : a' = { tmps := #[a'.tmps.getD 0 undef, .int .i64 t, .int .i64 u, .pointer (some ⟨w.heap.size, 0, none⟩), a'.tmps.getD 4 undef, a'.tmps.getD 5 undef, .pointer (some ⟨w.heap.size + 1, 0, none⟩), a'.tmps.getD 7 undef, .pointer (some ⟨T8, 0, none⟩), a'.tmps.getD 9 undef, a'.tmps.getD 10 undef, a'.tmps.getD 11 undef, a'.tmps.getD 12 undef, a'.tmps.getD 13 undef, a'.tmps.getD 14 undef, a'.tmps.getD 15 undef, a'.tmps.getD 16 undef, a'.tmps.getD 17 undef, a'.tmps.getD 18 undef, a'.tmps.getD 19 undef, a'.tmps.getD 20 undef, a'.tmps.getD 21 undef, a'.tmps.getD 22 undef, a'.tmps.getD 23 undef, a'.tmps.getD 24 undef, a'.tmps.getD 25 undef, a'.tmps.getD 26 undef, a'.tmps.getD 27 undef, a'.tmps.getD 28 undef, a'.tmps.getD 29 undef, a'.tmps.getD 30 undef, a'.tmps.getD 31 undef, a'.tmps.getD 32 undef, a'.tmps.getD 33 undef, a'.tmps.getD 34 undef, a'.tmps.getD 35 undef, a'.tmps.getD 36 undef, a'.tmps.getD 37 undef, a'.tmps.getD 38 undef, a'.tmps.getD 39 undef, a'.tmps.getD 40 undef], defers := [] } := by
      obtain ⟨tm, df⟩ := a'
      simp only at ea hd
      subst hd
      exact congrArg (fun x => ({ tmps := x, defers := [] } : Act)) ea
    generalize a'.tmps.getD 0 undef = z0 at ea2
    generalize a'.tmps.getD 4 undef = z4 at ea2
    generalize a'.tmps.getD 5 undef = z5 at ea2
    generalize a'.tmps.getD 7 undef = z7 at ea2
    generalize a'.tmps.getD 9 undef = z9 at ea2
    generalize a'.tmps.getD 10 undef = z10 at ea2
    generalize a'.tmps.getD 11 undef = z11 at ea2
    generalize a'.tmps.getD 12 undef = z12 at ea2
    generalize a'.tmps.getD 13 undef = z13 at ea2
    generalize a'.tmps.getD 14 undef = z14 at ea2
    generalize a'.tmps.getD 15 undef = z15 at ea2
    generalize a'.tmps.getD 16 undef = z16 at ea2
    generalize a'.tmps.getD 17 undef = z17 at ea2
    generalize a'.tmps.getD 18 undef = z18 at ea2
    generalize a'.tmps.getD 19 undef = z19 at ea2
    generalize a'.tmps.getD 20 undef = z20 at ea2
    generalize a'.tmps.getD 21 undef = z21 at ea2
    generalize a'.tmps.getD 22 undef = z22 at ea2
    generalize a'.tmps.getD 23 undef = z23 at ea2
    generalize a'.tmps.getD 24 undef = z24 at ea2
    generalize a'.tmps.getD 25 undef = z25 at ea2
    generalize a'.tmps.getD 26 undef = z26 at ea2
    generalize a'.tmps.getD 27 undef = z27 at ea2
    generalize a'.tmps.getD 28 undef = z28 at ea2
    generalize a'.tmps.getD 29 undef = z29 at ea2
    generalize a'.tmps.getD 30 undef = z30 at ea2
    generalize a'.tmps.getD 31 undef = z31 at ea2
    generalize a'.tmps.getD 32 undef = z32 at ea2
    generalize a'.tmps.getD 33 undef = z33 at ea2
    generalize a'.tmps.getD 34 undef = z34 at ea2
    generalize a'.tmps.getD 35 undef = z35 at ea2
    generalize a'.tmps.getD 36 undef = z36 at ea2
    generalize a'.tmps.getD 37 undef = z37 at ea2
    generalize a'.tmps.getD 38 undef = z38 at ea2
    generalize a'.tmps.getD 39 undef = z39 at ea2
    generalize a'.tmps.getD 40 undef = z40 at ea2
    subst ea2
    clear ea h1 h2 h3 h6 h8 hs41 hsz hB hd
    refine row_end ?_
    go_wp2_with fail
    with_reducible refine K9x.out.mono ?_
    rintro e w9 ⟨p9, c9, rfl, hc9, hr9, hb9⟩
    have e0 := hb9.cell e0
    have e1 := hb9.cell e1
    have g0 := hb9.froz (by assumption) g0
    have g1 := hb9.froz (by assumption) g1
    have hbw9 := hb82.trans hb9
    have hz9 : w.heap.size + 1 < w9.heap.size := Nat.lt_of_lt_of_le hz8 hb9.size
    go_wp2
    exact bodyPost_ret (v := .tuple #[.agg #[.int .i64 P, .slice p9 L c9], .int .i64 0]) (by simp [results, Try.results29, go_sem, e0, e1]) rfl ⟨p9, c9, rfl, hc9, hr9.unT, off_two hbw9 (by omega)⟩
end Go.Proofs.Ytdeiknfaehpheaa
