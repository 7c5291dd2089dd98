/-
  Contract of the document's Append, where it appends.
-/
import Derived.Test.YtdeiknfaehpheaaKinds
namespace Go.Proofs.Ytdeiknfaehpheaa
open Go.RowKit
set_option maxHeartbeats 4000000 in
theorem rappend_ok (f : Nat → Prop) (P : Nat) (p : Option Addr) (L c : Nat) (ls : Ls) (t x : Nat) (w : World) (hR : RefIn f w p L ls) (hP : P ≤ 1024) (hL : L ≤ 1024) (hg : Good P L ls) (ht : t < L) (hx : x < P) (hi : ∀ s, s < L → x ∉ ls s) (hf : ∀ j, f j → j < w.heap.size) :
    Calls Try.prog 26 #[rv P p L c, .int .i64 t, .int .i64 x] w fun e w' => ∃ p' c', e = .returned (.tuple #[rv P p' L c', .int .i64 0]) ∧ L ≤ c' ∧ RefIn f w' p' L (upd ls t (ls t ++ [x])) ∧ Bel w w' := by
  have K1 := Lib.hid (rhas_any P p L c t)
  have K2 := Lib.hid (ris_any P p L c x)
  have K3 := Lib.hid (fun w' (h : Bel w w') => rwhich_out P p L c ls x w' (hR.any.bel h) hP hL hg (not_in hi))
  rw [hp_yes ht] at K1
  rw [hp_yes hx] at K2
  have TC := Lib.hid (two_cells w P p L c)
  have TB := Lib.hid (two_bel w P p L c)
  have hlen := hg.len ht
  obtain ⟨b, off, q, cq, rfl, _, x0, hcq, hq⟩ := hR.at ht
  have K4 := Lib.hid (fun w' r k (h : Bel w w') (hT : w.heap.size + 1 < w'.heap.size) (hr : Lies nof w' r (encI [x])) => cat_k (fT f (w.heap.size + 1)) q r (ls t).length 1 cq k (ls t) [x] w' rfl rfl (by omega) (by omega) (hq.any.bel h) hr (fT_lt hf h.size hT))
  have K5 := Lib.hid (fun w' q' k' (h : Bel w w') (hT : w.heap.size + 1 < w'.heap.size) (hk : (ls t ++ [x]).length ≤ k') (hl : LiesT (fT f (w.heap.size + 1)) w' q' 3 (encI (ls t ++ [x]))) => with_k (fT f (w.heap.size + 1)) P (some ⟨b, off, none⟩) L c ls t q' (ls t ++ [x]).length k' (ls t ++ [x]) w' ((hR.fT (by omega)).bel h) hL ht rfl hk hl (fT_lt hf h.size hT))
  have HF := Lib.hid hf
  have X0 := Lib.hid x0
  unfold rv two at *
  clear hR hg hi hq hf x0
  generalize upd ls t (ls t ++ [x]) = ls2 at *
  generalize ls t ++ [x] = l2 at *
  generalize (ls t).length = n at *
  have htl : (t : Int) < L := by omega
  go_enter Try.func26, Try.ntmps26
  go_wp2_with fail
  with_reducible refine (K1.out _).mono ?_
  rintro e w1 ⟨rfl, hb⟩
  obtain ⟨⟨d0, d1⟩, _⟩ := TC.out _ hb
  have HB := Lib.hid hb
  clear hb
  go_wp2_with fail
  with_reducible refine (K2.out _).mono ?_
  rintro e w2 ⟨rfl, hb⟩
  clear d0 d1
  obtain ⟨⟨d0, d1⟩, _⟩ := TC.out _ (HB.out.trans hb)
  have HB2 := Lib.hid (HB.out.trans hb)
  clear hb
  go_wp2_with fail
  with_reducible refine (K3.out _ (TB.out.trans HB2.out)).mono ?_
  rintro e w3 ⟨rfl, hb⟩
  clear d0 d1
  have HB3 := Lib.hid (HB2.out.trans hb)
  have HW3 := Lib.hid (TB.out.trans (HB2.out.trans hb))
  clear hb HB2 HB
  obtain ⟨⟨d0, d1⟩, ⟨e0, e1⟩, ⟨g0, g1⟩, hz⟩ := TC.out _ HB3.out
  have x1 := HW3.out.cell X0.out
  have hbl : b < w3.heap.size := World.block_lt_of_cell? w3 _ x1
  have hz0 : w.heap.size < w3.heap.size := by omega
  go_wp2
  refine wp_region_end (RKd [Kd.val (.agg #[.int .i64 P, .slice (some ⟨b, off, none⟩) L c]), Kd.val (.int .i64 t), Kd.val (.pointer (some ⟨w.heap.size, 1, none⟩)), Kd.val (.slice (some ⟨b, off, none⟩) L c), Kd.val (.int .i64 t), Kd.val (.pointer (some ⟨b, off + t, none⟩)), Kd.val (.slice q n cq), Kd.val (.int .i64 x), Kd.lst (nof) ([x]), Kd.lst (fT f (w.heap.size + 1)) (l2), Kd.rf (fT f (w.heap.size + 1)) P L (ls2)]) 11 (by kernel_rfl) (RKd_mono _) (by decide) (by show eachOk _ 35 = true; decide +kernel) (by decide +kernel) (by decide +kernel) (by decide +kernel) ?paid ?fin
  case paid =>
    refine ⟨?_, ?_⟩
    · intro a' w' hw hB H
      have h3 : a'.tmps[3]? = some (.pointer (some ⟨w.heap.size, 0, none⟩)) := (hB 3 rfl).trans rfl
      have kd0 := hw.cell d0
      have kd1 := hw.cell d1
      exact pay_same (v := .agg #[.int .i64 P, .slice (some ⟨b, off, none⟩) L c]) rfl (by simp [execOp, go_sem, h3, kd0, kd1]) rfl
    refine ⟨?_, ?_⟩
    · intro a' w' hw hB H
      have h1 : a'.tmps[1]? = some (.int .i64 t) := (hB 1 rfl).trans rfl
      exact pay_same (v := .int .i64 t) rfl (by simp [execOp, go_sem, h1]) rfl
    refine ⟨?_, ?_⟩
    · intro a' w' hw hB H
      have h3 : a'.tmps[3]? = some (.pointer (some ⟨w.heap.size, 0, none⟩)) := (hB 3 rfl).trans rfl
      exact pay_same (v := .pointer (some ⟨w.heap.size, 1, none⟩)) rfl (by simp [execOp, go_sem, h3]) rfl
    refine ⟨?_, ?_⟩
    · intro a' w' hw hB H
      have h26 := gotV (d := 26) (c := .pointer (some ⟨w.heap.size, 1, none⟩)) (H 2 rfl) rfl rfl
      have kd1 := hw.cell d1
      exact pay_same (v := .slice (some ⟨b, off, none⟩) L c) rfl (by simp [execOp, go_sem, h26, kd1]) rfl
    refine ⟨?_, ?_⟩
    · intro a' w' hw hB H
      have h1 : a'.tmps[1]? = some (.int .i64 t) := (hB 1 rfl).trans rfl
      exact pay_same (v := .int .i64 t) rfl (by simp [execOp, go_sem, h1]) rfl
    refine ⟨?_, ?_⟩
    · intro a' w' hw hB H
      have h27 := gotV (d := 27) (c := .slice (some ⟨b, off, none⟩) L c) (H 3 rfl) rfl rfl
      have h28 := gotV (d := 28) (c := .int .i64 t) (H 4 rfl) rfl rfl
      exact pay_same (v := .pointer (some ⟨b, off + t, none⟩)) rfl (by simp [execOp, go_sem, h27, h28, htl, ht, Try.underlying25]) rfl
    refine ⟨?_, ?_⟩
    · intro a' w' hw hB H
      have h29 := gotV (d := 29) (c := .pointer (some ⟨b, off + t, none⟩)) (H 5 rfl) rfl rfl
      have kx1 := hw.cell x1
      exact pay_same (v := .slice q n cq) rfl (by simp [execOp, go_sem, h29, kx1]) rfl
    refine ⟨?_, ?_⟩
    · intro a' w' hw hB H
      have h2 : a'.tmps[2]? = some (.int .i64 x) := (hB 2 rfl).trans rfl
      exact pay_same (v := .int .i64 x) rfl (by simp [execOp, go_sem, h2]) rfl
    refine ⟨?_, ?_⟩
    · intro a' w' hw hB H
      have h31 := gotV (d := 31) (c := .int .i64 x) (H 7 rfl) rfl rfl
      exact pay_new (v := .slice (some ⟨w'.heap.size, 0, none⟩) 1 1) (w2 := w'.alloc (.cells #[.int .i64 x] 3)) rfl (by simp [execOp, go_sem, h31]) ⟨_, _, rfl, Nat.le_refl _, newL w' x⟩ ((Bel.refl _).alloc _ _)
    refine ⟨?_, ?_⟩
    · intro a' w' hw hB H
      have h30 := gotV (d := 30) (c := .slice q n cq) (H 6 rfl) rfl rfl
      obtain ⟨q32, k32, h32, z32, l32⟩ := gotL (d := 32) (f := nof) (l := [x]) (H 8 rfl) rfl rfl
      refine pay_call (f := 46) (args := #[.slice q n cq, .slice q32 1 k32]) rfl (by simp [go_sem, h30, h32]) ?_
      exact K4.out _ _ _ (HW3.out.drew.trans hw) (Nat.lt_of_lt_of_le hz hw.size) l32.1
    refine ⟨?_, ?_⟩
    · intro a' w' hw hB H
      have h24 := gotV (d := 24) (c := .agg #[.int .i64 P, .slice (some ⟨b, off, none⟩) L c]) (H 0 rfl) rfl rfl
      have h25 := gotV (d := 25) (c := .int .i64 t) (H 1 rfl) rfl rfl
      obtain ⟨q33, k33, h33, z33, l33⟩ := gotL (d := 33) (f := fT f (w.heap.size + 1)) (l := l2) (H 9 rfl) rfl rfl
      refine pay_call (f := 45) (args := #[.agg #[.int .i64 P, .slice (some ⟨b, off, none⟩) L c], .int .i64 t, .slice q33 l2.length k33]) rfl (by simp [go_sem, h24, h25, h33]) ?_
      exact K5.out _ _ _ (HW3.out.drew.trans hw) (Nat.lt_of_lt_of_le hz hw.size) z33 l33
    trivial
  case fin =>
    intro a' w' hw hd hsz hB hall
    obtain ⟨p6, c6, h34, hc6, hr6⟩ := gotR (d := 34) (f := fT f (w.heap.size + 1)) (P := P) (L := L) (ls := ls2) (hall 10 (by decide)) rfl rfl
    have h6 : a'.tmps[6]? = some (.pointer (some ⟨w.heap.size + 1, 0, none⟩)) := (hB 6 rfl).trans rfl
    obtain ⟨⟨d0, d1⟩, ⟨e0, e1⟩, ⟨g0, g1⟩, hz⟩ := TC.out _ (HB3.out.drew.trans hw)
    have hbw := HW3.out.drew.trans hw
    refine store_op (w' := (w'.setCell ⟨w.heap.size + 1, 0, none⟩ (.int .i64 P)).setCell ⟨w.heap.size + 1, 1, none⟩ (.slice p6 L c6)) rfl rfl rfl (by simp [execOp, go_sem, h6, h34, e0, e1, g0, g1]) ?_
    refine assign_op (d := 7) (v := .int .i64 0) rfl rfl rfl (by simp [execOp, go_sem]) ?_
    have h6' : (a'.tmps.setIfInBounds 7 (.int .i64 0))[6]? = some (.pointer (some ⟨w.heap.size + 1, 0, none⟩)) := by rw [Array.getElem?_setIfInBounds_ne (by decide)]; exact h6
    have h7' : (a'.tmps.setIfInBounds 7 (.int .i64 0))[7]? = some (.int .i64 0) := by simp [hsz]
    generalize a'.tmps.setIfInBounds 7 (.int .i64 0) = T7 at *
    refine row_end ?_
    go_wp2
    exact bodyPost_ret (v := .tuple #[.agg #[.int .i64 P, .slice p6 L c6], .int .i64 0]) (by simp [results, Try.results26, go_sem, h6', h7', e0, e1]) rfl ⟨p6, c6, rfl, hc6, hr6.unT, off_two hbw (by omega)⟩
end Go.Proofs.Ytdeiknfaehpheaa
