/-
  Contract of the document's Insert, where it inserts.
-/
import Derived.Test.YtdeiknfaehpheaaRno
namespace Go.Proofs.Ytdeiknfaehpheaa
open Go.RowKit
set_option maxHeartbeats 2000000 in
theorem rinsert_ok (f : Nat → Prop) (P : Nat) (p : Option Addr) (L c : Nat) (ls : Ls) (x y t : Nat) (a b : List Nat) (w : World) (hR : RefIn f w p L ls) (hP : P ≤ 1024) (hL : L ≤ 1024) (hg : Good P L ls) (ht : t < L) (hf : ∀ j, f j → j < w.heap.size) (hx : x < P) (hl : ls t = a ++ y :: b) (hi : ∀ s, s < L → x ∉ ls s) :
    Calls Try.prog 27 #[rv P p L c, .int .i64 x, .int .i64 y] w fun e w' => ∃ p' c', e = .returned (.tuple #[rv P p' L c', .int .i64 0]) ∧ L ≤ c' ∧ RefIn f w' p' L (upd ls t (a ++ x :: y :: b)) ∧ Bel w w' := by
  have hy : y ∈ ls t := by rw [hl]; simp
  have K1 := Lib.hid (ris_any P p L c x)
  have K2 := Lib.hid (ris_any P p L c y)
  rw [hp_yes hx] at K1
  rw [hp_yes (hg.pl t ht y hy)] at K2
  have K3 := Lib.hid (fun w' (h : Bel w w') => rwhich_out P p L c ls x w' (hR.any.bel h) hP hL hg (not_in hi))
  have K4 := Lib.hid (fun w' (h : Bel w w') => rwhich_in P p L c ls y t w' (hR.any.bel h) hP hL hg ht hy)
  have hya : y ∉ a := fun e => by
    have := hg.nd t ht
    rw [hl] at this
    exact (List.nodup_append.1 this).2.2 y e y (by simp) rfl
  have TC := Lib.hid (two_cells w P p L c)
  have TB := Lib.hid (two_bel w P p L c)
  have hlen := hg.len ht
  have hal : a.length < (ls t).length := by rw [hl]; simp
  obtain ⟨b0, off, q, cq, rfl, _, x0, hcq, hq⟩ := hR.at ht
  have ea : (ls t).take a.length = a := by rw [hl]; simp
  have eb : (ls t).drop a.length = y :: b := by rw [hl]; simp
  have la := hq.take a.length
  rw [ea] at la
  have lb := hq.cut hcq a.length
  rw [eb] at lb
  have hbl : (y :: b).length = (ls t).length - a.length := by rw [hl]; simp
  have e3 : a ++ x :: y :: b = a ++ [x] ++ (y :: b) := by simp
  rw [e3]
  have K5 := Lib.hid (fun w' (h : Bel w w') => rindex_in q (ls t).length cq (ls t) a b y w' rfl (by omega) (hq.any.bel h) hl hya)
  have K6 := Lib.hid (fun w' r k (h : Bel w w') (hT : w.heap.size + 1 < w'.heap.size) (hr : Lies nof w' r (encI [x])) => cat_k (fT f (w.heap.size + 1)) q r a.length 1 cq k a [x] w' rfl rfl (by omega) (by omega) (la.any.bel h) hr (fT_lt hf h.size hT))
  have K7 := Lib.hid (fun w' r k k2 (h : Bel w w') (hT : w.heap.size + 1 < w'.heap.size) (hr : Lies nof w' r (encI (a ++ [x]))) => cat_k (fT f (w.heap.size + 1)) r (cutP q cq a.length) (a ++ [x]).length ((ls t).length - a.length) k k2 (a ++ [x]) (y :: b) w' rfl hbl (by simp; omega) (by omega) hr (lb.any.bel h) (fT_lt hf h.size hT))
  have K8 := Lib.hid (fun w' q' k' (h : Bel w w') (hT : w.heap.size + 1 < w'.heap.size) (hk : (a ++ [x] ++ (y :: b)).length ≤ k') (hl : LiesT (fT f (w.heap.size + 1)) w' q' 3 (encI (a ++ [x] ++ (y :: b)))) => with_k (fT f (w.heap.size + 1)) P (some ⟨b0, off, none⟩) L c ls t q' (a ++ [x] ++ (y :: b)).length k' (a ++ [x] ++ (y :: b)) w' ((hR.fT (by omega)).bel h) hL ht rfl hk hl (fT_lt hf h.size hT))
  have X0 := Lib.hid x0
  unfold rv two at *
  clear hR hg hi hq hf x0 hl la lb ea eb hya hy hbl e3
  generalize upd ls t (a ++ [x] ++ (y :: b)) = ls2 at *
  generalize a ++ [x] ++ (y :: b) = l3 at *
  generalize a ++ [x] = l2 at *
  generalize a.length = i at *
  generalize (ls t).length = n at *
  have htl : (t : Int) < L := by omega
  have hic : i ≤ cq := by omega
  have hin : i ≤ n := by omega
  have S1 := slice_to q n cq i hic
  have S2 := slice_from q n cq i hin hcq
  generalize hcp : cutP q cq i = q2 at *
  clear hcp
  go_enter Try.func27, Try.ntmps27
  go_wp2_with fail
  with_reducible refine (K1.out _).mono ?_
  rintro e w1 ⟨rfl, hb⟩
  obtain ⟨⟨d0, d1⟩, _⟩ := TC.out _ (hb)
  have HB1 := Lib.hid (hb)
  clear hb
  go_wp2_with fail
  with_reducible refine (K2.out _).mono ?_
  rintro e w2 ⟨rfl, hb⟩
  clear d0 d1
  obtain ⟨⟨d0, d1⟩, _⟩ := TC.out _ (HB1.out.trans hb)
  have HB2 := Lib.hid (HB1.out.trans hb)
  clear hb
  go_wp2_with fail
  with_reducible refine (K3.out _ (TB.out.trans HB2.out)).mono ?_
  rintro e w3 ⟨rfl, hb⟩
  clear d0 d1
  obtain ⟨⟨d0, d1⟩, _⟩ := TC.out _ (HB2.out.trans hb)
  have HB3 := Lib.hid (HB2.out.trans hb)
  clear hb
  go_wp2_with fail
  with_reducible refine (K4.out _ (TB.out.trans HB3.out)).mono ?_
  rintro e w4 ⟨rfl, hb⟩
  clear d0 d1
  obtain ⟨⟨d0, d1⟩, ⟨e0, e1⟩, ⟨g0, g1⟩, hz⟩ := TC.out _ (HB3.out.trans hb)
  have HB4 := Lib.hid (HB3.out.trans hb)
  clear hb
  have x1 := (TB.out.trans HB4.out).cell X0.out
  have hbl : b0 < w4.heap.size := World.block_lt_of_cell? w4 _ x1
  have hz0 : w.heap.size < w4.heap.size := by omega
  go_wp2_with fail
  with_reducible refine (K5.out _ (TB.out.trans HB4.out)).mono ?_
  rintro e w5 ⟨rfl, rfl⟩
  have HBx := HB4
  have HWx := Lib.hid (TB.out.trans HB4.out)
  go_wp2
  refine wp_region_end (RKd [Kd.val (.agg #[.int .i64 P, .slice (some ⟨b0, off, none⟩) L c]), Kd.val (.int .i64 t), Kd.val (.slice q n cq), Kd.val (.int .i64 i), Kd.val (.slice q i cq), Kd.val (.int .i64 x), Kd.lst (nof) ([x]), Kd.lst (fT f (w.heap.size + 1)) (l2), Kd.val (.slice q n cq), Kd.val (.int .i64 i), Kd.val (.slice q2 (n - i) (cq - i)), Kd.lst (fT f (w.heap.size + 1)) (l3), Kd.rf (fT f (w.heap.size + 1)) P L (ls2)]) 13 (by kernel_rfl) (RKd_mono _) (by decide) (by show eachOk _ 54 = true; decide +kernel) (by decide +kernel) (by decide +kernel) (by decide +kernel) ?paid ?fin
  case paid =>
    refine ⟨?_, ?_⟩
    · intro a' w' hw hB H
      have h3 : a'.tmps[3]? = some (.pointer (some ⟨w.heap.size, 0, none⟩)) := (hB 3 rfl).trans rfl
      have kd0 := hw.cell d0
      have kd1 := hw.cell d1
      exact pay_same (v := .agg #[.int .i64 P, .slice (some ⟨b0, off, none⟩) L c]) rfl (by simp [execOp, go_sem, h3, kd0, kd1]) rfl
    refine ⟨?_, ?_⟩
    · intro a' w' hw hB H
      have h8 : a'.tmps[8]? = some (.int .i64 t) := (hB 8 rfl).trans rfl
      exact pay_same (v := .int .i64 t) rfl (by simp [execOp, go_sem, h8]) rfl
    refine ⟨?_, ?_⟩
    · intro a' w' hw hB H
      have h9 : a'.tmps[9]? = some (.slice q n cq) := (hB 9 rfl).trans rfl
      exact pay_same (v := .slice q n cq) rfl (by simp [execOp, go_sem, h9]) rfl
    refine ⟨?_, ?_⟩
    · intro a' w' hw hB H
      have h10 : a'.tmps[10]? = some (.int .i64 i) := (hB 10 rfl).trans rfl
      exact pay_same (v := .int .i64 i) rfl (by simp [execOp, go_sem, h10]) rfl
    refine ⟨?_, ?_⟩
    · intro a' w' hw hB H
      have h43 := gotV (d := 43) (c := .slice q n cq) (H 2 rfl) rfl rfl
      have h44 := gotV (d := 44) (c := .int .i64 i) (H 3 rfl) rfl rfl
      exact pay_same (v := .slice q i cq) rfl (by simp [execOp, go_sem, h43, h44, S1, Try.underlying36]) rfl
    refine ⟨?_, ?_⟩
    · intro a' w' hw hB H
      have h1 : a'.tmps[1]? = some (.int .i64 x) := (hB 1 rfl).trans rfl
      exact pay_same (v := .int .i64 x) rfl (by simp [execOp, go_sem, h1]) rfl
    refine ⟨?_, ?_⟩
    · intro a' w' hw hB H
      have h46 := gotV (d := 46) (c := .int .i64 x) (H 5 rfl) rfl rfl
      exact pay_new (v := .slice (some ⟨w'.heap.size, 0, none⟩) 1 1) (w2 := w'.alloc (.cells #[.int .i64 x] 3)) rfl (by simp [execOp, go_sem, h46]) ⟨_, _, rfl, Nat.le_refl _, newL w' x⟩ ((Bel.refl _).alloc _ _)
    refine ⟨?_, ?_⟩
    · intro a' w' hw hB H
      have h45 := gotV (d := 45) (c := .slice q i cq) (H 4 rfl) rfl rfl
      obtain ⟨q47, k47, h47, z47, l47⟩ := gotL (d := 47) (f := nof) (l := [x]) (H 6 rfl) rfl rfl
      refine pay_call (f := 46) (args := #[.slice q i cq, .slice q47 1 k47]) rfl (by simp [go_sem, h45, h47]) ?_
      exact K6.out _ _ _ (HWx.out.drew.trans hw) (Nat.lt_of_lt_of_le hz hw.size) l47.1
    refine ⟨?_, ?_⟩
    · intro a' w' hw hB H
      have h9 : a'.tmps[9]? = some (.slice q n cq) := (hB 9 rfl).trans rfl
      exact pay_same (v := .slice q n cq) rfl (by simp [execOp, go_sem, h9]) rfl
    refine ⟨?_, ?_⟩
    · intro a' w' hw hB H
      have h10 : a'.tmps[10]? = some (.int .i64 i) := (hB 10 rfl).trans rfl
      exact pay_same (v := .int .i64 i) rfl (by simp [execOp, go_sem, h10]) rfl
    refine ⟨?_, ?_⟩
    · intro a' w' hw hB H
      have h49 := gotV (d := 49) (c := .slice q n cq) (H 8 rfl) rfl rfl
      have h50 := gotV (d := 50) (c := .int .i64 i) (H 9 rfl) rfl rfl
      exact pay_same (v := .slice q2 (n - i) (cq - i)) rfl (by simp [execOp, go_sem, h49, h50, S2, Try.underlying36]) rfl
    refine ⟨?_, ?_⟩
    · intro a' w' hw hB H
      obtain ⟨q48, k48, h48, z48, l48⟩ := gotL (d := 48) (f := fT f (w.heap.size + 1)) (l := l2) (H 7 rfl) rfl rfl
      have h51 := gotV (d := 51) (c := .slice q2 (n - i) (cq - i)) (H 10 rfl) rfl rfl
      refine pay_call (f := 46) (args := #[.slice q48 l2.length k48, .slice q2 (n - i) (cq - i)]) rfl (by simp [go_sem, h48, h51]) ?_
      exact K7.out _ _ _ _ (HWx.out.drew.trans hw) (Nat.lt_of_lt_of_le hz hw.size) l48.1.any
    refine ⟨?_, ?_⟩
    · intro a' w' hw hB H
      have h41 := gotV (d := 41) (c := .agg #[.int .i64 P, .slice (some ⟨b0, off, none⟩) L c]) (H 0 rfl) rfl rfl
      have h42 := gotV (d := 42) (c := .int .i64 t) (H 1 rfl) rfl rfl
      obtain ⟨q52, k52, h52, z52, l52⟩ := gotL (d := 52) (f := fT f (w.heap.size + 1)) (l := l3) (H 11 rfl) rfl rfl
      refine pay_call (f := 45) (args := #[.agg #[.int .i64 P, .slice (some ⟨b0, off, none⟩) L c], .int .i64 t, .slice q52 l3.length k52]) rfl (by simp [go_sem, h41, h42, h52]) ?_
      exact K8.out _ _ _ (HWx.out.drew.trans hw) (Nat.lt_of_lt_of_le hz hw.size) z52 l52
    trivial
  case fin =>
    intro a' w' hw hd hsz hB hall
    obtain ⟨p6, c6, h53, hc6, hr6⟩ := gotR (d := 53) (f := fT f (w.heap.size + 1)) (P := P) (L := L) (ls := ls2) (hall 12 (by decide)) rfl rfl
    have h6 : a'.tmps[6]? = some (.pointer (some ⟨w.heap.size + 1, 0, none⟩)) := (hB 6 rfl).trans rfl
    obtain ⟨⟨d0, d1⟩, ⟨e0, e1⟩, ⟨g0, g1⟩, hz⟩ := TC.out _ (HBx.out.drew.trans hw)
    have hbw := HWx.out.drew.trans hw
    refine store_op (w' := (w'.setCell ⟨w.heap.size + 1, 0, none⟩ (.int .i64 P)).setCell ⟨w.heap.size + 1, 1, none⟩ (.slice p6 L c6)) rfl rfl rfl (by simp [execOp, go_sem, h6, h53, e0, e1, g0, g1]) ?_
    refine assign_op (d := 7) (v := .int .i64 0) rfl rfl rfl (by simp [execOp, go_sem]) ?_
    have h6' : (a'.tmps.setIfInBounds 7 (.int .i64 0))[6]? = some (.pointer (some ⟨w.heap.size + 1, 0, none⟩)) := by rw [Array.getElem?_setIfInBounds_ne (by decide)]; exact h6
    have h7' : (a'.tmps.setIfInBounds 7 (.int .i64 0))[7]? = some (.int .i64 0) := by simp [hsz]
    generalize a'.tmps.setIfInBounds 7 (.int .i64 0) = T7 at *
    refine row_end ?_
    go_wp2
    exact bodyPost_ret (v := .tuple #[.agg #[.int .i64 P, .slice p6 L c6], .int .i64 0]) (by simp [results, Try.results27, go_sem, h6', h7', e0, e1]) rfl ⟨p6, c6, rfl, hc6, hr6.unT, off_two hbw (by omega)⟩
end Go.Proofs.Ytdeiknfaehpheaa
