/-
  Contract of the document's Drop, where it drops.
-/
import Derived.Test.YtdeiknfaehpheaaRno
namespace Go.Proofs.Ytdeiknfaehpheaa
open Go.RowKit
set_option maxHeartbeats 2000000 in
theorem rdrop_ok (f : Nat → Prop) (P : Nat) (p : Option Addr) (L c : Nat) (ls : Ls) (x t : Nat) (a b : List Nat) (w : World) (hR : RefIn f w p L ls) (hP : P ≤ 1024) (hL : L ≤ 1024) (hg : Good P L ls) (ht : t < L) (hf : ∀ j, f j → j < w.heap.size) (hl : ls t = a ++ x :: b) :
    Calls Try.prog 28 #[rv P p L c, .int .i64 x] w fun e w' => ∃ p' c', e = .returned (.tuple #[rv P p' L c', .int .i64 0]) ∧ L ≤ c' ∧ RefIn f w' p' L (upd ls t (a ++ b)) ∧ Bel w w' := by
  have hy : x ∈ ls t := by rw [hl]; simp
  have K1 := Lib.hid (ris_any P p L c x)
  rw [hp_yes (hg.pl t ht x hy)] at K1
  have K4 := Lib.hid (fun w' (h : Bel w w') => rwhich_in P p L c ls x t w' (hR.any.bel h) hP hL hg ht hy)
  have hya : x ∉ a := fun e => by
    have := hg.nd t ht
    rw [hl] at this
    exact (List.nodup_append.1 this).2.2 x e x (by simp) rfl
  have TC := Lib.hid (two_cells w P p L c)
  have TB := Lib.hid (two_bel w P p L c)
  have hlen := hg.len ht
  have hal : a.length < (ls t).length := by rw [hl]; simp
  obtain ⟨b0, off, q, cq, rfl, _, x0, hcq, hq⟩ := hR.at ht
  have ea : (ls t).take a.length = a := by rw [hl]; simp
  have eb : (ls t).drop (a.length + 1) = b := by rw [hl]; simp
  have la := hq.take a.length
  rw [ea] at la
  have lb := hq.cut hcq (a.length + 1)
  rw [eb] at lb
  have hbl : b.length = (ls t).length - (a.length + 1) := by rw [hl]; simp; omega
  have K5 := Lib.hid (fun w' (h : Bel w w') => rindex_in q (ls t).length cq (ls t) a b x w' rfl (by omega) (hq.any.bel h) hl hya)
  have K7 := Lib.hid (fun w' k k2 (h : Bel w w') (hT : w.heap.size + 1 < w'.heap.size) => cat_k (fT f (w.heap.size + 1)) q (cutP q cq (a.length + 1)) a.length ((ls t).length - (a.length + 1)) k k2 a b w' rfl hbl (by omega) (by omega) (la.any.bel h) (lb.any.bel h) (fT_lt hf h.size hT))
  have K8 := Lib.hid (fun w' q' k' (h : Bel w w') (hT : w.heap.size + 1 < w'.heap.size) (hk : (a ++ b).length ≤ k') (hl : LiesT (fT f (w.heap.size + 1)) w' q' 3 (encI (a ++ b))) => with_k (fT f (w.heap.size + 1)) P (some ⟨b0, off, none⟩) L c ls t q' (a ++ b).length k' (a ++ b) w' ((hR.fT (by omega)).bel h) hL ht rfl hk hl (fT_lt hf h.size hT))
  have X0 := Lib.hid x0
  unfold rv two at *
  clear hR hg hq hf x0 hl la lb ea eb hya hy hbl
  generalize upd ls t (a ++ b) = ls2 at *
  generalize a ++ b = l3 at *
  generalize a.length = i at *
  generalize (ls t).length = n at *
  have htl : (t : Int) < L := by omega
  have hic : i ≤ cq := by omega
  have hin : i + 1 ≤ n := by omega
  have S1 := slice_to q n cq i hic
  have S2 := slice_from q n cq (i + 1) hin hcq
  have wr1 : IntKind.i64.wrap ((i : Int) + 1) = ((i + 1 : Nat) : Int) := by rw [i64_in _ (by omega) (by omega)]; omega
  generalize hcp : cutP q cq (i + 1) = q2 at *
  generalize hi1 : i + 1 = j1 at *
  clear hcp hi1
  go_enter Try.func28, Try.ntmps28
  go_wp2_with fail
  with_reducible refine (K1.out _).mono ?_
  rintro e w1 ⟨rfl, hb⟩
  obtain ⟨⟨d0, d1⟩, _⟩ := TC.out _ (hb)
  have HB1 := Lib.hid (hb)
  clear hb
  go_wp2_with fail
  with_reducible refine (K4.out _ (TB.out.trans HB1.out)).mono ?_
  rintro e w2 ⟨rfl, hb⟩
  clear d0 d1
  obtain ⟨⟨d0, d1⟩, ⟨e0, e1⟩, ⟨g0, g1⟩, hz⟩ := TC.out _ (HB1.out.trans hb)
  have HB2 := Lib.hid (HB1.out.trans hb)
  clear hb
  have x1 := (TB.out.trans HB2.out).cell X0.out
  have hbl : b0 < w2.heap.size := World.block_lt_of_cell? w2 _ x1
  have hz0 : w.heap.size < w2.heap.size := by omega
  go_wp2_with fail
  with_reducible refine (K5.out _ (TB.out.trans HB2.out)).mono ?_
  rintro e w5 ⟨rfl, rfl⟩
  have HBx := HB2
  have HWx := Lib.hid (TB.out.trans HB2.out)
  go_wp2
  refine wp_region_end (RKd [Kd.val (.agg #[.int .i64 P, .slice (some ⟨b0, off, none⟩) L c]), Kd.val (.int .i64 t), Kd.val (.slice q n cq), Kd.val (.int .i64 i), Kd.val (.slice q i cq), Kd.val (.slice q n cq), Kd.val (.int .i64 i), Kd.val (.int .i64 j1), Kd.val (.slice q2 (n - j1) (cq - j1)), Kd.lst (fT f (w.heap.size + 1)) (l3), Kd.rf (fT f (w.heap.size + 1)) P L (ls2)]) 11 (by kernel_rfl) (RKd_mono _) (by decide) (by show eachOk _ 39 = true; decide +kernel) (by decide +kernel) (by decide +kernel) (by decide +kernel) ?paid ?fin
  case paid =>
    refine ⟨?_, ?_⟩
    · intro a' w' hw hB H
      have h2 : a'.tmps[2]? = some (.pointer (some ⟨w.heap.size, 0, none⟩)) := (hB 2 rfl).trans rfl
      have kd0 := hw.cell d0
      have kd1 := hw.cell d1
      exact pay_same (v := .agg #[.int .i64 P, .slice (some ⟨b0, off, none⟩) L c]) rfl (by simp [execOp, go_sem, h2, kd0, kd1]) rfl
    refine ⟨?_, ?_⟩
    · intro a' w' hw hB H
      have h6 : a'.tmps[6]? = some (.int .i64 t) := (hB 6 rfl).trans rfl
      exact pay_same (v := .int .i64 t) rfl (by simp [execOp, go_sem, h6]) rfl
    refine ⟨?_, ?_⟩
    · intro a' w' hw hB H
      have h7 : a'.tmps[7]? = some (.slice q n cq) := (hB 7 rfl).trans rfl
      exact pay_same (v := .slice q n cq) rfl (by simp [execOp, go_sem, h7]) rfl
    refine ⟨?_, ?_⟩
    · intro a' w' hw hB H
      have h8 : a'.tmps[8]? = some (.int .i64 i) := (hB 8 rfl).trans rfl
      exact pay_same (v := .int .i64 i) rfl (by simp [execOp, go_sem, h8]) rfl
    refine ⟨?_, ?_⟩
    · intro a' w' hw hB H
      have h30 := gotV (d := 30) (c := .slice q n cq) (H 2 rfl) rfl rfl
      have h31 := gotV (d := 31) (c := .int .i64 i) (H 3 rfl) rfl rfl
      exact pay_same (v := .slice q i cq) rfl (by simp [execOp, go_sem, h30, h31, S1, Try.underlying36]) rfl
    refine ⟨?_, ?_⟩
    · intro a' w' hw hB H
      have h7 : a'.tmps[7]? = some (.slice q n cq) := (hB 7 rfl).trans rfl
      exact pay_same (v := .slice q n cq) rfl (by simp [execOp, go_sem, h7]) rfl
    refine ⟨?_, ?_⟩
    · intro a' w' hw hB H
      have h8 : a'.tmps[8]? = some (.int .i64 i) := (hB 8 rfl).trans rfl
      exact pay_same (v := .int .i64 i) rfl (by simp [execOp, go_sem, h8]) rfl
    refine ⟨?_, ?_⟩
    · intro a' w' hw hB H
      have h34 := gotV (d := 34) (c := .int .i64 i) (H 6 rfl) rfl rfl
      exact pay_same (v := .int .i64 j1) rfl (by simp [execOp, go_sem, h34, wr1]) rfl
    refine ⟨?_, ?_⟩
    · intro a' w' hw hB H
      have h33 := gotV (d := 33) (c := .slice q n cq) (H 5 rfl) rfl rfl
      have h35 := gotV (d := 35) (c := .int .i64 j1) (H 7 rfl) rfl rfl
      exact pay_same (v := .slice q2 (n - j1) (cq - j1)) rfl (by simp [execOp, go_sem, h33, h35, S2, Try.underlying36]) rfl
    refine ⟨?_, ?_⟩
    · intro a' w' hw hB H
      have h32 := gotV (d := 32) (c := .slice q i cq) (H 4 rfl) rfl rfl
      have h36 := gotV (d := 36) (c := .slice q2 (n - j1) (cq - j1)) (H 8 rfl) rfl rfl
      refine pay_call (f := 46) (args := #[.slice q i cq, .slice q2 (n - j1) (cq - j1)]) rfl (by simp [go_sem, h32, h36]) ?_
      exact K7.out _ _ _ (HWx.out.drew.trans hw) (Nat.lt_of_lt_of_le hz hw.size)
    refine ⟨?_, ?_⟩
    · intro a' w' hw hB H
      have h28 := gotV (d := 28) (c := .agg #[.int .i64 P, .slice (some ⟨b0, off, none⟩) L c]) (H 0 rfl) rfl rfl
      have h29 := gotV (d := 29) (c := .int .i64 t) (H 1 rfl) rfl rfl
      obtain ⟨q37, k37, h37, z37, l37⟩ := gotL (d := 37) (f := fT f (w.heap.size + 1)) (l := l3) (H 9 rfl) rfl rfl
      refine pay_call (f := 45) (args := #[.agg #[.int .i64 P, .slice (some ⟨b0, off, none⟩) L c], .int .i64 t, .slice q37 l3.length k37]) rfl (by simp [go_sem, h28, h29, h37]) ?_
      exact K8.out _ _ _ (HWx.out.drew.trans hw) (Nat.lt_of_lt_of_le hz hw.size) z37 l37
    trivial
  case fin =>
    intro a' w' hw hd hsz hB hall
    obtain ⟨p6, c6, h38, hc6, hr6⟩ := gotR (d := 38) (f := fT f (w.heap.size + 1)) (P := P) (L := L) (ls := ls2) (hall 10 (by decide)) rfl rfl
    have h6 : a'.tmps[4]? = some (.pointer (some ⟨w.heap.size + 1, 0, none⟩)) := (hB 4 rfl).trans rfl
    obtain ⟨⟨d0, d1⟩, ⟨e0, e1⟩, ⟨g0, g1⟩, hz⟩ := TC.out _ (HBx.out.drew.trans hw)
    have hbw := HWx.out.drew.trans hw
    refine store_op (w' := (w'.setCell ⟨w.heap.size + 1, 0, none⟩ (.int .i64 P)).setCell ⟨w.heap.size + 1, 1, none⟩ (.slice p6 L c6)) rfl rfl rfl (by simp [execOp, go_sem, h6, h38, e0, e1, g0, g1]) ?_
    refine assign_op (d := 5) (v := .int .i64 0) rfl rfl rfl (by simp [execOp, go_sem]) ?_
    have h6' : (a'.tmps.setIfInBounds 5 (.int .i64 0))[4]? = some (.pointer (some ⟨w.heap.size + 1, 0, none⟩)) := by rw [Array.getElem?_setIfInBounds_ne (by decide)]; exact h6
    have h7' : (a'.tmps.setIfInBounds 5 (.int .i64 0))[5]? = some (.int .i64 0) := by simp [hsz]
    generalize a'.tmps.setIfInBounds 5 (.int .i64 0) = T7 at *
    refine row_end ?_
    go_wp2
    exact bodyPost_ret (v := .tuple #[.agg #[.int .i64 P, .slice p6 L c6], .int .i64 0]) (by simp [results, Try.results28, go_sem, h6', h7', e0, e1]) rfl ⟨p6, c6, rfl, hc6, hr6.unT, off_two hbw (by omega)⟩
end Go.Proofs.Ytdeiknfaehpheaa
