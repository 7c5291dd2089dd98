/-
  Contract of a queue's Cancel, and of out.
-/
import Derived.Test.YtmkpnojojkgmiaaActs
namespace Go.Proofs.Ytmkpnojojkgmiaa
open Go.RowKit
theorem Off.footG {G R : Nat} {a b : World} (h : Off (Only G) a b) : Off (Foot G R) a b := h.mono (fun _ _ e => .inl e)
theorem Off.footR {G R : Nat} {a b : World} (h : Off (Only R) a b) : Off (Foot G R) a b := h.mono (fun _ _ e => .inr e)
/-- What Cancel hands back. -/
def canV (t : T) (er : Int) : Value := .tuple #[.agg #[.int .u64 t.a, .int .u64 t.s, .int .i64 t.p], .int .i64 er]
set_option maxHeartbeats 1000000 in
theorem cancel_no (Q B G R P : Nat) (l : List T) (k er : Int) (w : World) (h : Qu w Q B G R P l) (hne : ¬ er = 0)
    (K0 : ∀ g r w', Que w' Q B G R P g r → Is P g r l → Calls Try.prog 35 #[.pointer (some ⟨B, 0, none⟩), .int .i64 k] w' fun e w2 => e = .returned (.int .i64 er) ∧ Bel w' w2) :
    Calls Try.prog 17 #[.pointer (some ⟨Q, 0, none⟩), .int .i64 k] w fun e w' => e = .returned (canV default er) ∧ Bel w w' := by
  obtain ⟨⟨g, r, h, hi⟩, hP⟩ := h
  have K1 := Lib.hid (fun w' (h : Que w' Q B G R P g r) => K0 g r w' h hi)
  have HA := Lib.hid h
  obtain ⟨c0, c1⟩ := h.head
  have lQ := h.ltQ
  have HB0 : Hid (Bel w (w.alloc (.cells #[.int .u64 0, .int .u64 0, .int .i64 0] 38))) := Lib.hid ((Bel.refl _).alloc _ _)
  have HN : Hid ((w.alloc (.cells #[.int .u64 0, .int .u64 0, .int .i64 0] 38)).heap[w.heap.size]? = some (.cells #[.int .u64 0, .int .u64 0, .int .i64 0] 38 (0, 0))) := Lib.hid (heap_alloc_new _ _)
  have hne2 : (er == 0) = false := by simpa using hne
  clear h hi K0 hne
  go_enter Try.func17, Try.ntmps17
  go_wp2_with fail
  with_reducible refine (K1.out _ (HA.out.bel HB0.out)).mono ?_
  rintro e w1 ⟨rfl, hb⟩
  obtain ⟨⟨b0, b1, b2⟩, f0, f1, f2⟩ := box3 (hb.heap HN.out)
  have HE := Lib.hid (bel3 (HB0.out.trans hb) (Nat.le_refl _) (.int .u64 0) (.int .u64 0) (.int .i64 0))
  clear hb
  go_wp2
  exact bodyPost_ret (v := canV default er) (by simp [results, Try.results17, go_sem, b0, b1, b2, canV, default]) rfl ⟨rfl, HE.out⟩
set_option maxHeartbeats 2000000 in
theorem cancel_ok (Q B G R P : Nat) (l : List T) (k : Nat) (t : T) (w : World) (h : Qu w Q B G R P l) (hf : fnd l k = some t) :
    Calls Try.prog 17 #[.pointer (some ⟨Q, 0, none⟩), .int .i64 k] w fun e w' => e = .returned (canV t 0) ∧ Qu w' Q B G R P (wo l k) ∧ Off (Foot G R) w w' := by
  obtain ⟨⟨g, r, h, hi⟩, hP⟩ := h
  obtain ⟨hk, hr, hm, hli⟩ := hi.inn hf
  obtain ⟨x, y, hl⟩ := hi.split hf
  have K1 := Lib.hid (fun w' (h : Que w' Q B G R P g r) => drop_ok B G P 1 g k (lst (P + 0) x) (fst (P + 0) y) w' h.ch hP (by omega) hk (by rw [hli]; omega) (hi.rep.lst_lt (t := 0) (by omega) (fun i hi => by rw [hl]; simp [hi])) (hi.rep.fst_lt (t := 0) (by omega) (fun i hi => by rw [hl]; simp [hi])) (hi.rep.ahead (t := 0) (by omega) hl) (hi.rep.behind (t := 0) (by omega) hl))
  have HI := Lib.hid (hi.drop hl ⟨0, 0, 0⟩)
  generalize dropG g k (lst (P + 0) x) (fst (P + 0) y) = g1 at *
  have HA := Lib.hid h
  obtain ⟨c0, c1⟩ := h.head
  have lQ := h.ltQ
  have lR := h.ltR
  have nQR := h.nQR
  have nQG := h.nQG
  have HB0 : Hid (Bel w (w.alloc (.cells #[.int .u64 0, .int .u64 0, .int .i64 0] 38))) := Lib.hid ((Bel.refl _).alloc _ _)
  have HN : Hid ((w.alloc (.cells #[.int .u64 0, .int .u64 0, .int .i64 0] 38)).heap[w.heap.size]? = some (.cells #[.int .u64 0, .int .u64 0, .int .i64 0] 38 (0, 0))) := Lib.hid (heap_alloc_new _ _)
  have hnG : ¬ w.heap.size = G := by have := h.ch.ltG; omega
  have HR := Lib.hid hr
  have hlB := h.ch.ltB
  have hlG := h.ch.ltG
  clear h hi hf hl hr hm hli
  go_enter Try.func17, Try.ntmps17
  go_wp2_with fail
  with_reducible refine (K1.out _ (HA.out.bel HB0.out)).mono ?_
  rintro e w1 ⟨rfl, hc, ho⟩
  have HQ1 := Lib.hid ((HA.out.bel HB0.out).chain ho hc)
  have HN1 : Hid (w1.heap[w.heap.size]? = some (.cells #[.int .u64 0, .int .u64 0, .int .i64 0] 38 (0, 0))) := Lib.hid ((ho.block _ (by simp) hnG).trans HN.out)
  have HO1 : Hid (Off (Foot G R) w w1) := Lib.hid ((HB0.out.off (Only G)).then ho).footG
  clear hc ho c0 c1
  obtain ⟨c0, c1⟩ := HQ1.out.head
  obtain ⟨⟨x0, x1, x2⟩, _⟩ := HQ1.out.at hk
  rw [HR.out] at x0 x1 x2
  have HB2 : Hid (Bel w1 (w1.alloc (.cells #[.int .u64 t.a, .int .u64 t.s, .int .i64 t.p] 38))) := Lib.hid ((Bel.refl _).alloc _ _)
  have HM : Hid ((w1.alloc (.cells #[.int .u64 t.a, .int .u64 t.s, .int .i64 t.p] 38)).heap[w1.heap.size]? = some (.cells #[.int .u64 t.a, .int .u64 t.s, .int .i64 t.p] 38 (0, 0))) := Lib.hid (heap_alloc_new _ _)
  have hNM : w.heap.size < w1.heap.size := (Array.getElem?_eq_some_iff.1 HN1.out).1
  go_upto_region 5 with (fail)
  generalize w1.alloc (.cells #[.int .u64 t.a, .int .u64 t.s, .int .i64 t.p] 38) = W2 at *
  have HQ2 := Lib.hid (HQ1.out.bel HB2.out)
  have HN2 := Lib.hid (HB2.out.heap HN1.out)
  clear c0 c1 x0 x1 x2
  obtain ⟨c0, c1⟩ := HQ2.out.head
  obtain ⟨⟨x0, x1, x2⟩, fz⟩ := HQ2.out.at hk
  have z0 := fz (k * 3)
  have z1 := fz (k * 3 + 1)
  have z2 := fz (k * 3 + 2)
  obtain ⟨⟨b0, b1, b2⟩, f0, f1, f2⟩ := box3 HN2.out
  obtain ⟨⟨m0, m1, m2⟩, _⟩ := box3 HM.out
  obtain ⟨hq3, ho3⟩ := HQ2.out.put hk ⟨0, 0, 0⟩
  have n1 : ¬ R = w.heap.size := by omega
  have n2 : ¬ R = w1.heap.size := by omega
  have n3 : ¬ w.heap.size = R := by omega
  have n4 : ¬ w1.heap.size = R := by omega
  have n5 : ¬ w1.heap.size = w.heap.size := by omega
  have n6 : ¬ w.heap.size = w1.heap.size := by omega
  have ho4 := off3 (set3 W2 R k ⟨0, 0, 0⟩) w.heap.size (.int .u64 t.a) (.int .u64 t.s) (.int .i64 t.p)
  have HE : Hid (Qu (((((((W2.setCell ⟨R, k * 3, none⟩ (.int .u64 0)).setCell ⟨R, k * 3 + 1, none⟩ (.int .u64 0)).setCell ⟨R, k * 3 + 2, none⟩ (.int .i64 0))).setCell ⟨w.heap.size, 0, none⟩ (.int .u64 t.a)).setCell ⟨w.heap.size, 1, none⟩ (.int .u64 t.s)).setCell ⟨w.heap.size, 2, none⟩ (.int .i64 t.p)) Q B G R P (wo l k) ∧
     Off (Foot G R) w (((((((W2.setCell ⟨R, k * 3, none⟩ (.int .u64 0)).setCell ⟨R, k * 3 + 1, none⟩ (.int .u64 0)).setCell ⟨R, k * 3 + 2, none⟩ (.int .i64 0))).setCell ⟨w.heap.size, 0, none⟩ (.int .u64 t.a)).setCell ⟨w.heap.size, 1, none⟩ (.int .u64 t.s)).setCell ⟨w.heap.size, 2, none⟩ (.int .i64 t.p))) := Lib.hid
    ⟨⟨⟨g1, _, hq3.off ho4 (by omega) (by omega) (by omega) (by omega), HI.out⟩, hP⟩, Off.trans ((HO1.out.thenB HB2.out).then ho3.footR) ho4 (fun i e => .inr (by omega))⟩
  clear hq3 ho3 ho4 fz HQ1 HQ2 HN1 HN2 HM HB2 HO1 HI
  generalize (r k).a = y0 at *
  generalize (r k).s = y1 at *
  generalize (r k).p = y2 at *
  go_wp2
  exact bodyPost_ret (v := canV t 0) (by simp [results, Try.results17, go_sem, b0, b1, b2, canV, n1, n2, n3, n4, n5, n6, m0, m1, m2]) rfl ⟨rfl, HE.out⟩
theorem cancel_any (Q B G R P : Nat) (l : List T) (k : Int) (w : World) (h : Qu w Q B G R P l) :
    Calls Try.prog 17 #[.pointer (some ⟨Q, 0, none⟩), .int .i64 k] w fun e w' => e = .returned (canV ((fnd l k).getD default) (canE P l k)) ∧ Qu w' Q B G R P (wo l k) ∧ Off (Foot G R) w w' := by
  unfold canE
  cases hk : hp P k with
  | false =>
    obtain ⟨⟨g0, r0, h0, hi0⟩, hP⟩ := h
    have hf := hi0.outside hk
    rw [hf, wo_none hf]
    have hq : Qu w Q B G R P l := ⟨⟨g0, r0, h0, hi0⟩, hP⟩
    exact (cancel_no Q B G R P l k 1 w hq (by omega) (fun g r w' h1 h2 => drop_arg B G P 1 g k w' h1.ch hk)).mono fun e w' ⟨he, hb⟩ => ⟨he, hq.bel hb, hb.off _⟩
  | true =>
    obtain ⟨k, rfl, hk2⟩ := hp_nat hk
    cases hf : fnd l k with
    | none =>
      rw [wo_none hf]
      exact (cancel_no Q B G R P l k 5 w h (by omega) (fun g r w' h1 h2 => drop_none B G P 1 g k w' h1.ch h.hP (by omega) hk2 (by rw [(h2.out hk2 hf).2]))).mono fun e w' ⟨he, hb⟩ => ⟨he, h.bel hb, hb.off _⟩
    | some t => exact cancel_ok Q B G R P l k t w h hf
set_option maxHeartbeats 1000000 in
theorem out_any (Q B G R P : Nat) (l : List T) (k : Nat) (t : T) (w : World) (h : Qu w Q B G R P l) (hf : fnd l k = some t) :
    Calls Try.prog 32 #[.pointer (some ⟨Q, 0, none⟩), .int .i64 k] w fun e w' => e = .returned (.agg #[.int .u64 t.a, .int .u64 t.s, .int .i64 t.p]) ∧ Qu w' Q B G R P (wo l k) ∧ Off (Foot G R) w w' := by
  have HB0 : Hid (Bel w (w.alloc (.cells #[.int .u64 0, .int .u64 0, .int .i64 0] 38))) := Lib.hid ((Bel.refl _).alloc _ _)
  have HN : Hid ((w.alloc (.cells #[.int .u64 0, .int .u64 0, .int .i64 0] 38)).heap[w.heap.size]? = some (.cells #[.int .u64 0, .int .u64 0, .int .i64 0] 38 (0, 0))) := Lib.hid (heap_alloc_new _ _)
  have K1 := Lib.hid (fun w' (h : Qu w' Q B G R P l) => cancel_ok Q B G R P l k t w' h hf)
  have hlt : (Q < w.heap.size ∧ B < w.heap.size) ∧ G < w.heap.size ∧ R < w.heap.size := by
    obtain ⟨⟨g, r, h1, _⟩, _⟩ := h
    exact ⟨⟨h1.ltQ, h1.ch.ltB⟩, h1.ch.ltG, h1.ltR⟩
  obtain ⟨⟨lQ, lB⟩, lG, lR⟩ := hlt
  have H := Lib.hid h
  have hnf : ¬ Foot G R w.heap.size := fun e => by rcases e with e | e <;> omega
  have HNF := Lib.hid hnf
  clear h hf hnf
  unfold canV at K1
  go_enter Try.func32, Try.ntmps32
  go_wp2_with fail
  with_reducible refine (K1.out _ (H.out.bel HB0.out)).mono ?_
  rintro e w1 ⟨rfl, hq, ho⟩
  have HQ := Lib.hid hq
  have HO : Hid (Off (Foot G R) w w1) := Lib.hid ((HB0.out.off (Foot G R)).then ho)
  have HN1 : Hid (w1.heap[w.heap.size]? = some (.cells #[.int .u64 0, .int .u64 0, .int .i64 0] 38 (0, 0))) := Lib.hid ((ho.block _ (by simp) HNF.out).trans HN.out)
  clear hq ho
  have HB2 : Hid (Bel w1 (w1.alloc (.cells #[.int .u64 t.a, .int .u64 t.s, .int .i64 t.p] 38))) := Lib.hid ((Bel.refl _).alloc _ _)
  have HM : Hid ((w1.alloc (.cells #[.int .u64 t.a, .int .u64 t.s, .int .i64 t.p] 38)).heap[w1.heap.size]? = some (.cells #[.int .u64 t.a, .int .u64 t.s, .int .i64 t.p] 38 (0, 0))) := Lib.hid (heap_alloc_new _ _)
  have hNM : w.heap.size < w1.heap.size := (Array.getElem?_eq_some_iff.1 HN1.out).1
  go_upto_region 2 with (fail)
  generalize w1.alloc (.cells #[.int .u64 t.a, .int .u64 t.s, .int .i64 t.p] 38) = W2 at *
  obtain ⟨⟨b0, b1, b2⟩, f0, f1, f2⟩ := box3 (HB2.out.heap HN1.out)
  obtain ⟨⟨m0, m1, m2⟩, _⟩ := box3 HM.out
  have ho4 := off3 W2 w.heap.size (.int .u64 t.a) (.int .u64 t.s) (.int .i64 t.p)
  have HE : Hid (Qu (((W2.setCell ⟨w.heap.size, 0, none⟩ (.int .u64 t.a)).setCell ⟨w.heap.size, 1, none⟩ (.int .u64 t.s)).setCell ⟨w.heap.size, 2, none⟩ (.int .i64 t.p)) Q B G R P (wo l k) ∧ Off (Foot G R) w (((W2.setCell ⟨w.heap.size, 0, none⟩ (.int .u64 t.a)).setCell ⟨w.heap.size, 1, none⟩ (.int .u64 t.s)).setCell ⟨w.heap.size, 2, none⟩ (.int .i64 t.p))) := Lib.hid
    ⟨(HQ.out.bel HB2.out).off ho4 (by omega) (by omega) (by omega) (by omega), Off.trans (HO.out.thenB HB2.out) ho4 (fun i e => .inr (by omega))⟩
  clear ho4 HQ HO HN1 HM HB2
  go_wp2
  exact bodyPost_ret (v := .agg #[.int .u64 t.a, .int .u64 t.s, .int .i64 t.p]) (by simp [results, Try.results32, go_sem, b0, b1, b2]) rfl ⟨rfl, HE.out⟩
end Go.Proofs.Ytmkpnojojkgmiaa
