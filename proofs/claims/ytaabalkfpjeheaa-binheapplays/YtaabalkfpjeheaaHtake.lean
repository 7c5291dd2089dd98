/-
  Contract of the heap's take.
-/
import Derived.Test.YtaabalkfpjeheaaHact
namespace Go.Proofs.Ytaabalkfpjeheaa
open Go.RowKit
/-- Behind a take. -/
structure Tk (f : Nat → Prop) (w w' : World) (Q C S P : Nat) (p : Option Addr) (cap : Nat) (l : List T) (x : T) : Prop where
  ex : ∃ l' wh', Hm f w' Q C S P p cap l' wh' ∧ Wh P l' wh' ∧ Hp l' ∧ l.Perm (x :: l')
  off : Off f w w'
theorem perm_last (m : List T) (x : T) : (m ++ [x]).Perm (x :: m) := List.perm_append_singleton x m
set_option maxHeartbeats 1000000 in
theorem take_any (f : Nat → Prop) (Q C S P : Nat) (p : Option Addr) (cap : Nat) (l : List T) (wh : Nat → Int) (i : Nat) (w : World) (h : Hm f w Q C S P p cap l wh) (hw : Wh P l wh) (hh : Hp l) (hP : P ≤ 1024) (hi : i < l.length) (hf : ∀ j, f j → j < w.heap.size) :
    Calls Try.prog 37 #[.pointer (some ⟨Q, 0, none⟩), .int .i64 i] w fun e w' => e = .returned (.agg #[.int .u64 (gt l i).a, .int .u64 (gt l i).s, .int .i64 (gt l i).p]) ∧ Tk f w w' Q C S P p cap l (gt l i) := by
  obtain ⟨g, cur, rfl, _⟩ := h.row (by omega)
  have hn : l.length ≤ 1024 := Nat.le_trans hw.len hP
  obtain ⟨n, en⟩ : ∃ n : Nat, l.length = n + 1 := ⟨l.length - 1, by omega⟩
  obtain ⟨x, hx⟩ : ∃ x, gt l i = x := ⟨_, rfl⟩
  rw [hx]
  obtain ⟨k, k1, k2, _⟩ := hw.at_ i hi
  rw [hx] at k1
  have HX : Hid (x.p = k) := Lib.hid k1
  clear k1
  -- the list behind the swap
  obtain ⟨m, hm, ml⟩ := cut_last (swp l i n) (by rw [swp_len]; omega)
  rw [swp_len, en, Nat.add_sub_cancel, swp_gt l i n n hi (by omega), if_pos rfl, hx] at hm
  rw [swp_len, en, Nat.add_sub_cancel] at ml
  have HM := Lib.hid hm
  have HML := Lib.hid ml
  have HA : Hid (Al m i) := Lib.hid (hh.take hi (by rw [en, Nat.add_sub_cancel]; exact hm))
  have HP : Hid (l.Perm (x :: m)) := Lib.hid (((swp_perm l i n hi (by omega)).symm.trans (by rw [hm])).trans (perm_last m x))
  have HB : Hid (Bel w (w.alloc (.cells #[.int .u64 0, .int .u64 0, .int .i64 0] 25))) := Lib.hid ((Bel.refl _).alloc _ _)
  have HN : Hid ((w.alloc (.cells #[.int .u64 0, .int .u64 0, .int .i64 0] 25)).heap[w.heap.size]? = some (.cells #[.int .u64 0, .int .u64 0, .int .i64 0] 25 (0, 0))) := Lib.hid (heap_alloc_new _ _)
  have H1 : Hid (St f (w.alloc (.cells #[.int .u64 0, .int .u64 0, .int .i64 0] 25)) (w.alloc (.cells #[.int .u64 0, .int .u64 0, .int .i64 0] 25)) Q C S P (some ⟨g, 0, none⟩) cap l l wh) := Lib.hid ⟨h.bel HB.out, Off.refl _ _, hw, List.Perm.refl l⟩
  have hlt := h.ltQ
  have HF := Lib.hid hf
  have K1 := Lib.hid (fun W0 W (h : St f W0 W Q C S P (some ⟨g, 0, none⟩) cap l l wh) => h.swap (i := i) (j := n) hi (by omega))
  have b2 : (n : Int) ≤ (cap : Int) := by
    obtain ⟨_, _, _, _, hc, _⟩ := h.row (by omega)
    omega
  have hn1 : (n : Int) ≤ 1024 := by omega
  clear h hw hh hm ml hx hf hn
  have c0 := H1.out.hm.head.1
  rw [en] at c0 hi
  have EN := Lib.hid en
  have HI : Hid (i < n + 1) := Lib.hid hi
  clear en
  go_enter Try.func37, Try.ntmps37
  go_upto_region 2 with (fail)
  generalize w.alloc (.cells #[.int .u64 0, .int .u64 0, .int .i64 0] 25) = W at *
  go_wp2_with fail
  with_reducible refine (K1.out _ _ H1.out).mono ?_
  rintro e w1 ⟨rfl, wh1, hs1⟩
  have HW1 : Hid (Wh P (m ++ [x]) wh1) := Lib.hid (by rw [← HM.out]; exact hs1.wh)
  have hm1 : Hm f w1 Q C S P (some ⟨g, 0, none⟩) cap (m ++ [x]) wh1 := by rw [← HM.out]; exact hs1.hm
  have hxl : gt (m ++ [x]) n = x := by rw [← HML.out]; exact gt_last m x
  have lW : w.heap.size < W.heap.size := (Array.getElem?_eq_some_iff.1 HN.out).1
  have n1 : w1.heap[w.heap.size]? = some (.cells #[.int .u64 0, .int .u64 0, .int .i64 0] 25 (0, 0)) := (hs1.off.block _ lW (fun e => Nat.lt_irrefl _ (HF.out _ e))).trans HN.out
  have HO1 : Hid (Off f w w1) := Lib.hid ((HB.out.off f).then hs1.off)
  have lw1 : W.heap.size ≤ w1.heap.size := hs1.off.size
  have ml : (m ++ [x]).length = n + 1 := by rw [List.length_append, HML.out]; rfl
  have d0 := hm1.head.1
  rw [ml] at d0
  obtain ⟨⟨x0, x1, x2⟩, _⟩ := hm1.at (i := n) (by rw [ml]; omega) hxl
  have lg := World.block_lt_of_cell? w1 _ x0
  have lQ := World.block_lt_of_cell? w1 _ d0
  have b3 : (n : Int) < (n : Int) + 1 := by omega
  have HM1 := Lib.hid hm1
  clear hs1 c0 hm1 ml
  have HB2 : Hid (Bel w1 (w1.alloc (.cells #[.int .u64 x.a, .int .u64 x.s, .int .i64 x.p] 25))) := Lib.hid ((Bel.refl _).alloc _ _)
  have HN2 : Hid ((w1.alloc (.cells #[.int .u64 x.a, .int .u64 x.s, .int .i64 x.p] 25)).heap[w1.heap.size]? = some (.cells #[.int .u64 x.a, .int .u64 x.s, .int .i64 x.p] 25 (0, 0))) := Lib.hid (heap_alloc_new _ _)
  go_upto_region 4 with (fail)
  generalize w1.alloc (.cells #[.int .u64 x.a, .int .u64 x.s, .int .i64 x.p] 25) = W2 at *
  have d2 := HB2.out.cell d0
  have z2 := (HM1.out.bel HB2.out).froz.1
  have HE := Lib.hid ((HM1.out.bel HB2.out).cut n HML.out)
  have lW2 : w1.heap.size < W2.heap.size := (Array.getElem?_eq_some_iff.1 HN2.out).1
  have HN1 := Lib.hid (HB2.out.heap n1)
  obtain ⟨b0, eb0⟩ : ∃ b, w.heap.size = b := ⟨_, rfl⟩
  obtain ⟨b1', eb1⟩ : ∃ b, w1.heap.size = b := ⟨_, rfl⟩
  have hF0 : Hid (¬ f b0 ∧ ¬ f b1') := Lib.hid ⟨fun e => by have := HF.out _ e; omega, fun e => by have := HF.out _ e; omega⟩
  rw [eb0] at HN1 lW ⊢
  rw [eb1] at HN2 lW2 ⊢
  have ne01 : ¬ b0 = b1' := by omega
  have ne10 : ¬ b1' = b0 := by omega
  clear d0 x0 x1 x2 n1 hxl
  go_upto_region 5 with (fail)
  generalize W2.setCell ⟨Q, 0, none⟩ (.slice (some ⟨g, 0, none⟩) n cap) = W3 at *
  have o23 := HE.out.2
  have m0 : W3.heap[b0]? = some (.cells #[.int .u64 0, .int .u64 0, .int .i64 0] 25 (0, 0)) := (o23.block _ (by omega) hF0.out.1).trans HN1.out
  have m1 : W3.heap[b1']? = some (.cells #[.int .u64 x.a, .int .u64 x.s, .int .i64 x.p] 25 (0, 0)) := (o23.block _ lW2 hF0.out.2).trans HN2.out
  have HO3 : Hid (Off f w W3) := Lib.hid ((HO1.out.thenB HB2.out).then o23)
  have l0 : b0 < W3.heap.size := (Array.getElem?_eq_some_iff.1 m0).1
  have l1 : b1' < W3.heap.size := (Array.getElem?_eq_some_iff.1 m1).1
  have HM0 := Lib.hid m0
  have HM1' := Lib.hid m1
  have q1 := HE.out.1.head.2.1
  have y2 := (box3 m1).1.2.2
  rw [HX.out] at y2
  have HS : Hid (∀ wh' W', Hm f W' Q C S P (some ⟨g, 0, none⟩) cap m wh' → Off f W3 W' → W'.cell? ⟨Q, 1, none⟩ = some (.func (.func 35) #[] #[.pointer (some ⟨C, 0, none⟩)]) ∧ W'.cell? ⟨b1', 2, none⟩ = some (.int .i64 k)) := Lib.hid (fun wh' W' h o => ⟨h.head.2.1, o.cell hF0.out.2 y2⟩)
  have KS := Lib.hid (fun W' h => stands_any f Q C S P (some ⟨g, 0, none⟩) cap m wh1 k (-1) W' h k2)
  have HMd := Lib.hid (HE.out.1.bel (Bel.refl _).drew)
  clear m0 m1 o23 d2 z2
  go_wp2
  go_region_held3 (fun w' => w'.cell? ⟨Q, 1, none⟩ = some (.func (.func 35) #[] #[.pointer (some ⟨C, 0, none⟩)]) ∧ w'.cell? ⟨b1', 2, none⟩ = some (.int .i64 k)) (first | exact ⟨q1, y2⟩ | exact HS.out _ _ hm4 ((Off.refl f W3).drew.then ho4))
    (first | (go_at_call 35; (with_reducible refine (KS.out _ HMd.out).mono ?_); rintro e w4 ⟨rfl, hm4, ho4⟩))
  have HO4 : Hid (Off f W3 w4) := Lib.hid ((Off.refl f W3).drew.then ho4)
  have HM4 := Lib.hid hm4
  have HW4 : Hid (Wh P m (upW wh1 k (-1))) := Lib.hid (HW1.out.cut HX.out)
  clear q1 y2 hm4 ho4
  by_cases hin : i < n
  · have b5 : (i : Int) < (n : Int) := by omega
    have K5 := Lib.hid (settle_any f Q C S P (some ⟨g, 0, none⟩) cap m (upW wh1 k (-1)) i w4 HM4.out HW4.out hP (by rw [HML.out]; exact hin) HA.out)
    go_wp2_with fail
    with_reducible refine (K5.out).mono ?_
    rintro e w5 ⟨rfl, l5, wh5, hh5, hs5⟩
    have o5 := HO4.out.then hs5.off
    have HE5 : Hid (∀ W', Off (fun j => j = b0) w5 W' → Tk f w W' Q C S P (some ⟨g, 0, none⟩) cap l x) := Lib.hid (fun W' o => by
      refine ⟨⟨l5, wh5, hs5.hm.off o (fun i hi e => hF0.out.1 (by rw [← show i = b0 from e]; exact hi)), hs5.wh, hh5, HP.out.trans (hs5.perm.symm.cons x)⟩, Off.trans (HO3.out.then o5) o (fun i e => .inr (by have : i = b0 := e; omega))⟩)
    obtain ⟨⟨v0, v1, v2⟩, f0, f1, f2⟩ := box3 ((o5.block _ l0 hF0.out.1).trans HM0.out)
    obtain ⟨⟨u0, u1, u2⟩, _⟩ := box3 ((o5.block _ l1 hF0.out.2).trans HM1'.out)
    clear hs5 hh5 o5
    go_wp2
    exact bodyPost_ret (v := .agg #[.int .u64 x.a, .int .u64 x.s, .int .i64 x.p]) (by simp [results, Try.results37, go_sem, v0, v1, v2]) rfl ⟨rfl, HE5.out _ (off3 _ _ _ _ _)⟩
  · have b5 : ¬ (i : Int) < (n : Int) := by omega
    have HH : Hid (Hp m) := Lib.hid (by
      intro k k0 k9
      have hk := par_lt k0
      exact HA.out.a k k0 k9 (by have := HML.out; omega) (by have := HML.out; omega))
    have HE5 : Hid (∀ W', Off (fun j => j = b0) w4 W' → Tk f w W' Q C S P (some ⟨g, 0, none⟩) cap l x) := Lib.hid (fun W' o => by
      refine ⟨⟨m, _, HM4.out.off o (fun i hi e => hF0.out.1 (by rw [← show i = b0 from e]; exact hi)), HW4.out, HH.out, HP.out⟩, Off.trans (HO3.out.then HO4.out) o (fun i e => .inr (by have : i = b0 := e; omega))⟩)
    obtain ⟨⟨v0, v1, v2⟩, f0, f1, f2⟩ := box3 ((HO4.out.block _ l0 hF0.out.1).trans HM0.out)
    obtain ⟨⟨u0, u1, u2⟩, _⟩ := box3 ((HO4.out.block _ l1 hF0.out.2).trans HM1'.out)
    go_wp2
    exact bodyPost_ret (v := .agg #[.int .u64 x.a, .int .u64 x.s, .int .i64 x.p]) (by simp [results, Try.results37, go_sem, v0, v1, v2, HX.out]) rfl ⟨rfl, HE5.out _ (off3 _ _ _ _ _)⟩
end Go.Proofs.Ytaabalkfpjeheaa
