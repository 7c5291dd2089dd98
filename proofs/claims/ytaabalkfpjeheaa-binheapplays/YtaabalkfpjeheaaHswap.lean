/-
  Contract of the heap's swap.
-/
import Derived.Test.YtaabalkfpjeheaaHmem
import Derived.BigRegion
namespace Go.Proofs.Ytaabalkfpjeheaa
open Go.RowKit
set_option maxHeartbeats 1000000 in
theorem swap_any (f : Nat → Prop) (Q C S P : Nat) (p : Option Addr) (cap : Nat) (l : List T) (wh : Nat → Int) (i j a b : Nat) (w : World) (h : Hm f w Q C S P p cap l wh) (hi : i < l.length) (hj : j < l.length) (ea : (gt l i).p = a) (eb : (gt l j).p = b) (ha : a < P) (hb : b < P) :
    Calls Try.prog 49 #[.pointer (some ⟨Q, 0, none⟩), .int .i64 i, .int .i64 j] w fun e w' => e = .returned (.tuple #[]) ∧ Hm f w' Q C S P p cap (swp l i j) (upW (upW wh b i) a j) ∧ Off f w w' := by
  obtain ⟨g, cur, rfl, _⟩ := h.row (by omega)
  obtain ⟨c0, _⟩ := h.head
  obtain ⟨x, hx⟩ : ∃ x, gt l i = x := ⟨_, rfl⟩
  obtain ⟨y, hy⟩ : ∃ y, gt l j = y := ⟨_, rfl⟩
  obtain ⟨⟨x0, x1, x2⟩, z⟩ := h.at hi hx
  obtain ⟨⟨y0, y1, y2⟩, _⟩ := h.at hj hy
  have b1 : (i : Int) < (l.length : Int) := by omega
  have b2 : (j : Int) < (l.length : Int) := by omega
  have z0 := z (i * 3)
  have z1 := z (i * 3 + 1)
  have z2 := z (i * 3 + 2)
  have z3 := z (j * 3)
  have z4 := z (j * 3 + 1)
  have z5 := z (j * 3 + 2)
  have p1 := h.put hi y
  have p2 := p1.1.put (i := j) (by rw [List.length_set]; exact hj) x
  have HE : Hid (Hm f (set3 (set3 w g i y) g j x).drew Q C S P (some ⟨g, 0, none⟩) cap (swp l i j) wh ∧ Off f w (set3 (set3 w g i y) g j x).drew) := Lib.hid (by
    refine ⟨Hm.bel ?_ (Bel.refl _).drew, (p1.2.then p2.2).drew⟩
    unfold swp
    rw [hx, hy]
    exact p2.1)
  have HL : Hid ((swp l i j).length = l.length) := Lib.hid (swp_len l i j)
  have HX : Hid (gt (swp l i j) i = y) := Lib.hid (by
    rw [swp_gt l i j i hi hj]
    by_cases e : i = j
    · rw [if_pos e, e, hy]
    · rw [if_neg e, if_pos rfl, hy])
  have HY : Hid (gt (swp l i j) j = x) := Lib.hid (by rw [swp_gt l i j j hi hj, if_pos rfl, hx])
  rw [hx] at ea
  rw [hy] at eb
  have HP : Hid (x.p = a ∧ y.p = b) := Lib.hid ⟨ea, eb⟩
  have hi' := hi
  have hj' := hj
  have hxy : i = j → x = y := fun e => by subst e; rw [← hx, ← hy]
  clear h z p1 p2 hx hy hi hj ea eb
  go_enter Try.func49, Try.ntmps49
  go_upto_region 0 with (fail)
  go_cut [1] from 6 (fun v wx => v = .int .i64 i ∧ Hm f wx Q C S P (some ⟨g, 0, none⟩) cap (swp l i j) wh ∧ Off f w wx)
  case first =>
    by_cases e : i = j
    · obtain rfl := e
      obtain rfl := hxy rfl
      go_region
      all_goals
        go_wp2_with fail
        go_meet
        exact ⟨rfl, HE.out⟩
    · have n0 : ¬ j = i := fun e2 => e e2.symm
      have m1 : ¬ i * 3 = j * 3 + 1 := by omega
      have m2 : ¬ i * 3 = j * 3 + 2 := by omega
      have m3 : ¬ i * 3 + 1 = j * 3 := by omega
      have m4 : ¬ i * 3 + 1 = j * 3 + 2 := by omega
      have m5 : ¬ i * 3 + 2 = j * 3 := by omega
      have m6 : ¬ i * 3 + 2 = j * 3 + 1 := by omega
      have k1 : ¬ j * 3 = i * 3 + 1 := by omega
      have k2 : ¬ j * 3 = i * 3 + 2 := by omega
      have k3 : ¬ j * 3 + 1 = i * 3 := by omega
      have k4 : ¬ j * 3 + 1 = i * 3 + 2 := by omega
      have k5 : ¬ j * 3 + 2 = i * 3 := by omega
      have k6 : ¬ j * 3 + 2 = i * 3 + 1 := by omega
      go_region
      all_goals
        go_wp2_with fail
        go_meet
        exact ⟨rfl, HE.out⟩
  case rest =>
    obtain ⟨rfl, hm, ho⟩ := hcut
    have HO := Lib.hid ho
    have HS : Hid (∀ W wh', Hm f W Q C S P (some ⟨g, 0, none⟩) cap (swp l i j) wh' → W.cell? ⟨Q, 0, none⟩ = some (.slice (some ⟨g, 0, none⟩) l.length cap) ∧ W.cell? ⟨Q, 1, none⟩ = some (.func (.func 35) #[] #[.pointer (some ⟨C, 0, none⟩)]) ∧ W.cell? ⟨g, i * 3 + 2, none⟩ = some (.int .i64 b) ∧ W.cell? ⟨g, j * 3 + 2, none⟩ = some (.int .i64 a)) := Lib.hid (fun W wh' h => by
      have c := h.head
      rw [HL.out] at c
      refine ⟨c.1, c.2.1, ?_, ?_⟩
      · rw [(h.at (by rw [HL.out]; exact hi') HX.out).1.2.2, HP.out.2]
      · rw [(h.at (by rw [HL.out]; exact hj') HY.out).1.2.2, HP.out.1])
    have K1 := Lib.hid (fun W h => stands_any f Q C S P (some ⟨g, 0, none⟩) cap (swp l i j) wh b i W h hb)
    have K2 := Lib.hid (fun W h => stands_any f Q C S P (some ⟨g, 0, none⟩) cap (swp l i j) (upW wh b i) a j W h ha)
    have HM := Lib.hid hm
    have HMd := Lib.hid (hm.bel (Bel.refl _).drew)
    clear c0 x0 x1 x2 y0 y1 y2 z0 z1 z2 z3 z4 z5 HE HL HX HY hm ho HP
    obtain ⟨c0, c1, x2, y2⟩ := HS.out _ _ HM.out
    go_wp2
    go_region_held3 (fun w' => w'.cell? ⟨Q, 0, none⟩ = some (.slice (some ⟨g, 0, none⟩) l.length cap) ∧ w'.cell? ⟨Q, 1, none⟩ = some (.func (.func 35) #[] #[.pointer (some ⟨C, 0, none⟩)]) ∧ w'.cell? ⟨g, i * 3 + 2, none⟩ = some (.int .i64 b) ∧ w'.cell? ⟨g, j * 3 + 2, none⟩ = some (.int .i64 a)) (first | exact ⟨c0, c1, x2, y2⟩ | exact HS.out _ _ hm1)
      (first | (go_at_call 35; (with_reducible refine (K1.out _ HMd.out).mono ?_); rintro e w1 ⟨rfl, hm1, ho1⟩))
    have HO1 : Hid (Off f w w1) := Lib.hid ((HO.out.drew).then ho1)
    have HM1 := Lib.hid (hm1.bel (Bel.refl _).drew)
    clear c0 c1 x2 y2 HM HMd
    obtain ⟨c0, c1, x2, y2⟩ := HS.out _ _ hm1
    clear hm1 ho1
    go_wp2
    go_region_held3 (fun w' => w'.cell? ⟨Q, 0, none⟩ = some (.slice (some ⟨g, 0, none⟩) l.length cap) ∧ w'.cell? ⟨Q, 1, none⟩ = some (.func (.func 35) #[] #[.pointer (some ⟨C, 0, none⟩)]) ∧ w'.cell? ⟨g, i * 3 + 2, none⟩ = some (.int .i64 b) ∧ w'.cell? ⟨g, j * 3 + 2, none⟩ = some (.int .i64 a)) (first | exact ⟨c0, c1, x2, y2⟩ | exact HS.out _ _ hm2)
      (first | (go_at_call 35; (with_reducible refine (K2.out _ HM1.out).mono ?_); rintro e w2 ⟨rfl, hm2, ho2⟩))
    go_wp2
    go_end0
    exact ⟨rfl, hm2, (HO1.out.drew).then ho2⟩
end Go.Proofs.Ytaabalkfpjeheaa
