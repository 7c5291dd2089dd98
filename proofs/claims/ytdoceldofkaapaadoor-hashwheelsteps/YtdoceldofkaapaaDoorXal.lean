/-
  Contracts of a queue of places: Get, put, take, in, pending, Len, All.
  Contracts of a queue of places: put and take.
-/
import Derived.Test.YtdoceldofkaapaaDoorPl
import Derived.Test.YtdoceldofkaapaaDoorXak
import Derived.BigRegion
set_option linter.unusedVariables false
set_option linter.unusedSimpArgs false
namespace Go.Proofs.YtdoceldofkaapaaDoor
open Go.RowKit
section
variable {Z B G R P L : Nat} {lo : T → Nat} {ls : Ls} {r : Nat → T} {l : List T}
set_option maxHeartbeats 1000000 in
theorem get_any (k : Int) (w : World) (q : Qp w Z B G R P L lo ls r l) :
    Calls Tryd.prog 23 #[.pointer (some ⟨Z, 0, none⟩), .int .i64 k] w fun e w' => e = .returned (ansT (fnd l k)) ∧ Bel w w' := by
  have HA := Lib.hid q
  obtain ⟨c0, c1⟩ := q.head
  have lZ := q.lt.1
  have K1 := Lib.hid (fun w' (q : Qp w' Z B G R P L lo ls r l) => which_qp q k)
  have HB0 : Hid (Bel w (w.alloc (.cells #[.int .u64 0, .int .u64 0, .int .i64 0] 41))) := Lib.hid ((Bel.refl _).alloc _ _)
  have HN : Hid ((w.alloc (.cells #[.int .u64 0, .int .u64 0, .int .i64 0] 41)).heap[w.heap.size]? = some (.cells #[.int .u64 0, .int .u64 0, .int .i64 0] 41 (0, 0))) := Lib.hid (heap_alloc_new _ _)
  cases hf : fnd l k with
  | none =>
    rw [hf] at K1
    clear q hf
    go_enter Tryd.func23, Tryd.ntmps23
    go_wp2_with fail
    with_reducible refine (K1.out _ (HA.out.bel HB0.out)).mono ?_
    rintro e w1 ⟨⟨t, rfl⟩, hb⟩
    obtain ⟨⟨b0, b1, b2⟩, f0, f1, f2⟩ := box3 (hb.heap HN.out)
    have HE := Lib.hid (bel3 (HB0.out.trans hb) (Nat.le_refl _) (.int .u64 0) (.int .u64 0) (.int .i64 0))
    clear hb
    go_wp2
    exact bodyPost_ret (v := ansT none) (by simp [results, Tryd.results23, go_sem, b0, b1, b2, ansT]) rfl ⟨rfl, HE.out⟩
  | some x =>
    obtain ⟨k, rfl⟩ : ∃ j : Nat, k = j := ⟨k.toNat, by obtain ⟨h1, h2⟩ := fnd_some hf; have := (q.is.tm x h1).1; omega⟩
    obtain ⟨hk, hr, _, _⟩ := q.is.inn hf
    rw [hf] at K1
    have hP := q.hP
    have HR := Lib.hid hr
    clear q hf hr
    go_enter Tryd.func23, Tryd.ntmps23
    go_wp2_with fail
    with_reducible refine (K1.out _ (HA.out.bel HB0.out)).mono ?_
    rintro e w1 ⟨⟨t, rfl⟩, hb⟩
    have HB1 := Lib.hid (HB0.out.trans hb)
    obtain ⟨⟨b0, b1, b2⟩, f0, f1, f2⟩ := box3 (hb.heap HN.out)
    have q1 := HA.out.bel HB1.out
    have lZ1 := q1.lt.1
    obtain ⟨d0, d1⟩ := q1.head
    obtain ⟨⟨x0, x1, x2⟩, _⟩ := q1.at hk
    rw [HR.out] at x0 x1 x2
    have lR := q1.lt.2.2.2
    have HE := Lib.hid (bel3 HB1.out (Nat.le_refl _) (.int .u64 x.a) (.int .u64 x.s) (.int .i64 x.p))
    clear hb q1 c0 c1
    obtain ⟨xa, xs, xp⟩ := x
    simp only at *
    go_wp2
    exact bodyPost_ret (v := ansT (some ⟨xa, xs, xp⟩)) (by simp [results, Tryd.results23, go_sem, b0, b1, b2, ansT]) rfl ⟨rfl, HE.out⟩
set_option maxHeartbeats 1000000 in
/-- The timers of a list. -/
theorem in_any {t : Nat} (ht : t < L) (w : World) (q : Qp w Z B G R P L lo ls r l) :
    Calls Tryd.prog 35 #[.pointer (some ⟨Z, 0, none⟩), .int .i64 t] w fun e w' => OutN w w' e ((ls t).map r) ∧ Bel w w' := by
  have HA := Lib.hid q
  obtain ⟨c0, c1⟩ := q.head
  have K1 := Lib.hid (places_qp q ht)
  have hn := q.lslen ht
  have hl := (q.rep ht).2
  generalize hys : ls t = ys at *
  obtain ⟨n, hN⟩ : ∃ n, ys.length = n := ⟨_, rfl⟩
  rw [hN] at hn K1
  have HY := Lib.hid hN
  have HL := Lib.hid hl
  have hP := q.hP
  clear q hys hN hl
  go_enter Tryd.func35, Tryd.ntmps35
  go_wp2_with fail
  with_reducible refine K1.out.mono ?_
  rintro e w1 ⟨p, c, rfl, hc, hlies, hb⟩
  have HLI := Lib.hid hlies
  have HB1 := Lib.hid hb
  have HCQ : Hid (∀ w', Bel w w' → w'.cell? ⟨Z, 1, none⟩ = some (.slice (some ⟨R, 0, none⟩) P P)) := Lib.hid (fun w' hb => (HA.out.bel hb).head.2)
  clear hlies hb c0 c1 K1
  go_wp2
  go_loopw [5, 7, 15] (fun o _ v wr => ∃ m : Nat, v = .int .i64 m ∧ m ≤ n ∧ OwnT wr w1.heap.size o ((ys.map r).take m) ∧ Bel w1 wr) (fun _ _ v _ => n - (intOf v).toNat)
  case atStart => exact ⟨0, rfl, by omega, OwnT.nil _ _, Bel.refl _⟩
  case round =>
    obtain ⟨m, rfl, hm, ho, hb⟩ := hrel
    have HO := Lib.hid ho
    have HB := Lib.hid hb
    clear ho hb
    by_cases hlt : m < n
    · obtain ⟨y, hy⟩ : ∃ y, ys[m]? = some y := ⟨_, List.getElem?_eq_getElem (by have := HY.out; omega)⟩
      have hyP : y < P := HL.out y (List.mem_of_getElem? hy)
      obtain ⟨b, off, rfl, _, hr⟩ := lies_int HLI.out (i := m) (by have := HY.out; omega)
      have y0 := row_int (RowG.off hr (fun e => e) HB.out) hy
      have hBB := HB1.out.trans HB.out
      have qr := HA.out.bel hBB
      have cc := HCQ.out _ hBB
      obtain ⟨⟨x0, x1, x2⟩, _⟩ := qr.at hyP
      have HT : Hid ((ys.map r).take (m + 1) = (ys.map r).take m ++ [r y]) := Lib.hid (by
        obtain ⟨h1, h2⟩ := List.getElem?_eq_some_iff.1 hy
        rw [List.take_succ_eq_append_getElem (by simpa using h1), List.getElem_map, h2])
      have HTL : Hid (((ys.map r).take m).length = m) := Lib.hid (by have := HY.out; simp; omega)
      have HZ := Lib.hid hBB.size
      clear hr hy qr hBB
      generalize r y = z at *
      go_wp2_with (at_builtin; refine wpList_append_any rfl (.tmp 19) (.tmp 27) rfl w1.heap.size _ ((ys.map r).take m) rfl (HO.out.bel ((Bel.refl _).alloc _ _)) _ _ _ [z] rfl rfl (has_one _ _) (by have := HTL.out; omega) (by have := HB.out.size; simp; omega) ?_)
      intro v' w2 hown hgrow hnil
      have HO2 : Hid (OwnT w2 w1.heap.size v' ((ys.map r).take (m + 1))) := Lib.hid (by rw [HT.out]; exact hown)
      have HB2 : Hid (Bel w1 w2) := Lib.hid ((HB.out.alloc _ _).grown hgrow (fun k hk => .inr (HO.out.lt k hk).1))
      clear hown hgrow hnil
      go_wp2
      go_roundw
      case rel => exact ⟨m + 1, by go_num, by omega, HO2.out, HB2.out⟩
      case measure => simp [intOf]; omega
    · obtain rfl : m = n := by omega
      have HE : Hid ((ys.map r).take m = ys.map r) := Lib.hid (List.take_of_length_le (by have := HY.out; simp; omega))
      go_wp2
      go_ret
      have k := HO.out.outN (w := w) HB1.out.size
      rw [HE.out] at k
      exact ⟨k, HB1.out.trans HB.out⟩
end
end Go.Proofs.YtdoceldofkaapaaDoor
namespace Go.Proofs.YtdoceldofkaapaaDoor
open Go.RowKit
section
variable {Z B G R P L : Nat} {lo : T → Nat} {ls : Ls} {r : Nat → T} {l : List T}
set_option maxHeartbeats 1000000 in
theorem put_no {t : Nat} (ht : t < L) (x : T) (w : World) (q : Qp w Z B G R P L lo ls r l) (hn : ¬ insE P l x = 0) :
    Calls Tryd.prog 32 #[.pointer (some ⟨Z, 0, none⟩), .int .i64 t, .agg #[.int .u64 x.a, .int .u64 x.s, .int .i64 x.p]] w fun e w' => e = .returned (.int .i64 (insE P l x)) ∧ Bel w w' := by
  have HBd : Hid (Bel w (w.alloc (.cells #[.int .u64 x.a, .int .u64 x.s, .int .i64 x.p] 41)).drew) := Lib.hid ((Bel.refl _).alloc _ _).drew
  have K1 := Lib.hid (append_qp_no (q.bel HBd.out) ht hn)
  obtain ⟨c0, c1⟩ := q.head
  have lZ := q.lt.1
  have hne : (insE P l x == 0) = false := by simpa using hn
  generalize insE P l x = er at *
  clear q hn
  obtain ⟨xa, xs, xp⟩ := x
  simp only at *
  go_enter Tryd.func32, Tryd.ntmps32
  go_wp2
  go_region_with (go_at_call 46; (with_reducible refine K1.out.mono ?_); rintro e w1 ⟨rfl, hb⟩)
  all_goals
    go_wp2
    go_ret
    exact ⟨rfl, HBd.out.trans hb⟩
set_option maxHeartbeats 2000000 in
theorem put_ok {t k : Nat} (ht : t < L) (x : T) (w : World) (q : Qp w Z B G R P L lo ls r l) (e : x.p = k) (hk : k < P) (hf : fnd l k = none) (hlo : lo x = t) :
    Calls Tryd.prog 32 #[.pointer (some ⟨Z, 0, none⟩), .int .i64 t, .agg #[.int .u64 x.a, .int .u64 x.s, .int .i64 x.p]] w fun e w' => e = .returned (.int .i64 0) ∧ Qp w' Z B G R P L lo (upd ls t (ls t ++ [k])) (upT r k x) (put l x) ∧ Off (Fo2 G R) w w' := by
  have HB0 : Hid (Bel w (w.alloc (.cells #[.int .u64 x.a, .int .u64 x.s, .int .i64 x.p] 41))) := Lib.hid ((Bel.refl _).alloc _ _)
  have HN : Hid ((w.alloc (.cells #[.int .u64 x.a, .int .u64 x.s, .int .i64 x.p] 41)).heap[w.heap.size]? = some (.cells #[.int .u64 x.a, .int .u64 x.s, .int .i64 x.p] 41 (0, 0))) := Lib.hid (heap_alloc_new _ _)
  have HBd : Hid (Bel w (w.alloc (.cells #[.int .u64 x.a, .int .u64 x.s, .int .i64 x.p] 41)).drew) := Lib.hid HB0.out.drew
  have K1 := Lib.hid (append_qp_ok (q.bel HBd.out) ht e hk hf)
  have HI := Lib.hid (q.is.putx e hk hf hlo ht)
  obtain ⟨c0, c1⟩ := q.head
  obtain ⟨lZ, lB, lG, lR⟩ := q.lt
  have nZG := q.ne.2.1
  have hnG : ¬ w.heap.size = G := by omega
  have hnR : ¬ w.heap.size = R := by omega
  have hRn : ¬ R = w.heap.size := by omega
  have hP := q.hP
  have hL := q.hL
  have HE := Lib.hid e
  clear q hf e hlo
  obtain ⟨xa, xs, xp⟩ := x
  simp only at *
  obtain rfl : xp = (k : Int) := HE.out
  clear HE
  go_enter Tryd.func32, Tryd.ntmps32
  go_wp2
  go_region_with (go_at_call 46; (with_reducible refine K1.out.mono ?_); rintro e w1 ⟨rfl, ⟨g1, q1, rp1⟩, ho⟩)
  all_goals
    have hb1 : w1.heap[w.heap.size]? = some (.cells #[.int .u64 xa, .int .u64 xs, .int .i64 (k : Int)] 41 (0, 0)) := (ho.block _ (by simp) hnG).trans HN.out
    obtain ⟨⟨b0, b1, b2⟩, _⟩ := box3 hb1
    have d1 : w1.cell? ⟨Z, 1, none⟩ = some (.slice (some ⟨R, 0, none⟩) P P) := q1.cell rfl
    obtain ⟨⟨y0, y1, y2⟩, fz⟩ := q1.at hk
    have z0 := fz (k * 3)
    have z1 := fz (k * 3 + 1)
    have z2 := fz (k * 3 + 2)
    have lZ1 := q1.ltZ
    have lR1 := q1.ltR
    have HO : Hid (Off (Fo2 G R) w w1.drew) := Lib.hid (((HBd.out.off (Only G)).then ho).mono (fun _ _ e => .inl e)).drew
    obtain ⟨q2, o2⟩ := (q1.bel (Bel.refl _).drew).put hk ⟨xa, xs, k⟩
    have FIN : Hid (Qp (set3 w1.drew R k ⟨xa, xs, k⟩) Z B G R P L lo (upd ls t (ls t ++ [k])) (upT r k ⟨xa, xs, k⟩) (put l ⟨xa, xs, k⟩) ∧ Off (Fo2 G R) w (set3 w1.drew R k ⟨xa, xs, k⟩)) :=
      Lib.hid ⟨⟨⟨_, q2, rp1⟩, HI.out, hP, hL⟩, HO.out.then (o2.mono (fun _ _ e => .inr e))⟩
    clear q1 rp1 ho fz q2 o2 hb1
    generalize (r k).a = r0 at *
    generalize (r k).s = r1 at *
    generalize (r k).p = r2 at *
    go_wp2
    go_region
    all_goals
      go_wp2
      go_ret
      exact ⟨rfl, FIN.out.1, FIN.out.2⟩
set_option maxHeartbeats 1000000 in
theorem take_no (k : Int) (w : World) (q : Qp w Z B G R P L lo ls r l) (hn : ¬ canE P l k = 0) :
    Calls Tryd.prog 37 #[.pointer (some ⟨Z, 0, none⟩), .int .i64 k] w fun e w' => e = .returned (canV default (canE P l k)) ∧ Bel w w' := by
  have HB0 : Hid (Bel w (w.alloc (.cells #[.int .u64 0, .int .u64 0, .int .i64 0] 41))) := Lib.hid ((Bel.refl _).alloc _ _)
  have HN : Hid ((w.alloc (.cells #[.int .u64 0, .int .u64 0, .int .i64 0] 41)).heap[w.heap.size]? = some (.cells #[.int .u64 0, .int .u64 0, .int .i64 0] 41 (0, 0))) := Lib.hid (heap_alloc_new _ _)
  have K1 := Lib.hid (drop_qp_no (q.bel HB0.out) hn)
  obtain ⟨c0, c1⟩ := q.head
  have lZ := q.lt.1
  have hne2 : (canE P l k == 0) = false := by simpa using hn
  generalize canE P l k = er at *
  clear q hn
  go_enter Tryd.func37, Tryd.ntmps37
  go_wp2_with fail
  with_reducible refine K1.out.mono ?_
  rintro e w1 ⟨rfl, hb⟩
  obtain ⟨⟨b0, b1, b2⟩, f0, f1, f2⟩ := box3 (hb.heap HN.out)
  have HE := Lib.hid (bel3 (HB0.out.trans hb) (Nat.le_refl _) (.int .u64 0) (.int .u64 0) (.int .i64 0))
  clear hb
  go_wp2
  exact bodyPost_ret (v := canV default er) (by simp [results, Tryd.results37, go_sem, b0, b1, b2, canV, default]) rfl ⟨rfl, HE.out⟩
set_option maxHeartbeats 2000000 in
theorem take_ok {k : Nat} {x : T} (w : World) (q : Qp w Z B G R P L lo ls r l) (hf : fnd l k = some x) : ∃ a b, ls (lo x) = a ++ k :: b ∧
    Calls Tryd.prog 37 #[.pointer (some ⟨Z, 0, none⟩), .int .i64 k] w fun e w' => e = .returned (canV x 0) ∧ Qp w' Z B G R P L lo (upd ls (lo x) (a ++ b)) (upT r k ⟨0, 0, 0⟩) (wo l k) ∧ Off (Fo2 G R) w w' := by
  have HB0 : Hid (Bel w (w.alloc (.cells #[.int .u64 0, .int .u64 0, .int .i64 0] 41))) := Lib.hid ((Bel.refl _).alloc _ _)
  have HN : Hid ((w.alloc (.cells #[.int .u64 0, .int .u64 0, .int .i64 0] 41)).heap[w.heap.size]? = some (.cells #[.int .u64 0, .int .u64 0, .int .i64 0] 41 (0, 0))) := Lib.hid (heap_alloc_new _ _)
  obtain ⟨a, b, hl, k1⟩ := drop_qp_ok (q.bel HB0.out) hf
  refine ⟨a, b, hl, ?_⟩
  have K1 := Lib.hid k1
  obtain ⟨hk, hr, hlo, _⟩ := q.is.inn hf
  have HI := Lib.hid (q.is.drop (z := ⟨0, 0, 0⟩) hf (q.rep hlo).1 hl)
  generalize upd ls (lo x) (a ++ b) = ls1 at *
  obtain ⟨c0, c1⟩ := q.head
  obtain ⟨lZ, lB, lG, lR⟩ := q.lt
  obtain ⟨_, nZG, nZR, _, _, nGR⟩ := q.ne
  have hnG : ¬ w.heap.size = G := by omega
  have hnR : ¬ w.heap.size = R := by omega
  have hP := q.hP
  have hL := q.hL
  have HR := Lib.hid hr
  clear q hf hl k1 hr hlo
  go_enter Tryd.func37, Tryd.ntmps37
  go_wp2_with fail
  with_reducible refine K1.out.mono ?_
  rintro e w1 ⟨rfl, ⟨g1, q1, rp1⟩, ho⟩
  have HQ1 := Lib.hid q1
  have HRP := Lib.hid rp1
  have HN1 : Hid (w1.heap[w.heap.size]? = some (.cells #[.int .u64 0, .int .u64 0, .int .i64 0] 41 (0, 0))) := Lib.hid ((ho.block _ (by simp) hnG).trans HN.out)
  have HO1 : Hid (Off (Fo2 G R) w w1) := Lib.hid (((HB0.out.off (Only G)).then ho).mono (fun _ _ e => .inl e))
  clear q1 rp1 ho c0 c1
  have c1 : w1.cell? ⟨Z, 1, none⟩ = some (.slice (some ⟨R, 0, none⟩) P P) := HQ1.out.cell rfl
  obtain ⟨⟨x0, x1, x2⟩, _⟩ := HQ1.out.at hk
  rw [HR.out] at x0 x1 x2
  have HB2 : Hid (Bel w1 (w1.alloc (.cells #[.int .u64 x.a, .int .u64 x.s, .int .i64 x.p] 41))) := Lib.hid ((Bel.refl _).alloc _ _)
  have HM : Hid ((w1.alloc (.cells #[.int .u64 x.a, .int .u64 x.s, .int .i64 x.p] 41)).heap[w1.heap.size]? = some (.cells #[.int .u64 x.a, .int .u64 x.s, .int .i64 x.p] 41 (0, 0))) := Lib.hid (heap_alloc_new _ _)
  have hNM : w.heap.size < w1.heap.size := (Array.getElem?_eq_some_iff.1 HN1.out).1
  have hM1 : R < w1.heap.size := HQ1.out.ltR
  go_upto_region 5 with (fail)
  generalize w1.alloc (.cells #[.int .u64 x.a, .int .u64 x.s, .int .i64 x.p] 41) = W2 at *
  have HQ2 := Lib.hid (HQ1.out.bel HB2.out)
  have HN2 := Lib.hid (HB2.out.heap HN1.out)
  clear c1 x0 x1 x2
  have c1 : W2.cell? ⟨Z, 1, none⟩ = some (.slice (some ⟨R, 0, none⟩) P P) := HQ2.out.cell rfl
  obtain ⟨⟨x0, x1, x2⟩, fz⟩ := HQ2.out.at hk
  have z0 := fz (k * 3)
  have z1 := fz (k * 3 + 1)
  have z2 := fz (k * 3 + 2)
  obtain ⟨⟨b0, b1, b2⟩, f0, f1, f2⟩ := box3 HN2.out
  obtain ⟨⟨m0, m1, m2⟩, _⟩ := box3 HM.out
  obtain ⟨q3, o3⟩ := HQ2.out.put hk ⟨0, 0, 0⟩
  have HO3 : Hid (Off (Fo2 G R) w (set3 W2 R k ⟨0, 0, 0⟩)) := Lib.hid ((HO1.out.then (HB2.out.off _)).then (o3.mono (fun _ _ e => .inr e)))
  have HNw : Hid (¬ Z = w.heap.size ∧ ¬ B = w.heap.size ∧ ¬ G = w.heap.size ∧ ¬ R = w.heap.size) := Lib.hid ⟨by omega, by omega, by omega, by omega⟩
  have FIN : ∀ u v y, Qp ((((set3 W2 R k ⟨0, 0, 0⟩).setCell ⟨w.heap.size, 0, none⟩ u).setCell ⟨w.heap.size, 1, none⟩ v).setCell ⟨w.heap.size, 2, none⟩ y) Z B G R P L lo ls1 (upT r k ⟨0, 0, 0⟩) (wo l k) ∧ Off (Fo2 G R) w ((((set3 W2 R k ⟨0, 0, 0⟩).setCell ⟨w.heap.size, 0, none⟩ u).setCell ⟨w.heap.size, 1, none⟩ v).setCell ⟨w.heap.size, 2, none⟩ y) := fun u v y => by
    obtain ⟨n1, n2, n3, n4⟩ := HNw.out
    exact ⟨⟨⟨_, q3.off (off3 _ w.heap.size u v y) n1 n2 n3 n4, HRP.out⟩, HI.out, hP, hL⟩, Off.trans HO3.out (off3 _ w.heap.size u v y) (fun i e => .inr (Nat.le_of_eq e.symm))⟩
  have HF := Lib.hid FIN
  clear q3 o3 FIN fz
  generalize (r k).a = ra at *
  generalize (r k).s = rs at *
  generalize (r k).p = rq at *
  obtain ⟨xa, xs, xp⟩ := x
  simp only at *
  go_wp2
  exact bodyPost_ret (v := canV ⟨xa, xs, xp⟩ 0) (by simp [results, Tryd.results37, go_sem, b0, b1, b2, hnR, canV]) rfl ⟨rfl, HF.out _ _ _⟩
end
end Go.Proofs.YtdoceldofkaapaaDoor
