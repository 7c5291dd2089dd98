/-
  Contracts of a queue of places: put and take.
  Contracts of a queue of places: pending, Len, All.
  A wheel in memory: a block of its own, whose first cell points at its timers in lists of places.
  Lists of timers, cut and put together again, as plain mathematics.
-/
import Derived.Test.YtdoceldofkaapaaGreatDoorXao
import Derived.Test.YtdoceldofkaapaaGreatDoorXag
import Derived.Test.YtdoceldofkaapaaGreatDoorXaj
import Derived.Test.YtdoceldofkaapaaGreatDoorXaa
set_option linter.unusedVariables false
set_option linter.unusedSimpArgs false
namespace Go.Proofs.YtdoceldofkaapaaGreatDoor
open Go.RowKit
section
variable {Z B G R P L : Nat} {lo : T → Nat} {ls : Ls} {r : Nat → T} {l : List T}
set_option maxHeartbeats 1000000 in
theorem put_no {t : Nat} (ht : t < L) (x : T) (w : World) (q : Qp w Z B G R P L lo ls r l) (hn : ¬ insE P l x = 0) :
    Calls Tryz.prog 73 #[.pointer (some ⟨Z, 0, none⟩), .int .i64 t, .agg #[.int .u64 x.a, .int .u64 x.s, .int .i64 x.p]] w fun e w' => e = .returned (.int .i64 (insE P l x)) ∧ Bel w w' := by
  have HBd : Hid (Bel w (w.alloc (.cells #[.int .u64 x.a, .int .u64 x.s, .int .i64 x.p] 37)).drew) := Lib.hid ((Bel.refl _).alloc _ _).drew
  have K1 := Lib.hid (append_qp_no (q.bel HBd.out) ht hn)
  obtain ⟨c0, c1⟩ := q.head
  have lZ := q.lt.1
  have hne : (insE P l x == 0) = false := by simpa using hn
  generalize insE P l x = er at *
  clear q hn
  obtain ⟨xa, xs, xp⟩ := x
  simp only at *
  go_enter Tryz.func73, Tryz.ntmps73
  go_wp2
  go_region_with (go_at_call 109; (with_reducible refine K1.out.mono ?_); rintro e w1 ⟨rfl, hb⟩)
  all_goals
    go_wp2
    go_ret
    exact ⟨rfl, HBd.out.trans hb⟩
set_option maxHeartbeats 2000000 in
theorem put_ok {t k : Nat} (ht : t < L) (x : T) (w : World) (q : Qp w Z B G R P L lo ls r l) (e : x.p = k) (hk : k < P) (hf : fnd l k = none) (hlo : lo x = t) :
    Calls Tryz.prog 73 #[.pointer (some ⟨Z, 0, none⟩), .int .i64 t, .agg #[.int .u64 x.a, .int .u64 x.s, .int .i64 x.p]] w fun e w' => e = .returned (.int .i64 0) ∧ Qp w' Z B G R P L lo (upd ls t (ls t ++ [k])) (upT r k x) (put l x) ∧ Off (Fo2 G R) w w' := by
  have HB0 : Hid (Bel w (w.alloc (.cells #[.int .u64 x.a, .int .u64 x.s, .int .i64 x.p] 37))) := Lib.hid ((Bel.refl _).alloc _ _)
  have HN : Hid ((w.alloc (.cells #[.int .u64 x.a, .int .u64 x.s, .int .i64 x.p] 37)).heap[w.heap.size]? = some (.cells #[.int .u64 x.a, .int .u64 x.s, .int .i64 x.p] 37 (0, 0))) := Lib.hid (heap_alloc_new _ _)
  have HBd : Hid (Bel w (w.alloc (.cells #[.int .u64 x.a, .int .u64 x.s, .int .i64 x.p] 37)).drew) := Lib.hid HB0.out.drew
  have K1 := Lib.hid (append_qp_ok (q.bel HBd.out) ht e hk hf)
  have HI := Lib.hid (q.is.putx e hk hf hlo ht)
  obtain ⟨c0, c1⟩ := q.head
  obtain ⟨lZ, lB, lG, lR⟩ := q.lt
  have nZG := q.ne.2.1
  have hnG : ¬ w.heap.size = G := by omega
  have hnR : ¬ w.heap.size = R := by omega
  have hRn : ¬ R = w.heap.size := by omega
  have hP := q.hP
  have hL := q.hL
  have HE := Lib.hid e
  clear q hf e hlo
  obtain ⟨xa, xs, xp⟩ := x
  simp only at *
  obtain rfl : xp = (k : Int) := HE.out
  clear HE
  go_enter Tryz.func73, Tryz.ntmps73
  go_wp2
  go_region_with (go_at_call 109; (with_reducible refine K1.out.mono ?_); rintro e w1 ⟨rfl, ⟨g1, q1, rp1⟩, ho⟩)
  all_goals
    have hb1 : w1.heap[w.heap.size]? = some (.cells #[.int .u64 xa, .int .u64 xs, .int .i64 (k : Int)] 37 (0, 0)) := (ho.block _ (by simp) hnG).trans HN.out
    obtain ⟨⟨b0, b1, b2⟩, _⟩ := box3 hb1
    have d1 : w1.cell? ⟨Z, 1, none⟩ = some (.slice (some ⟨R, 0, none⟩) P P) := q1.cell rfl
    obtain ⟨⟨y0, y1, y2⟩, fz⟩ := q1.at hk
    have z0 := fz (k * 3)
    have z1 := fz (k * 3 + 1)
    have z2 := fz (k * 3 + 2)
    have lZ1 := q1.ltZ
    have lR1 := q1.ltR
    have HO : Hid (Off (Fo2 G R) w w1.drew) := Lib.hid (((HBd.out.off (Only G)).then ho).mono (fun _ _ e => .inl e)).drew
    obtain ⟨q2, o2⟩ := (q1.bel (Bel.refl _).drew).put hk ⟨xa, xs, k⟩
    have FIN : Hid (Qp (set3 w1.drew R k ⟨xa, xs, k⟩) Z B G R P L lo (upd ls t (ls t ++ [k])) (upT r k ⟨xa, xs, k⟩) (put l ⟨xa, xs, k⟩) ∧ Off (Fo2 G R) w (set3 w1.drew R k ⟨xa, xs, k⟩)) :=
      Lib.hid ⟨⟨⟨_, q2, rp1⟩, HI.out, hP, hL⟩, HO.out.then (o2.mono (fun _ _ e => .inr e))⟩
    clear q1 rp1 ho fz q2 o2 hb1
    generalize (r k).a = r0 at *
    generalize (r k).s = r1 at *
    generalize (r k).p = r2 at *
    go_wp2
    go_region
    all_goals
      go_wp2
      go_ret
      exact ⟨rfl, FIN.out.1, FIN.out.2⟩
set_option maxHeartbeats 1000000 in
theorem take_no (k : Int) (w : World) (q : Qp w Z B G R P L lo ls r l) (hn : ¬ canE P l k = 0) :
    Calls Tryz.prog 75 #[.pointer (some ⟨Z, 0, none⟩), .int .i64 k] w fun e w' => e = .returned (canV default (canE P l k)) ∧ Bel w w' := by
  have HB0 : Hid (Bel w (w.alloc (.cells #[.int .u64 0, .int .u64 0, .int .i64 0] 37))) := Lib.hid ((Bel.refl _).alloc _ _)
  have HN : Hid ((w.alloc (.cells #[.int .u64 0, .int .u64 0, .int .i64 0] 37)).heap[w.heap.size]? = some (.cells #[.int .u64 0, .int .u64 0, .int .i64 0] 37 (0, 0))) := Lib.hid (heap_alloc_new _ _)
  have K1 := Lib.hid (drop_qp_no (q.bel HB0.out) hn)
  obtain ⟨c0, c1⟩ := q.head
  have lZ := q.lt.1
  have hne2 : (canE P l k == 0) = false := by simpa using hn
  generalize canE P l k = er at *
  clear q hn
  go_enter Tryz.func75, Tryz.ntmps75
  go_wp2_with fail
  with_reducible refine K1.out.mono ?_
  rintro e w1 ⟨rfl, hb⟩
  obtain ⟨⟨b0, b1, b2⟩, f0, f1, f2⟩ := box3 (hb.heap HN.out)
  have HE := Lib.hid (bel3 (HB0.out.trans hb) (Nat.le_refl _) (.int .u64 0) (.int .u64 0) (.int .i64 0))
  clear hb
  go_wp2
  exact bodyPost_ret (v := canV default er) (by simp [results, Tryz.results75, go_sem, b0, b1, b2, canV, default]) rfl ⟨rfl, HE.out⟩
set_option maxHeartbeats 2000000 in
theorem take_ok {k : Nat} {x : T} (w : World) (q : Qp w Z B G R P L lo ls r l) (hf : fnd l k = some x) : ∃ a b, ls (lo x) = a ++ k :: b ∧
    Calls Tryz.prog 75 #[.pointer (some ⟨Z, 0, none⟩), .int .i64 k] w fun e w' => e = .returned (canV x 0) ∧ Qp w' Z B G R P L lo (upd ls (lo x) (a ++ b)) (upT r k ⟨0, 0, 0⟩) (wo l k) ∧ Off (Fo2 G R) w w' := by
  have HB0 : Hid (Bel w (w.alloc (.cells #[.int .u64 0, .int .u64 0, .int .i64 0] 37))) := Lib.hid ((Bel.refl _).alloc _ _)
  have HN : Hid ((w.alloc (.cells #[.int .u64 0, .int .u64 0, .int .i64 0] 37)).heap[w.heap.size]? = some (.cells #[.int .u64 0, .int .u64 0, .int .i64 0] 37 (0, 0))) := Lib.hid (heap_alloc_new _ _)
  obtain ⟨a, b, hl, k1⟩ := drop_qp_ok (q.bel HB0.out) hf
  refine ⟨a, b, hl, ?_⟩
  have K1 := Lib.hid k1
  obtain ⟨hk, hr, hlo, _⟩ := q.is.inn hf
  have HI := Lib.hid (q.is.drop (z := ⟨0, 0, 0⟩) hf (q.rep hlo).1 hl)
  generalize upd ls (lo x) (a ++ b) = ls1 at *
  obtain ⟨c0, c1⟩ := q.head
  obtain ⟨lZ, lB, lG, lR⟩ := q.lt
  obtain ⟨_, nZG, nZR, _, _, nGR⟩ := q.ne
  have hnG : ¬ w.heap.size = G := by omega
  have hnR : ¬ w.heap.size = R := by omega
  have hP := q.hP
  have hL := q.hL
  have HR := Lib.hid hr
  clear q hf hl k1 hr hlo
  go_enter Tryz.func75, Tryz.ntmps75
  go_wp2_with fail
  with_reducible refine K1.out.mono ?_
  rintro e w1 ⟨rfl, ⟨g1, q1, rp1⟩, ho⟩
  have HQ1 := Lib.hid q1
  have HRP := Lib.hid rp1
  have HN1 : Hid (w1.heap[w.heap.size]? = some (.cells #[.int .u64 0, .int .u64 0, .int .i64 0] 37 (0, 0))) := Lib.hid ((ho.block _ (by simp) hnG).trans HN.out)
  have HO1 : Hid (Off (Fo2 G R) w w1) := Lib.hid (((HB0.out.off (Only G)).then ho).mono (fun _ _ e => .inl e))
  clear q1 rp1 ho c0 c1
  have c1 : w1.cell? ⟨Z, 1, none⟩ = some (.slice (some ⟨R, 0, none⟩) P P) := HQ1.out.cell rfl
  obtain ⟨⟨x0, x1, x2⟩, _⟩ := HQ1.out.at hk
  rw [HR.out] at x0 x1 x2
  have HB2 : Hid (Bel w1 (w1.alloc (.cells #[.int .u64 x.a, .int .u64 x.s, .int .i64 x.p] 37))) := Lib.hid ((Bel.refl _).alloc _ _)
  have HM : Hid ((w1.alloc (.cells #[.int .u64 x.a, .int .u64 x.s, .int .i64 x.p] 37)).heap[w1.heap.size]? = some (.cells #[.int .u64 x.a, .int .u64 x.s, .int .i64 x.p] 37 (0, 0))) := Lib.hid (heap_alloc_new _ _)
  have hNM : w.heap.size < w1.heap.size := (Array.getElem?_eq_some_iff.1 HN1.out).1
  have hM1 : R < w1.heap.size := HQ1.out.ltR
  go_upto_region 5 with (fail)
  generalize w1.alloc (.cells #[.int .u64 x.a, .int .u64 x.s, .int .i64 x.p] 37) = W2 at *
  have HQ2 := Lib.hid (HQ1.out.bel HB2.out)
  have HN2 := Lib.hid (HB2.out.heap HN1.out)
  clear c1 x0 x1 x2
  have c1 : W2.cell? ⟨Z, 1, none⟩ = some (.slice (some ⟨R, 0, none⟩) P P) := HQ2.out.cell rfl
  obtain ⟨⟨x0, x1, x2⟩, fz⟩ := HQ2.out.at hk
  have z0 := fz (k * 3)
  have z1 := fz (k * 3 + 1)
  have z2 := fz (k * 3 + 2)
  obtain ⟨⟨b0, b1, b2⟩, f0, f1, f2⟩ := box3 HN2.out
  obtain ⟨⟨m0, m1, m2⟩, _⟩ := box3 HM.out
  obtain ⟨q3, o3⟩ := HQ2.out.put hk ⟨0, 0, 0⟩
  have HO3 : Hid (Off (Fo2 G R) w (set3 W2 R k ⟨0, 0, 0⟩)) := Lib.hid ((HO1.out.then (HB2.out.off _)).then (o3.mono (fun _ _ e => .inr e)))
  have HNw : Hid (¬ Z = w.heap.size ∧ ¬ B = w.heap.size ∧ ¬ G = w.heap.size ∧ ¬ R = w.heap.size) := Lib.hid ⟨by omega, by omega, by omega, by omega⟩
  have FIN : ∀ u v y, Qp ((((set3 W2 R k ⟨0, 0, 0⟩).setCell ⟨w.heap.size, 0, none⟩ u).setCell ⟨w.heap.size, 1, none⟩ v).setCell ⟨w.heap.size, 2, none⟩ y) Z B G R P L lo ls1 (upT r k ⟨0, 0, 0⟩) (wo l k) ∧ Off (Fo2 G R) w ((((set3 W2 R k ⟨0, 0, 0⟩).setCell ⟨w.heap.size, 0, none⟩ u).setCell ⟨w.heap.size, 1, none⟩ v).setCell ⟨w.heap.size, 2, none⟩ y) := fun u v y => by
    obtain ⟨n1, n2, n3, n4⟩ := HNw.out
    exact ⟨⟨⟨_, q3.off (off3 _ w.heap.size u v y) n1 n2 n3 n4, HRP.out⟩, HI.out, hP, hL⟩, Off.trans HO3.out (off3 _ w.heap.size u v y) (fun i e => .inr (Nat.le_of_eq e.symm))⟩
  have HF := Lib.hid FIN
  clear q3 o3 FIN fz
  generalize (r k).a = ra at *
  generalize (r k).s = rs at *
  generalize (r k).p = rq at *
  obtain ⟨xa, xs, xp⟩ := x
  simp only at *
  go_wp2
  exact bodyPost_ret (v := canV ⟨xa, xs, xp⟩ 0) (by simp [results, Tryz.results75, go_sem, b0, b1, b2, hnR, canV]) rfl ⟨rfl, HF.out _ _ _⟩
end
end Go.Proofs.YtdoceldofkaapaaGreatDoor
namespace Go.Proofs.YtdoceldofkaapaaGreatDoor
open Go.RowKit
/-- Those that pend, place by place. -/
def pnd (l : List T) (n : Nat) : List T := (List.range n).filterMap fun i => fnd l (i : Nat)
theorem pnd_zero (l : List T) : pnd l 0 = [] := rfl
theorem pnd_none {l : List T} {n : Nat} (h : fnd l (n : Nat) = none) : pnd l (n + 1) = pnd l n := by unfold pnd; rw [List.range_succ, List.filterMap_append]; simp [h]
theorem pnd_some {l : List T} {n : Nat} {x : T} (h : fnd l (n : Nat) = some x) : pnd l (n + 1) = pnd l n ++ [x] := by unfold pnd; rw [List.range_succ, List.filterMap_append]; simp [h]
theorem pnd_len (l : List T) (n : Nat) : (pnd l n).length ≤ n := by
  unfold pnd
  have := List.length_filterMap_le (fun i : Nat => fnd l (i : Nat)) (List.range n)
  simpa using this
section
variable {Z B G R P L : Nat} {lo : T → Nat} {ls : Ls} {r : Nat → T} {l : List T}
theorem Is.lnd (hi : Is P L lo ls r l) : l.Nodup := by
  have h1 := hi.nd
  unfold pls List.Nodup at h1
  rw [List.pairwise_map] at h1
  exact h1.imp (fun hab e => hab (by rw [e]))
theorem Is.pnd_perm (hi : Is P L lo ls r l) : (pnd l P).Perm l := by
  refine (List.perm_ext_iff_of_nodup ?_ hi.lnd).2 fun x => ?_
  · unfold pnd List.Nodup
    rw [List.pairwise_filterMap]
    refine (List.nodup_range (n := P)).imp ?_
    intro a b hab x hx y hy e
    subst e
    have h1 := (fnd_some hx).2
    have h2 := (fnd_some hy).2
    omega
  · unfold pnd
    rw [List.mem_filterMap]
    constructor
    · rintro ⟨i, _, hx⟩; exact (fnd_some hx).1
    · intro hx; exact ⟨pl x, by simpa using (hi.tm x hx).2.1, hi.find hx⟩
set_option maxHeartbeats 1000000 in
set_option maxRecDepth 100000 in
theorem pending_any (w : World) (q : Qp w Z B G R P L lo ls r l) :
    Calls Tryz.prog 47 #[.pointer (some ⟨Z, 0, none⟩)] w fun e w' => OutN w w' e (pnd l P) ∧ Bel w w' := by
  have HA := Lib.hid q
  obtain ⟨c0, c1⟩ := q.head
  have lZ := q.lt.1
  have hP := q.hP
  have K1 : Hid (∀ (i : Nat) w', Bel w w' → Calls Tryz.prog 19 #[.pointer (some ⟨Z, 0, none⟩), .int .i64 i] w' fun e w2 => e = .returned (ansT (fnd l (i : Nat))) ∧ Bel w' w2) := Lib.hid (fun i w' hb => get_any (i : Nat) w' (q.bel hb))
  clear q
  go_enter Tryz.func47, Tryz.ntmps47
  go_wp2
  clear c0 c1
  go_loopw [3, 4, 5, 6, 12] (fun o _ _ _ v wr => ∃ m : Nat, v = .int .i64 m ∧ m ≤ P ∧ OwnT wr w.heap.size o (pnd l m) ∧ Bel w wr) (fun _ _ _ _ v _ => P - (intOf v).toNat)
  case atStart => exact ⟨0, rfl, by omega, OwnT.nil _ _, Bel.refl _⟩
  case round =>
    obtain ⟨m, rfl, hm, ho, hb⟩ := hrel
    have HO := Lib.hid ho
    have HB := Lib.hid hb
    clear ho hb
    have HTL := Lib.hid (pnd_len l m)
    by_cases hlt : m < P
    · have KS := Lib.hid (K1.out m wr HB.out)
      cases hf : fnd l (m : Nat) with
      | none =>
        rw [hf] at KS
        have HT := Lib.hid (pnd_none hf)
        clear hf
        unfold ansT at KS
        go_wp2_with fail
        with_reducible refine KS.out.mono ?_
        rintro e w1 ⟨rfl, hb1⟩
        have HO1 := Lib.hid (HO.out.bel (hb1.alloc #[.int .u64 0, .int .u64 0, .int .i64 0] 37))
        have HB1 := Lib.hid (HB.out.trans (hb1.alloc #[.int .u64 0, .int .u64 0, .int .i64 0] 37))
        clear hb1
        go_wp2
        go_roundw
        case rel => exact ⟨m + 1, by go_num, by omega, by rw [HT.out]; exact HO1.out, HB1.out⟩
        case measure => simp [intOf]; omega
      | some x =>
        rw [hf] at KS
        have HT := Lib.hid (pnd_some hf)
        clear hf
        unfold ansT at KS
        simp only at KS
        go_wp2_with fail
        with_reducible refine KS.out.mono ?_
        rintro e w1 ⟨rfl, hb1⟩
        have HO1 := Lib.hid (HO.out.bel (hb1.alloc #[.int .u64 x.a, .int .u64 x.s, .int .i64 x.p] 37))
        have HH : Hid (Has ((w1.alloc (.cells #[.int .u64 x.a, .int .u64 x.s, .int .i64 x.p] 37)).alloc (.cells #[.int .u64 x.a, .int .u64 x.s, .int .i64 x.p] 37)) (some ⟨w1.heap.size + 1, 0, none⟩) [x]) := Lib.hid (by have := has_one (w1.alloc (.cells #[.int .u64 x.a, .int .u64 x.s, .int .i64 x.p] 37)) x; rw [World.size_alloc] at this; exact this)
        have HZ : Hid (w.heap.size ≤ w1.heap.size) := Lib.hid (HB.out.trans hb1).size
        have HB1 := Lib.hid (HB.out.trans (hb1.alloc #[.int .u64 x.a, .int .u64 x.s, .int .i64 x.p] 37))
        clear hb1
        go_wp2_with (at_builtin; refine wpList_append_any rfl (.tmp 22) (.tmp 24) rfl w.heap.size _ (pnd l m) rfl (HO1.out.bel ((Bel.refl _).alloc _ _)) _ _ _ [x] rfl rfl HH.out (by have := HTL.out; omega) (by have := HZ.out; simp; omega) ?_)
        intro v' w2 hown hgrow hnil
        have HO2 : Hid (OwnT w2 w.heap.size v' (pnd l (m + 1))) := Lib.hid (by rw [HT.out]; exact hown)
        have HB2 : Hid (Bel w w2) := Lib.hid ((HB1.out.alloc _ _).grown hgrow (fun k hk => .inr (HO1.out.lt k hk).1))
        clear hown hgrow hnil
        go_wp2
        go_roundw
        case rel => exact ⟨m + 1, by go_num, by omega, HO2.out, HB2.out⟩
        case measure => simp [intOf]; omega
    · obtain rfl : m = P := by omega
      go_wp2
      go_ret
      exact ⟨HO.out.outN (w := w) (Nat.le_refl _), HB.out⟩
theorem count_any (w : World) (q : Qp w Z B G R P L lo ls r l) :
    Calls Tryz.prog 18 #[.pointer (some ⟨Z, 0, none⟩)] w fun e w' => e = .returned (.int .i64 l.length) ∧ Bel w w' := by
  have K1 := Lib.hid (pending_any w q)
  have HE := Lib.hid q.is.pnd_perm.length_eq
  have lZ := q.lt.1
  clear q
  go_enter Tryz.func18, Tryz.ntmps18
  go_wp2_with fail
  with_reducible refine K1.out.mono ?_
  rintro e w1 ⟨⟨p, c, rfl, hc, hl⟩, hb⟩
  rw [HE.out] at *
  clear hl
  go_wp2
  go_ret
  exact ⟨rfl, hb⟩
theorem all_any (w : World) (q : Qp w Z B G R P L lo ls r l) :
    Calls Tryz.prog 24 #[.pointer (some ⟨Z, 0, none⟩)] w fun e w' => OutN w w' e l ∧ Bel w w' := by
  have K1 := Lib.hid (pending_any w q)
  have hp := q.is.pnd_perm
  have HE := Lib.hid hp.length_eq
  have HS : Hid (srt (pnd l P) = l) := Lib.hid (srt_of q.is.so hp.symm).symm
  have hlen : l.length ≤ 1024 := Nat.le_trans q.is.len q.hP
  clear q hp
  go_enter Tryz.func24, Tryz.ntmps24
  go_wp2_with fail
  with_reducible refine K1.out.mono ?_
  rintro e w1 ⟨⟨p, c, rfl, hc, hl⟩, hb⟩
  have K2 := Lib.hid (sort_any p _ c (pnd l P) w1 rfl (by rw [HE.out]; omega) hl.has)
  have HB := Lib.hid hb
  clear hl hb
  go_wp2_with fail
  with_reducible refine K2.out.mono ?_
  rintro e w2 ⟨⟨p2, c2, rfl, hc2, hl2⟩, hb2⟩
  rw [HS.out] at *
  have HL2 : Hid (Lies (old w) w2 p2 (encs l)) := Lib.hid (hl2.mono (fun b _ e => Nat.lt_of_lt_of_le e HB.out.size))
  have HB2 := Lib.hid (HB.out.trans hb2)
  clear hl2 hb2
  go_wp2
  go_ret
  exact ⟨⟨p2, c2, rfl, hc2, HL2.out⟩, HB2.out⟩
end
end Go.Proofs.YtdoceldofkaapaaGreatDoor
namespace Go.Proofs.YtdoceldofkaapaaGreatDoor
open Go.RowKit
/-- A wheel at block Q, of the type t, its cells cs; its timers l at Z. -/
structure Qw (w : World) (Q Z B G R P L : Nat) (lo : T → Nat) (ls : Ls) (r : Nat → T) (t : TypeId) (cs : List Value) (l : List T) : Prop where
  hQ : w.heap[Q]? = some (.cells cs.toArray t (0, 0))
  ql : Qp w Z B G R P L lo ls r l
  hz : cs[0]? = some (.pointer (some ⟨Z, 0, none⟩))
  nt : t ≠ 99 ∧ t ≠ 148 ∧ t ≠ 145 ∧ t ≠ 37
section
variable {w w' : World} {Q Z B G R P L : Nat} {lo lo' : T → Nat} {ls ls' : Ls} {r r' : Nat → T} {t : TypeId} {cs cs' : List Value} {l l' : List T}
theorem Qw.ltQ (q : Qw w Q Z B G R P L lo ls r t cs l) : Q < w.heap.size := (Array.getElem?_eq_some_iff.1 q.hQ).1
theorem Qw.lt (q : Qw w Q Z B G R P L lo ls r t cs l) : Q < w.heap.size ∧ Z < w.heap.size ∧ B < w.heap.size ∧ G < w.heap.size ∧ R < w.heap.size := ⟨q.ltQ, q.ql.lt⟩
theorem Qw.ne (q : Qw w Q Z B G R P L lo ls r t cs l) : ¬ Q = Z ∧ ¬ Q = B ∧ ¬ Q = G ∧ ¬ Q = R := by
  obtain ⟨⟨g, q1, q2⟩, _⟩ := q.ql
  obtain ⟨n1, n2, n3, n4⟩ := q.nt
  exact ⟨ne_of_ty q.hQ q1.hZ n1, ne_of_ty q.hQ q1.ch.hB n2, ne_of_ty q.hQ q1.ch.hG n3, ne_of_ty q.hQ q1.hR n4⟩
theorem Qw.off {f : Nat → Prop} (q : Qw w Q Z B G R P L lo ls r t cs l) (k : Off f w w') (hq : ¬ f Q) (hz : ¬ f Z) (hb : ¬ f B) (hg : ¬ f G) (hr : ¬ f R) : Qw w' Q Z B G R P L lo ls r t cs l :=
  ⟨(k.block Q q.ltQ hq).trans q.hQ, q.ql.off k hz hb hg hr, q.hz, q.nt⟩
theorem Qw.bel (q : Qw w Q Z B G R P L lo ls r t cs l) (k : Bel w w') : Qw w' Q Z B G R P L lo ls r t cs l := q.off k (fun e => e) (fun e => e) (fun e => e) (fun e => e) (fun e => e)
theorem Qw.cell (q : Qw w Q Z B G R P L lo ls r t cs l) {i : Nat} {v : Value} (hv : cs[i]? = some v) : w.cell? ⟨Q, i, none⟩ = some v := by
  rw [cell_of_row w Q _ _ t (0, 0) q.hQ, List.getElem?_toArray]; exact hv
theorem Qw.froz (q : Qw w Q Z B G R P L lo ls r t cs l) (j : Nat) : w.frozen? ⟨Q, j, none⟩ = false := frozen_of_row w Q j _ t q.hQ
/-- Its timers have turned. -/
theorem Qw.put (q : Qw w Q Z B G R P L lo ls r t cs l) (k : Off (Fo2 G R) w w') (h : Qp w' Z B G R P L lo' ls' r' l') : Qw w' Q Z B G R P L lo' ls' r' t cs l' :=
  ⟨(k.block Q q.ltQ (fun e => by obtain ⟨_, _, n3, n4⟩ := q.ne; rcases e with e | e; exact n3 e; exact n4 e)).trans q.hQ, h, q.hz, q.nt⟩
/-- One of its own cells is another one. -/
theorem Qw.own (q : Qw w Q Z B G R P L lo ls r t cs l) {i : Nat} {v : Value} (hi : i ≠ 0) (he : cs.set i v = cs') : Qw (w.setCell ⟨Q, i, none⟩ v) Q Z B G R P L lo ls r t cs' l ∧ Off (Only Q) w (w.setCell ⟨Q, i, none⟩ v) := by
  have o1 : Off (Only Q) w (w.setCell ⟨Q, i, none⟩ v) := Off.setCell (Off.refl (Only Q) w) (p := ⟨Q, i, none⟩) (.inl rfl) _
  obtain ⟨n1, n2, n3, n4⟩ := q.ne
  refine ⟨⟨?_, q.ql.off o1 (fun e => n1 e.symm) (fun e => n2 e.symm) (fun e => n3 e.symm) (fun e => n4 e.symm), ?_, q.nt⟩, o1⟩
  · have e := heap_setCell_same w Q i cs.toArray t v q.hQ
    rw [List.setIfInBounds_toArray, he] at e
    exact e
  · rw [← he, List.getElem?_set_ne (fun e => hi e)]; exact q.hz
theorem Qw.other (q : Qw w Q Z B G R P L lo ls r t cs l) (he : ∀ x ∈ l, lo' x = lo x) : Qw w Q Z B G R P L lo' ls r t cs l :=
  ⟨q.hQ, ⟨q.ql.ex, q.ql.is.other he, q.ql.hP, q.ql.hL⟩, q.hz, q.nt⟩
end
/-- What a call may turn: the wheel's own block, the lists' ring, the row of timers. -/
def Fo (Q G R : Nat) : Nat → Prop := fun k => k = Q ∨ k = G ∨ k = R
/-- The blocks of a wheel. -/
def Fo5 (Q Z B G R : Nat) : Nat → Prop := fun k => k = Q ∨ k = Z ∨ k = B ∨ k = G ∨ k = R
theorem Off.foG {G R Q : Nat} {a b : World} (h : Off (Fo2 G R) a b) : Off (Fo Q G R) a b := h.mono (fun _ _ e => .inr e)
theorem Off.foQ {G R Q : Nat} {a b : World} (h : Off (Only Q) a b) : Off (Fo Q G R) a b := h.mono (fun _ _ e => .inl e)
/-- What else holds of a wheel. -/
structure Rest (w : World) (Q Z B G R b : Nat) (s : Int) (l : List T) : Prop where
  hb : 1 ≤ b ∧ b ≤ 6
  ts : Tk s
  tl : ∀ t ∈ l, Tk t.a
  tab : Bm.Tab w
  zs : 0 < Q ∧ 0 < Z ∧ 0 < B ∧ 0 < G ∧ 0 < R
section
variable {w w' : World} {Q Z B G R b : Nat} {s : Int} {l m : List T}
theorem Rest.off {f : Nat → Prop} (h : Rest w Q Z B G R b s l) (k : Off f w w') (h0 : ¬ f 0) : Rest w' Q Z B G R b s l :=
  ⟨h.hb, h.ts, h.tl, fun j hj => k.cell (p := ⟨0, j, none⟩) h0 (h.tab j hj), h.zs⟩
theorem Rest.sub (h : Rest w Q Z B G R b s l) (hm : ∀ t ∈ m, t ∈ l) : Rest w Q Z B G R b s m :=
  ⟨h.hb, h.ts, fun t ht => h.tl t (hm t ht), h.tab, h.zs⟩
theorem Rest.fo0 (h : Rest w Q Z B G R b s l) : ¬ Fo Q G R 0 := fun e => by obtain ⟨z1, z2, z3, z4, z5⟩ := h.zs; rcases e with e | e | e <;> omega
theorem Rest.fo2 (h : Rest w Q Z B G R b s l) : ¬ Fo2 G R 0 := fun e => h.fo0 (.inr e)
theorem Rest.only (h : Rest w Q Z B G R b s l) : ¬ Only Q 0 := fun e => h.fo0 (.inl e)
end
end Go.Proofs.YtdoceldofkaapaaGreatDoor
namespace Go.Proofs.YtdoceldofkaapaaGreatDoor
theorem perm_two {l a b : List T} {p q r : T → Bool} (h : ∀ x ∈ l, r x = (p x || q x)) (hd : ∀ x ∈ l, ¬ (p x = true ∧ q x = true)) (ha : a.Perm (l.filter p)) (hb : b.Perm (l.filter q)) : (a ++ b).Perm (l.filter r) := by
  refine (ha.append hb).trans ?_
  clear ha hb
  induction l with
  | nil => simp
  | cons x t ih =>
    have ih := ih (fun y hy => h y (List.mem_cons_of_mem _ hy)) (fun y hy => hd y (List.mem_cons_of_mem _ hy))
    have hx := h x (List.mem_cons_self ..)
    have hdx := hd x (List.mem_cons_self ..)
    cases hp : p x with
    | true =>
      have hq : q x = false := by
        cases hq : q x with
        | false => rfl
        | true => exact absurd ⟨hp, hq⟩ hdx
      rw [List.filter_cons_of_pos hp, List.filter_cons_of_neg (by simp [hq]), List.filter_cons_of_pos (by simp [hx, hp])]
      exact List.Perm.cons _ ih
    | false =>
      cases hq : q x with
      | true =>
        rw [List.filter_cons_of_neg (by simp [hp]), List.filter_cons_of_pos hq, List.filter_cons_of_pos (by simp [hx, hq])]
        exact List.perm_middle.trans (List.Perm.cons _ ih)
      | false =>
        rw [List.filter_cons_of_neg (by simp [hp]), List.filter_cons_of_neg (by simp [hq]), List.filter_cons_of_neg (by simp [hx, hp, hq])]
        exact ih
/-- What is due in a list, and what is left. -/
def dueL (lo : T → Nat) (now : Int) (t : Nat) (l : List T) : List T := l.filter fun y => decide (lo y = t) && decide (y.a ≤ now)
def leftL (lo : T → Nat) (now : Int) (t : Nat) (l : List T) : List T := l.filter fun y => !(decide (lo y = t) && decide (y.a ≤ now))
/-- Behind the lists V, that were emptied: what is left, what was due there, and what was not. -/
def vL (lo : T → Nat) (V : List Nat) (l : List T) : List T := l.filter fun y => !V.contains (lo y)
def vD (lo : T → Nat) (now : Int) (V : List Nat) (l : List T) : List T := l.filter fun y => V.contains (lo y) && decide (y.a ≤ now)
def vC (lo : T → Nat) (now : Int) (V : List Nat) (l : List T) : List T := l.filter fun y => V.contains (lo y) && !decide (y.a ≤ now)
section
variable {lo : T → Nat} {now top : Int} {V : List Nat} {l : List T} {t : Nat}
theorem vL_nil : vL lo [] l = l := by unfold vL; exact List.filter_eq_self.2 (fun y _ => by simp)
theorem vD_nil : vD lo now [] l = [] := by unfold vD; exact List.filter_eq_nil_iff.2 (fun y _ => by simp)
theorem vC_nil : vC lo now [] l = [] := by unfold vC; exact List.filter_eq_nil_iff.2 (fun y _ => by simp)
theorem vL_next (htop : ∀ y ∈ l, y.a ≤ top) : leftL lo top t (leftL lo now t (vL lo V l)) = vL lo (V ++ [t]) l := by
  unfold leftL vL
  rw [List.filter_filter, List.filter_filter]
  apply List.filter_congr
  intro y hy
  have h1 := htop y hy
  by_cases h : lo y = t <;> by_cases h2 : y.a ≤ now <;> simp [h, h1, h2] <;> (cases hc : decide (lo y ∈ V) <;> simp_all)
theorem vD_next (ht : t ∉ V) {acc d : List T} (ha : acc.Perm (vD lo now V l)) (hd : d.Perm (dueL lo now t (vL lo V l))) : (acc ++ d).Perm (vD lo now (V ++ [t]) l) := by
  unfold dueL vL at hd
  unfold vD at *
  rw [List.filter_filter] at hd
  refine perm_two (fun y hy => ?_) (fun y hy => ?_) ha hd
  · by_cases h : lo y = t
    · subst h; simp [ht]
    · by_cases h3 : lo y ∈ V <;> simp [h, h3]
  · rintro ⟨h1, h2⟩
    simp at h1 h2
    exact h2.2 h1.1
theorem vC_next (ht : t ∉ V) (htop : ∀ y ∈ l, y.a ≤ top) {acc d : List T} (ha : acc.Perm (vC lo now V l)) (hd : d.Perm (dueL lo top t (leftL lo now t (vL lo V l)))) : (acc ++ d).Perm (vC lo now (V ++ [t]) l) := by
  unfold dueL leftL vL at hd
  unfold vC at *
  rw [List.filter_filter, List.filter_filter] at hd
  refine perm_two (fun y hy => ?_) (fun y hy => ?_) ha hd
  · have h1 := htop y hy
    by_cases h : lo y = t
    · subst h; by_cases h2 : y.a ≤ now <;> simp [ht, h1, h2]
    · by_cases h3 : lo y ∈ V <;> by_cases h2 : y.a ≤ now <;> simp [h, h2, h3]
  · rintro ⟨h1, h2⟩
    simp at h1 h2
    first | exact h2.2 h1.1 | exact h2.2.2 h1.1
end
/-- A timer with a lesser tick is not behind. -/
theorem lt_less {x y : T} (h : x.a < y.a) : lt y x = false := by
  rw [lt_no]; unfold Lt; omega
/-- Those that turn are put in again, one by one. -/
theorem puts_so : ∀ (ts : List T) {m : List T}, So m → So (ts.foldl put m) ∧ (ts.foldl put m).Perm (m ++ ts)
  | [], m, h => ⟨h, by simp⟩
  | t :: r, m, h => by
    obtain ⟨h1, h2⟩ := puts_so r (put_so h t)
    refine ⟨h1, h2.trans ?_⟩
    exact (List.Perm.append_right r (put_perm m t)).trans (by simpa using (List.perm_middle (a := t) (l₁ := m) (l₂ := r)).symm)
theorem due_ends {l m cV fs : List T} {now : Int} (hl : So l) (hm : So m) (h : ((m ++ cV) ++ fs).Perm (due l now false)) : (cV ++ fs).foldl put m = due l now false := by
  obtain ⟨h1, h2⟩ := puts_so (cV ++ fs) hm
  exact h1.unique (hl.filter _) (h2.trans (by rw [← List.append_assoc]; exact h))
end Go.Proofs.YtdoceldofkaapaaGreatDoor
