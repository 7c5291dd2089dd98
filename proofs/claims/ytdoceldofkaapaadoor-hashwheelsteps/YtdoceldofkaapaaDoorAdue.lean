/-
  Contract of a wheel's Due.
-/
import Derived.Test.YtdoceldofkaapaaDoorXaj
import Derived.Test.YtdoceldofkaapaaDoorAiv
import Derived.Test.YtdoceldofkaapaaDoorXak
import Derived.Deep.Cut
import Derived.Stop.RegionWithIn
set_option linter.unusedVariables false
set_option linter.unusedSimpArgs false
namespace Go.Proofs.YtdoceldofkaapaaDoor.Ha
open Go.RowKit Go.Shelf
attribute [local go_sem] Oper.semAt_some
section
variable {Q Z B G R P b : Nat} {s k : Int} {l : List T}
set_option maxRecDepth 100000 in
set_option maxHeartbeats 4000000 in
theorem due_any (now : Int) (w : World) (q : Wh w Q Z B G R P b s k l) (hnow : Tk now) :
    Calls Tryd.prog 11 #[.pointer (some ⟨Q, 0, none⟩), .int .u64 now] w fun e w' => OutN w w' e (due l now true) ∧ Wh w' Q Z B G R P b (max s now) (lks (slo b) s now l) (due l now false) ∧ Off (Fo Q G R) w w' := by
  obtain ⟨h1, h2⟩ := slo_le q.re.hb.2
  have hLT := q.lt
  have lQ := hLT.1
  have hts := q.re.ts
  have hlnd : l.Nodup := by obtain ⟨⟨ls, r, F, q1, q2⟩, q3⟩ := q; exact q1.ql.is.lnd
  have HV0 : Hid (vsL (slo b) s now [] l = l) := Lib.hid vsL_nil
  have HB0 : Hid (Bel w ((w.alloc (.cells #[.pointer (some ⟨Q, 0, none⟩)] 25)).alloc (.cells #[.int .u64 now] 22))) := Lib.hid (((Bel.refl _).alloc _ _).alloc _ _)
  have HC0 : Hid (((w.alloc (.cells #[.pointer (some ⟨Q, 0, none⟩)] 25)).alloc (.cells #[.int .u64 now] 22)).heap[w.heap.size]? = some (.cells #[.pointer (some ⟨Q, 0, none⟩)] 25 (0, 0))) := Lib.hid (by rw [Below.heap_alloc _ _ _ (by simp), heap_alloc_new])
  have HC1 : Hid (((w.alloc (.cells #[.pointer (some ⟨Q, 0, none⟩)] 25)).alloc (.cells #[.int .u64 now] 22)).heap[w.heap.size + 1]? = some (.cells #[.int .u64 now] 22 (0, 0))) := Lib.hid (by
    have := heap_alloc_new (w.alloc (.cells #[.pointer (some ⟨Q, 0, none⟩)] 25)) (.cells #[.int .u64 now] 22)
    rw [World.size_alloc] at this; exact this)
  have HQ := Lib.hid q
  have KR : Hid (∀ w', Bel w w' → Calls Tryd.prog 26 #[.pointer (some ⟨Q, 0, none⟩)] w' fun e w2 => e = .returned (.int .i64 (slo b : Nat)) ∧ w' = w2) := Lib.hid (fun w' hb => ready_any Q (slo b) w' (q.bel hb).cell.1)
  have KC : Hid (∀ w' t m k', Wh w' Q Z B G R P b s k' m → t < slo b + 1 → Calls Tryd.prog 25 #[.pointer (some ⟨Q, 0, none⟩), .int .i64 (t : Nat), .int .u64 now] w' fun e w2 => (∃ d p c, d.Perm (dueIn (slo b) s now t m) ∧ e = .returned (.slice p d.length c) ∧ OwnT w2 w'.heap.size (.slice p d.length c) d) ∧ Wh w2 Q Z B G R P b s k' (leftIn (slo b) s now t m) ∧ Off (Fo Q G R) w' w2) :=
    Lib.hid (fun w' t m k' h ht => (cut_any now w' h ht).mono fun e w2 ⟨⟨d, v, a1, a2, a3⟩, a4, a5⟩ => by
      obtain ⟨p, c, rfl, _⟩ := a3.slice
      exact ⟨⟨d, p, c, a1, a2, a3⟩, a4, a5⟩)
  obtain ⟨S, hS⟩ : ∃ S, slo b = S := ⟨_, rfl⟩
  rw [hS] at h1 h2 KR KC HV0
  have HSb := Lib.hid hS
  have HLN := Lib.hid hlnd
  clear q hS hlnd
  refine (callsIn_wide (n := 4)).1 ?_
  have hro : Fence.wide.round = none := rfl
  refine callsIn_of_wp_marks Tryd.func11 rfl trivial ?_ hro
  simp only [Tryd.ntmps11, List.size_toArray, List.length_cons, List.length_nil, Nat.reduceAdd, Nat.reduceSub, Array.replicate_succ, Array.replicate_zero, List.push_toArray, List.append_toArray, List.nil_append, List.cons_append]
  refine wpIn_wide.2 ?_
  go_upto_region 1 with (fail)
  generalize (w.alloc (.cells #[.pointer (some ⟨Q, 0, none⟩)] 25)).alloc (.cells #[.int .u64 now] 22) = W0 at *
  obtain ⟨bq, hbq⟩ : ∃ bq, w.heap.size = bq := ⟨_, rfl⟩
  obtain ⟨bn, hbn⟩ : ∃ bn, bq + 1 = bn := ⟨_, rfl⟩
  rw [hbq] at HC0 HC1 ⊢
  rw [hbn] at HC1 ⊢
  go_cut [5] from 8 (fun v wx => ∃ D, v = .pointer (some ⟨D, 0, none⟩) ∧ Ds w Q Z B G R P b s k l now [S] bq bn D wx)
  case first =>
    obtain ⟨c0, f0⟩ := box1 HC0.out
    obtain ⟨c1, f1⟩ := box1 HC1.out
    have z0 : bn < W0.heap.size := (Array.getElem?_eq_some_iff.1 HC1.out).1
    have HFL : Hid (∀ i, Fo Q G R i → i < w.heap.size) := Lib.hid (fun i e => fo_lt hLT e)
    have HZ0 : Hid (w.heap.size ≤ W0.heap.size) := Lib.hid HB0.out.size
    have HZQ : Hid (bq < W0.heap.size ∧ w.heap.size ≤ bq ∧ w.heap.size ≤ bn) := Lib.hid (by omega)
    have HSX : Hid (∀ w', Off (Fo Q G R) W0 w' → w'.cell? ⟨bq, 0, none⟩ = some (.pointer (some ⟨Q, 0, none⟩)) ∧ w'.cell? ⟨bn, 0, none⟩ = some (.int .u64 now)) := Lib.hid (fun w' ho => by
      obtain ⟨a1, a2, a3⟩ := HZQ.out
      exact ⟨ho.cell (p := ⟨bq, 0, none⟩) (fun e => by have := HFL.out _ e; simp at this; omega) c0, ho.cell (p := ⟨bn, 0, none⟩) (fun e => by have := HFL.out _ e; simp at this; omega) c1⟩)
    have HDA : Hid (∀ Wx w2, Wx.heap[W0.heap.size]? = some (.cells #[.slice none 0 0] 36 (0, 0)) → Off (Fo Q G R) Wx w2 → w2.cell? ⟨W0.heap.size, 0, none⟩ = some (.slice none 0 0) ∧ w2.frozen? ⟨W0.heap.size, 0, none⟩ = false) := Lib.hid (fun Wx w2 e ho =>
      box1 ((ho.block _ (Array.getElem?_eq_some_iff.1 e).1 (fun e2 => by have := HFL.out _ e2; have := HZ0.out; omega)).trans e))
    have HDB : Hid (∀ Wx w2, Wx.heap[W0.heap.size]? = some (.cells #[.slice none 0 0] 36 (0, 0)) → Off (Fo Q G R) Wx w2 → w2.heap[W0.heap.size]? = some (.cells #[.slice none 0 0] 36 (0, 0))) := Lib.hid (fun Wx w2 e ho =>
      (ho.block _ (Array.getElem?_eq_some_iff.1 e).1 (fun e2 => by have := HFL.out _ e2; have := HZ0.out; omega)).trans e)
    have HLT := Lib.hid hLT
    clear hLT
    go_wp2
    go_region_held3 (fun w' => w'.cell? ⟨bq, 0, none⟩ = some (.pointer (some ⟨Q, 0, none⟩)) ∧ w'.cell? ⟨bn, 0, none⟩ = some (.int .u64 now))
      (first | ((refine HSX.out _ ?_); (repeat' (first | exact Off.refl _ _ | refine Off.drew ?_ | refine Off.alloc ?_ _ _ | refine Off.trans ?_ ho2 (fun _ e => .inl e) | refine Off.setCell ?_ (.inr (by first | exact Nat.le_refl _ | (have h9 := ho2.size; simp at h9 ⊢; omega))) _))))
      (first
        | (go_at_call 26; (with_reducible refine (KR.out _ (by repeat' (first | exact HB0.out | refine Bel.drew ?_ | refine Bel.alloc ?_ _ _))).mono ?_); rintro e w1 ⟨rfl, rfl⟩)
        | (go_at_call 25; (with_reducible refine (KC.out _ S _ _ (HQ.out.bel (by repeat' (first | exact HB0.out | refine Bel.drew ?_ | refine Bel.alloc ?_ _ _))) (Nat.lt_succ_self S)).mono ?_); rintro e w2 ⟨⟨d, p, c, hd, rfl, hown⟩, hq2, ho2⟩; have hcD := (HDA.out _ _ (by exact heap_alloc_new _ _) ho2).1; have hfD := (HDA.out _ _ (by exact heap_alloc_new _ _) ho2).2)
        | (go_at_call 25; (with_reducible refine (KC.out _ S _ _ (HQ.out.bel (by repeat' (first | exact HB0.out | refine Bel.drew ?_ | refine Bel.alloc ?_ _ _))) (Nat.lt_succ_self S)).mono ?_); rintro e w2 ⟨⟨d, p, c, hd, rfl, hown⟩, hq2, ho2⟩))
    all_goals
      go_wp2_with fail
      go_meet
      case rel =>
        obtain rfl := HSb.out
        obtain ⟨z1, z2, z3⟩ := HZQ.out
        first
        | exact ⟨_, rfl, ds_first HB0.out HC0.out HC1.out ⟨z2, z3⟩ HLT.out HLN.out (Bel.refl _).drew ho2 hd hown hq2 ((Bel.refl w2).alloc _ _) (fun _ e => e.elim) (by have := ho2.size; simp at this; omega) (.inr (Nat.le_refl _)) (heap_alloc_new _ _)⟩
        | exact ⟨_, rfl, ds_first HB0.out HC0.out HC1.out ⟨z2, z3⟩ HLT.out HLN.out ((Bel.refl _).alloc _ _).drew ho2 hd hown hq2 (Off.setCell (Off.refl (fun k => k = W0.heap.size) w2) (p := ⟨W0.heap.size, 0, none⟩) (.inl rfl) _) (fun _ e => e) (Nat.le_refl _) (.inl (by simp)) (heap_setCell_same _ _ 0 _ 36 _ (HDB.out _ _ (by exact heap_alloc_new _ _) ho2))⟩
  case rest =>
    obtain ⟨D, rfl, hds⟩ := hcut
    have hSb := HSb.out
    clear HSb
    subst hSb
    have HD1 := Lib.hid (hds.looked 0)
    obtain ⟨c0, f0⟩ := box1 hds.cq
    obtain ⟨w2, w3, w8, wf⟩ := hds.wh.cell
    have f8 := wf 7
    have lq : Q < wc.heap.size := hds.wh.lt.1
    have lbq : bq < wc.heap.size := (Array.getElem?_eq_some_iff.1 hds.cq).1
    have nbq : ¬ bq = Q := by have := hds.ge.1; have := hds.lw.1; omega
    have nqb : ¬ Q = bq := by have := hds.ge.1; have := hds.lw.1; omega
    clear hds wf HB0 HC0 HC1 KR
    go_upto_region 3 with (fail)
    generalize wc.setCell ⟨Q, 7, none⟩ (.int .i64 0) = W1 at *
    clear c0 f0 w2 w3 w8 f8 lq lbq
    obtain ⟨c0, f0⟩ := box1 HD1.out.cq
    obtain ⟨c1, f1⟩ := box1 HD1.out.cn
    obtain ⟨w2, w3, w8, wf⟩ := HD1.out.wh.cell
    have KS := Lib.hid (sub_any now s ⟨hnow.1, hnow.2⟩ ⟨hts.1, hts.2⟩)
    have lq : Q < W1.heap.size := HD1.out.wh.lt.1
    have hwS : IntKind.u64.wrap ((slo b : Nat) : Int) = (slo b : Nat) := by rw [IntKind.wrap_u64]; omega
    have hgap : 0 ≤ gap now s ∧ gap now s ≤ 18446744073709551615 := by have h5 := hnow.1; have h6 := hnow.2; have h7 := hts.1; unfold gap; split <;> omega
    have HSX : Hid (∀ w', Bel W1 w' → Bel W1 w' ∧ w'.cell? ⟨bq, 0, none⟩ = some (.pointer (some ⟨Q, 0, none⟩)) ∧ w'.cell? ⟨bn, 0, none⟩ = some (.int .u64 now) ∧ w'.cell? ⟨Q, 1, none⟩ = some (.int .i64 (slo b : Nat)) ∧ w'.cell? ⟨Q, 2, none⟩ = some (.int .u64 s)) := Lib.hid (fun w' hb => ⟨hb, hb.cell c0, hb.cell c1, hb.cell w2, hb.cell w3⟩)
    clear wf
    generalize hg : gap now s = gp at *
    have HG := Lib.hid hg
    clear hg
    go_wp2
    go_region_held3 (fun w' => Bel W1 w' ∧ w'.cell? ⟨bq, 0, none⟩ = some (.pointer (some ⟨Q, 0, none⟩)) ∧ w'.cell? ⟨bn, 0, none⟩ = some (.int .u64 now) ∧ w'.cell? ⟨Q, 1, none⟩ = some (.int .i64 (slo b : Nat)) ∧ w'.cell? ⟨Q, 2, none⟩ = some (.int .u64 s))
      (first | exact HSX.out _ (Bel.refl _).drew | (with_reducible assumption))
      (first | (go_at_call 27; (with_reducible refine (KS.out _).mono ?_); rintro e w9 ⟨rfl, rfl⟩))
    have HDs2 := Lib.hid (HD1.out.bel (Bel.refl W1).drew)
    generalize W1.drew = W2 at *
    clear KS HSX c0 c1 w2 w3 w8 f0 f1 lq HD1
    obtain ⟨⟨ls, r, F0, q1, q2⟩, q3⟩ := HQ.out
    have HFF : Hid (∀ i, Bm.tb F0 i = true ↔ i < slo b ∧ ∃ x ∈ l, lof (slo b) s x = i) := Lib.hid (fun i => q2.iff q1.ql.is i)
    have HYL : Hid ((yss F0 (slo b) (fs (slo b) s) (nTk (slo b) s now)).length = lks (slo b) s now l) := Lib.hid (visited_len q2 q1.ql.is (by omega) hts q3.tl)
    have HDE : Hid (vsL (slo b) s now (slo b :: yss F0 (slo b) (fs (slo b) s) (nTk (slo b) s now)) l = due l now false ∧ vsA (slo b) s now (slo b :: yss F0 (slo b) (fs (slo b) s) (nTk (slo b) s now)) l = due l now true) := Lib.hid (due_end q2 q1.ql.is (by omega) hts q3.tl)
    have HSO : Hid (So l) := Lib.hid q1.ql.is.so
    have hf := fs_lt (S := slo b) (by omega) s
    have HND : Hid ((yss F0 (slo b) (fs (slo b) s) (nTk (slo b) s now)).Nodup) := Lib.hid (yss_nodup hf nTk_le)
    have HYF : Hid (∀ y ∈ yss F0 (slo b) (fs (slo b) s) (nTk (slo b) s now), Bm.tb F0 y = true) := Lib.hid (fun y hy => ((mem_yss q2.hz hf nTk_le).1 hy).1)
    have HYS : Hid (∀ y ∈ yss F0 (slo b) (fs (slo b) s) (nTk (slo b) s now), y < slo b) := Lib.hid (fun y hy => q2.hz y (HYF.out y hy))
    have HFE : Hid (∀ m Bq Bn w, 1 ≤ m → Feeds Fence.wide m Tryd.prog 41 #[.pointer (some ⟨Bq, 0, none⟩), .pointer (some ⟨Bn, 0, none⟩)] (fun x => #[Value.int .i64 (x : Nat)]) (yss F0 (slo b) (fs (slo b) s) (nTk (slo b) s now)) (Ms Bq Bn Q (slo b) (nTk (slo b) s now) s F0 (yss F0 (slo b) (fs (slo b) s) (nTk (slo b) s now))) w) :=
      Lib.hid (fun m Bq Bn w hm => slots_feeds m hm Bq Bn Q (slo b) (nTk (slo b) s now) s F0 (by omega) (by omega) nTk_le hts q2.hz w)
    have hnl := nTk_le (S := slo b) (s := s) (now := now)
    have hmin : min gp ((slo b : Nat) : Int) = ((nTk (slo b) s now : Nat) : Int) := by have h5 := hgap.1; unfold nTk; rw [HG.out]; omega
    have hs256 : slo b ≤ 256 := by omega
    rw [hmin]
    have HL1 : Hid (l.length ≤ 1024) := Lib.hid (Nat.le_trans q1.ql.is.len q1.ql.hP)
    have HYB : Hid ((yss F0 (slo b) (fs (slo b) s) (nTk (slo b) s now)).length ≤ 256) := Lib.hid (Nat.le_trans (nodup_len (slo b) _ HND.out HYS.out) hs256)
    clear q1 q2 q3 ls r HG hmin hgap hf
    generalize nTk (slo b) s now = n at *
    generalize yss F0 (slo b) (fs (slo b) s) n = ys at *
    obtain ⟨c0, f0⟩ := box1 HDs2.out.cq
    have hn64 : IntKind.i64.wrap (n : Int) = n := by rw [IntKind.wrap_i64]; omega
    have KN := Lib.hid (slots_new Q n W2)
    go_wp2_with fail
    with_reducible refine KN.out.mono ?_
    rintro e W4 ⟨Bq, Bn, rfl, hbx, hbm, hb4, hgx, hgm⟩
    have hD2 := HDs2.out
    obtain ⟨g1, g2, g3⟩ := hD2.ge
    have hsz := hD2.off.size
    have HI0 : Hid (Iv w Q Z B G R P b s l now bq bn D Bq Bn n ys [] W4) := Lib.hid ⟨List.nil_prefix, by simpa using hD2.bel hb4, hbx, hbm, by omega, by omega⟩
    have HDl : Hid (D < W4.heap.size ∧ w.heap.size ≤ W4.heap.size) := Lib.hid (by
      obtain ⟨v, d, c1, _⟩ := (hD2.bel hb4).du
      have h5 := (Array.getElem?_eq_some_iff.1 c1).1
      have := hb4.size
      exact ⟨h5, by omega⟩)
    clear hD2 hbx hbm hb4 hgx hgm KN c0 f0
    go_wp2
    refine (wpIn_wide (n := 4)).1 ?_
    refine range_any hro (by omega) (gf := 41) (lb := #[.pointer (some ⟨Bq, 0, none⟩), .pointer (some ⟨Bn, 0, none⟩)]) rfl trivial (enters_of Tryd.func41 (by kernel_rfl) rfl) (HFE.out 3 Bq Bn W4 (by omega)) (fun _ => rfl)
      (fun pre W => Iv w Q Z B G R P b s l now bq bn D Bq Bn n ys pre W) (fun _ _ _ => False)
      (fun pre A B' row h hg hr => h.own hg (fun r e => ⟨by have := (hr r e).1; have := HDl.out.2; omega, (hr r e).2⟩)) (fun _ _ _ _ _ h _ _ => h.elim)
      (fun pre V h => h.ms HND.out HFF.out HYF.out) HI0.out ?a1 ?assign ?body ?done ?stop
    case assign =>
      intro lp x V K hK
      gi_wp2
      exact hK
    case stop =>
      intro D' c pre V _ _ h _
      exact h.elim
    case body =>
      rintro lp pre x V hpx hI
      have HI := Lib.hid hI
      obtain ⟨v0, d, c1, c2, c3⟩ := hI.ds.du
      obtain ⟨p, c, rfl, hpc, _, hhas⟩ := c2.slice
      obtain ⟨a0, f0⟩ := box1 hI.ds.cq
      obtain ⟨a1, f1⟩ := box1 hI.ds.cn
      obtain ⟨a2, f2⟩ := box1 c1
      obtain ⟨_, _, w8, wf⟩ := hI.ds.wh.cell
      have f8 := wf 7
      have lw := hI.ds.lw
      have ge := hI.ds.ge
      have lq : Q < V.heap.size := hI.ds.wh.lt.1
      have hm : pre.length ≤ 256 := Nat.le_trans (hI.pf.length_le) HYB.out
      have hxS : x < slo b + 1 := by have := HYS.out x (hpx.subset (by simp)); omega
      have hlo := hI.ds.looked ((pre.length : Int) + 1)
      have HC1 := Lib.hid c1
      have HC2 := Lib.hid c2
      have HC3 := Lib.hid c3
      have hdl : d.length ≤ 1024 := by
        have h5 := c3.length_eq
        have h6 := List.length_filter_le (fun y => (slo b :: pre).contains (lof (slo b) s y) && decide (y.a ≤ now)) l
        have h7 := HL1.out
        unfold vsA at h5
        omega
      have hdlt : D < V.heap.size := (Array.getElem?_eq_some_iff.1 c1).1
      have lb0 : bq < V.heap.size := (Array.getElem?_eq_some_iff.1 hI.ds.cq).1
      have lb1 : bn < V.heap.size := (Array.getElem?_eq_some_iff.1 hI.ds.cn).1
      have nb0 : ¬ bq = Q := by omega
      have nb1 : ¬ bn = Q := by omega
      have nb2 : ¬ D = Q := by omega
      have nbq : ¬ Q = bq := by omega
      have nbn : ¬ Q = bn := by omega
      have nbd : ¬ Q = D := by omega
      have KX := Lib.hid (KC.out _ x _ _ (hlo.wh.bel (Bel.refl _).drew) hxS)
      have HDL : Hid (∀ d2 : List T, d2.Perm (dueIn (slo b) s now x (vsL (slo b) s now (slo b :: pre) l)) → d2.length ≤ 1024) := Lib.hid (fun d2 h => by
        have h5 := h.length_eq
        have h6 := List.length_filter_le (fun y => decide (lof (slo b) s y = x) && decide (y.a ≤ now)) (vsL (slo b) s now (slo b :: pre) l)
        have h7 := List.length_filter_le (fun y => !((slo b :: pre).contains (lof (slo b) s y) && decide (y.a ≤ now))) l
        have h8 := HL1.out
        unfold dueIn at h5
        unfold vsL at h5 h6
        omega)
      have HOW : Hid (∀ w2, Off (Fo Q G R) (V.setCell ⟨Q, 7, none⟩ (.int .i64 ((pre.length : Int) + 1))).drew w2 → OwnT w2 w.heap.size (.slice p d.length c) d ∧ (w2.cell? ⟨D, 0, none⟩ = some (.slice p d.length c) ∧ w2.frozen? ⟨D, 0, none⟩ = false) ∧ w2.cell? ⟨bq, 0, none⟩ = some (.pointer (some ⟨Q, 0, none⟩)) ∧ w2.cell? ⟨bn, 0, none⟩ = some (.int .u64 now) ∧ w.heap.size ≤ w2.heap.size ∧ w2.heap[D]? = some (.cells #[.slice p d.length c] 36 (0, 0))) := Lib.hid (fun w2 ho => by
        have o1 : Off (Only Q) V (V.setCell ⟨Q, 7, none⟩ (.int .i64 ((pre.length : Int) + 1))).drew := (Off.setCell (Off.refl (Only Q) V) (p := ⟨Q, 7, none⟩) (.inl rfl) _).drew
        have o2 : Off (Fo Q G R) V w2 := (o1.mono (fun _ _ e => .inl e)).then ho
        have ee : ∀ i, w.heap.size ≤ i → i < V.heap.size → w2.heap[i]? = V.heap[i]? := fun i h5 h6 => o2.block i h6 (fun e => by have := fo_lt lw e; omega)
        refine ⟨HC2.out.off2 o2 (fun i e e2 => by have := (HC2.out.lt i e).1; have := fo_lt lw e2; omega), box1 ((ee D ge.2.2 hdlt).trans HC1.out), (box1 ((ee bq ge.1 lb0).trans HI.out.ds.cq)).1, (box1 ((ee bn ge.2.1 lb1).trans HI.out.ds.cn)).1, ?_, (ee D ge.2.2 hdlt).trans HC1.out⟩
        have := HI.out.ds.off.size
        have := o2.size
        omega)
      have HGR : Hid (∀ w2 w3, World.grownBy w2 w3 (Value.slice p d.length c).ownBlock → w2.heap[D]? = some (.cells #[.slice p d.length c] 36 (0, 0)) → w3.heap[D]? = some (.cells #[.slice p d.length c] 36 (0, 0))) := Lib.hid (fun w2 w3 hg h5 => (hg.block D (Array.getElem?_eq_some_iff.1 h5).1 (fun e => by
        obtain ⟨cc, hc⟩ := HC2.out.cells e.symm
        exact ty_ne HC1.out hc (by decide) rfl)).trans h5)
      have HST := Lib.hid (fun (w2 w3 : World) (d2 : List T) (p' : Option Addr) (n' c' : Nat) h2 h3 h4 h5 h6 => HI.out.step (Wx := (V.setCell ⟨Q, 7, none⟩ (.int .i64 ((pre.length : Int) + 1))).drew) (w2 := w2) (w3 := w3) (d2 := d2) (p' := p') (n' := n') (c' := c') HND.out HLN.out HYS.out hpx HC1.out HC2.out HC3.out (Bel.refl _).drew h2 h3 h4 h5 h6 W4.heap.size ⟨HDl.out.1, HDl.out.2⟩)
      clear c1 c2 c3 wf hI hhas hlo hpx hxS
      gi_wp2
      generalize V.setCell ⟨Q, 7, none⟩ (.int .i64 ((pre.length : Int) + 1)) = V1 at *
      obtain ⟨_, ⟨b2, g2⟩, b0, b1, zz, _⟩ := HOW.out _ (Off.refl (Fo Q G R) V1.drew)
      have b0 : V1.cell? ⟨bq, 0, none⟩ = some (.pointer (some ⟨Q, 0, none⟩)) := b0
      have b1 : V1.cell? ⟨bn, 0, none⟩ = some (.int .u64 now) := b1
      have b2 : V1.cell? ⟨D, 0, none⟩ = some (.slice p d.length c) := b2
      clear a0 a1 a2 f0 f1 f2 f8 w8 lq hdlt lb0 lb1 g2 zz
      refine wpIn_region_any (by kernel_rfl) ?_
      have HFI : Hid (∀ (w2 w3 : World) (d2 : List T) (p' : Option Addr) (c' : Nat), Off (Fo Q G R) V1.drew w2 → d2.Perm (dueIn (slo b) s now x (vsL (slo b) s now (slo b :: pre) l)) → Wh w2 Q Z B G R P b s ((pre.length : Int) + 1) (leftIn (slo b) s now x (vsL (slo b) s now (slo b :: pre) l)) →
          OwnT w3 w.heap.size (.slice p' (d ++ d2).length c') (d ++ d2) → w2.grownBy w3 (Value.slice p d.length c).ownBlock → KeepsFrom W4.heap.size V (w3.setCell ⟨D, 0, none⟩ (.slice p' (d ++ d2).length c')) ∧ True ∧ Iv w Q Z B G R P b s l now bq bn D Bq Bn n ys (pre ++ [x]) (w3.setCell ⟨D, 0, none⟩ (.slice p' (d ++ d2).length c'))) :=
        Lib.hid (fun w2 w3 d2 p' c' h2 h3 h4 h5 h6 => ⟨(HST.out w2 w3 d2 p' _ c' h2 h3 h4 h5 h6).1, trivial, (HST.out w2 w3 d2 p' _ c' h2 h3 h4 h5 h6).2⟩)
      have HV1 : Hid (∀ w2, w2 = V1.drew → Off (Fo Q G R) V1.drew w2) := Lib.hid (fun w2 e => e ▸ Off.refl _ _)
      refine wpAnyIn_inv (fun listed a w2 => ∃ l0 l1 l2 l3 l4 l5 l6, listed = #[l0, l1, l2, l3, l4, l5, l6] ∧ a.tmps.size = 57 ∧
          (a.eval (.tmp 5) = .pointer (some ⟨D, 0, none⟩) ∧ a.eval (.tmp 2) = .pointer (some ⟨bq, 0, none⟩) ∧ a.eval (.tmp 7) = .int .i64 (x : Nat) ∧ a.eval (.tmp 3) = .pointer (some ⟨bn, 0, none⟩)) ∧
          (l0 = true → a.eval (.tmp 40) = .slice p d.length c) ∧ (l1 = true → a.eval (.tmp 41) = .pointer (some ⟨Q, 0, none⟩)) ∧ (l2 = true → a.eval (.tmp 42) = .int .i64 (x : Nat)) ∧ (l3 = true → a.eval (.tmp 43) = .int .u64 now) ∧
          ((l4 = false ∧ l5 = false ∧ l6 = false ∧ w2 = V1.drew) ∨
           (l1 = true ∧ l2 = true ∧ l3 = true ∧ l4 = true ∧ l5 = false ∧ l6 = false ∧ ∃ d2 p2 c2, a.eval (.tmp 44) = .slice p2 d2.length c2 ∧ d2.Perm (dueIn (slo b) s now x (vsL (slo b) s now (slo b :: pre) l)) ∧ Has w2 p2 d2 ∧ Wh w2 Q Z B G R P b s ((pre.length : Int) + 1) (leftIn (slo b) s now x (vsL (slo b) s now (slo b :: pre) l)) ∧ Off (Fo Q G R) V1.drew w2) ∨
           (l0 = true ∧ l1 = true ∧ l2 = true ∧ l3 = true ∧ l4 = true ∧ l5 = true ∧ l6 = false ∧ ∃ w1 d2 p3 c3, a.eval (.tmp 45) = .slice p3 (d ++ d2).length c3 ∧ d2.Perm (dueIn (slo b) s now x (vsL (slo b) s now (slo b :: pre) l)) ∧ Wh w1 Q Z B G R P b s ((pre.length : Int) + 1) (leftIn (slo b) s now x (vsL (slo b) s now (slo b :: pre) l)) ∧ Off (Fo Q G R) V1.drew w1 ∧ OwnT w2 w.heap.size (.slice p3 (d ++ d2).length c3) (d ++ d2) ∧ w1.grownBy w2 (Value.slice p d.length c).ownBlock ∧ w2.heap[D]? = some (.cells #[.slice p d.length c] 36 (0, 0))) ∨
           (l0 = true ∧ l1 = true ∧ l2 = true ∧ l3 = true ∧ l4 = true ∧ l5 = true ∧ l6 = true ∧ KeepsFrom W4.heap.size V w2 ∧ True ∧ Iv w Q Z B G R P b s l now bq bn D Bq Bn n ys (pre ++ [x]) w2))) ?sz ?step ?fin _ _ _ _ (by decide) ⟨false, false, false, false, false, false, false, rfl, rfl, ⟨rfl, rfl, rfl, rfl⟩, (fun e => by cases e), (fun e => by cases e), (fun e => by cases e), (fun e => by cases e), .inl ⟨rfl, rfl, rfl, rfl⟩⟩
      case sz =>
        rintro listed a w2 ⟨l0, l1, l2, l3, l4, l5, l6, rfl, _⟩
        rfl
      case fin =>
        rintro listed a w2 ⟨l0, l1, l2, l3, l4, l5, l6, rfl, h57, ⟨e5, e2, e7, e3⟩, i0, i1, i2, i3, hw⟩ hr
        obtain rfl : l0 = true := by
          cases l0 with
          | true => rfl
          | false => exact absurd rfl (ready_not (j := 0) hr rfl (by simp))
        obtain rfl : l1 = true := by
          cases l1 with
          | true => rfl
          | false => exact absurd rfl (ready_not (j := 1) hr rfl (by simp))
        obtain rfl : l2 = true := by
          cases l2 with
          | true => rfl
          | false => exact absurd rfl (ready_not (j := 2) hr rfl (by simp))
        obtain rfl : l3 = true := by
          cases l3 with
          | true => rfl
          | false => exact absurd rfl (ready_not (j := 3) hr rfl (by simp))
        obtain rfl : l4 = true := by
          cases l4 with
          | true => rfl
          | false => exact absurd rfl (ready_not (j := 4) hr rfl (by intro e he _; simp at he; rcases he with rfl | rfl | rfl <;> rfl))
        obtain rfl : l5 = true := by
          cases l5 with
          | true => rfl
          | false => exact absurd rfl (ready_not (j := 5) hr rfl (by intro e he _; simp at he; rcases he with rfl | rfl | rfl <;> rfl))
        obtain rfl : l6 = true := by
          cases l6 with
          | true => rfl
          | false => exact absurd rfl (ready_not (j := 6) hr rfl (by intro e he _; simp at he; rcases he with rfl | rfl | rfl | rfl | rfl | rfl | rfl | rfl <;> rfl))
        rcases hw with ⟨h, _⟩ | ⟨_, _, _, _, h, _⟩ | ⟨_, _, _, _, _, _, h, _⟩ | ⟨_, _, _, _, _, _, _, h⟩
        · cases h
        · cases h
        · cases h
        · exact h
      case step =>
        rintro listed a w2 i o ⟨l0, l1, l2, l3, l4, l5, l6, rfl, h57, ⟨e5, e2, e7, e3⟩, i0, i1, i2, i3, hw⟩ hl ho hafter K hK
        match i, hl, ho with
        | 0, hl, ho =>
          obtain rfl : l0 = false := hl
          simp at ho
          subst ho
          have hc : w2.cell? ⟨D, 0, none⟩ = some (.slice p d.length c) := by
            rcases hw with ⟨_, _, _, rfl⟩ | ⟨h1, h2, h3, _, _, _, d2, p2, c2, _, _, _, _, ho2⟩ | ⟨h1, h2, h3, h4, _⟩ | ⟨h1, h2, h3, h4, _⟩
            · exact b2
            · exact (HOW.out _ ho2).2.1.1
            · first | exact absurd h1 (by decide) | exact absurd h2 (by decide) | exact absurd h3 (by decide) | exact absurd h4 (by decide)
            · first | exact absurd h1 (by decide) | exact absurd h2 (by decide) | exact absurd h3 (by decide) | exact absurd h4 (by decide)
          rw [if_pos (by simp [Region.wanted])]
          refine ⟨by simp [Oper.about], ?_⟩
          rw [Oper.semAt_plain _ _ _ (by intro c hc; cases hc)]
          have hk := hK (a.put (some 40) (.slice p d.length c)) w2 ⟨true, l1, l2, l3, l4, l5, l6, rfl, by rw [put_size]; exact h57, ⟨(put_ne (by decide)).trans e5, (put_ne (by decide)).trans e2, (put_ne (by decide)).trans e7, (put_ne (by decide)).trans e3⟩, (fun _ => put_eq (by omega)), (fun e => (put_ne (by decide)).trans (i1 e)), (fun e => (put_ne (by decide)).trans (i2 e)), (fun e => (put_ne (by decide)).trans (i3 e)), (by
            rcases hw with ⟨h4, h5, h6, h7⟩ | ⟨h1, h2, h3, h4, h5, h6, d2, p2, c2, q1, q2⟩ | ⟨h1, h2, h3, h4, _⟩ | ⟨h1, h2, h3, h4, _⟩
            · exact .inl ⟨h4, h5, h6, h7⟩
            · exact .inr (.inl ⟨h1, h2, h3, h4, h5, h6, d2, p2, c2, (put_ne (by decide)).trans q1, q2⟩)
            · first | exact absurd h1 (by decide) | exact absurd h2 (by decide) | exact absurd h3 (by decide) | exact absurd h4 (by decide)
            · first | exact absurd h1 (by decide) | exact absurd h2 (by decide) | exact absurd h3 (by decide) | exact absurd h4 (by decide))⟩
          simp [go_sem] at e5
          simp [execOp, e5, go_sem, hc]
          exact hk
        | 1, hl, ho =>
          obtain rfl : l1 = false := hl
          simp at ho
          subst ho
          have hc : w2.cell? ⟨bq, 0, none⟩ = some (.pointer (some ⟨Q, 0, none⟩)) := by
            rcases hw with ⟨_, _, _, rfl⟩ | ⟨h1, h2, h3, _, _, _, d2, p2, c2, _, _, _, _, ho2⟩ | ⟨h1, h2, h3, h4, _⟩ | ⟨h1, h2, h3, h4, _⟩
            · exact b0
            · first | exact absurd h1 (by decide) | exact absurd h2 (by decide) | exact absurd h3 (by decide)
            · first | exact absurd h1 (by decide) | exact absurd h2 (by decide) | exact absurd h3 (by decide) | exact absurd h4 (by decide)
            · first | exact absurd h1 (by decide) | exact absurd h2 (by decide) | exact absurd h3 (by decide) | exact absurd h4 (by decide)
          rw [if_pos (by simp [Region.wanted])]
          refine ⟨by simp [Oper.about], ?_⟩
          rw [Oper.semAt_plain _ _ _ (by intro c hc; cases hc)]
          have hk := hK (a.put (some 41) (.pointer (some ⟨Q, 0, none⟩))) w2 ⟨l0, true, l2, l3, l4, l5, l6, rfl, by rw [put_size]; exact h57, ⟨(put_ne (by decide)).trans e5, (put_ne (by decide)).trans e2, (put_ne (by decide)).trans e7, (put_ne (by decide)).trans e3⟩, (fun e => (put_ne (by decide)).trans (i0 e)), (fun _ => put_eq (by omega)), (fun e => (put_ne (by decide)).trans (i2 e)), (fun e => (put_ne (by decide)).trans (i3 e)), (by
            rcases hw with ⟨h4, h5, h6, h7⟩ | ⟨h1, h2, h3, h4, h5, h6, d2, p2, c2, q1, q2⟩ | ⟨h1, h2, h3, h4, _⟩ | ⟨h1, h2, h3, h4, _⟩
            · exact .inl ⟨h4, h5, h6, h7⟩
            · first | exact absurd h1 (by decide) | exact absurd h2 (by decide) | exact absurd h3 (by decide)
            · first | exact absurd h1 (by decide) | exact absurd h2 (by decide) | exact absurd h3 (by decide) | exact absurd h4 (by decide)
            · first | exact absurd h1 (by decide) | exact absurd h2 (by decide) | exact absurd h3 (by decide) | exact absurd h4 (by decide))⟩
          simp [go_sem] at e2
          simp [execOp, e2, go_sem, hc]
          exact hk
        | 2, hl, ho =>
          obtain rfl : l2 = false := hl
          simp at ho
          subst ho
          rw [if_pos (by simp [Region.wanted])]
          refine ⟨by simp [Oper.about], ?_⟩
          rw [Oper.semAt_plain _ _ _ (by intro c hc; cases hc)]
          have hk := hK (a.put (some 42) (.int .i64 (x : Nat))) w2 ⟨l0, l1, true, l3, l4, l5, l6, rfl, by rw [put_size]; exact h57, ⟨(put_ne (by decide)).trans e5, (put_ne (by decide)).trans e2, (put_ne (by decide)).trans e7, (put_ne (by decide)).trans e3⟩, (fun e => (put_ne (by decide)).trans (i0 e)), (fun e => (put_ne (by decide)).trans (i1 e)), (fun _ => put_eq (by omega)), (fun e => (put_ne (by decide)).trans (i3 e)), (by
            rcases hw with ⟨h4, h5, h6, h7⟩ | ⟨h1, h2, h3, h4, h5, h6, d2, p2, c2, q1, q2⟩ | ⟨h1, h2, h3, h4, _⟩ | ⟨h1, h2, h3, h4, _⟩
            · exact .inl ⟨h4, h5, h6, h7⟩
            · first | exact absurd h1 (by decide) | exact absurd h2 (by decide) | exact absurd h3 (by decide)
            · first | exact absurd h1 (by decide) | exact absurd h2 (by decide) | exact absurd h3 (by decide) | exact absurd h4 (by decide)
            · first | exact absurd h1 (by decide) | exact absurd h2 (by decide) | exact absurd h3 (by decide) | exact absurd h4 (by decide))⟩
          simp [go_sem] at e7
          simp [execOp, e7, go_sem]
          exact hk
        | 3, hl, ho =>
          obtain rfl : l3 = false := hl
          simp at ho
          subst ho
          have hc : w2.cell? ⟨bn, 0, none⟩ = some (.int .u64 now) := by
            rcases hw with ⟨_, _, _, rfl⟩ | ⟨h1, h2, h3, _, _, _, d2, p2, c2, _, _, _, _, ho2⟩ | ⟨h1, h2, h3, h4, _⟩ | ⟨h1, h2, h3, h4, _⟩
            · exact b1
            · first | exact absurd h1 (by decide) | exact absurd h2 (by decide) | exact absurd h3 (by decide)
            · first | exact absurd h1 (by decide) | exact absurd h2 (by decide) | exact absurd h3 (by decide) | exact absurd h4 (by decide)
            · first | exact absurd h1 (by decide) | exact absurd h2 (by decide) | exact absurd h3 (by decide) | exact absurd h4 (by decide)
          rw [if_pos (by simp [Region.wanted])]
          refine ⟨by simp [Oper.about], ?_⟩
          rw [Oper.semAt_plain _ _ _ (by intro c hc; cases hc)]
          have hk := hK (a.put (some 43) (.int .u64 now)) w2 ⟨l0, l1, l2, true, l4, l5, l6, rfl, by rw [put_size]; exact h57, ⟨(put_ne (by decide)).trans e5, (put_ne (by decide)).trans e2, (put_ne (by decide)).trans e7, (put_ne (by decide)).trans e3⟩, (fun e => (put_ne (by decide)).trans (i0 e)), (fun e => (put_ne (by decide)).trans (i1 e)), (fun e => (put_ne (by decide)).trans (i2 e)), (fun _ => put_eq (by omega)), (by
            rcases hw with ⟨h4, h5, h6, h7⟩ | ⟨h1, h2, h3, h4, h5, h6, d2, p2, c2, q1, q2⟩ | ⟨h1, h2, h3, h4, _⟩ | ⟨h1, h2, h3, h4, _⟩
            · exact .inl ⟨h4, h5, h6, h7⟩
            · first | exact absurd h1 (by decide) | exact absurd h2 (by decide) | exact absurd h3 (by decide)
            · first | exact absurd h1 (by decide) | exact absurd h2 (by decide) | exact absurd h3 (by decide) | exact absurd h4 (by decide)
            · first | exact absurd h1 (by decide) | exact absurd h2 (by decide) | exact absurd h3 (by decide) | exact absurd h4 (by decide))⟩
          simp [go_sem] at e3
          simp [execOp, e3, go_sem, hc]
          exact hk
        | 4, hl, ho =>
          obtain rfl : l4 = false := hl
          simp at ho
          subst ho
          obtain rfl : l1 = true := hafter ⟨1, .data⟩ (by simp) rfl
          obtain rfl : l2 = true := hafter ⟨2, .data⟩ (by simp) rfl
          obtain rfl : l3 = true := hafter ⟨3, .data⟩ (by simp) rfl
          have e41 := i1 rfl
          have e42 := i2 rfl
          have e43 := i3 rfl
          rcases hw with ⟨_, h5, h6, rfl⟩ | ⟨_, _, _, h4, _⟩ | ⟨_, _, _, _, h4, _⟩ | ⟨_, _, _, _, h4, _⟩
          rotate_left
          · cases h4
          · cases h4
          · cases h4
          obtain rfl := h5
          obtain rfl := h6
          rw [if_pos (by simp [Region.wanted])]
          refine ⟨fun f' hf' => trivial, ?_⟩
          rw [Oper.semAt_plain _ _ _ (by intro c hc; cases hc)]
          simp [go_sem] at e41 e42 e43
          simp [execOp, e41, e42, e43, go_sem]
          refine (CallsIn.inRound (F := Fence.wide) (n := 1) lp (callsIn_wide.2 KX.out)).mono ?_
          rintro e w3 ⟨⟨d2, p2, c2, hd2, rfl, hown2⟩, hq2, ho2⟩
          exact hK (a.put (some 44) (.slice p2 d2.length c2)) w3 ⟨l0, true, true, true, true, false, false, rfl, by rw [put_size]; exact h57, ⟨(put_ne (by decide)).trans e5, (put_ne (by decide)).trans e2, (put_ne (by decide)).trans e7, (put_ne (by decide)).trans e3⟩, (fun e => (put_ne (by decide)).trans (i0 e)), (fun e => (put_ne (by decide)).trans (i1 e)), (fun e => (put_ne (by decide)).trans (i2 e)), (fun e => (put_ne (by decide)).trans (i3 e)),
            .inr (.inl ⟨rfl, rfl, rfl, rfl, rfl, rfl, d2, p2, c2, put_eq (by omega), hd2, own_has hown2, hq2, ho2⟩)⟩
        | 5, hl, ho =>
          obtain rfl : l5 = false := hl
          simp at ho
          subst ho
          obtain rfl : l0 = true := hafter ⟨0, .data⟩ (by simp) rfl
          obtain rfl : l4 = true := hafter ⟨4, .data⟩ (by simp) rfl
          rcases hw with ⟨h4, _⟩ | ⟨h1, h2, h3, _, _, h6, d2, p2, c2, e44, q1, q2, q3, q4⟩ | ⟨_, _, _, _, _, h5, _⟩ | ⟨_, _, _, _, _, h5, _⟩
          · cases h4
          rotate_left
          · cases h5
          · cases h5
          obtain rfl := h6
          obtain ⟨hwo, _, _, _, hsz2, hD2⟩ := HOW.out _ q4
          obtain ⟨v', w3, hrun, hown3, hgrow, hnil⟩ := append_any w2 36 w.heap.size _ d hwo p2 _ c2 d2 rfl q2 (by have := HDL.out d2 q1; omega) hsz2
          obtain ⟨p3, c3, rfl, _⟩ := hown3.slice
          have e40 := i0 rfl
          have hk := hK (a.put (some 45) (.slice p3 (d ++ d2).length c3)) w3 ⟨true, l1, l2, l3, true, true, false, rfl, by rw [put_size]; exact h57, ⟨(put_ne (by decide)).trans e5, (put_ne (by decide)).trans e2, (put_ne (by decide)).trans e7, (put_ne (by decide)).trans e3⟩, (fun e => (put_ne (by decide)).trans (i0 e)), (fun e => (put_ne (by decide)).trans (i1 e)), (fun e => (put_ne (by decide)).trans (i2 e)), (fun e => (put_ne (by decide)).trans (i3 e)),
            .inr (.inr (.inl ⟨rfl, h1, h2, h3, rfl, rfl, rfl, w2, d2, p3, c3, put_eq (by omega), q1, q3, q4, hown3, hgrow, HGR.out _ _ hgrow hD2⟩))⟩
          rw [if_pos (by simp [Region.wanted])]
          refine ⟨fun f' hf' => trivial, ?_⟩
          rw [Oper.semAt_plain _ _ _ (by intro c hc; cases hc)]
          rw [List.length_append] at hk hrun
          simp [execOp, resolve, invoke, builtin, e40, e44, hrun, Result.andThen]
          exact hk
        | 6, hl, ho =>
          obtain rfl : l6 = false := hl
          simp at ho
          subst ho
          obtain rfl : l5 = true := hafter ⟨5, .data⟩ (by simp) rfl
          rcases hw with ⟨_, h5, _⟩ | ⟨_, _, _, _, h5, _⟩ | ⟨h0, h1, h2, h3, h4, _, _, w1, d2, p3, c3, e45, q1, q2, q3, q4, q5, q6⟩ | ⟨_, _, _, _, _, _, h6, _⟩
          · cases h5
          · cases h5
          rotate_left
          · cases h6
          obtain ⟨hcD, hfD⟩ := box1 q6
          have hk := hK (a.put none undef) (w2.setCell ⟨D, 0, none⟩ (.slice p3 (d ++ d2).length c3)) ⟨l0, l1, l2, l3, l4, true, true, rfl, h57, ⟨e5, e2, e7, e3⟩, i0, i1, i2, i3,
            .inr (.inr (.inr ⟨h0, h1, h2, h3, h4, rfl, rfl, HFI.out w1 w2 d2 p3 c3 q3 q1 q2 q4 q5⟩))⟩
          rw [if_pos (by simp [Region.wanted])]
          refine ⟨by simp [Oper.about], ?_⟩
          rw [Oper.semAt_plain _ _ _ (by intro c hc; cases hc)]
          simp [go_sem] at e5 e45
          rw [List.length_append] at hk
          simp [execOp, e5, e45, go_sem, hcD, hfD]
          exact hk
        | (j + 7), hl, ho => simp at ho
    case done =>
      rintro D' V hD' hI hK
      obtain ⟨v0, d, c1, c2, c3⟩ := hI.ds.du
      obtain ⟨p, c, rfl, hpc, _, hhas⟩ := c2.slice
      obtain ⟨a0, f0⟩ := box1 hI.ds.cq
      obtain ⟨a1, f1⟩ := box1 hI.ds.cn
      obtain ⟨a2, f2⟩ := box1 c1
      obtain ⟨_, w3, _, wf⟩ := hI.ds.wh.cell
      have f3 := wf 2
      have lw := hI.ds.lw
      have ge := hI.ds.ge
      have lq : Q < V.heap.size := hI.ds.wh.lt.1
      have hDV : D' < V.heap.size := (Array.getElem?_eq_some_iff.1 hK).1
      have nb0 : ¬ bq = Q := by omega
      have nb2 : ¬ D = Q := by omega
      have nqd : ¬ Q = D := by omega
      have hDL := HDl.out
      have o5 : Off (Only Q) V (V.setCell ⟨Q, 2, none⟩ (.int .u64 (max s now))).drew := (Off.setCell (Off.refl (Only Q) V) (p := ⟨Q, 2, none⟩) (.inl rfl) _).drew
      have HW5 : Hid (Wh (V.setCell ⟨Q, 2, none⟩ (.int .u64 (max s now))).drew Q Z B G R P b (max s now) (lks (slo b) s now l) (due l now false)) := Lib.hid (by
        have h5 := hI.ds.wh
        rw [HYL.out, HDE.out.1] at h5
        refine (h5.based (max s now) ?_ ?_).1.bel (Bel.refl _).drew
        · obtain ⟨x1, x2⟩ := hts
          obtain ⟨x3, x4⟩ := hnow
          exact ⟨by omega, by omega⟩
        · intro y hy
          have hya : ¬ y.a ≤ now := by unfold due at hy; rw [List.mem_filter] at hy; simpa using hy.2
          unfold lof
          by_cases h6 : y.a ≤ s
          · rw [if_pos h6, if_pos (by omega)]
          · rw [if_neg h6, if_neg (by omega)])
      have HO5 : Hid (Off (Fo Q G R) w (V.setCell ⟨Q, 2, none⟩ (.int .u64 (max s now))).drew) := Lib.hid (hI.ds.off.then (o5.mono (fun _ _ e => .inl e)))
      have HH5 : Hid (Has (V.setCell ⟨Q, 2, none⟩ (.int .u64 (max s now))).drew p d) := Lib.hid (own_has (c2.off2 o5 (fun i e e2 => by have := (c2.lt i e).1; have : i = Q := e2; omega)))
      have HK5 : Hid ((V.setCell ⟨Q, 2, none⟩ (.int .u64 (max s now))).drew.heap[D']? = some (.deferred (some []))) := Lib.hid ((o5.block D' hDV (fun e => by have : D' = Q := e; omega)).trans hK)
      have hdl : d.length ≤ 1024 := by
        have h5 := c3.length_eq
        have h6 := List.length_filter_le (fun y => (slo b :: ys).contains (lof (slo b) s y) && decide (y.a ≤ now)) l
        have h7 := HL1.out
        unfold vsA at h5
        omega
      have HSR : Hid (srt d = due l now true) := Lib.hid (by
        rw [HDE.out.2] at c3
        exact (srt_of (HSO.out.filter _) c3.symm).symm)
      have KSO := Lib.hid (sort_any p d.length c d (V.setCell ⟨Q, 2, none⟩ (.int .u64 (max s now))).drew rfl (by omega) HH5.out)
      have hz5 : V.heap.size ≤ (V.setCell ⟨Q, 2, none⟩ (.int .u64 (max s now))).drew.heap.size := o5.size
      have HD5 : Hid (D' < (V.setCell ⟨Q, 2, none⟩ (.int .u64 (max s now))).drew.heap.size ∧ w.heap.size ≤ D') := Lib.hid ⟨by omega, by omega⟩
      have HLW := Lib.hid lw
      clear c1 c2 c3 hI hhas o5 wf hK hz5
      go_wp2
      go_region
      all_goals
        go_wp2_with fail
        with_reducible refine KSO.out.mono ?_
        rintro e w6 ⟨⟨p6, c6, rfl, hc6, hl6⟩, hb6⟩
        rw [HSR.out] at hc6 hl6 ⊢
        have hK6 : w6.heap[D']? = some (.deferred (some [])) := hb6.heap HK5.out
        have oD : Off (fun i => i = D') w6 (w6.putObj D' (.deferred none)) := Off.grown (Off.refl (fun i => i = D') w6) (grownBy_putObj' w6 D' (.deferred none)) (fun i e => .inl (by cases e; rfl))
        have hd5 := HD5.out
        have HW7 : Hid (Wh (w6.putObj D' (.deferred none)) Q Z B G R P b (max s now) (lks (slo b) s now l) (due l now false)) := Lib.hid ((HW5.out.bel hb6).off oD (fun i e e2 => by have := fo4_lt HLW.out e; have : i = D' := e2; omega) (fun e => by have : (0 : Nat) = D' := e; have := HLW.out.1; omega))
        have HO7 : Hid (Off (Fo Q G R) w (w6.putObj D' (.deferred none))) := Lib.hid (Off.trans (HO5.out.then (hb6.off _)) oD (fun i e => .inr (by have : i = D' := e; omega)))
        have HL7 : Hid (Lies (old w) (w6.putObj D' (.deferred none)) p6 (encs (due l now true))) := Lib.hid ((hl6.off oD (fun i e => by have : i = D' := e; unfold old; omega)).mono (fun i _ e => by have := HO5.out.size; unfold old at e ⊢; omega))
        clear hl6 hb6 oD
        go_wp2
        refine ⟨by simp, .inl ⟨_, _, rfl, run_takeDeferred hK6, ?_⟩⟩
        refine ⟨.slice p6 (due l now true).length c6, ?_, ⟨p6, c6, rfl, hc6, HL7.out⟩, HW7.out, HO7.out⟩
        simp [results, Tryd.f11, go_sem]
end
end Go.Proofs.YtdoceldofkaapaaDoor.Ha
