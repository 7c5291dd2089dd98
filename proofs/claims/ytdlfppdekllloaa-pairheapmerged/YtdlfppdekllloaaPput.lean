/-
  Contracts of the queue's put and take.
-/
import Derived.Test.YtdlfppdekllloaaPread
import Derived.Test.YtdlfppdekllloaaAkt
set_option linter.unusedVariables false
set_option linter.unusedSimpArgs false
namespace Go.Proofs.Ytdlfppdekllloaa
open Go.RowKit
theorem Wn.put {P : Nat} {tr tr' : Tr} {wh : Nat → Option Nat} (h : Wn P tr wh) {k n : Nat} {t : T} (hk : k < P) (ht : t.p = k) (hno : wh k = none) (hn : n ∉ tr.ads) (pe : tr'.ps.Perm ((n, t) :: tr.ps)) : Wn P tr' (upN wh k (some n)) := by
  have pa : tr'.ads.Perm (n :: tr.ads) := pe.map (fun z : Nat × T => z.1)
  refine ⟨pa.nodup_iff.2 (List.nodup_cons.2 ⟨hn, h.nd⟩), fun z hz => ?_, fun j hj a e => ?_⟩
  · rcases List.mem_cons.1 (pe.subset hz) with rfl | hz
    · exact ⟨k, ht, hk, by unfold upN; rw [if_pos rfl]⟩
    · obtain ⟨j, j1, j2, j3⟩ := h.at_ z hz
      refine ⟨j, j1, j2, ?_⟩
      unfold upN
      rw [if_neg (fun e => by rw [e, hno] at j3; cases j3)]
      exact j3
  · unfold upN at e
    by_cases ej : j = k
    · rw [if_pos ej] at e
      have e : n = a := Option.some.inj e
      subst e
      exact ⟨t, pe.symm.subset (by simp), by rw [ej]; exact ht⟩
    · rw [if_neg ej] at e
      obtain ⟨s, s1, s2⟩ := h.no j hj a e
      exact ⟨s, pe.symm.subset (by simp [s1]), s2⟩
theorem Wn.take {P : Nat} {tr tr' : Tr} {wh : Nat → Option Nat} (h : Wn P tr wh) {k a : Nat} {t : T} (ht : t.p = k) (pe : tr.ps.Perm ((a, t) :: tr'.ps)) : Wn P tr' (upN wh k none) := by
  have pa : tr.ads.Perm (a :: tr'.ads) := pe.map (fun z : Nat × T => z.1)
  obtain ⟨n1, n2⟩ := List.nodup_cons.1 (pa.nodup_iff.1 h.nd)
  refine ⟨n2, fun z hz => ?_, fun j hj b e => ?_⟩
  · have hz2 : z ∈ tr.ps := pe.symm.subset (by simp [hz])
    obtain ⟨j, j1, j2, j3⟩ := h.at_ z hz2
    refine ⟨j, j1, j2, ?_⟩
    unfold upN
    rw [if_neg (fun e => ?_)]
    · exact j3
    · have := h.inj hz2 (pe.symm.subset (List.mem_cons_self ..)) (by rw [j1, e]; exact ht.symm)
      exact n1 (by rw [← show z.1 = a from this]; exact List.mem_map.2 ⟨z, hz, rfl⟩)
  · unfold upN at e
    by_cases ej : j = k
    · rw [if_pos ej] at e; cases e
    · rw [if_neg ej] at e
      obtain ⟨s, s1, s2⟩ := h.no j hj b e
      rcases List.mem_cons.1 (pe.subset s1) with e2 | e2
      · injection e2 with _ e2
        rw [e2, ht] at s2
        exact absurd (by omega) ej
      · exact ⟨s, e2, s2⟩
/-- The row of nodes, one of them set. -/
theorem row_set {W : World} {S P : Nat} {wh : Nat → Option Nat} (h : W.heap[S]? = some (.cells (encN P wh).toArray 69 (0, 0))) (k : Nat) (x : Option Nat) : (W.setCell ⟨S, k, none⟩ (ptv x)).heap[S]? = some (.cells (encN P (upN wh k x)).toArray 69 (0, 0)) := by
  have e1 := heap_setCell_same W S k _ 69 (ptv x) h
  rw [List.setIfInBounds_toArray, encN_up P wh k x] at e1
  exact e1
theorem top_set {W : World} {Q : Nat} {x y : Value} (h : W.heap[Q]? = some (.cells #[x, y] 71 (0, 0))) (v : Value) : (W.setCell ⟨Q, 0, none⟩ v).heap[Q]? = some (.cells #[v, y] 71 (0, 0)) := heap_setCell_same W Q 0 _ 71 v h
/-- What a queue is, behind put or take. -/
structure Be (f : Nat → Prop) (w' : World) (Q S P : Nat) (tr' : Tr) (wh' : Nat → Option Nat) : Prop where
  hm : Hm f w' Q S P tr' wh'
  wn : Wn P tr' wh'
  root : tr'.Root
  ho : tr'.Ho
set_option maxRecDepth 100000 in
set_option maxHeartbeats 2000000 in
theorem put_any (f : Nat → Prop) (Q S P : Nat) (tr : Tr) (wh : Nat → Option Nat) (t : T) (k : Nat) (w : World) (h : Hm f w Q S P tr wh) (hw : Wn P tr wh) (hr : tr.Root) (ho : tr.Ho) (ht : t.p = k) (hk : k < P) (hno : wh k = none) (hf : ∀ j, f j → j < w.heap.size) :
    Calls Try.prog 52 #[pt Q, .agg #[.int .u64 t.a, .int .u64 t.s, .int .i64 t.p]] w fun e w' => e = .returned (.tuple #[]) ∧ ∃ (f' : Nat → Prop) (tr' : Tr) (wh' : Nat → Option Nat), (∀ j, f' j → f j ∨ (w.heap.size ≤ j ∧ j < w'.heap.size)) ∧ Be f' w' Q S P tr' wh' ∧ tr'.ts.Perm (t :: tr.ts) ∧ Off f w w' := by
  have H2 := Lib.hid (two_new w #[.int .u64 t.a, .int .u64 t.s, .int .i64 t.p] #[.int .u64 t.a, .int .u64 t.s, .int .i64 t.p, pn, pn, pn] 35 92)
  have H := Lib.hid h
  have HT := Lib.hid ht
  have HKK := Lib.hid hk
  have ltQ := h.ltQ
  have ltS := h.ltS
  have b1 : (k : Int) < (P : Int) := by omega
  obtain ⟨ap1, ap2⟩ := h.apart
  have nQ : ∀ n, w.heap.size ≤ n → n ∉ tr.ads := fun n hn e => by have := h.is.lt n e; omega
  -- what melding gives
  have KM : Hid (∀ (n : Nat) (W : World), w.heap.size ≤ n → n < W.heap.size → Bel w W → W.heap[n]? = some (nd t pn pn pn) → Calls Try.prog 37 #[ptv tr.rt, pt n, cmpV] (W.setCell ⟨S, k, none⟩ (pt n)).drew fun e W' => ∃ q, e = .returned (.pointer q) ∧ (W'.cell? ⟨Q, 0, none⟩ = some (ptv tr.rt) ∧ W'.frozen? ⟨Q, 0, none⟩ = false) ∧
      Hid (∃ (f' : Nat → Prop) (tr' : Tr) (wh' : Nat → Option Nat), (∀ j, f' j → f j ∨ (w.heap.size ≤ j ∧ j < (W'.setCell ⟨Q, 0, none⟩ (.pointer q)).heap.size)) ∧ Be f' (W'.setCell ⟨Q, 0, none⟩ (.pointer q)) Q S P tr' wh' ∧ tr'.ts.Perm (t :: tr.ts) ∧ Off f w (W'.setCell ⟨Q, 0, none⟩ (.pointer q)))) := Lib.hid (fun n W hn hlt hb hnd => by
    have hW := h.bel hb
    have o1 : Off (fun j => j = S) W (W.setCell ⟨S, k, none⟩ (pt n)).drew := (off_set (Off.refl (fun j => j = S) W) rfl _).drew
    have hnS : ¬ n = S := by omega
    have i1 : Is (W.setCell ⟨S, k, none⟩ (pt n)).drew none tr := hW.is.off o1 (fun a ha e => (ap2 a ha).2 e)
    have i2 : Is (W.setCell ⟨S, k, none⟩ (pt n)).drew none (.node n t .nil .nil) := ⟨(o1.block n hlt hnS).trans hnd, trivial, trivial⟩
    have nd1 : (tr.ads ++ (Tr.node n t .nil .nil).ads).Nodup := by
      rw [List.nodup_append]
      refine ⟨hw.nd, by simp [Tr.ads, Tr.ps], fun a ha b hb e => ?_⟩
      have hb : b = n := by simpa [Tr.ads, Tr.ps] using hb
      subst hb
      subst e
      exact nQ a hn ha
    have hr2 : (Tr.node n t .nil .nil).Root := rfl
    have ho2 : (Tr.node n t .nil .nil).Ho := ⟨fun x hx => by simp [Tr.ps] at hx, trivial, trivial⟩
    refine (melded_any tr (.node n t .nil .nil) _ hr hr2 i1 i2 nd1).mono fun e W' ⟨he, hi, o⟩ => ?_
    obtain ⟨q, hq⟩ := ptv_is (mel tr (.node n t .nil .nil)).rt
    have pe : (mel tr (.node n t .nil .nil)).ps.Perm ((n, t) :: tr.ps) := (mel_ps hr hr2).trans (by simp [Tr.ps])
    have noQ : ¬ (Q ∈ tr.ads ∨ Q ∈ (Tr.node n t .nil .nil).ads) := fun e => by
      rcases e with e | e
      · exact (ap2 Q e).1 rfl
      · have : Q = n := by simpa [Tr.ads, Tr.ps] using e
        omega
    have noS : ¬ (S ∈ tr.ads ∨ S ∈ (Tr.node n t .nil .nil).ads) := fun e => by
      rcases e with e | e
      · exact (ap2 S e).2 rfl
      · have : S = n := by simpa [Tr.ads, Tr.ps] using e
        omega
    have lQ2 : Q < (W.setCell ⟨S, k, none⟩ (pt n)).drew.heap.size := Nat.lt_of_lt_of_le hW.ltQ o1.size
    have lS2 : S < (W.setCell ⟨S, k, none⟩ (pt n)).drew.heap.size := Nat.lt_of_lt_of_le hW.ltS o1.size
    have q1 : W'.heap[Q]? = some (.cells #[ptv tr.rt, .slice (some ⟨S, 0, none⟩) P P] 71 (0, 0)) := (o.block Q lQ2 noQ).trans ((o1.block Q hW.ltQ ap1).trans hW.hQ)
    have s1 : W'.heap[S]? = some (.cells (encN P (upN wh k (some n))).toArray 69 (0, 0)) := (o.block S lS2 noS).trans (row_set hW.hS k (some n))
    have o3 : Off (fun j => j = Q) W' (W'.setCell ⟨Q, 0, none⟩ (.pointer q)) := off_set (Off.refl (fun j => j = Q) W') rfl _
    have pa : (mel tr (.node n t .nil .nil)).ads.Perm (n :: tr.ads) := pe.map (fun z : Nat × T => z.1)
    have oall : Off f w (W'.setCell ⟨Q, 0, none⟩ (.pointer q)) := by
      refine Off.trans (Off.trans (Off.trans (hb.off f) o1 (fun i e => .inl (by rw [show i = S from e]; exact h.fS))) o (fun i e => ?_)) o3 (fun i e => .inl (by rw [show i = Q from e]; exact h.fQ))
      rcases e with e | e
      · exact .inl (h.ft i e)
      · have : i = n := by simpa [Tr.ads, Tr.ps] using e
        exact .inr (by omega)
    rw [hq] at he
    refine ⟨q, he, ⟨?_, frozen_of_row W' Q _ _ 71 q1⟩, Lib.hid ⟨fun j => f j ∨ j = n, mel tr (.node n t .nil .nil), upN wh k (some n), fun j e => ?_, ⟨⟨?_, (o3.block S (Nat.lt_of_lt_of_le lS2 o.size) (fun e => ap1 e.symm)).trans s1, hi.off o3 (fun a ha e => ?_), .inl h.fQ, .inl h.fS, fun a ha => ?_⟩, hw.put hk ht hno (nQ n hn) pe, mel_root hr hr2, mel_ho hr hr2 ho ho2⟩, ?_, oall⟩⟩
    · rw [cell_of_row W' Q _ _ 71 (0, 0) q1]; rfl
    · rcases e with e | e
      · exact .inl e
      · have := oall.size; have := o.size; have := o1.size; have := o3.size; exact .inr (by omega)
    · rw [hq]; exact top_set q1 _
    · rcases List.mem_cons.1 (pa.subset ha) with e2 | e2
      · have : a = Q := e; omega
      · exact (ap2 a e2).1 e
    · rcases List.mem_cons.1 (pa.subset ha) with e2 | e2
      · exact .inr e2
      · exact .inl (h.ft a e2)
    · exact pe.map (fun z : Nat × T => z.2))
  clear h hw hr ho hno hk ht
  go_enter Try.func52, Try.ntmps52
  go_upto_region 2 with (fail)
  obtain ⟨W, eW, hB, hz, n0, n1⟩ := H2.out
  rw [eW]
  clear H2 eW
  obtain ⟨b0, eb0⟩ : ∃ b, w.heap.size = b := ⟨_, rfl⟩
  have KM2 := Lib.hid (KM.out (w.heap.size + 1) W (by omega) (by omega) hB n1)
  obtain ⟨n, en⟩ : ∃ b, w.heap.size + 1 = b := ⟨_, rfl⟩
  rw [en] at n1 KM2 ⊢
  rw [eb0] at n0 ⊢
  have t2 : W.cell? ⟨b0, 2, none⟩ = some (.int .i64 k) := by rw [← HT.out]; exact (box3 n0).1.2.2
  have c1 := (H.out.bel hB).head.1.2
  have c0 := (H.out.bel hB).head.1.1
  have s0 := (H.out.bel hB).at HKK.out
  have z0 := (H.out.bel hB).head.2.2 k
  have nSb : ¬ S = b0 := by omega
  have nQS : ¬ Q = S := ap1
  clear n0 n1 KM
  generalize ptv tr.rt = tv at *
  go_wp2
  go_region
  go_wp2_with fail
  with_reducible refine (KM2.out).mono ?_
  rintro e w3 ⟨q, rfl, ⟨d0, d1⟩, HE⟩
  clear KM2 c0 c1 s0 t2
  go_wp2
  go_end0
  exact ⟨rfl, HE.out⟩
end Go.Proofs.Ytdlfppdekllloaa
