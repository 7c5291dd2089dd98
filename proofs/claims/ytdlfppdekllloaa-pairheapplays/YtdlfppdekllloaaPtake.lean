/-
  Contract of the queue's take.
-/
import Derived.Test.YtdlfppdekllloaaPput
set_option linter.unusedVariables false
set_option linter.unusedSimpArgs false
namespace Go.Proofs.Ytdlfppdekllloaa
open Go.RowKit
/-- Behind take: what is left, and the node that has gone. -/
structure Tk (f : Nat → Prop) (w V : World) (Q S P a : Nat) (t : T) (tr : Tr) (wh : Nat → Option Nat) (x y : Value) (k0 : Value) (tr' : Tr) : Prop where
  hQ : V.heap[Q]? = some (.cells #[k0, .slice (some ⟨S, 0, none⟩) P P] 71 (0, 0))
  hS : V.heap[S]? = some (.cells (encN P wh).toArray 69 (0, 0))
  is : Is V none tr'
  ha : ∃ z1 z2 z3, V.heap[a]? = some (nd t z1 z2 z3)
  root : tr'.Root
  ho : tr'.Ho
  pe : tr.ps.Perm ((a, t) :: tr'.ps)
  off : Off f w V
/-- The last steps of take: the top, the place, the answer. -/
theorem Tk.fin {f : Nat → Prop} {w V V' : World} {Q S P a k b : Nat} {t : T} {tr tr' : Tr} {wh : Nat → Option Nat} {x y k0 : Value} (h : Tk f w V Q S P a t tr wh x y k0 tr') (hw : Wn P tr wh) (ht : t.p = k) (hk0 : k0 = ptv tr'.rt) (fQ : f Q) (fS : f S) (ft : ∀ a ∈ tr.ads, f a) (hfb : ¬ f b) (hwb : w.heap.size ≤ b)
    (o : Off (fun j => j = b) (V.setCell ⟨S, k, none⟩ pn) V') : Be f V' Q S P tr' (upN wh k none) ∧ tr.ps.Perm ((a, t) :: tr'.ps) ∧ Off f w V' := by
  have hin : ∀ c ∈ tr'.ads, c ∈ tr.ads := fun c hc => (h.pe.map (fun z : Nat × T => z.1)).symm.subset (List.mem_cons_of_mem _ hc)
  have o1 : Off (fun j => j = S) V (V.setCell ⟨S, k, none⟩ pn) := off_set (Off.refl (fun j => j = S) V) rfl _
  have nQS := cells_ne h.hQ h.hS (by decide)
  have lQ := (Array.getElem?_eq_some_iff.1 h.hQ).1
  have lS := (Array.getElem?_eq_some_iff.1 h.hS).1
  have nf : ∀ j, f j → ¬ j = b := fun j e e2 => hfb (e2 ▸ e)
  have q1 : V'.heap[Q]? = some (.cells #[ptv tr'.rt, .slice (some ⟨S, 0, none⟩) P P] 71 (0, 0)) := by
    rw [← hk0]
    exact (o.block Q (Nat.lt_of_lt_of_le lQ o1.size) (nf _ fQ)).trans ((o1.block Q lQ nQS).trans h.hQ)
  have s1 : V'.heap[S]? = some (.cells (encN P (upN wh k none)).toArray 69 (0, 0)) := (o.block S (Nat.lt_of_lt_of_le lS o1.size) (nf _ fS)).trans (row_set h.hS k none)
  have i1 : Is V' none tr' := (h.is.off o1 (fun c hc e => by
    obtain ⟨d, hd⟩ := h.is.ty c hc
    exact cells_ne hd h.hS (by decide) e)).off o (fun c hc => nf _ (ft c (hin c hc)))
  exact ⟨⟨⟨q1, s1, i1, fQ, fS, fun c hc => ft c (hin c hc)⟩, hw.take ht h.pe, h.root, h.ho⟩, h.pe, Off.trans (Off.trans h.off o1 (fun i e => .inl (by rw [show i = S from e]; exact fS))) o (fun i e => .inr (by have : i = b := e; omega))⟩
set_option maxRecDepth 100000 in
set_option maxHeartbeats 2000000 in
theorem take_top (f : Nat → Prop) (Q S P : Nat) (wh : Nat → Option Nat) (a : Nat) (t : T) (l : Tr) (k : Nat) (w : World) (h : Hm f w Q S P (.node a t l .nil) wh) (hw : Wn P (.node a t l .nil) wh) (ho : (Tr.node a t l .nil).Ho) (hP : P ≤ 1024) (ht : t.p = k) (hk : k < P) (hf : ∀ j, f j → j < w.heap.size) :
    Calls Try.prog 50 #[pt Q, pt a] w fun e w' => e = .returned (.agg #[.int .u64 t.a, .int .u64 t.s, .int .i64 t.p]) ∧ ∃ tr', Be f w' Q S P tr' (upN wh k none) ∧ (Tr.node a t l .nil).ps.Perm ((a, t) :: tr'.ps) ∧ Off f w w' := by
  have HB : Hid (Bel w (w.alloc (.cells #[.int .u64 0, .int .u64 0, .int .i64 0] 35))) := Lib.hid ((Bel.refl _).alloc _ _)
  have HN : Hid ((w.alloc (.cells #[.int .u64 0, .int .u64 0, .int .i64 0] 35)).heap[w.heap.size]? = some (.cells #[.int .u64 0, .int .u64 0, .int .i64 0] 35 (0, 0))) := Lib.hid (heap_alloc_new _ _)
  have hlen : l.ads.length ≤ 2048 := by
    have := hw.len
    have e : (Tr.node a t l .nil).ps.length = l.ps.length + 1 := by simp [Tr.ps]
    unfold Tr.ads
    simp
    omega
  have HW := Lib.hid hw
  obtain ⟨ap1, ap2⟩ := h.apart
  have ma : ∀ c, c = a ∨ c ∈ l.ads → c ∈ (Tr.node a t l .nil).ads := fun c e => by
    rw [Tr.ads_node]
    rcases e with rfl | e
    · simp
    · simp [e]
  have K : Hid (∀ W, Bel w W → Calls Try.prog 62 #[pt a, cmpV] W fun e V => ∃ (g : Tr) (q : Option Addr), e = .returned (.pointer q) ∧ (V.cell? ⟨Q, 0, none⟩ = some (pt a) ∧ V.frozen? ⟨Q, 0, none⟩ = false) ∧ ptv g.rt = .pointer q ∧ Tk f w (V.setCell ⟨Q, 0, none⟩ (.pointer q)) Q S P a t (.node a t l .nil) wh pn pn (.pointer q) g ∧ Off f W V) := Lib.hid (fun W hb => by
    have hW := h.bel hb
    refine (gathered_any [] a t l .nil W hW.is hw.nd ho.2.1 hlen).mono fun e V ⟨g, he, hg⟩ => ?_
    obtain ⟨q, hq⟩ := ptv_is g.rt
    have noQ : ¬ (Q = a ∨ Q ∈ l.ads) := fun e => (ap2 Q (ma Q e)).1 rfl
    have noS : ¬ (S = a ∨ S ∈ l.ads) := fun e => (ap2 S (ma S e)).2 rfl
    have q1 : V.heap[Q]? = some (.cells #[pt a, .slice (some ⟨S, 0, none⟩) P P] 71 (0, 0)) := (hg.off.block Q hW.ltQ noQ).trans hW.hQ
    have s1 := (hg.off.block S hW.ltS noS).trans hW.hS
    obtain ⟨g1, g2, g3⟩ := hg.all g (by simp)
    have pe : l.ps.Perm g.ps := by
      have := hg.pe.symm
      simpa [Tr.ps, allPs] using this
    have pad : l.ads.Perm g.ads := pe.map (fun z : Nat × T => z.1)
    have o3 : Off (fun j => j = Q) V (V.setCell ⟨Q, 0, none⟩ (.pointer q)) := off_set (Off.refl (fun j => j = Q) V) rfl _
    have oV : Off f W V := hg.off.mono (fun i _ e => h.ft i (ma i e))
    have hma : Is V none (.node a t .nil .nil) := hg.main
    rw [hq] at he
    refine ⟨g, q, he, ⟨?_, frozen_of_row V Q _ _ 71 q1⟩, hq, ⟨top_set q1 _, (o3.block S (Array.getElem?_eq_some_iff.1 s1).1 (fun e => ap1 e.symm)).trans s1, g1.off o3 (fun c hc e => (ap2 c (ma c (.inr (pad.symm.subset hc)))).1 e), ⟨_, _, _, (o3.block a (Array.getElem?_eq_some_iff.1 hma.1).1 (fun e => (ap2 a (ma a (.inl rfl))).1 e)).trans hma.1⟩, g2, g3, ?_, Off.trans ((hb.off f).then oV) o3 (fun i e => .inl (by rw [show i = Q from e]; exact h.fQ))⟩, oV⟩
    · rw [cell_of_row V Q _ _ 71 (0, 0) q1]; rfl
    · simpa [Tr.ps] using pe)
  have FQ := Lib.hid h.fQ
  have FS := Lib.hid h.fS
  have FT := Lib.hid h.ft
  have HF := Lib.hid hf
  have HT := Lib.hid ht
  have hq := eql_pt a
  have b1 : (k : Int) < (P : Int) := by omega
  clear h hw ho ht hf ap2 ma
  go_enter Try.func50, Try.ntmps50
  go_upto_region 1 with (fail)
  generalize w.alloc (.cells #[.int .u64 0, .int .u64 0, .int .i64 0] 35) = W at *
  obtain ⟨b, eb⟩ : ∃ b, w.heap.size = b := ⟨_, rfl⟩
  rw [eb] at HN ⊢
  go_wp2_with fail
  with_reducible refine (K.out _ HB.out).mono ?_
  rintro e V ⟨g, q, rfl, ⟨c0, z0⟩, hgq, htk, hoV⟩
  have HTK := Lib.hid htk
  have HGQ := Lib.hid hgq
  have nb : ¬ f b := fun e => by have := HF.out _ e; omega
  have NB := Lib.hid nb
  have lb : b < W.heap.size := (Array.getElem?_eq_some_iff.1 HN.out).1
  have bV := (hoV.block b lb nb).trans HN.out
  have nbQ : ¬ b = Q := fun e => nb (by rw [e]; exact FQ.out)
  have bV2 : (V.setCell ⟨Q, 0, none⟩ (.pointer q)).heap[b]? = some (.cells #[.int .u64 0, .int .u64 0, .int .i64 0] 35 (0, 0)) := set_other bV nbQ _
  obtain ⟨za, zb, zc, hna⟩ := htk.ha
  have h1Q := htk.hQ
  have h1S := htk.hS
  have nbS : ¬ b = S := fun e => nb (by rw [e]; exact FS.out)
  have nab : ¬ a = b := fun e => nb (by rw [← e]; exact FT.out a (by rw [Tr.ads_node]; simp))
  have naS : ¬ a = S := cells_ne hna h1S (by decide)
  have HE : Hid (∀ V', Off (fun j => j = b) ((V.setCell ⟨Q, 0, none⟩ (.pointer q)).setCell ⟨S, k, none⟩ pn) V' → ∃ tr', Be f V' Q S P tr' (upN wh k none) ∧ (Tr.node a t l .nil).ps.Perm ((a, t) :: tr'.ps) ∧ Off f w V') := Lib.hid (fun V' o => ⟨g, HTK.out.fin HW.out HT.out HGQ.out.symm FQ.out FS.out FT.out NB.out (by omega) o⟩)
  clear htk hgq K
  go_upto_region 6 with (fail)
  have e1 : (V.setCell ⟨Q, 0, none⟩ (.pointer q)).cell? ⟨Q, 1, none⟩ = some (.slice (some ⟨S, 0, none⟩) P P) := by rw [cell_of_row _ Q _ _ 71 (0, 0) h1Q]; rfl
  have e2 : (V.setCell ⟨Q, 0, none⟩ (.pointer q)).cell? ⟨a, 2, none⟩ = some (.int .i64 k) := by rw [← HT.out]; exact (nd_cells hna).1.2.2.1
  have e3 := (nd_cells hna).1.1
  have e4 := (nd_cells hna).1.2.1
  have hkP := hk
  have e5 : (V.setCell ⟨Q, 0, none⟩ (.pointer q)).cell? ⟨S, k, none⟩ = some (ptv (wh k)) := by rw [cell_of_row _ S _ _ 69 (0, 0) h1S, List.getElem?_toArray]; exact encN_get P wh k hkP
  have z5 : (V.setCell ⟨Q, 0, none⟩ (.pointer q)).frozen? ⟨S, k, none⟩ = false := frozen_of_row _ S _ _ 69 h1S
  obtain ⟨⟨v0, v1, v2⟩, y0, y1, y2⟩ := box3 bV2
  have nSb : ¬ S = b := fun e => nbS e.symm
  have nSa : ¬ S = a := fun e => naS e.symm
  have nba : ¬ b = a := fun e => nab e.symm
  clear hna h1Q h1S bV bV2 HTK c0 z0
  generalize V.setCell ⟨Q, 0, none⟩ (.pointer q) = V1 at *
  generalize ptv (wh k) = pw at *
  have HE2 : Hid (∃ tr', Be f (((((V1.setCell ⟨S, k, none⟩ pn).drew.setCell ⟨b, 0, none⟩ (.int .u64 t.a)).setCell ⟨b, 1, none⟩ (.int .u64 t.s)).setCell ⟨b, 2, none⟩ (.int .i64 k))) Q S P tr' (upN wh k none) ∧ (Tr.node a t l .nil).ps.Perm ((a, t) :: tr'.ps) ∧ Off f w (((((V1.setCell ⟨S, k, none⟩ pn).drew.setCell ⟨b, 0, none⟩ (.int .u64 t.a)).setCell ⟨b, 1, none⟩ (.int .u64 t.s)).setCell ⟨b, 2, none⟩ (.int .i64 k)))) := Lib.hid (HE.out _ (off_set (off_set (off_set (Off.refl (fun j => j = b) _).drew rfl _) rfl _) rfl _))
  go_region
  go_wp2
  exact bodyPost_ret (v := .agg #[.int .u64 t.a, .int .u64 t.s, .int .i64 k]) (by simp [results, Try.results50, go_sem, v0, v1, v2]) rfl ⟨by rw [HT.out], HE2.out⟩
set_option maxRecDepth 100000 in
set_option maxHeartbeats 2000000 in
theorem take_mid (f : Nat → Prop) (Q S P : Nat) (wh : Nat → Option Nat) (a : Nat) (t : T) (f0 : Fr) (c0 : List Fr) (l r : Tr) (k : Nat) (w : World) (h : Hm f w Q S P (plug (f0 :: c0) (.node a t l r)) wh) (hw : Wn P (plug (f0 :: c0) (.node a t l r)) wh) (hrt : (plug (f0 :: c0) (.node a t l r)).Root) (ho : (plug (f0 :: c0) (.node a t l r)).Ho) (hP : P ≤ 1024) (ht : t.p = k) (hk : k < P) (hf : ∀ j, f j → j < w.heap.size) :
    Calls Try.prog 50 #[pt Q, pt a] w fun e w' => e = .returned (.agg #[.int .u64 t.a, .int .u64 t.s, .int .i64 t.p]) ∧ ∃ tr', Be f w' Q S P tr' (upN wh k none) ∧ (plug (f0 :: c0) (.node a t l r)).ps.Perm ((a, t) :: tr'.ps) ∧ Off f w w' := by
  have HB : Hid (Bel w (w.alloc (.cells #[.int .u64 0, .int .u64 0, .int .i64 0] 35))) := Lib.hid ((Bel.refl _).alloc _ _)
  have HN : Hid ((w.alloc (.cells #[.int .u64 0, .int .u64 0, .int .i64 0] 35)).heap[w.heap.size]? = some (.cells #[.int .u64 0, .int .u64 0, .int .i64 0] 35 (0, 0))) := Lib.hid (heap_alloc_new _ _)
  have HW := Lib.hid hw
  obtain ⟨ap1, ap2⟩ := h.apart
  obtain ⟨ho1, ho2⟩ := plug_ho _ _ ho
  have pall : (plug (f0 :: c0) (.node a t l r)).ps.Perm ((a, t) :: (l.ps ++ (r.ps ++ psC (f0 :: c0)))) := by
    refine (plug_ps (f0 :: c0) (.node a t l r)).trans ?_
    simp [Tr.ps]
  have pads : (plug (f0 :: c0) (.node a t l r)).ads.Perm (a :: (l.ads ++ (r.ads ++ (psC (f0 :: c0)).map (·.1)))) := by
    have := pall.map (fun z : Nat × T => z.1)
    rw [List.map_cons, List.map_append, List.map_append] at this
    exact this
  have hlen : l.ads.length ≤ 2048 := by
    have h1 := hw.len
    have h2 := pall.length_eq
    rw [List.length_cons, List.length_append] at h2
    unfold Tr.ads
    rw [List.length_map]
    omega
  have ma : a ∈ (plug (f0 :: c0) (.node a t l r)).ads := pads.symm.subset (by simp)
  have ml : ∀ c ∈ l.ads, c ∈ (plug (f0 :: c0) (.node a t l r)).ads := fun c hc => pads.symm.subset (by simp [hc])
  have mr : ∀ c ∈ r.ads, c ∈ (plug (f0 :: c0) (.node a t l r)).ads := fun c hc => pads.symm.subset (by simp [hc])
  have mc : ∀ c ∈ (psC (f0 :: c0)).map (·.1), c ∈ (plug (f0 :: c0) (.node a t l r)).ads := fun c hc => pads.symm.subset (List.mem_cons_of_mem _ (List.mem_append.2 (.inr (List.mem_append.2 (.inr hc)))))
  obtain ⟨tb, ts, mtb, etb⟩ := plug_top c0 f0 (.node a t l r)
  have mtb2 : tb ∈ (psC (f0 :: c0)).map (·.1) := List.mem_map.2 ⟨_, mtb, rfl⟩
  have hatb : ¬ a = tb := fun e => (List.nodup_cons.1 (pads.nodup_iff.1 hw.nd)).1 (by rw [e]; exact List.mem_append.2 (.inr (List.mem_append.2 (.inr mtb2))))
  have mX : ∀ c ∈ (plug (f0 :: c0) r).ads, c ∈ (plug (f0 :: c0) (.node a t l r)).ads := fun c hc => by
    rcases List.mem_append.1 ((plug_ads (f0 :: c0) r).subset hc) with e | e
    · exact mr c e
    · exact mc c e
  have K : Hid (∀ W, Bel w W → Calls Try.prog 62 #[pt a, cmpV] W fun e V => ∃ (q1 : Option Addr), e = .returned (.pointer q1) ∧ V.cell? ⟨Q, 0, none⟩ = some (pt tb) ∧ (binOp .eql 69 (pt a) (pt tb)).run Try.prog V = .ok (.bool false) V ∧
      Hid (Calls Try.prog 63 #[pt a] V fun e V2 => e = .returned (.tuple #[]) ∧ V2.cell? ⟨Q, 0, none⟩ = some (pt tb) ∧
        Hid (Calls Try.prog 37 #[pt tb, .pointer q1, cmpV] V2 fun e V3 => ∃ (g : Tr) (q : Option Addr), e = .returned (.pointer q) ∧ (V3.cell? ⟨Q, 0, none⟩ = some (pt tb) ∧ V3.frozen? ⟨Q, 0, none⟩ = false) ∧ ptv g.rt = .pointer q ∧ Tk f w (V3.setCell ⟨Q, 0, none⟩ (.pointer q)) Q S P a t (plug (f0 :: c0) (.node a t l r)) wh pn pn (.pointer q) g ∧ Off f W V3))) := Lib.hid (fun W hb => by
    have hW := h.bel hb
    refine (gathered_any (f0 :: c0) a t l r W hW.is hw.nd ho1.2.1 hlen).mono fun e V ⟨g, he, hg⟩ => ?_
    obtain ⟨q1, hq1⟩ := ptv_is g.rt
    have noQ : ¬ (Q = a ∨ Q ∈ l.ads) := fun e => by rcases e with e | e; exact (ap2 a ma).1 e.symm; exact (ap2 Q (ml Q e)).1 rfl
    have noS : ¬ (S = a ∨ S ∈ l.ads) := fun e => by rcases e with e | e; exact (ap2 a ma).2 e.symm; exact (ap2 S (ml S e)).2 rfl
    have hQW := hW.hQ
    rw [etb] at hQW
    have q0 : V.heap[Q]? = some (.cells #[pt tb, .slice (some ⟨S, 0, none⟩) P P] 71 (0, 0)) := (hg.off.block Q hW.ltQ noQ).trans hQW
    have s0 := (hg.off.block S hW.ltS noS).trans hW.hS
    have oV : Off f W V := hg.off.mono (fun i _ e => by rcases e with e | e; (rw [e]; exact h.ft a ma); exact h.ft i (ml i e))
    obtain ⟨g1, g2, g3⟩ := hg.all g (by simp)
    have peg : l.ps.Perm g.ps := by
      have := hg.pe.symm
      simpa [Tr.ps, allPs] using this
    have padg : l.ads.Perm g.ads := peg.map (fun z : Nat × T => z.1)
    have hm1 := ((is_plug V (f0 :: c0) (.node a t .nil r)).1 hg.main)
    have htb : ∃ cc, V.heap[tb]? = some (.cells cc 92 (0, 0)) := hg.main.ty tb ((plug_ads (f0 :: c0) (.node a t .nil r)).symm.subset (List.mem_append.2 (.inr mtb2)))
    obtain ⟨cc, htb⟩ := htb
    have nd1 := (List.nodup_append.1 hg.nd).1
    have dj := (List.nodup_append.1 hg.nd).2.2
    have eg : allAds [g] = g.ads := by simp [allAds]
    rw [eg] at dj
    rw [hq1] at he
    refine ⟨q1, he, by rw [cell_of_row V Q _ _ 71 (0, 0) q0]; rfl, eql_ne a tb V _ _ _ _ hatb hm1.2.1 htb, Lib.hid ?_⟩
    refine (leave_any f0 c0 a t .nil r V hg.main nd1).mono fun e2 V2 ⟨he2, j1, j2, o2⟩ => ?_
    have foot : ∀ i, (i = a ∨ i = f0.a ∨ r.rt = some i) → i ∈ (plug (f0 :: c0) (.node a t l r)).ads := fun i e => by
      rcases e with e | e | e
      · rw [e]; exact ma
      · exact mc i (by rw [e]; exact List.mem_map.2 ⟨(f0.a, f0.t), List.mem_cons_self .., rfl⟩)
      · exact mr i (rt_mem e)
    have q2 : V2.heap[Q]? = _ := (o2.block Q (Array.getElem?_eq_some_iff.1 q0).1 (fun e => (ap2 Q (foot Q e)).1 rfl)).trans q0
    have s2 : V2.heap[S]? = _ := (o2.block S (Array.getElem?_eq_some_iff.1 s0).1 (fun e => (ap2 S (foot S e)).2 rfl)).trans s0
    have foot2 : ∀ i, (i = a ∨ i = f0.a ∨ r.rt = some i) → i ∈ (plug (f0 :: c0) (.node a t .nil r)).ads := fun i e => by
      refine (plug_ads (f0 :: c0) (.node a t .nil r)).symm.subset ?_
      rw [Tr.ads_node]
      rcases e with e | e | e
      · rw [e]; simp
      · exact List.mem_append.2 (.inr (by rw [e]; exact List.mem_map.2 ⟨(f0.a, f0.t), List.mem_cons_self .., rfl⟩))
      · simp [rt_mem e]
    have g4 : Is V2 none g := g1.off o2 (fun c hc e => dj c (foot2 c e) c hc rfl)
    have hXr : (plug (f0 :: c0) r).Root := plug_root c0 f0 (.node a t l r) r (.inr (by simp)) hrt
    have hXo : (plug (f0 :: c0) r).Ho := ho2 r ho1.2.2 (fun z hz => by simp [Tr.ps, hz])
    have eX : (plug (f0 :: c0) r).rt = some tb := by rw [← etb]; exact plug_rt c0 f0 r (.node a t l r)
    have pX : (plug (f0 :: c0) (.node a t .nil r)).ads.Perm (a :: (plug (f0 :: c0) r).ads) := by
      refine (plug_ads (f0 :: c0) (.node a t .nil r)).trans ?_
      rw [Tr.ads_node]
      refine List.Perm.cons a ?_
      exact (plug_ads (f0 :: c0) r).symm
    have ndX : ((plug (f0 :: c0) r).ads ++ g.ads).Nodup := by
      have h1 := hg.nd
      rw [eg] at h1
      have h2 := (pX.append_right g.ads).nodup_iff.1 h1
      exact (List.nodup_cons.1 h2).2
    refine ⟨he2, by rw [cell_of_row V2 Q _ _ 71 (0, 0) q2]; rfl, Lib.hid ?_⟩
    have KM := melded_any (plug (f0 :: c0) r) g V2 hXr g2 j1 g4 ndX
    rw [eX, hq1] at KM
    refine KM.mono fun e3 V3 ⟨he3, i3, o3⟩ => ?_
    obtain ⟨q, hq⟩ := ptv_is (mel (plug (f0 :: c0) r) g).rt
    have foot3 : ∀ i, (i ∈ (plug (f0 :: c0) r).ads ∨ i ∈ g.ads) → i ∈ (plug (f0 :: c0) (.node a t l r)).ads := fun i e => by
      rcases e with e | e
      · exact mX i e
      · exact ml i (padg.symm.subset e)
    have q3 : V3.heap[Q]? = _ := (o3.block Q (Array.getElem?_eq_some_iff.1 q2).1 (fun e => (ap2 Q (foot3 Q e)).1 rfl)).trans q2
    have s3 : V3.heap[S]? = _ := (o3.block S (Array.getElem?_eq_some_iff.1 s2).1 (fun e => (ap2 S (foot3 S e)).2 rfl)).trans s2
    have na3 : ¬ (a ∈ (plug (f0 :: c0) r).ads ∨ a ∈ g.ads) := fun e => by
      have h2 := pX.nodup_iff.1 nd1
      rcases e with e | e
      · exact (List.nodup_cons.1 h2).1 e
      · exact dj a (pX.symm.subset (by simp)) a e rfl
    have a3 : V3.heap[a]? = _ := (o3.block a (Array.getElem?_eq_some_iff.1 j2.1).1 na3).trans j2.1
    have o4 : Off (fun j => j = Q) V3 (V3.setCell ⟨Q, 0, none⟩ (.pointer q)) := off_set (Off.refl (fun j => j = Q) V3) rfl _
    have oV2 : Off f V V2 := o2.mono (fun i _ e => h.ft i (foot i e))
    have oV3 : Off f V2 V3 := o3.mono (fun i _ e => h.ft i (foot3 i e))
    have pm := mel_ps hXr g2
    have pma : (mel (plug (f0 :: c0) r) g).ads.Perm ((plug (f0 :: c0) r).ads ++ g.ads) := by
      have := pm.map (fun z : Nat × T => z.1)
      rw [List.map_append] at this
      exact this
    rw [hq] at he3
    refine ⟨mel (plug (f0 :: c0) r) g, q, he3, ⟨by rw [cell_of_row V3 Q _ _ 71 (0, 0) q3]; rfl, frozen_of_row V3 Q _ _ 71 q3⟩, hq, ⟨top_set q3 _, (o4.block S (Array.getElem?_eq_some_iff.1 s3).1 (fun e => ap1 e.symm)).trans s3, i3.off o4 (fun c hc e => (ap2 c (foot3 c (List.mem_append.1 (pma.subset hc)))).1 e), ⟨_, _, _, (o4.block a (Array.getElem?_eq_some_iff.1 a3).1 (fun e => (ap2 a ma).1 e)).trans a3⟩, mel_root hXr g2, mel_ho hXr g2 hXo g3, ?_, Off.trans ((hb.off f).then ((oV.then oV2).then oV3)) o4 (fun i e => .inl (by rw [show i = Q from e]; exact h.fQ))⟩, (oV.then oV2).then oV3⟩
    refine pall.trans (List.Perm.cons _ ?_)
    refine List.Perm.trans ?_ pm.symm
    refine List.perm_append_comm.trans ?_
    exact (plug_ps (f0 :: c0) r).symm.append peg)
  have FQ := Lib.hid h.fQ
  have FS := Lib.hid h.fS
  have FT := Lib.hid h.ft
  have HF := Lib.hid hf
  have HT := Lib.hid ht
  have b1 : (k : Int) < (P : Int) := by omega
  have MA := Lib.hid ma
  clear h hw ho ht hf ap2 ma hrt ho1 ho2 pall pads ml mr mc mtb etb mtb2 mX
  go_enter Try.func50, Try.ntmps50
  go_upto_region 1 with (fail)
  generalize w.alloc (.cells #[.int .u64 0, .int .u64 0, .int .i64 0] 35) = W at *
  obtain ⟨b, eb⟩ : ∃ b, w.heap.size = b := ⟨_, rfl⟩
  rw [eb] at HN ⊢
  go_wp2_with fail
  with_reducible refine (K.out _ HB.out).mono ?_
  rintro e V1 ⟨q1, rfl, cq1, hq, KL⟩
  go_wp2_with fail
  with_reducible refine (KL.out).mono ?_
  rintro e V2 ⟨rfl, cq2, KM⟩
  clear cq1 hq KL K
  go_wp2_with fail
  with_reducible refine (KM.out).mono ?_
  rintro e V ⟨g, q, rfl, ⟨cq0, z0⟩, hgq, htk, hoV⟩
  clear KM cq2
  have HTK := Lib.hid htk
  have HGQ := Lib.hid hgq
  have nb : ¬ f b := fun e => by have := HF.out _ e; omega
  have NB := Lib.hid nb
  have lb : b < W.heap.size := (Array.getElem?_eq_some_iff.1 HN.out).1
  have bV := (hoV.block b lb nb).trans HN.out
  have nbQ : ¬ b = Q := fun e => nb (by rw [e]; exact FQ.out)
  have bV2 : (V.setCell ⟨Q, 0, none⟩ (.pointer q)).heap[b]? = some (.cells #[.int .u64 0, .int .u64 0, .int .i64 0] 35 (0, 0)) := set_other bV nbQ _
  obtain ⟨za, zb, zc, hna⟩ := htk.ha
  have h1Q := htk.hQ
  have h1S := htk.hS
  have nbS : ¬ b = S := fun e => nb (by rw [e]; exact FS.out)
  have nab : ¬ a = b := fun e => nb (by rw [← e]; exact FT.out a MA.out)
  have naS : ¬ a = S := cells_ne hna h1S (by decide)
  have HE : Hid (∀ V', Off (fun j => j = b) ((V.setCell ⟨Q, 0, none⟩ (.pointer q)).setCell ⟨S, k, none⟩ pn) V' → ∃ tr', Be f V' Q S P tr' (upN wh k none) ∧ (plug (f0 :: c0) (.node a t l r)).ps.Perm ((a, t) :: tr'.ps) ∧ Off f w V') := Lib.hid (fun V' o => ⟨g, HTK.out.fin HW.out HT.out HGQ.out.symm FQ.out FS.out FT.out NB.out (by omega) o⟩)
  clear htk hgq
  go_upto_region 6 with (fail)
  have e1 : (V.setCell ⟨Q, 0, none⟩ (.pointer q)).cell? ⟨Q, 1, none⟩ = some (.slice (some ⟨S, 0, none⟩) P P) := by rw [cell_of_row _ Q _ _ 71 (0, 0) h1Q]; rfl
  have e2 : (V.setCell ⟨Q, 0, none⟩ (.pointer q)).cell? ⟨a, 2, none⟩ = some (.int .i64 k) := by rw [← HT.out]; exact (nd_cells hna).1.2.2.1
  have e3 := (nd_cells hna).1.1
  have e4 := (nd_cells hna).1.2.1
  have hkP := hk
  have e5 : (V.setCell ⟨Q, 0, none⟩ (.pointer q)).cell? ⟨S, k, none⟩ = some (ptv (wh k)) := by rw [cell_of_row _ S _ _ 69 (0, 0) h1S, List.getElem?_toArray]; exact encN_get P wh k hkP
  have z5 : (V.setCell ⟨Q, 0, none⟩ (.pointer q)).frozen? ⟨S, k, none⟩ = false := frozen_of_row _ S _ _ 69 h1S
  obtain ⟨⟨v0, v1, v2⟩, y0, y1, y2⟩ := box3 bV2
  have nSb : ¬ S = b := fun e => nbS e.symm
  have nSa : ¬ S = a := fun e => naS e.symm
  have nba : ¬ b = a := fun e => nab e.symm
  clear hna h1Q h1S bV bV2 HTK cq0 z0
  generalize V.setCell ⟨Q, 0, none⟩ (.pointer q) = V1 at *
  generalize ptv (wh k) = pw at *
  have HE2 : Hid (∃ tr', Be f (((((V1.setCell ⟨S, k, none⟩ pn).drew.setCell ⟨b, 0, none⟩ (.int .u64 t.a)).setCell ⟨b, 1, none⟩ (.int .u64 t.s)).setCell ⟨b, 2, none⟩ (.int .i64 k))) Q S P tr' (upN wh k none) ∧ (plug (f0 :: c0) (.node a t l r)).ps.Perm ((a, t) :: tr'.ps) ∧ Off f w (((((V1.setCell ⟨S, k, none⟩ pn).drew.setCell ⟨b, 0, none⟩ (.int .u64 t.a)).setCell ⟨b, 1, none⟩ (.int .u64 t.s)).setCell ⟨b, 2, none⟩ (.int .i64 k)))) := Lib.hid (HE.out _ (off_set (off_set (off_set (Off.refl (fun j => j = b) _).drew rfl _) rfl _) rfl _))
  go_region
  go_wp2
  exact bodyPost_ret (v := .agg #[.int .u64 t.a, .int .u64 t.s, .int .i64 k]) (by simp [results, Try.results50, go_sem, v0, v1, v2]) rfl ⟨by rw [HT.out], HE2.out⟩
theorem take_any (f : Nat → Prop) (Q S P : Nat) (tr : Tr) (wh : Nat → Option Nat) (a : Nat) (t : T) (k : Nat) (w : World) (h : Hm f w Q S P tr wh) (hw : Wn P tr wh) (hrt : tr.Root) (ho : tr.Ho) (hP : P ≤ 1024) (hm : (a, t) ∈ tr.ps) (ht : t.p = k) (hk : k < P) (hf : ∀ j, f j → j < w.heap.size) :
    Calls Try.prog 50 #[pt Q, pt a] w fun e w' => e = .returned (.agg #[.int .u64 t.a, .int .u64 t.s, .int .i64 t.p]) ∧ ∃ tr', Be f w' Q S P tr' (upN wh k none) ∧ tr.ps.Perm ((a, t) :: tr'.ps) ∧ Off f w w' := by
  obtain ⟨c, l, r, rfl⟩ := find_in hm
  cases c with
  | nil =>
    have e : r = .nil := hrt
    subst e
    exact take_top f Q S P wh a t l k w h hw ho hP ht hk hf
  | cons f0 c0 => exact take_mid f Q S P wh a t f0 c0 l r k w h hw hrt ho hP ht hk hf
end Go.Proofs.Ytdlfppdekllloaa
