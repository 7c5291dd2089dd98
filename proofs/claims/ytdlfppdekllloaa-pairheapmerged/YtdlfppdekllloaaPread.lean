/-
  Contracts of pending, Len, All, Min and Get.
-/
import Derived.Test.YtdlfppdekllloaaPq
set_option linter.unusedVariables false
set_option linter.unusedSimpArgs false
namespace Go.Proofs.Ytdlfppdekllloaa
open Go.RowKit
/-- The timer of a node. -/
def vat (tr : Tr) (o : Option Nat) : Option T := o.bind fun a => (tr.ps.find? fun z => decide (z.1 = a)).map (·.2)
theorem vat_at {P : Nat} {tr : Tr} {wh : Nat → Option Nat} (h : Wn P tr wh) {a : Nat} {t : T} (m : (a, t) ∈ tr.ps) : vat tr (some a) = some t := by
  unfold vat
  simp only [Option.bind_some]
  cases e : tr.ps.find? fun z => decide (z.1 = a) with
  | none => exact absurd (List.find?_eq_none.1 e (a, t) m) (by simp)
  | some z =>
    have h1 := List.mem_of_find?_eq_some e
    have h2 : z.1 = a := by simpa using List.find?_some e
    have := ps_one tr.ps h.nd z h1 (a, t) m h2
    rw [this]
    rfl
/-- Those of the first i places. -/
def pend (tr : Tr) (wh : Nat → Option Nat) (i : Nat) : List T := (List.range i).filterMap fun k => vat tr (wh k)
theorem pend_next (tr : Tr) (wh : Nat → Option Nat) (i : Nat) : pend tr wh (i + 1) = pend tr wh i ++ (vat tr (wh i)).toList := by
  unfold pend
  rw [List.range_succ, List.filterMap_append]
  congr 1
theorem mem_pend {P : Nat} {tr : Tr} {wh : Nat → Option Nat} (h : Wn P tr wh) {i : Nat} (hi : i ≤ P) {t : T} : t ∈ pend tr wh i ↔ t ∈ tr.ts ∧ t.p < i := by
  unfold pend
  rw [List.mem_filterMap]
  constructor
  · rintro ⟨k, hk, hv⟩
    have hk : k < i := by simpa using hk
    cases e : wh k with
    | none => rw [e] at hv; cases hv
    | some a =>
      obtain ⟨s, h1, h2⟩ := h.no k (by omega) a e
      rw [e, vat_at h h1] at hv
      have hv : s = t := Option.some.inj hv
      subst hv
      exact ⟨mem_ts.2 ⟨a, h1⟩, by omega⟩
  · rintro ⟨h1, h2⟩
    obtain ⟨a, h3⟩ := mem_ts.1 h1
    obtain ⟨k, k1, k2, k3⟩ := h.at_ _ h3
    have k1 : t.p = k := k1
    exact ⟨k, by simp; omega, by rw [k3]; exact vat_at h h3⟩
theorem pend_nodup {P : Nat} {tr : Tr} {wh : Nat → Option Nat} (h : Wn P tr wh) : ∀ i, i ≤ P → (pend tr wh i).Nodup
  | 0, _ => by simp [pend]
  | i + 1, hi => by
    rw [pend_next, List.nodup_append]
    refine ⟨pend_nodup h i (by omega), by cases vat tr (wh i) <;> simp, fun x hx y hy e => ?_⟩
    subst e
    have h1 := ((mem_pend h (by omega)).1 hx).2
    have h2 : x ∈ pend tr wh (i + 1) := by rw [pend_next]; exact List.mem_append.2 (.inr hy)
    cases e2 : wh i with
    | none => rw [e2] at hy; simp [vat] at hy
    | some a =>
      obtain ⟨s, s1, s2⟩ := h.no i (by omega) a e2
      rw [e2, vat_at h s1] at hy
      simp at hy
      subst hy
      omega
theorem pend_all {P : Nat} {tr : Tr} {wh : Nat → Option Nat} (h : Wn P tr wh) : (pend tr wh P).Perm tr.ts := by
  rw [List.perm_ext_iff_of_nodup (pend_nodup h P (Nat.le_refl _)) h.tsNodup]
  intro t
  rw [mem_pend h (Nat.le_refl _)]
  constructor
  · exact fun h => h.1
  · intro m
    obtain ⟨a, h3⟩ := mem_ts.1 m
    obtain ⟨k, k1, k2, k3⟩ := h.at_ _ h3
    have k1 : t.p = k := k1
    exact ⟨m, by omega⟩
theorem pend_len {tr : Tr} {wh : Nat → Option Nat} : ∀ i, (pend tr wh i).length ≤ i
  | i => by
    unfold pend
    exact Nat.le_trans (List.length_filterMap_le _ _) (by simp)
set_option maxRecDepth 100000 in
set_option maxHeartbeats 2000000 in
theorem pending_any (f : Nat → Prop) (Q S P : Nat) (tr : Tr) (wh : Nat → Option Nat) (w : World) (h : Hm f w Q S P tr wh) (hw : Wn P tr wh) (hP : P ≤ 1024) :
    Calls Try.prog 46 #[pt Q] w fun e w' => ∃ v, e = .returned v ∧ OwnT w' w.heap.size v (pend tr wh P) ∧ Bel w w' := by
  have H := Lib.hid h
  have HW := Lib.hid hw
  have c1 := h.head.1.2
  clear h hw
  go_enter Try.func46, Try.ntmps46
  go_wp2
  go_loopw [3, 11] (fun v3 v11 wr => ∃ i : Nat, v11 = .int .i64 i ∧ i ≤ P ∧ OwnT wr w.heap.size v3 (pend tr wh i) ∧ Bel w wr) (fun _ v _ => P - (intOf v).toNat)
  case atStart => exact ⟨0, rfl, Nat.zero_le _, OwnT.nil _ _, Bel.refl _⟩
  case round =>
    obtain ⟨i, rfl, hi, ho, hb⟩ := hrel
    have HO := Lib.hid ho
    have HB := Lib.hid hb
    clear ho hb c1
    by_cases hiP : i < P
    · have b1 : (i : Int) < (P : Int) := by omega
      have s0' := (H.out.bel HB.out).at hiP
      have hnx := pend_next tr wh i
      cases e : wh i with
      | none =>
        rw [e] at s0' hnx
        have s0 : wr.cell? ⟨S, i, none⟩ = some pn := s0'
        clear s0'
        have HE : Hid (pend tr wh (i + 1) = pend tr wh i) := Lib.hid (by rw [hnx]; simp [vat])
        clear hnx e
        go_wp2
        go_roundw
        case rel => exact ⟨i + 1, by go_num, by omega, by rw [HE.out]; exact HO.out, HB.out⟩
        case measure => simp [intOf]; omega
      | some a =>
        rw [e] at s0' hnx
        have s0 : wr.cell? ⟨S, i, none⟩ = some (pt a) := s0'
        clear s0'
        obtain ⟨t, t1, t2⟩ := HW.out.no i hiP a e
        have HE : Hid (pend tr wh (i + 1) = pend tr wh i ++ [t]) := Lib.hid (by rw [hnx, vat_at HW.out t1]; rfl)
        obtain ⟨_, _, _, hnode⟩ := (H.out.bel HB.out).is.val a t t1
        obtain ⟨⟨n0, n1, n2, _⟩, _⟩ := nd_cells hnode
        have hpl : (pend tr wh i).length ≤ 1024 := Nat.le_trans (pend_len i) (by omega)
        have HO2 : Hid (OwnT (wr.alloc (.cells #[.int .u64 t.a, .int .u64 t.s, .int .i64 t.p] 35)) w.heap.size u3 (pend tr wh i)) := Lib.hid (HO.out.bel ((Bel.refl _).alloc _ _))
        have HS2 : Hid (w.heap.size ≤ (wr.alloc (.cells #[.int .u64 t.a, .int .u64 t.s, .int .i64 t.p] 35)).heap.size) := Lib.hid (by
          have h1 := HB.out.size
          have h2 := Bel.size ((Bel.refl wr).alloc #[.int .u64 t.a, .int .u64 t.s, .int .i64 t.p] 35)
          omega)
        have HONE := Lib.hid (has_one wr t)
        clear hnx e t1 t2 hnode
        generalize pend tr wh i = d at *
        go_wp2_with (at_builtin; refine wpList_append_any rfl (.tmp 17) (.tmp 22) rfl w.heap.size _ d rfl HO2.out _ 1 _ [t] rfl rfl HONE.out (by omega) HS2.out ?_)
        intro v3 w3 hown3 hgrow3 hnil3
        have HO3 := Lib.hid hown3
        have HB3 : Hid (Bel w w3) := Lib.hid (Off.grown (HB.out.alloc _ _) hgrow3 (fun k e => .inr (HO.out.lt k e).1))
        clear hown3 hgrow3 hnil3
        go_wp2
        go_roundw
        case rel => exact ⟨i + 1, by go_num, by omega, by rw [HE.out]; exact HO3.out, HB3.out⟩
        case measure => simp [intOf]; omega
    · have b1 : ¬ (i : Int) < (P : Int) := by omega
      obtain rfl : i = P := by omega
      go_wp2
      go_ret
      exact ⟨_, rfl, HO.out, HB.out⟩
theorem len_any (f : Nat → Prop) (Q P : Nat) (l : List T) (w : World) (h : Qu f w Q P l) :
    Calls Try.prog 21 #[.pointer (some ⟨Q, 0, none⟩)] w fun e w' => e = .returned (.int .i64 l.length) ∧ Bel w w' := by
  obtain ⟨⟨S, tr, wh, h1, h2, _, _, rfl⟩, hP, _⟩ := h
  have K := Lib.hid (pending_any f Q S P tr wh w h1 h2 hP)
  have HL : Hid ((pend tr wh P).length = (srt tr.ts).length) := Lib.hid (by rw [srt_len]; exact (pend_all h2).length_eq)
  rw [← HL.out]
  clear h1 h2
  go_enter Try.func21, Try.ntmps21
  go_wp2_with fail
  with_reducible refine K.out.mono ?_
  rintro e w1 ⟨v, rfl, ho, hb⟩
  obtain ⟨p, c, rfl, _, _, _⟩ := ho.slice
  have HB := Lib.hid hb
  clear ho hb
  go_wp2
  go_ret
  exact ⟨rfl, HB.out⟩
theorem all_any (f : Nat → Prop) (Q P : Nat) (l : List T) (w : World) (h : Qu f w Q P l) :
    Calls Try.prog 20 #[.pointer (some ⟨Q, 0, none⟩)] w fun e w' => OutN w w' e l ∧ Bel w w' := by
  obtain ⟨⟨S, tr, wh, h1, h2, _, _, rfl⟩, hP, _⟩ := h
  have K := Lib.hid (pending_any f Q S P tr wh w h1 h2 hP)
  have HL : Hid (srt (pend tr wh P) = srt tr.ts) := Lib.hid (srt_same (pend_all h2))
  have hl : (pend tr wh P).length ≤ 1024 := Nat.le_trans (pend_len P) hP
  rw [← HL.out]
  clear h1 h2
  generalize pend tr wh P = d at *
  have K2 := Lib.hid (fun p c w' (hq : Has w' p d) => sort_any p d.length c d w' rfl (by omega) hq)
  go_enter Try.func20, Try.ntmps20
  go_wp2_with fail
  with_reducible refine K.out.mono ?_
  rintro e w1 ⟨v, rfl, ho, hb⟩
  obtain ⟨p, c, rfl, _, _, hq⟩ := ho.slice
  have HB := Lib.hid hb
  have HQ := Lib.hid hq
  clear ho hb hq
  go_wp2_with fail
  with_reducible refine (K2.out p c w1 HQ.out).mono ?_
  rintro e w2 ⟨⟨q, c2, rfl, hc, hq2⟩, hb2⟩
  have HQ2 : Hid (Lies (old w) w2 q (encs (srt d))) := Lib.hid (hq2.mono (fun b _ e => Nat.lt_of_lt_of_le e HB.out.size))
  have HB2 := Lib.hid (HB.out.trans hb2)
  clear hq2 hb2
  go_wp2
  go_ret
  exact ⟨⟨q, c2, rfl, hc, HQ2.out⟩, HB2.out⟩
theorem head_ts {tr : Tr} (hr : tr.Root) (ho : tr.Ho) : (tr = .nil ∧ (srt tr.ts).head? = none) ∨ ∃ a t l, tr = .node a t l .nil ∧ (srt tr.ts).head? = some t := by
  rcases hr.cases with rfl | ⟨a, t, l, rfl⟩
  · exact .inl ⟨rfl, rfl⟩
  · obtain ⟨r, e⟩ := top_head ho
    exact .inr ⟨a, t, l, rfl, by rw [e]; rfl⟩
set_option maxRecDepth 100000 in
set_option maxHeartbeats 1000000 in
theorem min_any (f : Nat → Prop) (Q P : Nat) (l : List T) (w : World) (h : Qu f w Q P l) :
    Calls Try.prog 26 #[.pointer (some ⟨Q, 0, none⟩)] w fun e w' => e = .returned (ansT l.head?) ∧ Bel w w' := by
  have HB : Hid (Bel w (w.alloc (.cells #[.int .u64 0, .int .u64 0, .int .i64 0] 35))) := Lib.hid ((Bel.refl _).alloc _ _)
  have HN : Hid ((w.alloc (.cells #[.int .u64 0, .int .u64 0, .int .i64 0] 35)).heap[w.heap.size]? = some (.cells #[.int .u64 0, .int .u64 0, .int .i64 0] 35 (0, 0))) := Lib.hid (heap_alloc_new _ _)
  obtain ⟨⟨S, tr, wh, h1, h2, h3, h4, rfl⟩, hP, _⟩ := h
  have h1' := h1.bel HB.out
  rcases head_ts h3 h4 with ⟨rfl, e⟩ | ⟨a, x, lx, rfl, e⟩
  · rw [e]
    have c0 : (w.alloc (.cells #[.int .u64 0, .int .u64 0, .int .i64 0] 35)).cell? ⟨Q, 0, none⟩ = some pn := h1'.head.1.1
    clear h1 h2 h3 h4 h1'
    go_enter Try.func26, Try.ntmps26
    go_upto_region 1 with (fail)
    generalize w.alloc (.cells #[.int .u64 0, .int .u64 0, .int .i64 0] 35) = W at *
    obtain ⟨⟨b0, b1, b2⟩, f0, f1, f2⟩ := box3 HN.out
    have HE := Lib.hid (bel3 HB.out (Nat.le_refl _) (.int .u64 0) (.int .u64 0) (.int .i64 0))
    go_wp2
    exact bodyPost_ret (v := ansT none) (by simp [results, Try.results26, go_sem, b0, b1, b2, ansT]) rfl ⟨rfl, HE.out⟩
  · rw [e]
    have c0 : (w.alloc (.cells #[.int .u64 0, .int .u64 0, .int .i64 0] 35)).cell? ⟨Q, 0, none⟩ = some (pt a) := h1'.head.1.1
    obtain ⟨⟨x0, x1, x2, _⟩, _⟩ := nd_cells h1'.is.1
    clear h1 h2 h3 h4 h1'
    go_enter Try.func26, Try.ntmps26
    go_upto_region 1 with (fail)
    generalize w.alloc (.cells #[.int .u64 0, .int .u64 0, .int .i64 0] 35) = W at *
    obtain ⟨⟨b0, b1, b2⟩, f0, f1, f2⟩ := box3 HN.out
    have HE := Lib.hid (bel3 HB.out (Nat.le_refl _) (.int .u64 x.a) (.int .u64 x.s) (.int .i64 x.p))
    go_wp2
    exact bodyPost_ret (v := ansT (some x)) (by simp [results, Try.results26, go_sem, b0, b1, b2, ansT]) rfl ⟨rfl, HE.out⟩
set_option maxHeartbeats 1000000 in
theorem get_no (Q : Nat) (l : List T) (k er : Int) (w : World) (hne : ¬ er = 0) (K : ∀ w', Bel w w' → Calls Try.prog 51 #[pt Q, .int .i64 k] w' fun e w2 => e = .returned (.tuple #[pn, .int .i64 er]) ∧ w' = w2) (hf : fnd l k = none) :
    Calls Try.prog 29 #[.pointer (some ⟨Q, 0, none⟩), .int .i64 k] w fun e w' => e = .returned (ansT (fnd l k)) ∧ Bel w w' := by
  rw [hf]
  have K := Lib.hid K
  have HB : Hid (Bel w (w.alloc (.cells #[.int .u64 0, .int .u64 0, .int .i64 0] 35))) := Lib.hid ((Bel.refl _).alloc _ _)
  have HN : Hid ((w.alloc (.cells #[.int .u64 0, .int .u64 0, .int .i64 0] 35)).heap[w.heap.size]? = some (.cells #[.int .u64 0, .int .u64 0, .int .i64 0] 35 (0, 0))) := Lib.hid (heap_alloc_new _ _)
  have hne2 : (er != 0) = true := by simpa using hne
  clear hf hne
  go_enter Try.func29, Try.ntmps29
  go_upto_region 1 with (fail)
  generalize w.alloc (.cells #[.int .u64 0, .int .u64 0, .int .i64 0] 35) = W at *
  obtain ⟨⟨b0, b1, b2⟩, f0, f1, f2⟩ := box3 HN.out
  go_wp2_with fail
  with_reducible refine (K.out _ HB.out).mono ?_
  rintro e w1 ⟨rfl, rfl⟩
  have HE := Lib.hid (bel3 HB.out (Nat.le_refl _) (.int .u64 0) (.int .u64 0) (.int .i64 0))
  go_wp2
  exact bodyPost_ret (v := ansT none) (by simp [results, Try.results29, go_sem, b0, b1, b2, ansT]) rfl ⟨rfl, HE.out⟩
set_option maxHeartbeats 1000000 in
theorem get_any (f : Nat → Prop) (Q P : Nat) (l : List T) (k : Int) (w : World) (h : Qu f w Q P l) :
    Calls Try.prog 29 #[.pointer (some ⟨Q, 0, none⟩), .int .i64 k] w fun e w' => e = .returned (ansT (fnd l k)) ∧ Bel w w' := by
  obtain ⟨⟨S, tr, wh, h1, h2, h3, h4, rfl⟩, hP, _⟩ := h
  cases hk : hp P k with
  | false => exact get_no Q _ k 1 w (by decide) (fun w' b => find_out f Q S P tr wh k w' (h1.bel b) hk) (h2.outside hk)
  | true =>
    obtain ⟨j, rfl, hj⟩ := hp_nat hk
    rcases h2.place hj with ⟨e1, e2⟩ | ⟨a, x, i1, i2, i3, i4⟩
    · exact get_no Q _ j 5 w (by decide) (fun w' b => find_no' f Q S P tr wh j w' (h1.bel b) hj e1) e2
    · rw [i4]
      have HB : Hid (Bel w (w.alloc (.cells #[.int .u64 0, .int .u64 0, .int .i64 0] 35))) := Lib.hid ((Bel.refl _).alloc _ _)
      have HN : Hid ((w.alloc (.cells #[.int .u64 0, .int .u64 0, .int .i64 0] 35)).heap[w.heap.size]? = some (.cells #[.int .u64 0, .int .u64 0, .int .i64 0] 35 (0, 0))) := Lib.hid (heap_alloc_new _ _)
      have K := Lib.hid (fun w' (b : Bel w w') => find_at f Q S P tr wh j a w' (h1.bel b) hj i2)
      obtain ⟨_, _, _, hnode⟩ := (h1.bel HB.out).is.val a x i1
      obtain ⟨⟨x0, x1, x2, _⟩, _⟩ := nd_cells hnode
      clear h1 h2 h3 h4 hk i1 i2 i3 i4 hnode
      go_enter Try.func29, Try.ntmps29
      go_upto_region 1 with (fail)
      generalize w.alloc (.cells #[.int .u64 0, .int .u64 0, .int .i64 0] 35) = W at *
      obtain ⟨⟨b0, b1, b2⟩, f0, f1, f2⟩ := box3 HN.out
      go_wp2_with fail
      with_reducible refine (K.out _ HB.out).mono ?_
      rintro e w1 ⟨rfl, rfl⟩
      have HE := Lib.hid (bel3 HB.out (Nat.le_refl _) (.int .u64 x.a) (.int .u64 x.s) (.int .i64 x.p))
      go_wp2
      exact bodyPost_ret (v := ansT (some x)) (by simp [results, Try.results29, go_sem, b0, b1, b2, ansT]) rfl ⟨rfl, HE.out⟩
end Go.Proofs.Ytdlfppdekllloaa
