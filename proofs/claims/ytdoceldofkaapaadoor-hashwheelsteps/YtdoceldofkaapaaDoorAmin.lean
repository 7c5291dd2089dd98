/-
  Contract of a wheel's Min.
-/
import Derived.Test.YtdoceldofkaapaaDoorXar
import Derived.Test.YtdoceldofkaapaaDoorXaj
import Derived.Deep.Cut
import Derived.Stop.RegionWithIn
import Derived.Sort.CutIn
import Derived.Sort.QuietIn
set_option linter.unusedVariables false
set_option linter.unusedSimpArgs false
namespace Go.Proofs.YtdoceldofkaapaaDoor.Ha
open Go.RowKit Go.Shelf
attribute [local go_sem] Oper.semAt_some
/-- What holds while the operations of Min's first region come up, whatever the order: which have come (the Booleans), and what they left. -/
structure J1 (W0 : World) (Q Z bq S n0 : Nat) (L0 : List T) (xa xs xp : Int) (z0 : Bool) (l0 l1 l2 l3 l4 l5 l6 l7 l8 l9 l10 l11 l12 l13 l14 : Bool) (u4 u5 u9 u10 u11 u12 u13 u14 u15 u16 u17 u18 u19 : Value) (W : World) : Prop where
  b : Bel W0 W
  c0 : l0 = true → u10 = .pointer (some ⟨Q, 0, none⟩)
  c1 : l1 = true → u11 = .pointer (some ⟨Q, 0, none⟩)
  c2 : l2 = true → u12 = .pointer (some ⟨Q, 0, none⟩)
  c3 : l3 = true → u13 = .pointer (some ⟨Z, 0, none⟩)
  c4 : l4 = true → u14 = .pointer (some ⟨Q, 0, none⟩)
  c5 : l5 = true → u15 = .int .i64 S
  c6 : l6 = true → l7 = false → ∃ p c, u16 = .slice p n0 c ∧ Has W p L0
  c7 : l7 = true → u17 = .tuple #[.agg #[.int .u64 xa, .int .u64 xs, .int .i64 xp], .bool z0]
  c8 : l8 = true → u9 = .tuple #[.agg #[.int .u64 xa, .int .u64 xs, .int .i64 xp], .bool z0]
  c9 : l9 = true → u18 = .agg #[.int .u64 xa, .int .u64 xs, .int .i64 xp]
  c10 : l10 = true → u19 = .bool z0
  c11 : l11 = true → ∃ D, u4 = .pointer (some ⟨D, 0, none⟩) ∧ W0.heap.size ≤ D ∧ (l13 = false → W.heap[D]? = some (.cells #[.int .u64 0, .int .u64 0, .int .i64 0] 41 (0, 0))) ∧ (l13 = true → W.heap[D]? = some (.cells #[.int .u64 xa, .int .u64 xs, .int .i64 xp] 41 (0, 0)))
  c13 : l13 = true → l11 = true
  c14 : l14 = true → l12 = true
  c12 : l12 = true → ∃ D, u5 = .pointer (some ⟨D, 0, none⟩) ∧ W0.heap.size ≤ D ∧ (l14 = false → W.heap[D]? = some (.cells #[.bool false] 4 (0, 0))) ∧ (l14 = true → W.heap[D]? = some (.cells #[.bool z0] 4 (0, 0)))
theorem J1.le {W0 W W' : World} {Q Z bq S n0 : Nat} {L0 : List T} {xa xs xp : Int} {z0 : Bool} {l0 l1 l2 l3 l4 l5 l6 l7 l8 l9 l10 l11 l12 l13 l14 : Bool} {u4 u5 u9 u10 u11 u12 u13 u14 u15 u16 u17 u18 u19 : Value} (h : J1 W0 Q Z bq S n0 L0 xa xs xp z0 l0 l1 l2 l3 l4 l5 l6 l7 l8 l9 l10 l11 l12 l13 l14 u4 u5 u9 u10 u11 u12 u13 u14 u15 u16 u17 u18 u19 W) (k : Bel W W') : J1 W0 Q Z bq S n0 L0 xa xs xp z0 l0 l1 l2 l3 l4 l5 l6 l7 l8 l9 l10 l11 l12 l13 l14 u4 u5 u9 u10 u11 u12 u13 u14 u15 u16 u17 u18 u19 W' :=
  ⟨h.b.trans k, h.c0, h.c1, h.c2, h.c3, h.c4, h.c5, (fun e e2 => by obtain ⟨p, c, a1, a2⟩ := h.c6 e e2; exact ⟨p, c, a1, a2.bel k⟩), h.c7, h.c8, h.c9, h.c10, (fun e => by obtain ⟨D, a1, a2, a3, a4⟩ := h.c11 e; exact ⟨D, a1, a2, fun e => k.heap (a3 e), fun e => k.heap (a4 e)⟩), h.c13, h.c14, (fun e => by obtain ⟨D, a1, a2, a3, a4⟩ := h.c12 e; exact ⟨D, a1, a2, fun e => k.heap (a3 e), fun e => k.heap (a4 e)⟩)⟩
/-- What holds while the operations of Min's test come up, whatever the order. -/
structure J9 (D1 bq Q : Nat) (S ya s g : Int) (tst : Bool) (l0 l1 l2 l3 l4 l5 l6 l7 l8 l9 l10 l11 l12 : Bool) (a : Act) : Prop where
  sz : a.tmps.size = 63
  e4 : a.eval (.tmp 4) = .pointer (some ⟨D1, 0, none⟩)
  e1 : a.eval (.tmp 1) = .pointer (some ⟨bq, 0, none⟩)
  c0 : l0 = true → a.eval (.tmp 48) = .pointer (some ⟨D1, 0, none⟩)
  c1 : l1 = true → a.eval (.tmp 49) = .int .u64 ya
  c2 : l2 = true → a.eval (.tmp 50) = .pointer (some ⟨Q, 0, none⟩)
  c3 : l3 = true → a.eval (.tmp 51) = .pointer (some ⟨Q, 0, none⟩)
  c4 : l4 = true → a.eval (.tmp 52) = .pointer (some ⟨Q, 2, none⟩)
  c5 : l5 = true → a.eval (.tmp 53) = .int .u64 s
  c6 : l6 = true → a.eval (.tmp 54) = .int .u64 g
  c7 : l7 = true → a.eval (.tmp 55) = .pointer (some ⟨Q, 0, none⟩)
  c8 : l8 = true → a.eval (.tmp 56) = .pointer (some ⟨Q, 0, none⟩)
  c9 : l9 = true → a.eval (.tmp 57) = .pointer (some ⟨Q, 1, none⟩)
  c10 : l10 = true → a.eval (.tmp 58) = .int .i64 S
  c11 : l11 = true → a.eval (.tmp 59) = .int .u64 S
  c12 : l12 = true → a.eval (.tmp 60) = .bool tst
section
variable {Q Z B G R P b : Nat} {s k : Int} {l : List T}
theorem ansT_eq' (o : Option T) : ansT o = .tuple #[.agg #[.int .u64 (o.getD default).a, .int .u64 (o.getD default).s, .int .i64 (o.getD default).p], .bool o.isSome] := by cases o <;> rfl
set_option maxRecDepth 100000 in
set_option maxHeartbeats 4000000 in
theorem min_any (w : World) (q : Wh w Q Z B G R P b s k l) :
    Calls Tryd.prog 19 #[.pointer (some ⟨Q, 0, none⟩)] w fun e w' => e = .returned (ansT l.head?) ∧ Bel w w' := by
  obtain ⟨h1, h2⟩ := slo_le q.re.hb.2
  have hLT := q.lt
  have lQ := hLT.1
  have hts := q.re.ts
  have htl := q.re.tl
  obtain ⟨⟨ls, r, F, q1, q2⟩, q3⟩ := q
  have HQP := Lib.hid q1
  have HTL := Lib.hid htl
  have HLT := Lib.hid hLT
  have hl0 : ((ls (slo b)).map r).length ≤ 1024 := by rw [List.length_map]; exact q1.ql.lslen (Nat.lt_succ_self _)
  have HB0 : Hid (Bel w ((w.alloc (.cells #[.pointer (some ⟨Q, 0, none⟩)] 25)).alloc (.cells #[.int .u64 0, .int .u64 0, .int .i64 0] 41))) := Lib.hid (((Bel.refl _).alloc _ _).alloc _ _)
  have HC0 : Hid (((w.alloc (.cells #[.pointer (some ⟨Q, 0, none⟩)] 25)).alloc (.cells #[.int .u64 0, .int .u64 0, .int .i64 0] 41)).heap[w.heap.size]? = some (.cells #[.pointer (some ⟨Q, 0, none⟩)] 25 (0, 0))) := Lib.hid (by rw [Below.heap_alloc _ _ _ (by simp), heap_alloc_new])
  have HC1 : Hid (((w.alloc (.cells #[.pointer (some ⟨Q, 0, none⟩)] 25)).alloc (.cells #[.int .u64 0, .int .u64 0, .int .i64 0] 41)).heap[w.heap.size + 1]? = some (.cells #[.int .u64 0, .int .u64 0, .int .i64 0] 41 (0, 0))) := Lib.hid (by
    have := heap_alloc_new (w.alloc (.cells #[.pointer (some ⟨Q, 0, none⟩)] 25)) (.cells #[.int .u64 0, .int .u64 0, .int .i64 0] 41)
    rw [World.size_alloc] at this; exact this)
  have KR : Hid (∀ w', Bel w w' → Calls Tryd.prog 26 #[.pointer (some ⟨Q, 0, none⟩)] w' fun e w2 => e = .returned (.int .i64 (slo b : Nat)) ∧ w' = w2) := Lib.hid (fun w' hb => ready_any Q (slo b) w' ((HQP.out.bel hb).cell rfl))
  have KI : Hid (∀ t, t < slo b + 1 → ∀ w', Bel w w' → Calls Tryd.prog 35 #[.pointer (some ⟨Z, 0, none⟩), .int .i64 (t : Nat)] w' fun e w2 => ∃ p c, e = .returned (.slice p ((ls t).map r).length c) ∧ Has w2 p ((ls t).map r) ∧ Bel w' w2) := Lib.hid (fun t ht w' hb =>
    (in_any ht w' (HQP.out.bel hb).ql).mono fun e w2 ⟨⟨p, c, a1, _, a3⟩, a4⟩ => ⟨p, c, a1, a3.has, a4⟩)
  have KF : Hid (∀ t, t < slo b + 1 → ∀ w' p c, Has w' p ((ls t).map r) → Calls Tryd.prog 34 #[.slice p ((ls t).map r).length c] w' fun e w2 => e = .returned (ansT (mn ((ls t).map r))) ∧ Bel w' w2) := Lib.hid (fun t ht w' p c hh => first_any _ _ c p w' rfl (by rw [List.length_map]; have := HQP.out.ql.lslen ht; omega) hh)
  have KI0 := Lib.hid (KI.out (slo b) (Nat.lt_succ_self _))
  have KF0 := Lib.hid (KF.out (slo b) (Nat.lt_succ_self _))
  simp only [ansT_eq'] at KF0
  refine (callsIn_wide (n := 4)).1 ?_
  have hro : Fence.wide.round = none := rfl
  refine callsIn_of_wp_marks Tryd.func19 rfl trivial ?_ hro
  simp only [Tryd.ntmps19, List.size_toArray, List.length_cons, List.length_nil, Nat.reduceAdd, Nat.reduceSub, Array.replicate_succ, Array.replicate_zero, List.push_toArray, List.append_toArray, List.nil_append, List.cons_append]
  refine wpIn_wide.2 ?_
  go_upto_region 1 with (fail)
  generalize (w.alloc (.cells #[.pointer (some ⟨Q, 0, none⟩)] 25)).alloc (.cells #[.int .u64 0, .int .u64 0, .int .i64 0] 41) = W0 at *
  obtain ⟨bq, hbq⟩ : ∃ bq, w.heap.size = bq := ⟨_, rfl⟩
  obtain ⟨b2, hb2⟩ : ∃ b2, bq + 1 = b2 := ⟨_, rfl⟩
  rw [hbq] at HC0 HC1 ⊢
  rw [hb2] at HC1 ⊢
  obtain ⟨m0, hm0⟩ : ∃ m0, mn ((ls (slo b)).map r) = m0 := ⟨_, rfl⟩
  rw [hm0] at KF0
  have HM0 := Lib.hid hm0
  obtain ⟨S, hS⟩ : ∃ S, slo b = S := ⟨_, rfl⟩
  have HSb := Lib.hid hS
  rw [hS] at KR KI0 KF0 h1 h2 hl0 q1 q2
  clear hS hm0
  obtain ⟨n0, hn0⟩ : ∃ n0, ((ls S).map r).length = n0 := ⟨_, rfl⟩
  rw [hn0] at KI0 KF0 hl0
  go_cut [4, 5] from 9 (fun v4 v5 wx => ∃ D1 D2, v4 = .pointer (some ⟨D1, 0, none⟩) ∧ v5 = .pointer (some ⟨D2, 0, none⟩) ∧ Sb w Q bq b2 D1 D2 (m0.getD default) m0.isSome wx)
  case first =>
    rename_i JJ KK HJJ HKK
    obtain ⟨c0, f0⟩ := box1 HC0.out
    have HZB : Hid (w.heap.size ≤ W0.heap.size ∧ bq < W0.heap.size ∧ b2 < W0.heap.size ∧ bq = w.heap.size ∧ b2 = bq + 1) := Lib.hid ⟨HB0.out.size, (Array.getElem?_eq_some_iff.1 HC0.out).1, (Array.getElem?_eq_some_iff.1 HC1.out).1, hbq.symm, hb2.symm⟩
    have HSZ : Hid (∀ w', Bel W0 w' → W0.heap.size ≤ w'.heap.size) := Lib.hid (fun w' h => h.size)
    have HSX : Hid (∀ w', Bel W0 w' → w'.cell? ⟨bq, 0, none⟩ = some (.pointer (some ⟨Q, 0, none⟩))) := Lib.hid (fun w' hb => hb.cell c0)
    have HSQ : Hid (∀ w', Bel W0 w' → w'.cell? ⟨Q, 0, none⟩ = some (.pointer (some ⟨Z, 0, none⟩))) := Lib.hid (fun w' hb => (HQP.out.bel (HB0.out.trans hb)).cell rfl)
    obtain ⟨xa, exa⟩ : ∃ x, (m0.getD default).a = x := ⟨_, rfl⟩
    obtain ⟨xs, exs⟩ : ∃ x, (m0.getD default).s = x := ⟨_, rfl⟩
    obtain ⟨xp, exq⟩ : ∃ x, (m0.getD default).p = x := ⟨_, rfl⟩
    obtain ⟨z0, exz⟩ : ∃ x, m0.isSome = x := ⟨_, rfl⟩
    rw [exa, exs, exq, exz] at KF0
    clear hLT q1 q2 q3 htl
    go_wp2
    refine (wpIn_wide (n := 4)).1 ?_
    refine wpIn_region_any (by kernel_rfl) ?_
    refine wpAnyIn_inv (fun listed a w2 => ∃ l0 l1 l2 l3 l4 l5 l6 l7 l8 l9 l10 l11 l12 l13 l14 u4 u5 u9 u10 u11 u12 u13 u14 u15 u16 u17 u18 u19, listed = #[l0, l1, l2, l3, l4, l5, l6, l7, l8, l9, l10, l11, l12, l13, l14] ∧ a = { tmps := (.pointer (some ⟨Q, 0, none⟩) :: .pointer (some ⟨bq, 0, none⟩) :: .pointer (some ⟨b2, 0, none⟩) :: .bool false :: u4 :: u5 :: undef :: undef :: undef :: u9 :: u10 :: u11 :: u12 :: u13 :: u14 :: u15 :: u16 :: u17 :: u18 :: u19 :: undef :: undef :: undef :: undef :: undef :: undef :: undef :: undef :: undef :: undef :: undef :: undef :: undef :: undef :: undef :: undef :: undef :: undef :: undef :: undef :: undef :: undef :: undef :: undef :: undef :: undef :: undef :: undef :: undef :: undef :: undef :: undef :: undef :: undef :: undef :: undef :: undef :: undef :: undef :: undef :: undef :: undef :: undef :: []).toArray, defers := [] } ∧ J1 W0 Q Z bq S n0 ((ls S).map r) xa xs xp z0 l0 l1 l2 l3 l4 l5 l6 l7 l8 l9 l10 l11 l12 l13 l14 u4 u5 u9 u10 u11 u12 u13 u14 u15 u16 u17 u18 u19 w2) ?sz ?step ?fin _ _ _ _ (by decide) ⟨false, false, false, false, false, false, false, false, false, false, false, false, false, false, false, undef, undef, undef, undef, undef, undef, undef, undef, undef, undef, undef, undef, undef, rfl, rfl, ⟨(Bel.refl W0).drew, (fun e => by cases e), (fun e => by cases e), (fun e => by cases e), (fun e => by cases e), (fun e => by cases e), (fun e => by cases e), (fun e => by cases e), (fun e => by cases e), (fun e => by cases e), (fun e => by cases e), (fun e => by cases e), (fun e => by cases e), (fun e => by cases e), (fun e => by cases e), (fun e => by cases e)⟩⟩
    case sz =>
      rintro listed a w2 ⟨l0, l1, l2, l3, l4, l5, l6, l7, l8, l9, l10, l11, l12, l13, l14, u4, u5, u9, u10, u11, u12, u13, u14, u15, u16, u17, u18, u19, rfl, _⟩
      rfl
    case fin =>
      rintro listed a w2 ⟨l0, l1, l2, l3, l4, l5, l6, l7, l8, l9, l10, l11, l12, l13, l14, u4, u5, u9, u10, u11, u12, u13, u14, u15, u16, u17, u18, u19, rfl, ha, h⟩ hr
      obtain rfl : l0 = true := by
        cases l0 with
        | true => rfl
        | false => exact absurd rfl (ready_not (j := 0) hr rfl (by intro e he hb; simp at he <;> (repeat' (rcases he with he | he)) <;> first | rfl | exact absurd hb (by decide)))
      obtain rfl : l1 = true := by
        cases l1 with
        | true => rfl
        | false => exact absurd rfl (ready_not (j := 1) hr rfl (by intro e he hb; simp at he <;> (repeat' (rcases he with he | he)) <;> first | rfl | exact absurd hb (by decide)))
      obtain rfl : l2 = true := by
        cases l2 with
        | true => rfl
        | false => exact absurd rfl (ready_not (j := 2) hr rfl (by intro e he hb; simp at he <;> (repeat' (rcases he with he | he)) <;> first | rfl | exact absurd hb (by decide)))
      obtain rfl : l3 = true := by
        cases l3 with
        | true => rfl
        | false => exact absurd rfl (ready_not (j := 3) hr rfl (by intro e he hb; simp at he <;> (repeat' (rcases he with he | he)) <;> first | rfl | exact absurd hb (by decide)))
      obtain rfl : l4 = true := by
        cases l4 with
        | true => rfl
        | false => exact absurd rfl (ready_not (j := 4) hr rfl (by intro e he hb; simp at he <;> (repeat' (rcases he with he | he)) <;> first | rfl | exact absurd hb (by decide)))
      obtain rfl : l5 = true := by
        cases l5 with
        | true => rfl
        | false => exact absurd rfl (ready_not (j := 5) hr rfl (by intro e he hb; simp at he <;> (repeat' (rcases he with he | he)) <;> first | rfl | exact absurd hb (by decide)))
      obtain rfl : l6 = true := by
        cases l6 with
        | true => rfl
        | false => exact absurd rfl (ready_not (j := 6) hr rfl (by intro e he hb; simp at he <;> (repeat' (rcases he with he | he)) <;> first | rfl | exact absurd hb (by decide)))
      obtain rfl : l7 = true := by
        cases l7 with
        | true => rfl
        | false => exact absurd rfl (ready_not (j := 7) hr rfl (by intro e he hb; simp at he <;> (repeat' (rcases he with he | he)) <;> first | rfl | exact absurd hb (by decide)))
      obtain rfl : l8 = true := by
        cases l8 with
        | true => rfl
        | false => exact absurd rfl (ready_not (j := 8) hr rfl (by intro e he hb; simp at he <;> (repeat' (rcases he with he | he)) <;> first | rfl | exact absurd hb (by decide)))
      obtain rfl : l9 = true := by
        cases l9 with
        | true => rfl
        | false => exact absurd rfl (ready_not (j := 9) hr rfl (by intro e he hb; simp at he <;> (repeat' (rcases he with he | he)) <;> first | rfl | exact absurd hb (by decide)))
      obtain rfl : l10 = true := by
        cases l10 with
        | true => rfl
        | false => exact absurd rfl (ready_not (j := 10) hr rfl (by intro e he hb; simp at he <;> (repeat' (rcases he with he | he)) <;> first | rfl | exact absurd hb (by decide)))
      obtain rfl : l11 = true := by
        cases l11 with
        | true => rfl
        | false => exact absurd rfl (ready_not (j := 11) hr rfl (by intro e he hb; simp at he <;> (repeat' (rcases he with he | he)) <;> first | rfl | exact absurd hb (by decide)))
      obtain rfl : l12 = true := by
        cases l12 with
        | true => rfl
        | false => exact absurd rfl (ready_not (j := 12) hr rfl (by intro e he hb; simp at he <;> (repeat' (rcases he with he | he)) <;> first | rfl | exact absurd hb (by decide)))
      obtain rfl : l13 = true := by
        cases l13 with
        | true => rfl
        | false => exact absurd rfl (ready_not (j := 13) hr rfl (by intro e he hb; simp at he <;> (repeat' (rcases he with he | he)) <;> first | rfl | exact absurd hb (by decide)))
      obtain rfl : l14 = true := by
        cases l14 with
        | true => rfl
        | false => exact absurd rfl (ready_not (j := 14) hr rfl (by intro e he hb; simp at he <;> (repeat' (rcases he with he | he)) <;> first | rfl | exact absurd hb (by decide)))
      obtain ⟨D1, rfl, g1, _, hd1⟩ := h.c11 rfl
      obtain ⟨D2, rfl, g2, _, hd2⟩ := h.c12 rfl
      have hd1 := hd1 rfl
      have hd2 := hd2 rfl
      have hb := h.b
      subst ha
      clear h hr
      obtain ⟨z1, z2⟩ := HZB.out
      show KK _ _
      refine HKK _ _ ?_
      go_meet
      case rel =>
        exact ⟨D1, D2, rfl, rfl, hb.heap HC0.out, hb.heap HC1.out, (by rw [exa, exs, exq]; exact hd1), (by rw [exz]; exact hd2), ⟨by omega, by omega, by omega, by omega⟩, by omega, HB0.out.trans hb⟩
    case step =>
      rintro listed a w2 i o ⟨l0, l1, l2, l3, l4, l5, l6, l7, l8, l9, l10, l11, l12, l13, l14, u4, u5, u9, u10, u11, u12, u13, u14, u15, u16, u17, u18, u19, rfl, ha, h⟩ hl ho hafter K hK
      match i, hl, ho with
      | 0, hl, ho =>
        obtain rfl : l0 = false := hl
        simp at ho
        subst ho
        have e1 : a.eval (.tmp 1) = .pointer (some ⟨bq, 0, none⟩) := by rw [ha]; rfl
        have hc := HSX.out _ h.b
        rw [if_pos (by simp [Region.wanted])]
        refine ⟨by first | exact fun f' hf' => trivial | simp [Oper.about], ?_⟩
        rw [Oper.semAt_plain _ _ _ (by intro c hc; cases hc)]
        have hk := hK (a.put (some 10) (.pointer (some ⟨Q, 0, none⟩))) w2 ⟨true, l1, l2, l3, l4, l5, l6, l7, l8, l9, l10, l11, l12, l13, l14, u4, u5, u9, _, u11, u12, u13, u14, u15, u16, u17, u18, u19, rfl, (by rw [ha]; rfl), ⟨h.b, fun _ => rfl, h.c1, h.c2, h.c3, h.c4, h.c5, h.c6, h.c7, h.c8, h.c9, h.c10, h.c11, h.c13, h.c14, h.c12⟩⟩
        simp [go_sem] at e1
        simp [execOp, e1, go_sem, hc]
        exact hk
      | 1, hl, ho =>
        obtain rfl : l1 = false := hl
        simp at ho
        subst ho
        obtain rfl : l0 = true := hafter ⟨0, .data⟩ (by simp) rfl
        obtain rfl := h.c0 rfl
        have e10 : a.eval (.tmp 10) = .pointer (some ⟨Q, 0, none⟩) := by rw [ha]; rfl
        rw [if_pos (by simp [Region.wanted])]
        refine ⟨by first | exact fun f' hf' => trivial | simp [Oper.about], ?_⟩
        rw [Oper.semAt_plain _ _ _ (by intro c hc; cases hc)]
        have hk := hK (a.put (some 11) (.pointer (some ⟨Q, 0, none⟩))) w2 ⟨true, true, l2, l3, l4, l5, l6, l7, l8, l9, l10, l11, l12, l13, l14, u4, u5, u9, _, _, u12, u13, u14, u15, u16, u17, u18, u19, rfl, (by rw [ha]; rfl), ⟨h.b, h.c0, fun _ => rfl, h.c2, h.c3, h.c4, h.c5, h.c6, h.c7, h.c8, h.c9, h.c10, h.c11, h.c13, h.c14, h.c12⟩⟩
        simp [go_sem] at e10
        simp [execOp, e10, go_sem]
        exact hk
      | 2, hl, ho =>
        obtain rfl : l2 = false := hl
        simp at ho
        subst ho
        obtain rfl : l1 = true := hafter ⟨1, .data⟩ (by simp) rfl
        obtain rfl := h.c1 rfl
        have e11 : a.eval (.tmp 11) = .pointer (some ⟨Q, 0, none⟩) := by rw [ha]; rfl
        rw [if_pos (by simp [Region.wanted])]
        refine ⟨by first | exact fun f' hf' => trivial | simp [Oper.about], ?_⟩
        rw [Oper.semAt_plain _ _ _ (by intro c hc; cases hc)]
        have hk := hK (a.put (some 12) (.pointer (some ⟨Q, 0, none⟩))) w2 ⟨l0, true, true, l3, l4, l5, l6, l7, l8, l9, l10, l11, l12, l13, l14, u4, u5, u9, u10, _, _, u13, u14, u15, u16, u17, u18, u19, rfl, (by rw [ha]; rfl), ⟨h.b, h.c0, h.c1, fun _ => rfl, h.c3, h.c4, h.c5, h.c6, h.c7, h.c8, h.c9, h.c10, h.c11, h.c13, h.c14, h.c12⟩⟩
        simp [go_sem] at e11
        simp [execOp, e11, go_sem]
        exact hk
      | 3, hl, ho =>
        obtain rfl : l3 = false := hl
        simp at ho
        subst ho
        obtain rfl : l2 = true := hafter ⟨2, .data⟩ (by simp) rfl
        obtain rfl := h.c2 rfl
        have e12 : a.eval (.tmp 12) = .pointer (some ⟨Q, 0, none⟩) := by rw [ha]; rfl
        have hc := HSQ.out _ h.b
        rw [if_pos (by simp [Region.wanted])]
        refine ⟨by first | exact fun f' hf' => trivial | simp [Oper.about], ?_⟩
        rw [Oper.semAt_plain _ _ _ (by intro c hc; cases hc)]
        have hk := hK (a.put (some 13) (.pointer (some ⟨Z, 0, none⟩))) w2 ⟨l0, l1, true, true, l4, l5, l6, l7, l8, l9, l10, l11, l12, l13, l14, u4, u5, u9, u10, u11, _, _, u14, u15, u16, u17, u18, u19, rfl, (by rw [ha]; rfl), ⟨h.b, h.c0, h.c1, h.c2, fun _ => rfl, h.c4, h.c5, h.c6, h.c7, h.c8, h.c9, h.c10, h.c11, h.c13, h.c14, h.c12⟩⟩
        simp [go_sem] at e12
        simp [execOp, e12, go_sem, hc]
        exact hk
      | 4, hl, ho =>
        obtain rfl : l4 = false := hl
        simp at ho
        subst ho
        have e1 : a.eval (.tmp 1) = .pointer (some ⟨bq, 0, none⟩) := by rw [ha]; rfl
        have hc := HSX.out _ h.b
        rw [if_pos (by simp [Region.wanted])]
        refine ⟨by first | exact fun f' hf' => trivial | simp [Oper.about], ?_⟩
        rw [Oper.semAt_plain _ _ _ (by intro c hc; cases hc)]
        have hk := hK (a.put (some 14) (.pointer (some ⟨Q, 0, none⟩))) w2 ⟨l0, l1, l2, l3, true, l5, l6, l7, l8, l9, l10, l11, l12, l13, l14, u4, u5, u9, u10, u11, u12, u13, _, u15, u16, u17, u18, u19, rfl, (by rw [ha]; rfl), ⟨h.b, h.c0, h.c1, h.c2, h.c3, fun _ => rfl, h.c5, h.c6, h.c7, h.c8, h.c9, h.c10, h.c11, h.c13, h.c14, h.c12⟩⟩
        simp [go_sem] at e1
        simp [execOp, e1, go_sem, hc]
        exact hk
      | 5, hl, ho =>
        obtain rfl : l5 = false := hl
        simp at ho
        subst ho
        obtain rfl : l4 = true := hafter ⟨4, .data⟩ (by simp) rfl
        obtain rfl := h.c4 rfl
        have e14 : a.eval (.tmp 14) = .pointer (some ⟨Q, 0, none⟩) := by rw [ha]; rfl
        rw [if_pos (by simp [Region.wanted])]
        refine ⟨by first | exact fun f' hf' => trivial | simp [Oper.about], ?_⟩
        rw [Oper.semAt_plain _ _ _ (by intro c hc; cases hc)]
        simp [go_sem] at e14
        simp [execOp, e14, go_sem]
        refine (callsIn_wide.2 (KR.out _ (HB0.out.trans h.b))).mono ?_
        rintro e w3 ⟨rfl, rfl⟩
        exact hK (a.put (some 15) (.int .i64 (S : Nat))) w2 ⟨l0, l1, l2, l3, true, true, l6, l7, l8, l9, l10, l11, l12, l13, l14, u4, u5, u9, u10, u11, u12, u13, _, _, u16, u17, u18, u19, rfl, (by rw [ha]; rfl), ⟨h.b, h.c0, h.c1, h.c2, h.c3, h.c4, fun _ => rfl, h.c6, h.c7, h.c8, h.c9, h.c10, h.c11, h.c13, h.c14, h.c12⟩⟩
      | 6, hl, ho =>
        obtain rfl : l6 = false := hl
        simp at ho
        subst ho
        obtain rfl : l3 = true := hafter ⟨3, .data⟩ (by simp) rfl
        obtain rfl : l5 = true := hafter ⟨5, .data⟩ (by simp) rfl
        obtain rfl := h.c3 rfl
        obtain rfl := h.c5 rfl
        have e13 : a.eval (.tmp 13) = .pointer (some ⟨Z, 0, none⟩) := by rw [ha]; rfl
        have e15 : a.eval (.tmp 15) = .int .i64 (S : Nat) := by rw [ha]; rfl
        rw [if_pos (by simp [Region.wanted])]
        refine ⟨by first | exact fun f' hf' => trivial | simp [Oper.about], ?_⟩
        rw [Oper.semAt_plain _ _ _ (by intro c hc; cases hc)]
        simp [go_sem] at e13 e15
        simp [execOp, e13, e15, go_sem]
        refine (callsIn_wide.2 (KI0.out _ (HB0.out.trans h.b))).mono ?_
        rintro e w3 ⟨p5, c5, rfl, hh5, hb5⟩
        have h := h.le hb5
        exact hK (a.put (some 16) (.slice p5 n0 c5)) w3 ⟨l0, l1, l2, true, l4, true, true, l7, l8, l9, l10, l11, l12, l13, l14, u4, u5, u9, u10, u11, u12, _, u14, _, _, u17, u18, u19, rfl, (by rw [ha]; rfl), ⟨h.b, h.c0, h.c1, h.c2, h.c3, h.c4, h.c5, (fun _ _ => ⟨p5, c5, rfl, hh5⟩), h.c7, h.c8, h.c9, h.c10, h.c11, h.c13, h.c14, h.c12⟩⟩
      | 7, hl, ho =>
        obtain rfl : l7 = false := hl
        simp at ho
        subst ho
        obtain rfl : l6 = true := hafter ⟨6, .data⟩ (by simp) rfl
        obtain ⟨p5, c5, rfl, hh5⟩ := h.c6 rfl rfl
        have e16 : a.eval (.tmp 16) = .slice p5 n0 c5 := by rw [ha]; rfl
        rw [if_pos (by simp [Region.wanted])]
        refine ⟨by first | exact fun f' hf' => trivial | simp [Oper.about], ?_⟩
        rw [Oper.semAt_plain _ _ _ (by intro c hc; cases hc)]
        simp [go_sem] at e16
        simp [execOp, e16, go_sem]
        refine (callsIn_wide.2 (KF0.out _ _ _ hh5)).mono ?_
        rintro e w3 ⟨rfl, hb6⟩
        have h := h.le hb6
        exact hK (a.put (some 17) (.tuple #[.agg #[.int .u64 xa, .int .u64 xs, .int .i64 xp], .bool z0])) w3 ⟨l0, l1, l2, l3, l4, l5, true, true, l8, l9, l10, l11, l12, l13, l14, u4, u5, u9, u10, u11, u12, u13, u14, u15, _, _, u18, u19, rfl, (by rw [ha]; rfl), ⟨h.b, h.c0, h.c1, h.c2, h.c3, h.c4, h.c5, (fun _ e => by cases e), fun _ => rfl, h.c8, h.c9, h.c10, h.c11, h.c13, h.c14, h.c12⟩⟩
      | 8, hl, ho =>
        obtain rfl : l8 = false := hl
        simp at ho
        subst ho
        obtain rfl : l7 = true := hafter ⟨7, .data⟩ (by simp) rfl
        obtain rfl := h.c7 rfl
        have e17 : a.eval (.tmp 17) = (.tuple #[.agg #[.int .u64 xa, .int .u64 xs, .int .i64 xp], .bool z0]) := by rw [ha]; rfl
        rw [if_pos (by simp [Region.wanted])]
        refine ⟨by first | exact fun f' hf' => trivial | simp [Oper.about], ?_⟩
        rw [Oper.semAt_plain _ _ _ (by intro c hc; cases hc)]
        have hk := hK (a.put (some 9) (.tuple #[.agg #[.int .u64 xa, .int .u64 xs, .int .i64 xp], .bool z0])) w2 ⟨l0, l1, l2, l3, l4, l5, l6, true, true, l9, l10, l11, l12, l13, l14, u4, u5, _, u10, u11, u12, u13, u14, u15, u16, _, u18, u19, rfl, (by rw [ha]; rfl), ⟨h.b, h.c0, h.c1, h.c2, h.c3, h.c4, h.c5, h.c6, h.c7, fun _ => rfl, h.c9, h.c10, h.c11, h.c13, h.c14, h.c12⟩⟩
        simp [go_sem] at e17
        simp [execOp, e17, go_sem]
        exact hk
      | 9, hl, ho =>
        obtain rfl : l9 = false := hl
        simp at ho
        subst ho
        obtain rfl : l8 = true := hafter ⟨8, .data⟩ (by simp) rfl
        obtain rfl := h.c8 rfl
        have e9 : a.eval (.tmp 9) = (.tuple #[.agg #[.int .u64 xa, .int .u64 xs, .int .i64 xp], .bool z0]) := by rw [ha]; rfl
        rw [if_pos (by simp [Region.wanted])]
        refine ⟨by first | exact fun f' hf' => trivial | simp [Oper.about], ?_⟩
        rw [Oper.semAt_plain _ _ _ (by intro c hc; cases hc)]
        have hk := hK (a.put (some 18) (.agg #[.int .u64 xa, .int .u64 xs, .int .i64 xp])) w2 ⟨l0, l1, l2, l3, l4, l5, l6, l7, true, true, l10, l11, l12, l13, l14, u4, u5, _, u10, u11, u12, u13, u14, u15, u16, u17, _, u19, rfl, (by rw [ha]; rfl), ⟨h.b, h.c0, h.c1, h.c2, h.c3, h.c4, h.c5, h.c6, h.c7, h.c8, fun _ => rfl, h.c10, h.c11, h.c13, h.c14, h.c12⟩⟩
        simp [go_sem] at e9
        simp [execOp, e9, go_sem]
        exact hk
      | 10, hl, ho =>
        obtain rfl : l10 = false := hl
        simp at ho
        subst ho
        obtain rfl : l8 = true := hafter ⟨8, .data⟩ (by simp) rfl
        obtain rfl := h.c8 rfl
        have e9 : a.eval (.tmp 9) = (.tuple #[.agg #[.int .u64 xa, .int .u64 xs, .int .i64 xp], .bool z0]) := by rw [ha]; rfl
        rw [if_pos (by simp [Region.wanted])]
        refine ⟨by first | exact fun f' hf' => trivial | simp [Oper.about], ?_⟩
        rw [Oper.semAt_plain _ _ _ (by intro c hc; cases hc)]
        have hk := hK (a.put (some 19) (.bool z0)) w2 ⟨l0, l1, l2, l3, l4, l5, l6, l7, true, l9, true, l11, l12, l13, l14, u4, u5, _, u10, u11, u12, u13, u14, u15, u16, u17, u18, _, rfl, (by rw [ha]; rfl), ⟨h.b, h.c0, h.c1, h.c2, h.c3, h.c4, h.c5, h.c6, h.c7, h.c8, h.c9, fun _ => rfl, h.c11, h.c13, h.c14, h.c12⟩⟩
        simp [go_sem] at e9
        simp [execOp, e9, go_sem]
        exact hk
      | 11, hl, ho =>
        obtain rfl : l11 = false := hl
        simp at ho
        subst ho
        obtain rfl : l13 = false := by cases l13 with | false => rfl | true => exact absurd (h.c13 rfl) (by decide)
        have h0 := h
        have h := h.le ((Bel.refl w2).alloc #[.int .u64 0, .int .u64 0, .int .i64 0] 41)
        have hb := h.b
        have hn := heap_alloc_new w2 (.cells #[.int .u64 0, .int .u64 0, .int .i64 0] 41)
        rw [if_pos (by simp [Region.wanted])]
        refine ⟨by first | exact fun f' hf' => trivial | simp [Oper.about], ?_⟩
        rw [Oper.semAt_plain _ _ _ (by intro c hc; cases hc)]
        have hk := hK (a.put (some 4) (.pointer (some ⟨w2.heap.size, 0, none⟩))) (w2.alloc (.cells #[.int .u64 0, .int .u64 0, .int .i64 0] 41)) ⟨l0, l1, l2, l3, l4, l5, l6, l7, l8, l9, l10, true, l12, false, l14, _, u5, u9, u10, u11, u12, u13, u14, u15, u16, u17, u18, u19, rfl, (by rw [ha]; rfl), ⟨h.b, h.c0, h.c1, h.c2, h.c3, h.c4, h.c5, h.c6, h.c7, h.c8, h.c9, h.c10, (fun _ => ⟨_, rfl, HSZ.out _ h0.b, fun _ => hn, fun e => by cases e⟩), (fun e => by cases e), h.c14, h.c12⟩⟩
        simp [execOp, go_sem]
        exact hk
      | 12, hl, ho =>
        obtain rfl : l12 = false := hl
        simp at ho
        subst ho
        obtain rfl : l14 = false := by cases l14 with | false => rfl | true => exact absurd (h.c14 rfl) (by decide)
        have h0 := h
        have h := h.le ((Bel.refl w2).alloc #[.bool false] 4)
        have hn := heap_alloc_new w2 (.cells #[.bool false] 4)
        rw [if_pos (by simp [Region.wanted])]
        refine ⟨by first | exact fun f' hf' => trivial | simp [Oper.about], ?_⟩
        rw [Oper.semAt_plain _ _ _ (by intro c hc; cases hc)]
        have hk := hK (a.put (some 5) (.pointer (some ⟨w2.heap.size, 0, none⟩))) (w2.alloc (.cells #[.bool false] 4)) ⟨l0, l1, l2, l3, l4, l5, l6, l7, l8, l9, l10, l11, true, l13, false, u4, _, u9, u10, u11, u12, u13, u14, u15, u16, u17, u18, u19, rfl, (by rw [ha]; rfl), ⟨h.b, h.c0, h.c1, h.c2, h.c3, h.c4, h.c5, h.c6, h.c7, h.c8, h.c9, h.c10, h.c11, h.c13, (fun e => by cases e), (fun _ => ⟨_, rfl, HSZ.out _ h0.b, fun _ => hn, fun e => by cases e⟩)⟩⟩
        simp [execOp, go_sem]
        exact hk
      | 13, hl, ho =>
        obtain rfl : l13 = false := hl
        simp at ho
        subst ho
        obtain rfl : l11 = true := hafter ⟨11, .data⟩ (by simp) rfl
        obtain rfl : l9 = true := hafter ⟨9, .data⟩ (by simp) rfl
        obtain rfl : l0 = true := hafter ⟨0, .phase⟩ (by simp) rfl
        obtain rfl : l1 = true := hafter ⟨1, .phase⟩ (by simp) rfl
        obtain rfl : l2 = true := hafter ⟨2, .phase⟩ (by simp) rfl
        obtain rfl : l3 = true := hafter ⟨3, .phase⟩ (by simp) rfl
        obtain rfl : l4 = true := hafter ⟨4, .phase⟩ (by simp) rfl
        obtain rfl : l5 = true := hafter ⟨5, .phase⟩ (by simp) rfl
        obtain rfl : l6 = true := hafter ⟨6, .phase⟩ (by simp) rfl
        obtain rfl : l7 = true := hafter ⟨7, .phase⟩ (by simp) rfl
        obtain rfl : l8 = true := hafter ⟨8, .phase⟩ (by simp) rfl
        obtain rfl : l12 = true := hafter ⟨12, .phase⟩ (by simp) rfl
        obtain ⟨D, rfl, hD, hz, _⟩ := h.c11 rfl
        obtain rfl := h.c9 rfl
        have e4 : a.eval (.tmp 4) = .pointer (some ⟨D, 0, none⟩) := by rw [ha]; rfl
        have e18 : a.eval (.tmp 18) = (.agg #[.int .u64 xa, .int .u64 xs, .int .i64 xp]) := by rw [ha]; rfl
        obtain ⟨⟨d0, d1, d2⟩, f0, f1, f2⟩ := box3 (hz rfl)
        have hv := box3_set (x' := .int .u64 xa) (y' := .int .u64 xs) (z' := .int .i64 xp) (hz rfl)
        have ho := off3 w2 D (.int .u64 xa) (.int .u64 xs) (.int .i64 xp)
        have hk := hK (a.put none undef) (((w2.setCell ⟨D, 0, none⟩ (.int .u64 xa)).setCell ⟨D, 1, none⟩ (.int .u64 xs)).setCell ⟨D, 2, none⟩ (.int .i64 xp)) ⟨true, true, true, true, true, true, true, true, true, true, l10, true, true, true, l14, _, u5, u9, u10, u11, u12, u13, u14, u15, u16, u17, _, u19, rfl, (by rw [ha]; rfl), ⟨ho.bel h.b (fun i e => by have : i = D := e; omega), h.c0, h.c1, h.c2, h.c3, h.c4, h.c5, (fun _ e => by cases e), h.c7, h.c8, h.c9, h.c10, (fun _ => ⟨D, rfl, hD, (fun e => by cases e), fun _ => hv⟩), (fun _ => rfl), h.c14, (fun e => by obtain ⟨E, a1, a2, a3, a4⟩ := h.c12 e; exact ⟨E, a1, a2, fun e => (ho.block E (Array.getElem?_eq_some_iff.1 (a3 e)).1 (ty_ne (a3 e) (hz rfl) (by decide))).trans (a3 e), fun e => (ho.block E (Array.getElem?_eq_some_iff.1 (a4 e)).1 (ty_ne (a4 e) (hz rfl) (by decide))).trans (a4 e)⟩)⟩⟩
        rw [if_pos (by simp [Region.wanted])]
        refine ⟨by simp [Oper.about], ?_⟩
        rw [Oper.semAt_plain _ _ _ (by intro c hc; cases hc)]
        simp [go_sem] at e4 e18
        simp [execOp, e4, e18, go_sem, d0, d1, d2, f0, f1, f2]
        exact hk
      | 14, hl, ho =>
        obtain rfl : l14 = false := hl
        simp at ho
        subst ho
        obtain rfl : l12 = true := hafter ⟨12, .data⟩ (by simp) rfl
        obtain rfl : l10 = true := hafter ⟨10, .data⟩ (by simp) rfl
        obtain rfl : l0 = true := hafter ⟨0, .phase⟩ (by simp) rfl
        obtain rfl : l1 = true := hafter ⟨1, .phase⟩ (by simp) rfl
        obtain rfl : l2 = true := hafter ⟨2, .phase⟩ (by simp) rfl
        obtain rfl : l3 = true := hafter ⟨3, .phase⟩ (by simp) rfl
        obtain rfl : l4 = true := hafter ⟨4, .phase⟩ (by simp) rfl
        obtain rfl : l5 = true := hafter ⟨5, .phase⟩ (by simp) rfl
        obtain rfl : l6 = true := hafter ⟨6, .phase⟩ (by simp) rfl
        obtain rfl : l7 = true := hafter ⟨7, .phase⟩ (by simp) rfl
        obtain rfl : l8 = true := hafter ⟨8, .phase⟩ (by simp) rfl
        obtain rfl : l9 = true := hafter ⟨9, .phase⟩ (by simp) rfl
        obtain rfl : l11 = true := hafter ⟨11, .phase⟩ (by simp) rfl
        obtain rfl : l13 = true := hafter ⟨13, .phase⟩ (by simp) rfl
        obtain ⟨D, rfl, hD, hz, _⟩ := h.c12 rfl
        obtain rfl := h.c10 rfl
        have e5 : a.eval (.tmp 5) = .pointer (some ⟨D, 0, none⟩) := by rw [ha]; rfl
        have e19 : a.eval (.tmp 19) = .bool z0 := by rw [ha]; rfl
        obtain ⟨d0, f0⟩ := box1 (hz rfl)
        have hv := heap_setCell_same w2 D 0 _ 4 (.bool z0) (hz rfl)
        have ho : Off (fun k => k = D) w2 (w2.setCell ⟨D, 0, none⟩ (.bool z0)) := Off.setCell (Off.refl (fun k => k = D) w2) (p := ⟨D, 0, none⟩) (.inl rfl) _
        have hk := hK (a.put none undef) (w2.setCell ⟨D, 0, none⟩ (.bool z0)) ⟨true, true, true, true, true, true, true, true, true, true, true, true, true, true, true, u4, _, u9, u10, u11, u12, u13, u14, u15, u16, u17, u18, _, rfl, (by rw [ha]; rfl), ⟨ho.bel h.b (fun i e => by have : i = D := e; omega), h.c0, h.c1, h.c2, h.c3, h.c4, h.c5, (fun _ e => by cases e), h.c7, h.c8, h.c9, h.c10, (fun e => by obtain ⟨E, a1, a2, a3, a4⟩ := h.c11 e; exact ⟨E, a1, a2, fun e => (ho.block E (Array.getElem?_eq_some_iff.1 (a3 e)).1 (ty_ne (a3 e) (hz rfl) (by decide))).trans (a3 e), fun e => (ho.block E (Array.getElem?_eq_some_iff.1 (a4 e)).1 (ty_ne (a4 e) (hz rfl) (by decide))).trans (a4 e)⟩), h.c13, (fun _ => rfl), (fun _ => ⟨D, rfl, hD, (fun e => by cases e), fun _ => hv⟩)⟩⟩
        rw [if_pos (by simp [Region.wanted])]
        refine ⟨by simp [Oper.about], ?_⟩
        rw [Oper.semAt_plain _ _ _ (by intro c hc; cases hc)]
        simp [go_sem] at e5 e19
        simp [execOp, e5, e19, go_sem, d0, f0]
        exact hk
      | (j + 15), hl, ho => simp at ho
  case rest =>
    obtain ⟨D1, D2, rfl, rfl, hsb⟩ := hcut
    have hSb := HSb.out
    clear HSb
    subst hSb
    clear KR KI0 KF0 HC0 HC1 HB0
    have HSB := Lib.hid hsb
    obtain ⟨⟨d0, d1, d2⟩, g0, g1, g2⟩ := box3 hsb.d1
    obtain ⟨d3, g3⟩ := box1 hsb.d2
    obtain ⟨⟨r0, r1, r2⟩, e0, e1, e2⟩ := box3 hsb.c2
    obtain ⟨c0, f0⟩ := box1 hsb.cq
    have hbl := hsb.bel
    have hge := hsb.ge
    have lb2 : b2 < wc.heap.size := (Array.getElem?_eq_some_iff.1 hsb.c2).1
    cases m0 with
    | some m =>
      have HE : Hid (l.head? = some m) := Lib.hid (mn_ready q1.ql.is h1 HM0.out)
      have HBE := Lib.hid (bel3 hbl (T := b2) (by omega) (.int .u64 m.a) (.int .u64 m.s) (.int .i64 m.p))
      have HX := Lib.hid (box3_set (x' := .int .u64 m.a) (y' := .int .u64 m.s) (z' := .int .i64 m.p) hsb.c2)
      simp only [Option.getD_some, Option.isSome_some] at d0 d1 d2 d3
      obtain ⟨xa, xs, xp⟩ := m
      simp only at *
      clear HSB q1 q2 q3 hbl hsb
      go_wp2
      obtain ⟨⟨x0, x1, x2⟩, _⟩ := box3 HX.out
      refine ⟨ansT (some ⟨xa, xs, xp⟩), ?_, by rw [HE.out], HBE.out⟩
      simp [results, Tryd.f19, go_sem, x0, x1, x2, ansT]
    | none =>
      have hr := mn_noready HM0.out
      have hf := fs_lt (S := slo b) (by omega) s
      have HSL := Lib.hid (fun x (hx : Bm.tb F x = true) => slot_some q1.ql.is q2 hx)
      have HST := Lib.hid (fun (pre : List Nat) (m : Option T) (h : Mi (slo b) s l pre m) (x : Nat) (hx : x < slo b + 1) (t : T) (ht : mn ((ls x).map r) = some t) => h.step q1.ql.is hx ht)
      have HDN := Lib.hid (fun (m : Option T) (h : Mi (slo b) s l (yss F (slo b) (fs (slo b) s) (slo b)) m) => h.done q1.ql.is q2 h1 hr)
      have HBK := Lib.hid (fun (pre : List Nat) (hp : pre <+: yss F (slo b) (fs (slo b) s) (slo b)) (x : T) (h : Mi (slo b) s l pre (some x)) (hd : x.a - s ≤ ((slo b : Nat) : Int)) => h.brk q1.ql.is q2 h1 hts htl hr hp hd)
      have HRS := Lib.hid (fun x (hx : x ∈ l) => ready_none q1.ql.is h1 hr x hx)
      have HYF : Hid (∀ y ∈ yss F (slo b) (fs (slo b) s) (slo b), Bm.tb F y = true) := Lib.hid (fun y hy => ((mem_yss q2.hz hf (Nat.le_refl _)).1 hy).1)
      have HFE : Hid (∀ m Bq Bn w, 1 ≤ m → Feeds Fence.wide m Tryd.prog 41 #[.pointer (some ⟨Bq, 0, none⟩), .pointer (some ⟨Bn, 0, none⟩)] (fun x => #[Value.int .i64 (x : Nat)]) (yss F (slo b) (fs (slo b) s) (slo b)) (Ms Bq Bn Q (slo b) (slo b) s F (yss F (slo b) (fs (slo b) s) (slo b))) w) :=
        Lib.hid (fun m Bq Bn w hm => slots_feeds m hm Bq Bn Q (slo b) (slo b) s F (by omega) (by omega) (Nat.le_refl _) hts q2.hz w)
      have HMS : Hid (∀ Bq Bn pre V, Iw w Q (slo b) s l bq b2 D1 D2 Bq Bn (slo b) (yss F (slo b) (fs (slo b) s) (slo b)) pre V → Ms Bq Bn Q (slo b) (slo b) s F (yss F (slo b) (fs (slo b) s) (slo b)) pre.length V) := Lib.hid (fun Bq Bn pre V h => by
        obtain ⟨m, _, hs⟩ := h.st
        have q := HQP.out.bel hs.bel
        exact ⟨F, ⟨(box1 h.bx).1, (box1 h.bm).1, q.cell rfl, q.cell rfl, q.cell rfl, q.cell rfl, q.cell rfl, q.cell rfl, fun j hj => hs.bel.cell (q3.tab j hj), q2.wd⟩, fun i _ e => e, fun j y _ e => HYF.out y (List.mem_of_getElem? e)⟩)
      generalize yss F (slo b) (fs (slo b) s) (slo b) = ys at *
      have KN := Lib.hid (fun w' => slots_new Q (slo b) w')
      have HSX : Hid (∀ w', Bel wc w' → w'.cell? ⟨bq, 0, none⟩ = some (.pointer (some ⟨Q, 0, none⟩)) ∧ w'.cell? ⟨Q, 1, none⟩ = some (.int .i64 (slo b : Nat))) := Lib.hid (fun w' hb => ⟨hb.cell c0, (HQP.out.bel (hbl.trans hb)).cell rfl⟩)
      have w2 := (HSX.out wc (Bel.refl _)).2
      simp only [Option.getD_none, Option.isSome_none] at HSB d0 d1 d2 d3
      have lq : Q < wc.heap.size := Nat.lt_of_lt_of_le lQ hbl.size
      clear q1 q2 q3 hsb hf
      go_wp2
      go_region_held3 (fun w' => w'.cell? ⟨bq, 0, none⟩ = some (.pointer (some ⟨Q, 0, none⟩)) ∧ w'.cell? ⟨Q, 1, none⟩ = some (.int .i64 (slo b : Nat)))
        (first | (with_reducible exact HSX.out _ (Bel.refl _).drew) | (with_reducible exact HSX.out _ ((Bel.refl _).drew.trans hb4)))
        (first | (go_at_call 28; (with_reducible refine (KN.out _).mono ?_); rintro e W4 ⟨Bq, Bn, rfl, hbx, hbm, hb4, hgx, hgm⟩))
      have HW4 := Lib.hid ((Bel.refl wc).drew.trans hb4)
      have hz4 := (hbl.trans HW4.out).size
      have hz5 : wc.heap.size ≤ wc.drew.heap.size := (Bel.refl wc).drew.size
      have HI0 : Hid (Iw w Q (slo b) s l bq b2 D1 D2 Bq Bn (slo b) ys [] W4) := Lib.hid ⟨List.nil_prefix, ⟨none, ⟨fun _ => rfl, fun e => absurd rfl e⟩, HSB.out.le HW4.out⟩, hbx, hbm, by have := hbl.size; omega, by have := hbl.size; omega⟩
      have HDl : Hid (w.heap.size ≤ W4.heap.size) := Lib.hid hz4
      clear hbx hbm hb4 hgx hgm KN c0 f0 w2 d0 d1 d2 d3 g0 g1 g2 g3 r0 r1 r2 e0 e1 e2 HSX HSB
      go_wp2
      refine (wpIn_wide (n := 4)).1 ?_
      refine range_any hro (by omega) (gf := 41) (lb := #[.pointer (some ⟨Bq, 0, none⟩), .pointer (some ⟨Bn, 0, none⟩)]) rfl trivial (enters_of Tryd.func41 (by kernel_rfl) rfl) (HFE.out 3 Bq Bn W4 (by omega)) (fun _ => rfl)
        (fun pre W => Iw w Q (slo b) s l bq b2 D1 D2 Bq Bn (slo b) ys pre W) (fun c pre W => c = .exit 0 ∧ ∃ y, l.head? = some y ∧ Sb w Q bq b2 D1 D2 y true W)
        (fun pre A B' row h hg hr => h.own hg (fun r e => ⟨by have := (hr r e).1; have := HDl.out; omega, (hr r e).2⟩)) (fun c pre A B' row h hg hr => ⟨h.1, h.2.imp fun y h2 => ⟨h2.1, h2.2.own hg (fun r e => ⟨by have := (hr r e).1; have := HDl.out; omega, (hr r e).2⟩)⟩⟩)
        (fun pre V h => HMS.out Bq Bn pre V h) HI0.out ?a1 ?assign ?body ?done ?stop
      case assign =>
        intro lp x V K hK
        gi_wp2
        exact hK
      case body =>
        rintro lp pre x V hpx hI
        have HI := Lib.hid hI
        obtain ⟨m, hmi, hsb⟩ := hI.st
        obtain ⟨hxS, t, ht, htl'⟩ := HSL.out x (HYF.out x (hpx.subset (by simp)))
        have HMI := Lib.hid (HST.out pre m hmi x (by omega) t ht)
        have HSB := Lib.hid hsb
        have hbt : s < t.a := HRS.out t htl'
        have hTk := HTL.out t htl'
        obtain ⟨nx, hnx⟩ : ∃ n, ((ls x).map r).length = n := ⟨_, rfl⟩
        have KIx := Lib.hid (KI.out x (by omega) V hsb.bel)
        have KFx : Hid (∀ w' p c, Has w' p ((ls x).map r) → Calls Tryd.prog 34 #[.slice p nx c] w' fun e w2 => e = .returned (.tuple #[.agg #[.int .u64 t.a, .int .u64 t.s, .int .i64 t.p], .bool true]) ∧ Bel w' w2) := Lib.hid (fun w' p c h => by
          have k := KF.out x (by omega) w' p c h
          rw [ht, hnx] at k
          exact k)
        rw [hnx] at KIx
        obtain ⟨a0, f0⟩ := box1 hsb.cq
        have aZ : V.cell? ⟨Q, 0, none⟩ = some (.pointer (some ⟨Z, 0, none⟩)) := (HQP.out.bel hsb.bel).cell rfl
        have lqV : Q < V.heap.size := Nat.lt_of_lt_of_le lQ hsb.bel.size
        have HPX := Lib.hid hpx
        clear hI hsb hpx ht hmi hnx
        gi_upto_region 7 with (first
          | ((refine ⟨trivial, ?_⟩); gi_at_call 35; (with_reducible refine (CallsIn.inRound lp (callsIn_wide.2 KIx.out)).mono ?_); rintro e w35 ⟨p5, c5, rfl, hh5, hb35⟩; have b0 := hb35.cell a0)
          | ((refine ⟨trivial, ?_⟩); gi_at_call 34; (with_reducible refine (CallsIn.inRound lp (callsIn_wide.2 (KFx.out _ _ _ hh5))).mono ?_); rintro e w34 ⟨rfl, hb34⟩))
        rename_i K1 HK1 K7 HK7
        have tail : Hid (∀ (a : Act) (V8 : World) (y : T), a.tmps.size = 63 → a.eval (.tmp 4) = .pointer (some ⟨D1, 0, none⟩) → a.eval (.tmp 1) = .pointer (some ⟨bq, 0, none⟩) → Sb w Q bq b2 D1 D2 y true V8 → Off (fun i => i = D1 ∨ i = D2) V V8 → Mi (slo b) s l (pre ++ [x]) (some y) → K1 a V8) := Lib.hid (by
          intro a V8 y h61 ha4 ha1 hs8 ho8 hm8
          refine HK1 _ _ ?_
          obtain ⟨x', q1, hyl, _⟩ := hm8.so (by simp)
          cases q1
          have hys := HRS.out y hyl
          have hyt := HTL.out y hyl
          have hy : V8.cell? ⟨D1, 0, none⟩ = some (.int .u64 y.a) := (box3 hs8.d1).1.1
          have hq : V8.cell? ⟨bq, 0, none⟩ = some (.pointer (some ⟨Q, 0, none⟩)) := (box1 hs8.cq).1
          have h2 : V8.cell? ⟨Q, 1, none⟩ = some (.int .i64 (slo b : Nat)) := (HQP.out.bel hs8.bel).cell rfl
          have h3 : V8.cell? ⟨Q, 2, none⟩ = some (.int .u64 s) := (HQP.out.bel hs8.bel).cell rfl
          have hS : IntKind.u64.wrap ((slo b : Nat) : Int) = (slo b : Nat) := by rw [IntKind.wrap_u64]; omega
          obtain ⟨g, eg⟩ : ∃ g, y.a - s = g := ⟨_, rfl⟩
          have hg : IntKind.u64.wrap (y.a - s) = g := by
            obtain ⟨b1, b2⟩ := hyt
            obtain ⟨b3, b4⟩ := hts
            rw [IntKind.wrap_u64]; omega
          have hn := HI.out.step HPX.out hm8 (hs8.le (Bel.refl V8).drew) (ho8.then ((Bel.refl V8).drew.off _)) W4.heap.size
          have hsd := hs8.le (Bel.refl V8).drew
          have hbr := fun hd => HBK.out (pre ++ [x]) HPX.out y hm8 hd
          rw [eg] at hbr
          gi_step
          rename_i K9 HK9
          refine wpIn_region_any (by kernel_rfl) ?_
          refine wpAnyIn_inv (fun listed a w2 => ∃ l0 l1 l2 l3 l4 l5 l6 l7 l8 l9 l10 l11 l12, listed = #[l0, l1, l2, l3, l4, l5, l6, l7, l8, l9, l10, l11, l12] ∧ w2 = V8.drew ∧ J9 D1 bq Q (slo b : Nat) y.a s g (decide (g ≤ ((slo b : Nat) : Int))) l0 l1 l2 l3 l4 l5 l6 l7 l8 l9 l10 l11 l12 a) ?sz ?step ?fin _ _ _ _ (by decide) ⟨false, false, false, false, false, false, false, false, false, false, false, false, false, rfl, rfl, ⟨h61, ha4, ha1, (fun e => by cases e), (fun e => by cases e), (fun e => by cases e), (fun e => by cases e), (fun e => by cases e), (fun e => by cases e), (fun e => by cases e), (fun e => by cases e), (fun e => by cases e), (fun e => by cases e), (fun e => by cases e), (fun e => by cases e), (fun e => by cases e)⟩⟩
          case sz =>
            rintro listed a w2 ⟨l0, l1, l2, l3, l4, l5, l6, l7, l8, l9, l10, l11, l12, rfl, _⟩
            rfl
          case fin =>
            rintro listed a w2 ⟨l0, l1, l2, l3, l4, l5, l6, l7, l8, l9, l10, l11, l12, rfl, rfl, h⟩ hr
            obtain rfl : l0 = true := by
              cases l0 with
              | true => rfl
              | false => exact absurd rfl (ready_not (j := 0) hr rfl (by intro e he hb; simp at he <;> (repeat' (rcases he with he | he)) <;> first | rfl | exact absurd hb (by decide)))
            obtain rfl : l1 = true := by
              cases l1 with
              | true => rfl
              | false => exact absurd rfl (ready_not (j := 1) hr rfl (by intro e he hb; simp at he <;> (repeat' (rcases he with he | he)) <;> first | rfl | exact absurd hb (by decide)))
            obtain rfl : l2 = true := by
              cases l2 with
              | true => rfl
              | false => exact absurd rfl (ready_not (j := 2) hr rfl (by intro e he hb; simp at he <;> (repeat' (rcases he with he | he)) <;> first | rfl | exact absurd hb (by decide)))
            obtain rfl : l3 = true := by
              cases l3 with
              | true => rfl
              | false => exact absurd rfl (ready_not (j := 3) hr rfl (by intro e he hb; simp at he <;> (repeat' (rcases he with he | he)) <;> first | rfl | exact absurd hb (by decide)))
            obtain rfl : l4 = true := by
              cases l4 with
              | true => rfl
              | false => exact absurd rfl (ready_not (j := 4) hr rfl (by intro e he hb; simp at he <;> (repeat' (rcases he with he | he)) <;> first | rfl | exact absurd hb (by decide)))
            obtain rfl : l5 = true := by
              cases l5 with
              | true => rfl
              | false => exact absurd rfl (ready_not (j := 5) hr rfl (by intro e he hb; simp at he <;> (repeat' (rcases he with he | he)) <;> first | rfl | exact absurd hb (by decide)))
            obtain rfl : l6 = true := by
              cases l6 with
              | true => rfl
              | false => exact absurd rfl (ready_not (j := 6) hr rfl (by intro e he hb; simp at he <;> (repeat' (rcases he with he | he)) <;> first | rfl | exact absurd hb (by decide)))
            obtain rfl : l7 = true := by
              cases l7 with
              | true => rfl
              | false => exact absurd rfl (ready_not (j := 7) hr rfl (by intro e he hb; simp at he <;> (repeat' (rcases he with he | he)) <;> first | rfl | exact absurd hb (by decide)))
            obtain rfl : l8 = true := by
              cases l8 with
              | true => rfl
              | false => exact absurd rfl (ready_not (j := 8) hr rfl (by intro e he hb; simp at he <;> (repeat' (rcases he with he | he)) <;> first | rfl | exact absurd hb (by decide)))
            obtain rfl : l9 = true := by
              cases l9 with
              | true => rfl
              | false => exact absurd rfl (ready_not (j := 9) hr rfl (by intro e he hb; simp at he <;> (repeat' (rcases he with he | he)) <;> first | rfl | exact absurd hb (by decide)))
            obtain rfl : l10 = true := by
              cases l10 with
              | true => rfl
              | false => exact absurd rfl (ready_not (j := 10) hr rfl (by intro e he hb; simp at he <;> (repeat' (rcases he with he | he)) <;> first | rfl | exact absurd hb (by decide)))
            obtain rfl : l11 = true := by
              cases l11 with
              | true => rfl
              | false => exact absurd rfl (ready_not (j := 11) hr rfl (by intro e he hb; simp at he <;> (repeat' (rcases he with he | he)) <;> first | rfl | exact absurd hb (by decide)))
            obtain rfl : l12 = true := by
              cases l12 with
              | true => rfl
              | false => exact absurd rfl (ready_not (j := 12) hr rfl (by intro e he hb; simp at he <;> (repeat' (rcases he with he | he)) <;> first | rfl | exact absurd hb (by decide)))
            have e58 := h.c12 rfl
            clear h hr
            refine HK9 _ _ ?_
            by_cases hle : g ≤ ((slo b : Nat) : Int)
            · rw [decide_eq_true hle] at e58
              refine wpIn_cond_true e58 (wpIn_exit ?_)
              exact ⟨hn.1, rfl, y, hbr hle, hsd⟩
            · rw [decide_eq_false hle] at e58
              refine wpIn_cond_false e58 (wpIn_skip ?_)
              exact ⟨hn.1, trivial, hn.2⟩
          case step =>
            rintro listed a w2 i o ⟨l0, l1, l2, l3, l4, l5, l6, l7, l8, l9, l10, l11, l12, rfl, rfl, h⟩ hl ho hafter K hK
            have e4 := h.e4
            have e1 := h.e1
            match i, hl, ho with
            | 0, hl, ho =>
              obtain rfl : l0 = false := hl
              simp at ho
              subst ho
              have hk := hK (a.put (some 48) (.pointer (some ⟨D1, 0, none⟩))) _ ⟨true, l1, l2, l3, l4, l5, l6, l7, l8, l9, l10, l11, l12, rfl, rfl, ⟨(by rw [put_size]; exact h.sz), ((put_ne (by decide)).trans h.e4), ((put_ne (by decide)).trans h.e1), (fun _ => put_eq (by have := h.sz; omega)), (fun e => (put_ne (by decide)).trans (h.c1 e)), (fun e => (put_ne (by decide)).trans (h.c2 e)), (fun e => (put_ne (by decide)).trans (h.c3 e)), (fun e => (put_ne (by decide)).trans (h.c4 e)), (fun e => (put_ne (by decide)).trans (h.c5 e)), (fun e => (put_ne (by decide)).trans (h.c6 e)), (fun e => (put_ne (by decide)).trans (h.c7 e)), (fun e => (put_ne (by decide)).trans (h.c8 e)), (fun e => (put_ne (by decide)).trans (h.c9 e)), (fun e => (put_ne (by decide)).trans (h.c10 e)), (fun e => (put_ne (by decide)).trans (h.c11 e)), (fun e => (put_ne (by decide)).trans (h.c12 e))⟩⟩
              rw [if_pos (by simp [Region.wanted])]
              refine ⟨by first | exact fun f' hf' => trivial | simp [Oper.about], ?_⟩
              rw [Oper.semAt_plain _ _ _ (by intro c hc; cases hc)]
              simp [go_sem] at e4
              simp [execOp, e4, go_sem]
              exact hk
            | 1, hl, ho =>
              obtain rfl : l1 = false := hl
              simp at ho
              subst ho
              obtain rfl : l0 = true := hafter ⟨0, .data⟩ (by simp) rfl
              have q0 := h.c0 rfl
              have hk := hK (a.put (some 49) (.int .u64 y.a)) _ ⟨true, true, l2, l3, l4, l5, l6, l7, l8, l9, l10, l11, l12, rfl, rfl, ⟨(by rw [put_size]; exact h.sz), ((put_ne (by decide)).trans h.e4), ((put_ne (by decide)).trans h.e1), (fun e => (put_ne (by decide)).trans (h.c0 e)), (fun _ => put_eq (by have := h.sz; omega)), (fun e => (put_ne (by decide)).trans (h.c2 e)), (fun e => (put_ne (by decide)).trans (h.c3 e)), (fun e => (put_ne (by decide)).trans (h.c4 e)), (fun e => (put_ne (by decide)).trans (h.c5 e)), (fun e => (put_ne (by decide)).trans (h.c6 e)), (fun e => (put_ne (by decide)).trans (h.c7 e)), (fun e => (put_ne (by decide)).trans (h.c8 e)), (fun e => (put_ne (by decide)).trans (h.c9 e)), (fun e => (put_ne (by decide)).trans (h.c10 e)), (fun e => (put_ne (by decide)).trans (h.c11 e)), (fun e => (put_ne (by decide)).trans (h.c12 e))⟩⟩
              rw [if_pos (by simp [Region.wanted])]
              refine ⟨by first | exact fun f' hf' => trivial | simp [Oper.about], ?_⟩
              rw [Oper.semAt_plain _ _ _ (by intro c hc; cases hc)]
              simp [go_sem] at q0
              simp [execOp, q0, go_sem, hy]
              exact hk
            | 2, hl, ho =>
              obtain rfl : l2 = false := hl
              simp at ho
              subst ho
              have hk := hK (a.put (some 50) (.pointer (some ⟨Q, 0, none⟩))) _ ⟨l0, l1, true, l3, l4, l5, l6, l7, l8, l9, l10, l11, l12, rfl, rfl, ⟨(by rw [put_size]; exact h.sz), ((put_ne (by decide)).trans h.e4), ((put_ne (by decide)).trans h.e1), (fun e => (put_ne (by decide)).trans (h.c0 e)), (fun e => (put_ne (by decide)).trans (h.c1 e)), (fun _ => put_eq (by have := h.sz; omega)), (fun e => (put_ne (by decide)).trans (h.c3 e)), (fun e => (put_ne (by decide)).trans (h.c4 e)), (fun e => (put_ne (by decide)).trans (h.c5 e)), (fun e => (put_ne (by decide)).trans (h.c6 e)), (fun e => (put_ne (by decide)).trans (h.c7 e)), (fun e => (put_ne (by decide)).trans (h.c8 e)), (fun e => (put_ne (by decide)).trans (h.c9 e)), (fun e => (put_ne (by decide)).trans (h.c10 e)), (fun e => (put_ne (by decide)).trans (h.c11 e)), (fun e => (put_ne (by decide)).trans (h.c12 e))⟩⟩
              rw [if_pos (by simp [Region.wanted])]
              refine ⟨by first | exact fun f' hf' => trivial | simp [Oper.about], ?_⟩
              rw [Oper.semAt_plain _ _ _ (by intro c hc; cases hc)]
              simp [go_sem] at e1
              simp [execOp, e1, go_sem, hq]
              exact hk
            | 3, hl, ho =>
              obtain rfl : l3 = false := hl
              simp at ho
              subst ho
              obtain rfl : l2 = true := hafter ⟨2, .data⟩ (by simp) rfl
              have q2 := h.c2 rfl
              have hk := hK (a.put (some 51) (.pointer (some ⟨Q, 0, none⟩))) _ ⟨l0, l1, true, true, l4, l5, l6, l7, l8, l9, l10, l11, l12, rfl, rfl, ⟨(by rw [put_size]; exact h.sz), ((put_ne (by decide)).trans h.e4), ((put_ne (by decide)).trans h.e1), (fun e => (put_ne (by decide)).trans (h.c0 e)), (fun e => (put_ne (by decide)).trans (h.c1 e)), (fun e => (put_ne (by decide)).trans (h.c2 e)), (fun _ => put_eq (by have := h.sz; omega)), (fun e => (put_ne (by decide)).trans (h.c4 e)), (fun e => (put_ne (by decide)).trans (h.c5 e)), (fun e => (put_ne (by decide)).trans (h.c6 e)), (fun e => (put_ne (by decide)).trans (h.c7 e)), (fun e => (put_ne (by decide)).trans (h.c8 e)), (fun e => (put_ne (by decide)).trans (h.c9 e)), (fun e => (put_ne (by decide)).trans (h.c10 e)), (fun e => (put_ne (by decide)).trans (h.c11 e)), (fun e => (put_ne (by decide)).trans (h.c12 e))⟩⟩
              rw [if_pos (by simp [Region.wanted])]
              refine ⟨by first | exact fun f' hf' => trivial | simp [Oper.about], ?_⟩
              rw [Oper.semAt_plain _ _ _ (by intro c hc; cases hc)]
              simp [go_sem] at q2
              simp [execOp, q2, go_sem]
              exact hk
            | 4, hl, ho =>
              obtain rfl : l4 = false := hl
              simp at ho
              subst ho
              obtain rfl : l3 = true := hafter ⟨3, .data⟩ (by simp) rfl
              have q3 := h.c3 rfl
              have hk := hK (a.put (some 52) (.pointer (some ⟨Q, 2, none⟩))) _ ⟨l0, l1, l2, true, true, l5, l6, l7, l8, l9, l10, l11, l12, rfl, rfl, ⟨(by rw [put_size]; exact h.sz), ((put_ne (by decide)).trans h.e4), ((put_ne (by decide)).trans h.e1), (fun e => (put_ne (by decide)).trans (h.c0 e)), (fun e => (put_ne (by decide)).trans (h.c1 e)), (fun e => (put_ne (by decide)).trans (h.c2 e)), (fun e => (put_ne (by decide)).trans (h.c3 e)), (fun _ => put_eq (by have := h.sz; omega)), (fun e => (put_ne (by decide)).trans (h.c5 e)), (fun e => (put_ne (by decide)).trans (h.c6 e)), (fun e => (put_ne (by decide)).trans (h.c7 e)), (fun e => (put_ne (by decide)).trans (h.c8 e)), (fun e => (put_ne (by decide)).trans (h.c9 e)), (fun e => (put_ne (by decide)).trans (h.c10 e)), (fun e => (put_ne (by decide)).trans (h.c11 e)), (fun e => (put_ne (by decide)).trans (h.c12 e))⟩⟩
              rw [if_pos (by simp [Region.wanted])]
              refine ⟨by first | exact fun f' hf' => trivial | simp [Oper.about], ?_⟩
              rw [Oper.semAt_plain _ _ _ (by intro c hc; cases hc)]
              simp [go_sem] at q3
              simp [execOp, q3, go_sem]
              exact hk
            | 5, hl, ho =>
              obtain rfl : l5 = false := hl
              simp at ho
              subst ho
              obtain rfl : l4 = true := hafter ⟨4, .data⟩ (by simp) rfl
              have q4 := h.c4 rfl
              have hk := hK (a.put (some 53) (.int .u64 s)) _ ⟨l0, l1, l2, l3, true, true, l6, l7, l8, l9, l10, l11, l12, rfl, rfl, ⟨(by rw [put_size]; exact h.sz), ((put_ne (by decide)).trans h.e4), ((put_ne (by decide)).trans h.e1), (fun e => (put_ne (by decide)).trans (h.c0 e)), (fun e => (put_ne (by decide)).trans (h.c1 e)), (fun e => (put_ne (by decide)).trans (h.c2 e)), (fun e => (put_ne (by decide)).trans (h.c3 e)), (fun e => (put_ne (by decide)).trans (h.c4 e)), (fun _ => put_eq (by have := h.sz; omega)), (fun e => (put_ne (by decide)).trans (h.c6 e)), (fun e => (put_ne (by decide)).trans (h.c7 e)), (fun e => (put_ne (by decide)).trans (h.c8 e)), (fun e => (put_ne (by decide)).trans (h.c9 e)), (fun e => (put_ne (by decide)).trans (h.c10 e)), (fun e => (put_ne (by decide)).trans (h.c11 e)), (fun e => (put_ne (by decide)).trans (h.c12 e))⟩⟩
              rw [if_pos (by simp [Region.wanted])]
              refine ⟨by first | exact fun f' hf' => trivial | simp [Oper.about], ?_⟩
              rw [Oper.semAt_plain _ _ _ (by intro c hc; cases hc)]
              simp [go_sem] at q4
              simp [execOp, q4, go_sem, h3]
              exact hk
            | 6, hl, ho =>
              obtain rfl : l6 = false := hl
              simp at ho
              subst ho
              obtain rfl : l1 = true := hafter ⟨1, .data⟩ (by simp) rfl
              obtain rfl : l5 = true := hafter ⟨5, .data⟩ (by simp) rfl
              have q1 := h.c1 rfl
              have q5 := h.c5 rfl
              have hk := hK (a.put (some 54) (.int .u64 g)) _ ⟨l0, true, l2, l3, l4, true, true, l7, l8, l9, l10, l11, l12, rfl, rfl, ⟨(by rw [put_size]; exact h.sz), ((put_ne (by decide)).trans h.e4), ((put_ne (by decide)).trans h.e1), (fun e => (put_ne (by decide)).trans (h.c0 e)), (fun e => (put_ne (by decide)).trans (h.c1 e)), (fun e => (put_ne (by decide)).trans (h.c2 e)), (fun e => (put_ne (by decide)).trans (h.c3 e)), (fun e => (put_ne (by decide)).trans (h.c4 e)), (fun e => (put_ne (by decide)).trans (h.c5 e)), (fun _ => put_eq (by have := h.sz; omega)), (fun e => (put_ne (by decide)).trans (h.c7 e)), (fun e => (put_ne (by decide)).trans (h.c8 e)), (fun e => (put_ne (by decide)).trans (h.c9 e)), (fun e => (put_ne (by decide)).trans (h.c10 e)), (fun e => (put_ne (by decide)).trans (h.c11 e)), (fun e => (put_ne (by decide)).trans (h.c12 e))⟩⟩
              rw [if_pos (by simp [Region.wanted])]
              refine ⟨by first | exact fun f' hf' => trivial | simp [Oper.about], ?_⟩
              rw [Oper.semAt_plain _ _ _ (by intro c hc; cases hc)]
              simp [go_sem] at q1 q5
              simp [execOp, q1, q5, go_sem, hg]
              exact hk
            | 7, hl, ho =>
              obtain rfl : l7 = false := hl
              simp at ho
              subst ho
              have hk := hK (a.put (some 55) (.pointer (some ⟨Q, 0, none⟩))) _ ⟨l0, l1, l2, l3, l4, l5, l6, true, l8, l9, l10, l11, l12, rfl, rfl, ⟨(by rw [put_size]; exact h.sz), ((put_ne (by decide)).trans h.e4), ((put_ne (by decide)).trans h.e1), (fun e => (put_ne (by decide)).trans (h.c0 e)), (fun e => (put_ne (by decide)).trans (h.c1 e)), (fun e => (put_ne (by decide)).trans (h.c2 e)), (fun e => (put_ne (by decide)).trans (h.c3 e)), (fun e => (put_ne (by decide)).trans (h.c4 e)), (fun e => (put_ne (by decide)).trans (h.c5 e)), (fun e => (put_ne (by decide)).trans (h.c6 e)), (fun _ => put_eq (by have := h.sz; omega)), (fun e => (put_ne (by decide)).trans (h.c8 e)), (fun e => (put_ne (by decide)).trans (h.c9 e)), (fun e => (put_ne (by decide)).trans (h.c10 e)), (fun e => (put_ne (by decide)).trans (h.c11 e)), (fun e => (put_ne (by decide)).trans (h.c12 e))⟩⟩
              rw [if_pos (by simp [Region.wanted])]
              refine ⟨by first | exact fun f' hf' => trivial | simp [Oper.about], ?_⟩
              rw [Oper.semAt_plain _ _ _ (by intro c hc; cases hc)]
              simp [go_sem] at e1
              simp [execOp, e1, go_sem, hq]
              exact hk
            | 8, hl, ho =>
              obtain rfl : l8 = false := hl
              simp at ho
              subst ho
              obtain rfl : l7 = true := hafter ⟨7, .data⟩ (by simp) rfl
              have q7 := h.c7 rfl
              have hk := hK (a.put (some 56) (.pointer (some ⟨Q, 0, none⟩))) _ ⟨l0, l1, l2, l3, l4, l5, l6, true, true, l9, l10, l11, l12, rfl, rfl, ⟨(by rw [put_size]; exact h.sz), ((put_ne (by decide)).trans h.e4), ((put_ne (by decide)).trans h.e1), (fun e => (put_ne (by decide)).trans (h.c0 e)), (fun e => (put_ne (by decide)).trans (h.c1 e)), (fun e => (put_ne (by decide)).trans (h.c2 e)), (fun e => (put_ne (by decide)).trans (h.c3 e)), (fun e => (put_ne (by decide)).trans (h.c4 e)), (fun e => (put_ne (by decide)).trans (h.c5 e)), (fun e => (put_ne (by decide)).trans (h.c6 e)), (fun e => (put_ne (by decide)).trans (h.c7 e)), (fun _ => put_eq (by have := h.sz; omega)), (fun e => (put_ne (by decide)).trans (h.c9 e)), (fun e => (put_ne (by decide)).trans (h.c10 e)), (fun e => (put_ne (by decide)).trans (h.c11 e)), (fun e => (put_ne (by decide)).trans (h.c12 e))⟩⟩
              rw [if_pos (by simp [Region.wanted])]
              refine ⟨by first | exact fun f' hf' => trivial | simp [Oper.about], ?_⟩
              rw [Oper.semAt_plain _ _ _ (by intro c hc; cases hc)]
              simp [go_sem] at q7
              simp [execOp, q7, go_sem]
              exact hk
            | 9, hl, ho =>
              obtain rfl : l9 = false := hl
              simp at ho
              subst ho
              obtain rfl : l8 = true := hafter ⟨8, .data⟩ (by simp) rfl
              have q8 := h.c8 rfl
              have hk := hK (a.put (some 57) (.pointer (some ⟨Q, 1, none⟩))) _ ⟨l0, l1, l2, l3, l4, l5, l6, l7, true, true, l10, l11, l12, rfl, rfl, ⟨(by rw [put_size]; exact h.sz), ((put_ne (by decide)).trans h.e4), ((put_ne (by decide)).trans h.e1), (fun e => (put_ne (by decide)).trans (h.c0 e)), (fun e => (put_ne (by decide)).trans (h.c1 e)), (fun e => (put_ne (by decide)).trans (h.c2 e)), (fun e => (put_ne (by decide)).trans (h.c3 e)), (fun e => (put_ne (by decide)).trans (h.c4 e)), (fun e => (put_ne (by decide)).trans (h.c5 e)), (fun e => (put_ne (by decide)).trans (h.c6 e)), (fun e => (put_ne (by decide)).trans (h.c7 e)), (fun e => (put_ne (by decide)).trans (h.c8 e)), (fun _ => put_eq (by have := h.sz; omega)), (fun e => (put_ne (by decide)).trans (h.c10 e)), (fun e => (put_ne (by decide)).trans (h.c11 e)), (fun e => (put_ne (by decide)).trans (h.c12 e))⟩⟩
              rw [if_pos (by simp [Region.wanted])]
              refine ⟨by first | exact fun f' hf' => trivial | simp [Oper.about], ?_⟩
              rw [Oper.semAt_plain _ _ _ (by intro c hc; cases hc)]
              simp [go_sem] at q8
              simp [execOp, q8, go_sem]
              exact hk
            | 10, hl, ho =>
              obtain rfl : l10 = false := hl
              simp at ho
              subst ho
              obtain rfl : l9 = true := hafter ⟨9, .data⟩ (by simp) rfl
              have q9 := h.c9 rfl
              have hk := hK (a.put (some 58) (.int .i64 (slo b : Nat))) _ ⟨l0, l1, l2, l3, l4, l5, l6, l7, l8, true, true, l11, l12, rfl, rfl, ⟨(by rw [put_size]; exact h.sz), ((put_ne (by decide)).trans h.e4), ((put_ne (by decide)).trans h.e1), (fun e => (put_ne (by decide)).trans (h.c0 e)), (fun e => (put_ne (by decide)).trans (h.c1 e)), (fun e => (put_ne (by decide)).trans (h.c2 e)), (fun e => (put_ne (by decide)).trans (h.c3 e)), (fun e => (put_ne (by decide)).trans (h.c4 e)), (fun e => (put_ne (by decide)).trans (h.c5 e)), (fun e => (put_ne (by decide)).trans (h.c6 e)), (fun e => (put_ne (by decide)).trans (h.c7 e)), (fun e => (put_ne (by decide)).trans (h.c8 e)), (fun e => (put_ne (by decide)).trans (h.c9 e)), (fun _ => put_eq (by have := h.sz; omega)), (fun e => (put_ne (by decide)).trans (h.c11 e)), (fun e => (put_ne (by decide)).trans (h.c12 e))⟩⟩
              rw [if_pos (by simp [Region.wanted])]
              refine ⟨by first | exact fun f' hf' => trivial | simp [Oper.about], ?_⟩
              rw [Oper.semAt_plain _ _ _ (by intro c hc; cases hc)]
              simp [go_sem] at q9
              simp [execOp, q9, go_sem, h2]
              exact hk
            | 11, hl, ho =>
              obtain rfl : l11 = false := hl
              simp at ho
              subst ho
              obtain rfl : l10 = true := hafter ⟨10, .data⟩ (by simp) rfl
              have q10 := h.c10 rfl
              have hk := hK (a.put (some 59) (.int .u64 (slo b : Nat))) _ ⟨l0, l1, l2, l3, l4, l5, l6, l7, l8, l9, true, true, l12, rfl, rfl, ⟨(by rw [put_size]; exact h.sz), ((put_ne (by decide)).trans h.e4), ((put_ne (by decide)).trans h.e1), (fun e => (put_ne (by decide)).trans (h.c0 e)), (fun e => (put_ne (by decide)).trans (h.c1 e)), (fun e => (put_ne (by decide)).trans (h.c2 e)), (fun e => (put_ne (by decide)).trans (h.c3 e)), (fun e => (put_ne (by decide)).trans (h.c4 e)), (fun e => (put_ne (by decide)).trans (h.c5 e)), (fun e => (put_ne (by decide)).trans (h.c6 e)), (fun e => (put_ne (by decide)).trans (h.c7 e)), (fun e => (put_ne (by decide)).trans (h.c8 e)), (fun e => (put_ne (by decide)).trans (h.c9 e)), (fun e => (put_ne (by decide)).trans (h.c10 e)), (fun _ => put_eq (by have := h.sz; omega)), (fun e => (put_ne (by decide)).trans (h.c12 e))⟩⟩
              rw [if_pos (by simp [Region.wanted])]
              refine ⟨by first | exact fun f' hf' => trivial | simp [Oper.about], ?_⟩
              rw [Oper.semAt_plain _ _ _ (by intro c hc; cases hc)]
              simp [go_sem] at q10
              simp [execOp, q10, go_sem, hS]
              exact hk
            | 12, hl, ho =>
              obtain rfl : l12 = false := hl
              simp at ho
              subst ho
              obtain rfl : l6 = true := hafter ⟨6, .data⟩ (by simp) rfl
              obtain rfl : l11 = true := hafter ⟨11, .data⟩ (by simp) rfl
              have q6 := h.c6 rfl
              have q11 := h.c11 rfl
              have hk := hK (a.put (some 60) (.bool (decide (g ≤ ((slo b : Nat) : Int))))) _ ⟨l0, l1, l2, l3, l4, l5, true, l7, l8, l9, l10, true, true, rfl, rfl, ⟨(by rw [put_size]; exact h.sz), ((put_ne (by decide)).trans h.e4), ((put_ne (by decide)).trans h.e1), (fun e => (put_ne (by decide)).trans (h.c0 e)), (fun e => (put_ne (by decide)).trans (h.c1 e)), (fun e => (put_ne (by decide)).trans (h.c2 e)), (fun e => (put_ne (by decide)).trans (h.c3 e)), (fun e => (put_ne (by decide)).trans (h.c4 e)), (fun e => (put_ne (by decide)).trans (h.c5 e)), (fun e => (put_ne (by decide)).trans (h.c6 e)), (fun e => (put_ne (by decide)).trans (h.c7 e)), (fun e => (put_ne (by decide)).trans (h.c8 e)), (fun e => (put_ne (by decide)).trans (h.c9 e)), (fun e => (put_ne (by decide)).trans (h.c10 e)), (fun e => (put_ne (by decide)).trans (h.c11 e)), (fun _ => put_eq (by have := h.sz; omega))⟩⟩
              rw [if_pos (by simp [Region.wanted])]
              refine ⟨by first | exact fun f' hf' => trivial | simp [Oper.about], ?_⟩
              rw [Oper.semAt_plain _ _ _ (by intro c hc; cases hc)]
              simp [go_sem] at q6 q11
              simp [execOp, q6, q11, go_sem]
              exact hk
            | (j + 13), hl, ho => simp at ho)
        clear HK1
        have H6 := Lib.hid ((hb35.trans hb34).alloc #[.int .u64 t.a, .int .u64 t.s, .int .i64 t.p] 41)
        have HT6 := Lib.hid (heap_alloc_new w34 (.cells #[.int .u64 t.a, .int .u64 t.s, .int .i64 t.p] 41))
        obtain ⟨V6, hV6⟩ : ∃ V6, w34.alloc (.cells #[.int .u64 t.a, .int .u64 t.s, .int .i64 t.p] 41) = V6 := ⟨_, rfl⟩
        obtain ⟨T7, hT7⟩ : ∃ T, w34.heap.size = T := ⟨_, rfl⟩
        rw [hV6] at H6 HT6 ⊢
        rw [hT7] at HT6 ⊢
        clear hV6 hT7 hb35 hb34 hh5 b0 KIx KFx a0 f0 aZ lqV
        have HS6 := Lib.hid (HSB.out.le H6.out)
        clear HSB
        cases m with
        | none =>
          simp only [Option.getD_none, Option.isSome_none] at HS6
          have HMI8 : Hid (Mi (slo b) s l (pre ++ [x]) (some t)) := HMI
          have HS8 := Lib.hid (HS6.out.turn t true)
          have HO8 := Lib.hid (Off.then (H6.out.off (fun i => i = D1 ∨ i = D2)) (HS6.out.turnO t true))
          obtain ⟨⟨t0, t1, t2⟩, _⟩ := box3 HT6.out
          obtain ⟨⟨d0, d1, d2⟩, e0, e1, e2⟩ := box3 HS6.out.d1
          obtain ⟨d3, e3⟩ := box1 HS6.out.d2
          have l1 : D1 < V6.heap.size := (Array.getElem?_eq_some_iff.1 HS6.out.d1).1
          have l2 : D2 < V6.heap.size := (Array.getElem?_eq_some_iff.1 HS6.out.d2).1
          have n2 : ¬ D2 = D1 := ty_ne HS6.out.d2 HS6.out.d1 (by decide)
          have n1 : ¬ D1 = D2 := fun e => n2 e.symm
          clear HMI HS6 HT6 H6
          gi_upto_region 9 with (refine ⟨trivial, ?_⟩)
          generalize ((((V6.setCell ⟨D1, 0, none⟩ (.int .u64 t.a)).setCell ⟨D1, 1, none⟩ (.int .u64 t.s)).setCell ⟨D1, 2, none⟩ (.int .i64 t.p)).setCell ⟨D2, 0, none⟩ (.bool true)) = V8 at *
          clear t0 t1 t2 d0 d1 d2 e0 e1 e2 d3 e3 l1 l2
          clear HI HPX HSL HST HDN HBK HRS HFE HMS KI KF
          show K1 _ _
          exact tail.out _ _ t rfl rfl rfl HS8.out HO8.out HMI8.out
        | some f =>
          simp only [Option.getD_some, Option.isSome_some] at HS6
          have HCE : Hid (bst (some f) t = if lt t f = true then t else f) := Lib.hid rfl
          have KC := Lib.hid (compare_any t f)
          have HCF : Hid (lt t f = decide (cf t f < 0)) := Lib.hid rfl
          generalize cf t f = c0 at *
          have HSX : Hid (∀ w', Bel V6 w' → Sb w Q bq b2 D1 D2 f true w' ∧ w'.heap[T7]? = some (.cells #[.int .u64 t.a, .int .u64 t.s, .int .i64 t.p] 41 (0, 0)) ∧ Bel V w') := Lib.hid (fun w' hb => ⟨HS6.out.le hb, hb.heap HT6.out, H6.out.trans hb⟩)
          obtain ⟨⟨t0, t1, t2⟩, _⟩ := box3 HT6.out
          obtain ⟨⟨d0, d1, d2⟩, _⟩ := box3 HS6.out.d1
          obtain ⟨d3, e3⟩ := box1 HS6.out.d2
          by_cases hc : c0 < 0
          · have HMI8 : Hid (Mi (slo b) s l (pre ++ [x]) (some t)) := Lib.hid (by have k := HMI.out; rw [HCE.out, HCF.out, if_pos (by simpa using hc)] at k; exact k)
            clear HMI HS6 HT6 H6 HCE HCF
            gi_upto_region 8 with (first
              | ((refine ⟨trivial, ?_⟩); gi_at_call 36; (with_reducible refine (CallsIn.inRound lp (callsIn_wide.2 (KC.out _))).mono ?_); rintro e w36 ⟨rfl, hb36⟩))
            obtain ⟨s36, q36, b36⟩ := HSX.out _ hb36
            have HS8 := Lib.hid (s36.turn t true)
            have HO8 := Lib.hid (Off.then (b36.off (fun i => i = D1 ∨ i = D2)) (s36.turnO t true))
            clear t0 t1 t2 d0 d1 d2 d3 e3
            obtain ⟨⟨t0, t1, t2⟩, _⟩ := box3 q36
            obtain ⟨⟨d0, d1, d2⟩, e0, e1, e2⟩ := box3 s36.d1
            obtain ⟨d3, e3⟩ := box1 s36.d2
            have l1 : D1 < w36.heap.size := (Array.getElem?_eq_some_iff.1 s36.d1).1
            have l2 : D2 < w36.heap.size := (Array.getElem?_eq_some_iff.1 s36.d2).1
            have n2 : ¬ D2 = D1 := ty_ne s36.d2 s36.d1 (by decide)
            have n1 : ¬ D1 = D2 := fun e => n2 e.symm
            clear s36 q36 b36 hb36 HSX KC
            gi_upto_region 9 with (refine ⟨trivial, ?_⟩)
            generalize ((((w36.setCell ⟨D1, 0, none⟩ (.int .u64 t.a)).setCell ⟨D1, 1, none⟩ (.int .u64 t.s)).setCell ⟨D1, 2, none⟩ (.int .i64 t.p)).setCell ⟨D2, 0, none⟩ (.bool true)) = V8 at *
            clear t0 t1 t2 d0 d1 d2 e0 e1 e2 d3 e3 l1 l2
            clear HI HPX HSL HST HDN HBK HRS HFE HMS KI KF
            show K1 _ _
            exact tail.out _ _ t rfl rfl rfl HS8.out HO8.out HMI8.out
          · have HMI8 : Hid (Mi (slo b) s l (pre ++ [x]) (some f)) := Lib.hid (by have k := HMI.out; rw [HCE.out, HCF.out, if_neg (by simpa using hc)] at k; exact k)
            clear HMI HS6 HT6 H6 HCE HCF
            gi_upto_region 9 with (first
              | ((refine ⟨trivial, ?_⟩); gi_at_call 36; (with_reducible refine (CallsIn.inRound lp (callsIn_wide.2 (KC.out _))).mono ?_); rintro e V8 ⟨rfl, hb36⟩))
            obtain ⟨s36, q36, b36⟩ := HSX.out _ hb36
            have HS8 := Lib.hid s36
            have HO8 := Lib.hid (b36.off (fun i => i = D1 ∨ i = D2))
            clear t0 t1 t2 d0 d1 d2 d3 e3 s36 q36 b36 hb36 HSX KC
            clear HI HPX HSL HST HDN HBK HRS HFE HMS KI KF
            show K1 _ _
            exact tail.out _ _ f rfl rfl rfl HS8.out HO8.out HMI8.out
      case done =>
        rintro D' V hD' hI hK
        obtain ⟨m, hm, hsb⟩ := hI.st
        have HA : Hid (ansT l.head? = .tuple #[.agg #[.int .u64 (m.getD default).a, .int .u64 (m.getD default).s, .int .i64 (m.getD default).p], .bool m.isSome]) := Lib.hid (by rw [← HDN.out m hm, ansT_eq'])
        generalize m.isSome = z at *
        generalize m.getD default = y at *
        obtain ⟨⟨d0, d1, d2⟩, _⟩ := box3 hsb.d1
        obtain ⟨d3, _⟩ := box1 hsb.d2
        obtain ⟨_, e0, e1, e2⟩ := box3 hsb.c2
        have lb : b2 < V.heap.size := (Array.getElem?_eq_some_iff.1 hsb.c2).1
        have hDV : D' < V.heap.size := (Array.getElem?_eq_some_iff.1 hK).1
        have n1 : ¬ b2 = D2 := ty_ne hsb.c2 hsb.d2 (by decide)
        have n2 : ¬ D2 = b2 := fun e => n1 e.symm
        have n3 : ¬ b2 = D1 := hsb.ne
        have n4 : ¬ D1 = b2 := fun e => n3 e.symm
        have l1 : D1 < V.heap.size := (Array.getElem?_eq_some_iff.1 hsb.d1).1
        have l2 : D2 < V.heap.size := (Array.getElem?_eq_some_iff.1 hsb.d2).1
        have nD : ¬ D' = b2 := fun e => by have h5 := hsb.c2; rw [← e, hK] at h5; cases h5
        clear hI hm
        generalize y.a = xa at *
        generalize y.s = xs at *
        generalize y.p = xp at *
        have hs2 := hsb.c2
        have hb2' := hsb.bel
        clear hsb
        have HEND : Hid (∀ X : World, Off (fun k => k = b2) V X → X.heap[b2]? = some (.cells #[.int .u64 xa, .int .u64 xs, .int .i64 xp] 41 (0, 0)) → X.heap[D']? = some (.deferred (some [])) ∧ Bel w (X.putObj D' (.deferred none)) ∧ (X.putObj D' (.deferred none)).heap[b2]? = some (.cells #[.int .u64 xa, .int .u64 xs, .int .i64 xp] 41 (0, 0))) := Lib.hid (fun X o hx => by
          have oD : Off (fun i => i = D') X (X.putObj D' (.deferred none)) := Off.grown (Off.refl (fun i => i = D') X) (grownBy_putObj' X D' (.deferred none)) (fun i e => .inl (by cases e; rfl))
          have hz := HDl.out
          exact ⟨(o.block D' hDV nD).trans hK, oD.bel (o.bel hb2' (fun i e => by have : i = b2 := e; omega)) (fun i e => by have : i = D' := e; omega), (oD.block b2 (Array.getElem?_eq_some_iff.1 hx).1 (fun e => nD e.symm)).trans hx⟩)
        clear hK hb2'
        go_wp2
        go_region
        all_goals
          go_wp2
          obtain ⟨k1, k2, k3⟩ := HEND.out _ ((off3 V b2 (.int .u64 xa) (.int .u64 xs) (.int .i64 xp)).drew) (box3_set hs2)
          refine ⟨by simp, .inl ⟨_, _, rfl, run_takeDeferred k1, ?_⟩⟩
          obtain ⟨⟨x0, x1, x2⟩, _⟩ := box3 k3
          refine ⟨ansT l.head?, ?_, rfl, k2⟩
          rw [HA.out]
          simp [results, Tryd.f19, go_sem, x0, x1, x2]
      case stop =>
        rintro D' c pre V hD' hpre ⟨rfl, y, hy, hsb⟩ hK
        have HA : Hid (ansT l.head? = .tuple #[.agg #[.int .u64 y.a, .int .u64 y.s, .int .i64 y.p], .bool true]) := Lib.hid (by rw [hy]; rfl)
        refine wpIn_wide.2 ?_
        obtain ⟨⟨d0, d1, d2⟩, _⟩ := box3 hsb.d1
        obtain ⟨d3, _⟩ := box1 hsb.d2
        obtain ⟨_, e0, e1, e2⟩ := box3 hsb.c2
        have lb : b2 < V.heap.size := (Array.getElem?_eq_some_iff.1 hsb.c2).1
        have hDV : D' < V.heap.size := (Array.getElem?_eq_some_iff.1 hK).1
        have n1 : ¬ b2 = D2 := ty_ne hsb.c2 hsb.d2 (by decide)
        have n2 : ¬ D2 = b2 := fun e => n1 e.symm
        have n3 : ¬ b2 = D1 := hsb.ne
        have n4 : ¬ D1 = b2 := fun e => n3 e.symm
        have l1 : D1 < V.heap.size := (Array.getElem?_eq_some_iff.1 hsb.d1).1
        have l2 : D2 < V.heap.size := (Array.getElem?_eq_some_iff.1 hsb.d2).1
        have nD : ¬ D' = b2 := fun e => by have h5 := hsb.c2; rw [← e, hK] at h5; cases h5
        clear hy
        generalize y.a = xa at *
        generalize y.s = xs at *
        generalize y.p = xp at *
        have hs2 := hsb.c2
        have hb2' := hsb.bel
        clear hsb
        have HEND : Hid (∀ X : World, Off (fun k => k = b2) V X → X.heap[b2]? = some (.cells #[.int .u64 xa, .int .u64 xs, .int .i64 xp] 41 (0, 0)) → X.heap[D']? = some (.deferred (some [])) ∧ Bel w (X.putObj D' (.deferred none)) ∧ (X.putObj D' (.deferred none)).heap[b2]? = some (.cells #[.int .u64 xa, .int .u64 xs, .int .i64 xp] 41 (0, 0))) := Lib.hid (fun X o hx => by
          have oD : Off (fun i => i = D') X (X.putObj D' (.deferred none)) := Off.grown (Off.refl (fun i => i = D') X) (grownBy_putObj' X D' (.deferred none)) (fun i e => .inl (by cases e; rfl))
          have hz := HDl.out
          exact ⟨(o.block D' hDV nD).trans hK, oD.bel (o.bel hb2' (fun i e => by have : i = b2 := e; omega)) (fun i e => by have : i = D' := e; omega), (oD.block b2 (Array.getElem?_eq_some_iff.1 hx).1 (fun e => nD e.symm)).trans hx⟩)
        clear hK hb2'
        go_wp2
        go_region
        all_goals
          go_wp2
          obtain ⟨k1, k2, k3⟩ := HEND.out _ ((off3 V b2 (.int .u64 xa) (.int .u64 xs) (.int .i64 xp)).drew) (box3_set hs2)
          refine ⟨by simp, .inl ⟨_, _, rfl, run_takeDeferred k1, ?_⟩⟩
          obtain ⟨⟨x0, x1, x2⟩, _⟩ := box3 k3
          refine ⟨ansT l.head?, ?_, rfl, k2⟩
          rw [HA.out]
          simp [results, Tryd.f19, go_sem, x0, x1, x2]
end
end Go.Proofs.YtdoceldofkaapaaDoor.Ha
