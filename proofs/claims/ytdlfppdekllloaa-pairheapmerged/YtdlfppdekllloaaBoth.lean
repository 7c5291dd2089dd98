/-
  Contract of order.both: two lists in order, merged.
-/
import Derived.Test.YtdlfppdekllloaaRput
import Derived.Test.YtdlfppdekllloaaSort
set_option linter.unusedVariables false
set_option linter.unusedSimpArgs false
namespace Go.Proofs.Ytdlfppdekllloaa
open Go.RowKit
/-- A slice's length. -/
def slB : Value → Nat
  | .slice _ n _ => n
  | _ => 0
theorem step_append_any {w : World} {ops : Array Oper} {o : Oper} {a : Act} {K : Act → World → Prop} {Q : Exit → Act → World → Prop} {E : Prop} (hgd : o.guard = none) (s x : Operand)
    (ho : o.op = .call { callee := .builtin .append, args := #[s, x], argTypes := #[28, 28] })
    (base : Nat) (v : Value) (l : List T) (hs : a.eval s = v) (hown : OwnT w base v l) (p : Option Addr) (m c : Nat) (xs : List T) (hx : a.eval x = .slice p m c) (hm : xs.length = m) (hHas : Has w p xs)
    (h63 : l.length + m ≤ 1000000) (hbase : base ≤ w.heap.size)
    (h : ∀ v' w', OwnT w' base v' (l ++ xs) → w.grownBy w' v.ownBlock → K (a.put o.dst v') w') :
    if Region.wanted o (yielded ops a.tmps) = true then Oper.wp Try.prog o a w K Q else E := by
  have hw : Region.wanted o (yielded ops a.tmps) = true := by simp [Region.wanted, hgd]
  rw [if_pos hw]
  obtain ⟨v', w', hr, h2, h3, _⟩ := append_any w o.type base v l hown p m c xs hm hHas h63 hbase
  unfold Oper.wp execOp
  simp only [ho, resolve, invoke, builtin, Sem.run_bind, Sem.run_pure, Result.andThen_ok, List.map_toArray, List.map_cons, List.map_nil, hs, hx, hr]
  exact h v' w' h2 h3
/-- What holds at each round's head. -/
def BothAt (w : World) (a b : List T) (va vb vl : Value) (wr : World) (a' b' d : List T) (na nb : Nat) (qa qb : Option Addr) (ka kb : Nat) : Prop :=
  va = .slice qa na ka ∧ vb = .slice qb nb kb ∧ a'.length = na ∧ b'.length = nb ∧ na ≤ ka ∧ nb ≤ kb ∧ Has w qa a' ∧ Has w qb b' ∧ OwnT wr w.heap.size vl d ∧ d ++ mrg a' b' = mrg a b ∧ Bel w wr ∧ d.length + na + nb ≤ 1000
theorem mrg_end {a b : List T} (h : a.length = 0 ∨ b.length = 0) : mrg a b = a ++ b := by
  rcases h with h | h
  · rw [List.eq_nil_of_length_eq_zero h, mrg_nil_left]; rfl
  · rw [List.eq_nil_of_length_eq_zero h, mrg_nil_right, List.append_nil]
theorem uncons {l : List T} {n : Nat} (h : l.length = n + 1) : ∃ x r, l = x :: r ∧ r.length = n := by
  cases l with
  | nil => simp at h
  | cons x r => exact ⟨x, r, rfl, by simpa using h⟩
theorem head_cells {w : World} {b off : Nat} {x : T} {r : List T} (h : Row w b off (x :: r)) : w.cell? ⟨b, off, none⟩ = some (.int .u64 x.a) ∧ w.cell? ⟨b, off + 1, none⟩ = some (.int .u64 x.s) ∧ w.cell? ⟨b, off + 2, none⟩ = some (.int .i64 x.p) := by
  have k := h 0 (by simp)
  simpa using k
set_option maxHeartbeats 4000000 in
theorem both_any (pa pb : Option Addr) (na nb ca cb : Nat) (a b : List T) (w : World) (hna : a.length = na) (hnb : b.length = nb) (hca : na ≤ ca) (hcb : nb ≤ cb) (hm : na + nb ≤ 1000) (ha : Has w pa a) (hb : Has w pb b) :
    Calls Try.prog 44 #[.slice pa na ca, .slice pb nb cb] w fun e w' => OutN w w' e (mrg a b) ∧ Bel w w' := by
  have HA := Lib.hid ha
  have HB0 := Lib.hid hb
  have HNA := Lib.hid hna
  have HNB := Lib.hid hnb
  clear ha hb hna hnb
  obtain ⟨i0, hi, hz0, hz1, hz2⟩ := info_parts info35
  have HI := Lib.hid hi
  have HZ0 := Lib.hid hz0
  have HZ1 := Lib.hid hz1
  have HZ2 := Lib.hid hz2
  clear hi hz0 hz1 hz2
  go_enter Try.func44, Try.ntmps44
  go_wp2_with (with_reducible refine wpList_make_own _ rfl _ _ 28 rfl w.heap.size 35 i0 _ 3 Try.underlying28 HI.out HZ0.out HZ1.out .i64 .i64 _ (na + nb) rfl rfl (by omega) (by rw [HZ2.out]; omega) (by unfold maxLen; omega) (Nat.le_refl _) ?_)
  intro w1 hown hgrow
  have HO : Hid (OwnT w1 w.heap.size (.slice (some ⟨w.heap.size, 0, none⟩) 0 (na + nb)) []) := Lib.hid hown
  have HB1 : Hid (Bel w w1) := Lib.hid (bel_of ((Below.refl _ w).grown hgrow (Nat.le_refl _) (by simp)))
  clear hown hgrow HI HZ0 HZ1 HZ2
  go_wp2
  go_loopw [0, 1, 5] (fun va vb vl wr => ∃ a' b' d ma mb qa qb ka kb, BothAt w a b va vb vl wr a' b' d ma mb qa qb ka kb) (fun va vb _ _ => slB va + slB vb)
  case atStart => exact ⟨a, b, [], na, nb, pa, pb, ca, cb, rfl, rfl, HNA.out, HNB.out, hca, hcb, HA.out, HB0.out, HO.out, rfl, HB1.out, by simp; omega⟩
  case round =>
    clear HA HB0 HNA HNB HO HB1 hca hcb hm
    obtain ⟨a', b', d, ma, mb, qa, qb, ka, kb, rfl, rfl, hna, hnb, hka, hkb, hqa, hqb, hown, hmg, hbel, hlen⟩ := hrel
    have HO := Lib.hid hown
    have HB := Lib.hid hbel
    have HM := Lib.hid hmg
    have HQA := Lib.hid hqa
    have HQB := Lib.hid hqb
    have HNA := Lib.hid hna
    have HNB := Lib.hid hnb
    have HLEN := Lib.hid hlen
    clear hown hbel hmg hqa hqb hna hnb hlen
    by_cases hne : 0 < ma ∧ 0 < mb
    · obtain ⟨h1, h2⟩ := hne
      obtain ⟨m, rfl⟩ : ∃ m, ma = m + 1 := ⟨ma - 1, by omega⟩
      obtain ⟨k, rfl⟩ : ∃ k, mb = k + 1 := ⟨mb - 1, by omega⟩
      obtain ⟨x, ra, rfl, hra⟩ := uncons HNA.out
      obtain ⟨y, rb, rfl, hrb⟩ := uncons HNB.out
      obtain ⟨ba, oa, rfl, rowa⟩ := HQA.out.row (by simp)
      obtain ⟨bb, ob, rfl, rowb⟩ := HQB.out.row (by simp)
      have hx := head_cells rowa
      have hy := head_cells rowb
      have HRA := Lib.hid hra
      have HRB := Lib.hid hrb
      have RA := Lib.hid rowa
      have RB := Lib.hid rowb
      clear hra hrb rowa rowb
      have HX : Hid (∀ w', Bel w w' → Bel w w' ∧ w'.cell? ⟨ba, oa, none⟩ = some (.int .u64 x.a) ∧ w'.cell? ⟨ba, oa + 1, none⟩ = some (.int .u64 x.s) ∧ w'.cell? ⟨ba, oa + 2, none⟩ = some (.int .i64 x.p) ∧ w'.cell? ⟨bb, ob, none⟩ = some (.int .u64 y.a) ∧ w'.cell? ⟨bb, ob + 1, none⟩ = some (.int .u64 y.s) ∧ w'.cell? ⟨bb, ob + 2, none⟩ = some (.int .i64 y.p)) :=
        Lib.hid (fun w' hb => ⟨hb, hb.cell hx.1, hb.cell hx.2.1, hb.cell hx.2.2, hb.cell hy.1, hb.cell hy.2.1, hb.cell hy.2.2⟩)
      clear hx hy HQA HQB
      have c0 : (0 : Int) ≤ (m : Int) := by omega
      have c1 : (0 : Int) ≤ (k : Int) := by omega
      have c2 : (m : Int) + 1 ≤ (ka : Int) := by omega
      have c3 : (k : Int) + 1 ≤ (kb : Int) := by omega
      have c4 : (1 : Int) ≤ (m : Int) + 1 := by omega
      have c5 : (1 : Int) ≤ (k : Int) + 1 := by omega
      have c6 : (0 : Int) < (m : Int) + 1 := by omega
      have c7 : (0 : Int) < (k : Int) + 1 := by omega
      cases hc : lt y x with
      | true =>
        by_cases hone : kb = 1
        · subst hone
          have HN2 : Hid (Has w (some ⟨bb, ob, none⟩) rb) := Lib.hid (.inl (List.eq_nil_of_length_eq_zero (by have := HRB.out; omega)))
          obtain rfl : k = 0 := by omega
          have HM2 : Hid ((d ++ [y]) ++ mrg (x :: ra) rb = mrg a b) := Lib.hid (by rw [← HM.out, mrg_yes hc]; simp)
          have HC := Lib.hid hc
          have hcf : cf y x < 0 := by unfold lt at hc; simpa using hc
          clear hc
          go_wp2
          go_region_held3 (fun w' => Bel w w' ∧ w'.cell? ⟨ba, oa, none⟩ = some (.int .u64 x.a) ∧ w'.cell? ⟨ba, oa + 1, none⟩ = some (.int .u64 x.s) ∧ w'.cell? ⟨ba, oa + 2, none⟩ = some (.int .i64 x.p) ∧ w'.cell? ⟨bb, ob, none⟩ = some (.int .u64 y.a) ∧ w'.cell? ⟨bb, ob + 1, none⟩ = some (.int .u64 y.s) ∧ w'.cell? ⟨bb, ob + 2, none⟩ = some (.int .i64 y.p))
            (first | exact HX.out _ HB.out | exact HX.out _ HB.out.drew | exact HX.out _ (HB.out.drew.trans hg1))
            (first | (go_at_call 38; refine (compare_any y x _).mono ?_; rintro e w2 ⟨rfl, hg1⟩))
          have HO2 := Lib.hid (HO.out.bel ((Bel.refl _).drew.trans hg1))
          have HB2 := Lib.hid (HB.out.drew.trans hg1)
          clear hg1
          go_wp2
          go_region_held3 (fun w' => Bel w w' ∧ w'.cell? ⟨ba, oa, none⟩ = some (.int .u64 x.a) ∧ w'.cell? ⟨ba, oa + 1, none⟩ = some (.int .u64 x.s) ∧ w'.cell? ⟨ba, oa + 2, none⟩ = some (.int .i64 x.p) ∧ w'.cell? ⟨bb, ob, none⟩ = some (.int .u64 y.a) ∧ w'.cell? ⟨bb, ob + 1, none⟩ = some (.int .u64 y.s) ∧ w'.cell? ⟨bb, ob + 2, none⟩ = some (.int .i64 y.p))
            (first | exact HX.out _ HB2.out | exact HX.out _ HB2.out.drew | exact HX.out _ (HB2.out.alloc _ _).drew | exact HX.out _ (HB2.out.alloc _ _) | exact HX.out _ HB3.out)
            ((refine step_append_any (by rfl) (.tmp 28) (.tmp 32) (by rfl) w.heap.size _ d (by rfl) (HO2.out.bel ((Bel.refl _).alloc _ _).drew) _ 1 _ [y] (by rfl) rfl ((has_one w2 y).bel (Bel.refl _).drew) (by have := HLEN.out; omega) (by have := HB2.out.size; simp; omega) ?_; intro v3 w3 hown3 hgrow3; have HB3 : Hid (Bel w w3) := Lib.hid (OwnT.grown (HB2.out.alloc _ _).drew (HO2.out.bel ((Bel.refl _).alloc _ _).drew) (by have := HB2.out.size; simp; omega) hgrow3)))
          have HO3 := Lib.hid hown3
          clear hown3 hgrow3
          go_wp2
          go_roundw
          case rel => exact ⟨x :: ra, rb, d ++ [y], m + 1, 0, some ⟨ba, oa, none⟩, some ⟨bb, ob, none⟩, ka, 0, rfl, by first | rfl | (simp; omega), by simp [HRA.out], HRB.out, hka, by omega, .inr ⟨_, _, rfl, RA.out⟩, HN2.out, HO3.out, HM2.out, HB3.out, by have := HLEN.out; simp; omega⟩
          case measure => simp [slB]
        · have HONE := Lib.hid hone
          have HN2 : Hid (Has w (some ⟨bb, ob + 3, none⟩) rb) := Lib.hid (.inr ⟨_, _, rfl, by have k0 := RB.out.drop 1; simpa using k0⟩)
          have HM2 : Hid ((d ++ [y]) ++ mrg (x :: ra) rb = mrg a b) := Lib.hid (by rw [← HM.out, mrg_yes hc]; simp)
          have HC := Lib.hid hc
          have hcf : cf y x < 0 := by unfold lt at hc; simpa using hc
          clear hc
          go_wp2
          go_region_held3 (fun w' => Bel w w' ∧ w'.cell? ⟨ba, oa, none⟩ = some (.int .u64 x.a) ∧ w'.cell? ⟨ba, oa + 1, none⟩ = some (.int .u64 x.s) ∧ w'.cell? ⟨ba, oa + 2, none⟩ = some (.int .i64 x.p) ∧ w'.cell? ⟨bb, ob, none⟩ = some (.int .u64 y.a) ∧ w'.cell? ⟨bb, ob + 1, none⟩ = some (.int .u64 y.s) ∧ w'.cell? ⟨bb, ob + 2, none⟩ = some (.int .i64 y.p))
            (first | exact HX.out _ HB.out | exact HX.out _ HB.out.drew | exact HX.out _ (HB.out.drew.trans hg1))
            (first | (go_at_call 38; refine (compare_any y x _).mono ?_; rintro e w2 ⟨rfl, hg1⟩))
          have HO2 := Lib.hid (HO.out.bel ((Bel.refl _).drew.trans hg1))
          have HB2 := Lib.hid (HB.out.drew.trans hg1)
          clear hg1
          go_wp2
          go_region_held3 (fun w' => Bel w w' ∧ w'.cell? ⟨ba, oa, none⟩ = some (.int .u64 x.a) ∧ w'.cell? ⟨ba, oa + 1, none⟩ = some (.int .u64 x.s) ∧ w'.cell? ⟨ba, oa + 2, none⟩ = some (.int .i64 x.p) ∧ w'.cell? ⟨bb, ob, none⟩ = some (.int .u64 y.a) ∧ w'.cell? ⟨bb, ob + 1, none⟩ = some (.int .u64 y.s) ∧ w'.cell? ⟨bb, ob + 2, none⟩ = some (.int .i64 y.p))
            (first | exact HX.out _ HB2.out | exact HX.out _ HB2.out.drew | exact HX.out _ (HB2.out.alloc _ _).drew | exact HX.out _ (HB2.out.alloc _ _) | exact HX.out _ HB3.out)
            ((refine step_append_any (by rfl) (.tmp 28) (.tmp 32) (by rfl) w.heap.size _ d (by rfl) (HO2.out.bel ((Bel.refl _).alloc _ _).drew) _ 1 _ [y] (by rfl) rfl ((has_one w2 y).bel (Bel.refl _).drew) (by have := HLEN.out; omega) (by have := HB2.out.size; simp; omega) ?_; intro v3 w3 hown3 hgrow3; have HB3 : Hid (Bel w w3) := Lib.hid (OwnT.grown (HB2.out.alloc _ _).drew (HO2.out.bel ((Bel.refl _).alloc _ _).drew) (by have := HB2.out.size; simp; omega) hgrow3)))
          have HO3 := Lib.hid hown3
          clear hown3 hgrow3
          go_wp2
          go_roundw
          case rel => exact ⟨x :: ra, rb, d ++ [y], m + 1, k, some ⟨ba, oa, none⟩, some ⟨bb, ob + 3, none⟩, ka, kb - 1, rfl, by first | rfl | (simp; omega), by simp [HRA.out], HRB.out, hka, by omega, .inr ⟨_, _, rfl, RA.out⟩, HN2.out, HO3.out, HM2.out, HB3.out, by have := HLEN.out; simp; omega⟩
          case measure => simp [slB]
      | false =>
        by_cases hone : ka = 1
        · subst hone
          have HN2 : Hid (Has w (some ⟨ba, oa, none⟩) ra) := Lib.hid (.inl (List.eq_nil_of_length_eq_zero (by have := HRA.out; omega)))
          obtain rfl : m = 0 := by omega
          have HM2 : Hid ((d ++ [x]) ++ mrg ra (y :: rb) = mrg a b) := Lib.hid (by rw [← HM.out, mrg_no hc]; simp)
          have HC := Lib.hid hc
          have hcf : ¬ cf y x < 0 := by unfold lt at hc; simpa using hc
          clear hc
          go_wp2
          go_region_held3 (fun w' => Bel w w' ∧ w'.cell? ⟨ba, oa, none⟩ = some (.int .u64 x.a) ∧ w'.cell? ⟨ba, oa + 1, none⟩ = some (.int .u64 x.s) ∧ w'.cell? ⟨ba, oa + 2, none⟩ = some (.int .i64 x.p) ∧ w'.cell? ⟨bb, ob, none⟩ = some (.int .u64 y.a) ∧ w'.cell? ⟨bb, ob + 1, none⟩ = some (.int .u64 y.s) ∧ w'.cell? ⟨bb, ob + 2, none⟩ = some (.int .i64 y.p))
            (first | exact HX.out _ HB.out | exact HX.out _ HB.out.drew | exact HX.out _ (HB.out.drew.trans hg1))
            (first | (go_at_call 38; refine (compare_any y x _).mono ?_; rintro e w2 ⟨rfl, hg1⟩))
          have HO2 := Lib.hid (HO.out.bel ((Bel.refl _).drew.trans hg1))
          have HB2 := Lib.hid (HB.out.drew.trans hg1)
          clear hg1
          go_wp2
          go_region_held3 (fun w' => Bel w w' ∧ w'.cell? ⟨ba, oa, none⟩ = some (.int .u64 x.a) ∧ w'.cell? ⟨ba, oa + 1, none⟩ = some (.int .u64 x.s) ∧ w'.cell? ⟨ba, oa + 2, none⟩ = some (.int .i64 x.p) ∧ w'.cell? ⟨bb, ob, none⟩ = some (.int .u64 y.a) ∧ w'.cell? ⟨bb, ob + 1, none⟩ = some (.int .u64 y.s) ∧ w'.cell? ⟨bb, ob + 2, none⟩ = some (.int .i64 y.p))
            (first | exact HX.out _ HB2.out | exact HX.out _ HB2.out.drew | exact HX.out _ (HB2.out.alloc _ _).drew | exact HX.out _ (HB2.out.alloc _ _) | exact HX.out _ HB3.out)
            ((refine step_append_any (by rfl) (.tmp 36) (.tmp 40) (by rfl) w.heap.size _ d (by rfl) (HO2.out.bel ((Bel.refl _).alloc _ _).drew) _ 1 _ [x] (by rfl) rfl ((has_one w2 x).bel (Bel.refl _).drew) (by have := HLEN.out; omega) (by have := HB2.out.size; simp; omega) ?_; intro v3 w3 hown3 hgrow3; have HB3 : Hid (Bel w w3) := Lib.hid (OwnT.grown (HB2.out.alloc _ _).drew (HO2.out.bel ((Bel.refl _).alloc _ _).drew) (by have := HB2.out.size; simp; omega) hgrow3)))
          have HO3 := Lib.hid hown3
          clear hown3 hgrow3
          go_wp2
          go_roundw
          case rel => exact ⟨ra, y :: rb, d ++ [x], 0, k + 1, some ⟨ba, oa, none⟩, some ⟨bb, ob, none⟩, 0, kb, by first | rfl | (simp; omega), rfl, HRA.out, by simp [HRB.out], by omega, hkb, HN2.out, .inr ⟨_, _, rfl, RB.out⟩, HO3.out, HM2.out, HB3.out, by have := HLEN.out; simp; omega⟩
          case measure => simp [slB]
        · have HONE := Lib.hid hone
          have HN2 : Hid (Has w (some ⟨ba, oa + 3, none⟩) ra) := Lib.hid (.inr ⟨_, _, rfl, by have k0 := RA.out.drop 1; simpa using k0⟩)
          have HM2 : Hid ((d ++ [x]) ++ mrg ra (y :: rb) = mrg a b) := Lib.hid (by rw [← HM.out, mrg_no hc]; simp)
          have HC := Lib.hid hc
          have hcf : ¬ cf y x < 0 := by unfold lt at hc; simpa using hc
          clear hc
          go_wp2
          go_region_held3 (fun w' => Bel w w' ∧ w'.cell? ⟨ba, oa, none⟩ = some (.int .u64 x.a) ∧ w'.cell? ⟨ba, oa + 1, none⟩ = some (.int .u64 x.s) ∧ w'.cell? ⟨ba, oa + 2, none⟩ = some (.int .i64 x.p) ∧ w'.cell? ⟨bb, ob, none⟩ = some (.int .u64 y.a) ∧ w'.cell? ⟨bb, ob + 1, none⟩ = some (.int .u64 y.s) ∧ w'.cell? ⟨bb, ob + 2, none⟩ = some (.int .i64 y.p))
            (first | exact HX.out _ HB.out | exact HX.out _ HB.out.drew | exact HX.out _ (HB.out.drew.trans hg1))
            (first | (go_at_call 38; refine (compare_any y x _).mono ?_; rintro e w2 ⟨rfl, hg1⟩))
          have HO2 := Lib.hid (HO.out.bel ((Bel.refl _).drew.trans hg1))
          have HB2 := Lib.hid (HB.out.drew.trans hg1)
          clear hg1
          go_wp2
          go_region_held3 (fun w' => Bel w w' ∧ w'.cell? ⟨ba, oa, none⟩ = some (.int .u64 x.a) ∧ w'.cell? ⟨ba, oa + 1, none⟩ = some (.int .u64 x.s) ∧ w'.cell? ⟨ba, oa + 2, none⟩ = some (.int .i64 x.p) ∧ w'.cell? ⟨bb, ob, none⟩ = some (.int .u64 y.a) ∧ w'.cell? ⟨bb, ob + 1, none⟩ = some (.int .u64 y.s) ∧ w'.cell? ⟨bb, ob + 2, none⟩ = some (.int .i64 y.p))
            (first | exact HX.out _ HB2.out | exact HX.out _ HB2.out.drew | exact HX.out _ (HB2.out.alloc _ _).drew | exact HX.out _ (HB2.out.alloc _ _) | exact HX.out _ HB3.out)
            ((refine step_append_any (by rfl) (.tmp 36) (.tmp 40) (by rfl) w.heap.size _ d (by rfl) (HO2.out.bel ((Bel.refl _).alloc _ _).drew) _ 1 _ [x] (by rfl) rfl ((has_one w2 x).bel (Bel.refl _).drew) (by have := HLEN.out; omega) (by have := HB2.out.size; simp; omega) ?_; intro v3 w3 hown3 hgrow3; have HB3 : Hid (Bel w w3) := Lib.hid (OwnT.grown (HB2.out.alloc _ _).drew (HO2.out.bel ((Bel.refl _).alloc _ _).drew) (by have := HB2.out.size; simp; omega) hgrow3)))
          have HO3 := Lib.hid hown3
          clear hown3 hgrow3
          go_wp2
          go_roundw
          case rel => exact ⟨ra, y :: rb, d ++ [x], m, k + 1, some ⟨ba, oa + 3, none⟩, some ⟨bb, ob, none⟩, ka - 1, kb, by first | rfl | (simp; omega), rfl, HRA.out, by simp [HRB.out], by omega, hkb, HN2.out, .inr ⟨_, _, rfl, RB.out⟩, HO3.out, HM2.out, HB3.out, by have := HLEN.out; simp; omega⟩
          case measure => simp [slB]
    · have HE : Hid (d ++ a' ++ b' = mrg a b) := Lib.hid (by
        have h1 := HNA.out
        have h2 := HNB.out
        rw [← HM.out, mrg_end (by omega), List.append_assoc])
      by_cases hz : ma = 0
      · subst hz
        go_wp2_with (first | (at_builtin; refine wpList_append_any rfl (.tmp 44) (.tmp 45) rfl w.heap.size _ d rfl HO.out _ _ _ a' rfl HNA.out (HQA.out.bel HB.out) (by have := HLEN.out; omega) HB.out.size ?_; intro v3 w3 hown3 hgrow3 hnil3; have HB3 : Hid (Bel w w3) := Lib.hid (OwnT.grown HB.out HO.out HB.out.size hgrow3)) | (at_builtin; refine wpList_append_any rfl (.tmp 46) (.tmp 47) rfl w.heap.size _ (d ++ a') rfl hown3 _ _ _ b' rfl HNB.out (HQB.out.bel HB3.out) (by have h1 := HLEN.out; have h2 := HNA.out; simp; omega) HB3.out.size ?_; intro v4 w4 hown4 hgrow4 hnil4))
        have HB4 : Hid (Bel w w4) := Lib.hid (OwnT.grown HB3.out hown3 HB3.out.size hgrow4)
        have HO4 := Lib.hid hown4
        clear hown3 hown4 hgrow3 hgrow4 hnil3 hnil4
        go_wp2
        go_ret
        have k0 : OutN w _ _ _ := HO4.out.outN (Nat.le_refl _)
        rw [HE.out] at k0
        exact ⟨k0, HB4.out⟩
      · obtain rfl : mb = 0 := by omega
        go_wp2_with (first | (at_builtin; refine wpList_append_any rfl (.tmp 44) (.tmp 45) rfl w.heap.size _ d rfl HO.out _ _ _ a' rfl HNA.out (HQA.out.bel HB.out) (by have := HLEN.out; omega) HB.out.size ?_; intro v3 w3 hown3 hgrow3 hnil3; have HB3 : Hid (Bel w w3) := Lib.hid (OwnT.grown HB.out HO.out HB.out.size hgrow3)) | (at_builtin; refine wpList_append_any rfl (.tmp 46) (.tmp 47) rfl w.heap.size _ (d ++ a') rfl hown3 _ _ _ b' rfl HNB.out (HQB.out.bel HB3.out) (by have h1 := HLEN.out; have h2 := HNA.out; simp; omega) HB3.out.size ?_; intro v4 w4 hown4 hgrow4 hnil4))
        have HB4 : Hid (Bel w w4) := Lib.hid (OwnT.grown HB3.out hown3 HB3.out.size hgrow4)
        have HO4 := Lib.hid hown4
        clear hown3 hown4 hgrow3 hgrow4 hnil3 hnil4
        go_wp2
        go_ret
        have k0 : OutN w _ _ _ := HO4.out.outN (Nat.le_refl _)
        rw [HE.out] at k0
        exact ⟨k0, HB4.out⟩
end Go.Proofs.Ytdlfppdekllloaa
