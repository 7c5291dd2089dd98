/-
  Contracts of bitmap.Next, Last and Round, and of the document's Round, by one word each.
-/
import Derived.Test.YthgiknkglnagbaaDoorLast
namespace Go.Proofs.YthgiknkglnagbaaDoor
open Go.RowKit

/-- The least one that is no less than f. -/
def nx (B : Nat → Nat) (f : Int) : Option Nat := fst (bo B 256) f
/-- The greatest one that is no more than f. -/
def ls (B : Nat → Nat) (f : Int) : Option Nat := lst (bo B 256) f
theorem next_is (B : Nat → Nat) (f : Int) : (bo (wth B (bl f.toNat)) 256).head? = nx B f := by
  have h : bo (wth B (bl f.toNat)) 256 = (bo B 256).filter (fun x : Nat => decide (f ≤ (x : Int))) := by
    unfold bo
    rw [List.filter_filter]
    apply List.filter_congr
    intro i _
    rw [tb_wth B _ (bl_wd _), tb_bl, Bool.and_comm]
    congr 1
    by_cases hi : i < f.toNat
    · rw [decide_eq_true hi, decide_eq_false (by omega)]; rfl
    · rw [decide_eq_false hi, decide_eq_true (by omega)]; rfl
  rw [h, List.head?_filter]
  rfl
theorem last_is (B : Nat → Nat) (f : Int) : (bo (bth B (bl (min f 255 + 1).toNat)) 256).getLast? = ls B f := by
  have h : bo (bth B (bl (min f 255 + 1).toNat)) 256 = (bo B 256).filter (fun x : Nat => decide ((x : Int) ≤ f)) := by
    unfold bo
    rw [List.filter_filter]
    apply List.filter_congr
    intro i hi
    have hi' : i < 256 := by simpa using hi
    rw [tb_bth B _, tb_bl, Bool.and_comm]
    congr 1
    rw [decide_eq_decide]
    omega
  rw [h, List.getLast?_eq_head?_reverse, ← List.filter_reverse, List.head?_filter]
  rfl
theorem next_nx (B : Nat → Nat) (hB : Wd B) (f : Int) (h1 : f ≤ 9223372036854775807) (w : World) (hT : Tab w) :
    Calls Tryd.prog 23 #[.agg #[.int .u64 (B 0), .int .u64 (B 1), .int .u64 (B 2), .int .u64 (B 3)], .int .i64 f] w fun e w' => e = .returned (ans (nx B f)) ∧ Bel w w' := by
  have := next_any B hB f h1 w hT
  rw [next_is] at this
  exact this
theorem last_ls (B : Nat → Nat) (hB : Wd B) (f : Int) (h0 : -9223372036854775808 ≤ f) (w : World) :
    Calls Tryd.prog 25 #[.agg #[.int .u64 (B 0), .int .u64 (B 1), .int .u64 (B 2), .int .u64 (B 3)], .int .i64 f] w fun e w' => e = .returned (ans (ls B f)) ∧ Bel w w' := by
  have := last_any B hB f h0 w
  rw [last_is] at this
  exact this
/-- What the next one is. -/
theorem nx_find (B : Nat → Nat) (f : Int) : nx B f = (List.range 256).find? (fun i => tb B i && decide (f ≤ (i : Int))) := by
  unfold nx fst bo
  rw [List.find?_filter]
  congr 1
  funext i
  by_cases h : f ≤ (i : Int) <;> cases tb B i <;> simp [h]
theorem nx_some (B : Nat → Nat) (f : Int) (m : Nat) : nx B f = some m ↔ m < 256 ∧ tb B m = true ∧ f ≤ (m : Int) ∧ ∀ j, j < m → tb B j = true → ¬ f ≤ (j : Int) := by
  rw [nx_find, List.find?_range_eq_some]
  simp only [Bool.and_eq_true, decide_eq_true_eq, List.mem_range, Bool.not_eq_true', Bool.and_eq_false_imp, decide_eq_false_iff_not]
  constructor
  · rintro ⟨⟨a, b⟩, c, d⟩
    exact ⟨c, a, b, d⟩
  · rintro ⟨c, a, b, d⟩
    exact ⟨⟨a, b⟩, c, d⟩
theorem nx_none (B : Nat → Nat) (f : Int) : nx B f = none ↔ ∀ j, j < 256 → tb B j = true → ¬ f ≤ (j : Int) := by
  rw [nx_find, List.find?_range_eq_none]
  simp only [Bool.not_eq_true', Bool.and_eq_false_imp, decide_eq_false_iff_not]
theorem nx_below (B : Nat → Nat) (f n : Int) : nx (bth B (bl n.toNat)) f = match nx B f with
    | some m => if (m : Int) < n then some m else none
    | none => none := by
  have ht : ∀ j, tb (bth B (bl n.toNat)) j = true ↔ tb B j = true ∧ (j : Int) < n := by
    intro j
    rw [tb_bth, tb_bl, Bool.and_eq_true, decide_eq_true_eq]
    constructor
    · rintro ⟨a, b⟩; exact ⟨a, by omega⟩
    · rintro ⟨a, b⟩; exact ⟨a, by omega⟩
  cases h : nx B f with
  | none =>
    rw [nx_none] at h
    show _ = none
    rw [nx_none]
    intro j hj hb
    exact h j hj ((ht j).1 hb).1
  | some m =>
    rw [nx_some] at h
    obtain ⟨a, b, c, d⟩ := h
    by_cases hm : (m : Int) < n
    · show _ = if (m : Int) < n then some m else none
      rw [if_pos hm, nx_some]
      exact ⟨a, (ht m).2 ⟨b, hm⟩, c, fun j hj hb => d j hj ((ht j).1 hb).1⟩
    · show _ = if (m : Int) < n then some m else none
      rw [if_neg hm, nx_none]
      intro j hj hb hf
      obtain ⟨b1, b2⟩ := (ht j).1 hb
      exact d j (by omega) b1 hf
/-- The next one, going round. -/
def rd (B : Nat → Nat) (f n : Int) : Option Nat :=
  if f < 0 ∨ n ≤ f then none else match nx (bth B (bl n.toNat)) f with
    | some m => some m
    | none => nx (bth B (bl n.toNat)) 0
theorem round_bad (B : Nat → Nat) (f n : Int) (h : f < 0 ∨ n ≤ f) (w : World) :
    Calls Tryd.prog 27 #[.agg #[.int .u64 (B 0), .int .u64 (B 1), .int .u64 (B 2), .int .u64 (B 3)], .int .i64 f, .int .i64 n] w fun e w' => e = .returned (.tuple #[.int .i64 0, .bool false]) ∧ Bel w w' := by
  by_cases h0 : f < 0
  · clear h
    go_enter Tryd.func27, Tryd.ntmps27
    go_wp2
    go_ret2
    exact ⟨rfl, (Bel.refl _).alloc _ _⟩
  · have h1 : n ≤ f := by omega
    clear h
    go_enter Tryd.func27, Tryd.ntmps27
    go_wp2
    go_ret2
    exact ⟨rfl, (Bel.refl _).alloc _ _⟩
set_option maxHeartbeats 2000000 in
theorem round_good (B : Nat → Nat) (hB : Wd B) (f n : Int) (h0 : 0 ≤ f) (h1 : f < n) (h2 : n ≤ 9223372036854775807) (w : World) (hT : Tab w) :
    Calls Tryd.prog 27 #[.agg #[.int .u64 (B 0), .int .u64 (B 1), .int .u64 (B 2), .int .u64 (B 3)], .int .i64 f, .int .i64 n] w fun e w' => e = .returned (ans (rd B f n)) ∧ Bel w w' := by
  have K1 := Lib.hid (below_any n h2)
  have K2 := Lib.hid (both_any B (bl n.toNat) hB (bl_wd _))
  have hC := bth_wd hB (bl n.toNat)
  have hr : rd B f n = match nx (bth B (bl n.toNat)) f with
    | some m => some m
    | none => nx (bth B (bl n.toNat)) 0 := by unfold rd; rw [if_neg (by omega)]
  rw [hr]
  clear hr
  obtain ⟨R, hR⟩ : ∃ R, (match nx (bth B (bl n.toNat)) f with
    | some m => some m
    | none => nx (bth B (bl n.toNat)) 0) = R := ⟨_, rfl⟩
  rw [hR]
  generalize bth B (bl n.toNat) = C at *
  generalize bl n.toNat = L at *
  have KN : Hid (∀ w, Tab w → Calls Tryd.prog 23 #[.agg #[.int .u64 (C 0), .int .u64 (C 1), .int .u64 (C 2), .int .u64 (C 3)], .int .i64 f] w fun e w' => e = .returned (ans (nx C f)) ∧ Bel w w') := Lib.hid fun w hT => next_nx C hC f (by omega) w hT
  have KM : Hid (∀ w, Tab w → Calls Tryd.prog 23 #[.agg #[.int .u64 (C 0), .int .u64 (C 1), .int .u64 (C 2), .int .u64 (C 3)], .int .i64 0] w fun e w' => e = .returned (ans (nx C 0)) ∧ Bel w w') := Lib.hid fun w hT => next_nx C hC 0 (by omega) w hT
  have HR := Lib.hid hR
  clear hR
  have HT := Lib.hid hT
  have f0' : ¬ f < 0 := by omega
  have f1' : ¬ n ≤ f := by omega
  clear hB hC h0 h1 h2 hT
  go_enter Tryd.func27, Tryd.ntmps27
  go_wp2
  have b0 := Box.new w (B 0) (B 1) (B 2) (B 3) 24
  have B0 := Lib.hid b0
  clear b0
  go_region_with (first
      | (go_at_call 33; (with_reducible refine (K1.out _).mono ?_); rintro e w1 ⟨rfl, hb⟩; have b1 := B0.out.drew.bel hb; obtain ⟨⟨d0, d1, d2, d3⟩, f0, f1, f2, f3⟩ := b1)
      | (go_at_call 21; (with_reducible refine (K2.out _).mono ?_); rintro e w2 ⟨rfl, hb2⟩; have b2 := (B0.out.drew.bel hb).bel hb2; obtain ⟨⟨g0, g1, g2, g3⟩, i0, i1, i2, i3⟩ := b2))
  all_goals
    have G := Lib.hid (((((((Bel.refl w).alloc #[.int .u64 (B 0), .int .u64 (B 1), .int .u64 (B 2), .int .u64 (B 3)] 24).drew.trans hb).trans hb2).setCell (p := ⟨w.heap.size, 0, none⟩) (by simp) (.int .u64 (C 0))).setCell (p := ⟨w.heap.size, 1, none⟩) (by simp) (.int .u64 (C 1))).setCell (p := ⟨w.heap.size, 2, none⟩) (by simp) (.int .u64 (C 2)) |>.setCell (p := ⟨w.heap.size, 3, none⟩) (by simp) (.int .u64 (C 3)))
    have X := box4 ((B0.out.drew.bel hb).bel hb2) (C 0) (C 1) (C 2) (C 3)
    have HX := Lib.hid X
    obtain ⟨⟨c0, c1, c2, c3⟩, _⟩ := X
    clear hb hb2 d0 d1 d2 d3 f0 f1 f2 f3 g0 g1 g2 g3 i0 i1 i2 i3 K1 K2 B0
    generalize (((w2.setCell ⟨w.heap.size, 0, none⟩ (.int .u64 (C 0))).setCell ⟨w.heap.size, 1, none⟩ (.int .u64 (C 1))).setCell ⟨w.heap.size, 2, none⟩ (.int .u64 (C 2))).setCell ⟨w.heap.size, 3, none⟩ (.int .u64 (C 3)) = w3 at *
    go_wp2_with fail
    with_reducible refine (KN.out _ (HT.out.bel G.out)).mono ?_
    cases hx : nx C f with
    | some i =>
      rintro e w4 ⟨rfl, hb4⟩
      unfold ans
      have G4 := Lib.hid (G.out.trans hb4)
      clear hb4
      go_wp2
      go_ret2
      have er := HR.out
      rw [hx] at er
      exact ⟨congrArg (fun o => Ending.returned (ans o)) er, G4.out⟩
    | none =>
      rintro e w4 ⟨rfl, hb4⟩
      have x4 := HX.out.bel hb4
      obtain ⟨⟨e0, e1, e2, e3⟩, _⟩ := x4
      have G4 := Lib.hid (G.out.trans hb4)
      clear hb4
      have ea : ans none = .tuple #[.int .i64 0, .bool false] := rfl
      rw [ea]
      clear ea
      go_wp2_with fail
      with_reducible refine (KM.out _ (HT.out.bel G4.out)).mono ?_
      rw [ans_num]
      rintro e w5 ⟨rfl, hb5⟩
      go_wp2
      go_ret2
      have er := HR.out
      rw [hx] at er
      exact ⟨(congrArg Ending.returned (ans_num _).symm).trans (congrArg (fun o => Ending.returned (ans o)) er), G4.out.trans hb5⟩
theorem round_any (B : Nat → Nat) (hB : Wd B) (f n : Int) (h2 : n ≤ 9223372036854775807) (w : World) (hT : Tab w) :
    Calls Tryd.prog 27 #[.agg #[.int .u64 (B 0), .int .u64 (B 1), .int .u64 (B 2), .int .u64 (B 3)], .int .i64 f, .int .i64 n] w fun e w' => e = .returned (ans (rd B f n)) ∧ Bel w w' := by
  by_cases h : f < 0 ∨ n ≤ f
  · have e : rd B f n = none := by unfold rd; rw [if_pos h]
    rw [e]
    exact round_bad B f n h w
  · exact round_good B hB f n (by omega) (by omega) h2 w hT
/-- What the document says of it. -/
theorem rd_is (B : Nat → Nat) (f n : Int) (h : ¬ (f < 0 ∨ n ≤ f)) : rd B f n = match nx B f with
    | some m => if (m : Int) < n then some m else match nx B 0 with
      | some m => if (m : Int) < n then some m else none
      | none => none
    | none => match nx B 0 with
      | some m => if (m : Int) < n then some m else none
      | none => none := by
  unfold rd
  rw [if_neg h, nx_below, nx_below]
  cases nx B f with
  | none => rfl
  | some m =>
    by_cases hm : (m : Int) < n
    · simp [hm]
    · simp [hm]
theorem rround_bad (B : Nat → Nat) (f n : Int) (h : f < 0 ∨ n ≤ f) (w : World) :
    Calls Tryd.prog 28 #[.agg #[.int .u64 (B 0), .int .u64 (B 1), .int .u64 (B 2), .int .u64 (B 3)], .int .i64 f, .int .i64 n] w fun e w' => e = .returned (.tuple #[.int .i64 0, .bool false]) ∧ Bel w w' := by
  by_cases h0 : f < 0
  · clear h
    go_enter Tryd.func28, Tryd.ntmps28
    go_wp2
    go_ret2
    exact ⟨rfl, (Bel.refl _).alloc _ _⟩
  · have h1 : n ≤ f := by omega
    clear h
    go_enter Tryd.func28, Tryd.ntmps28
    go_wp2
    go_ret2
    exact ⟨rfl, (Bel.refl _).alloc _ _⟩
set_option maxHeartbeats 2000000 in
theorem rround_good (B : Nat → Nat) (hB : Wd B) (f n : Int) (h0 : 0 ≤ f) (h1 : f < n) (w : World) :
    Calls Tryd.prog 28 #[.agg #[.int .u64 (B 0), .int .u64 (B 1), .int .u64 (B 2), .int .u64 (B 3)], .int .i64 f, .int .i64 n] w fun e w' => e = .returned (ans (rd B f n)) ∧ Bel w w' := by
  have KN := Lib.hid (rnext_any B hB f)
  have KM := Lib.hid (rnext_any B hB 0)
  have HR := Lib.hid (rd_is B f n (by omega))
  have f0' : ¬ f < 0 := by omega
  have f1' : ¬ n ≤ f := by omega
  have e1 : fst (bo B 256) f = nx B f := rfl
  have e2 : fst (bo B 256) 0 = nx B 0 := rfl
  rw [e1] at KN
  rw [e2] at KM
  generalize rd B f n = R at *
  generalize nx B f = X at *
  generalize nx B 0 = Y at *
  clear e1 e2 hB h0 h1
  cases X with
  | none =>
    have k : ans none = .tuple #[.int .i64 0, .bool false] := rfl
    rw [k] at KN
    clear k
    go_enter Tryd.func28, Tryd.ntmps28
    go_wp2_with fail
    with_reducible refine (KN.out _).mono ?_
    rintro e w1 ⟨rfl, hb1⟩
    have x1 := (Box.new w (B 0) (B 1) (B 2) (B 3) 24).bel hb1
    obtain ⟨⟨c0, c1, c2, c3⟩, _⟩ := x1
    have G := Lib.hid (((Bel.refl w).alloc _ _).trans hb1)
    clear hb1
    cases Y with
    | none =>
      have k : ans none = .tuple #[.int .i64 0, .bool false] := rfl
      rw [k] at KM
      clear k
      go_wp2_with fail
      with_reducible refine (KM.out _).mono ?_
      rintro e w2 ⟨rfl, hb2⟩
      go_wp2
      go_ret2
      exact ⟨congrArg (fun o => Ending.returned (ans o)) HR.out.symm, G.out.trans hb2⟩
    | some m =>
      have k : ans (some m) = .tuple #[.int .i64 m, .bool true] := rfl
      rw [k] at KM
      clear k
      by_cases hm : (m : Int) < n
      · go_wp2_with fail
        with_reducible refine (KM.out _).mono ?_
        rintro e w2 ⟨rfl, hb2⟩
        go_wp2
        go_ret2
        have er := HR.out
        simp only [hm, if_true] at er
        exact ⟨congrArg (fun o => Ending.returned (ans o)) er.symm, G.out.trans hb2⟩
      · go_wp2_with fail
        with_reducible refine (KM.out _).mono ?_
        rintro e w2 ⟨rfl, hb2⟩
        go_wp2
        go_ret2
        have er := HR.out
        rw [if_neg (by omega)] at er
        exact ⟨congrArg (fun o => Ending.returned (ans o)) er.symm, G.out.trans hb2⟩
  | some i =>
    have k : ans (some i) = .tuple #[.int .i64 i, .bool true] := rfl
    rw [k] at KN
    clear k
    by_cases hi : (i : Int) < n
    · go_enter Tryd.func28, Tryd.ntmps28
      go_wp2_with fail
      with_reducible refine (KN.out _).mono ?_
      rintro e w1 ⟨rfl, hb1⟩
      have G := Lib.hid (((Bel.refl w).alloc _ _).trans hb1)
      clear hb1
      go_wp2
      go_ret2
      have er := HR.out
      simp only [hi, if_true] at er
      exact ⟨congrArg (fun o => Ending.returned (ans o)) er.symm, G.out⟩
    · go_enter Tryd.func28, Tryd.ntmps28
      go_wp2_with fail
      with_reducible refine (KN.out _).mono ?_
      rintro e w1 ⟨rfl, hb1⟩
      have x1 := (Box.new w (B 0) (B 1) (B 2) (B 3) 24).bel hb1
      obtain ⟨⟨c0, c1, c2, c3⟩, _⟩ := x1
      have G := Lib.hid (((Bel.refl w).alloc _ _).trans hb1)
      clear hb1
      cases Y with
      | none =>
        have k : ans none = .tuple #[.int .i64 0, .bool false] := rfl
        rw [k] at KM
        clear k
        go_wp2_with fail
        with_reducible refine (KM.out _).mono ?_
        rintro e w2 ⟨rfl, hb2⟩
        go_wp2
        go_ret2
        have er := HR.out
        rw [if_neg (by omega)] at er
        exact ⟨congrArg (fun o => Ending.returned (ans o)) er.symm, G.out.trans hb2⟩
      | some m =>
        have k : ans (some m) = .tuple #[.int .i64 m, .bool true] := rfl
        rw [k] at KM
        clear k
        by_cases hm : (m : Int) < n
        · go_wp2_with fail
          with_reducible refine (KM.out _).mono ?_
          rintro e w2 ⟨rfl, hb2⟩
          go_wp2
          go_ret2
          have er := HR.out
          rw [if_neg (by omega)] at er
          simp only [hm, if_true] at er
          exact ⟨congrArg (fun o => Ending.returned (ans o)) er.symm, G.out.trans hb2⟩
        · go_wp2_with fail
          with_reducible refine (KM.out _).mono ?_
          rintro e w2 ⟨rfl, hb2⟩
          go_wp2
          go_ret2
          have er := HR.out
          rw [if_neg (by omega), if_neg (by omega)] at er
          exact ⟨congrArg (fun o => Ending.returned (ans o)) er.symm, G.out.trans hb2⟩
theorem rround_any (B : Nat → Nat) (hB : Wd B) (f n : Int) (w : World) :
    Calls Tryd.prog 28 #[.agg #[.int .u64 (B 0), .int .u64 (B 1), .int .u64 (B 2), .int .u64 (B 3)], .int .i64 f, .int .i64 n] w fun e w' => e = .returned (ans (rd B f n)) ∧ Bel w w' := by
  by_cases h : f < 0 ∨ n ≤ f
  · have e : rd B f n = none := by unfold rd; rw [if_pos h]
    rw [e]
    exact rround_bad B f n h w
  · exact rround_good B hB f n (by omega) (by omega) w
end Go.Proofs.YthgiknkglnagbaaDoor
