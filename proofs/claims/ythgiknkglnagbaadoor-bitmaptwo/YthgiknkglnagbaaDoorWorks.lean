/-
  The contract of works: the document's examples come out as it says; the call returns true and turns nothing that was there.
-/
import Derived.Test.YthgiknkglnagbaaDoorRound
import Derived.Test.YthgiknkglnagbaaDoorEach
namespace Go.Proofs.YthgiknkglnagbaaDoor
open Go.RowKit

/-- Four words. -/
def w4 (x0 x1 x2 x3 : Nat) : Nat → Nat := fun k => if k = 0 then x0 else if k = 1 then x1 else if k = 2 then x2 else if k = 3 then x3 else 0
theorem w4_wd {x0 x1 x2 x3 : Nat} (h0 : x0 < 18446744073709551616) (h1 : x1 < 18446744073709551616) (h2 : x2 < 18446744073709551616) (h3 : x3 < 18446744073709551616) : Wd (w4 x0 x1 x2 x3) := by
  intro k
  unfold w4
  repeat' split
  all_goals first | assumption | decide
/-- The numbers of a list, by their places. -/
def nums (l : List Int) (i : Nat) : Int := l[i]?.getD 0
theorem ints4 (w : World) (b : Nat) (x0 x1 x2 x3 : Int) (h0 : w.cell? ⟨b, 0, none⟩ = some (.int .i64 x0)) (h1 : w.cell? ⟨b, 1, none⟩ = some (.int .i64 x1)) (h2 : w.cell? ⟨b, 2, none⟩ = some (.int .i64 x2)) (h3 : w.cell? ⟨b, 3, none⟩ = some (.int .i64 x3)) :
    Ints w (some ⟨b, 0, none⟩) 4 (nums [x0, x1, x2, x3]) := by
  refine .inr ⟨b, 0, rfl, fun i hi => ?_⟩
  obtain rfl | rfl | rfl | rfl : i = 0 ∨ i = 1 ∨ i = 2 ∨ i = 3 := by omega
  · exact h0
  · exact h1
  · exact h2
  · exact h3
theorem ints2 (w : World) (b : Nat) (x0 x1 : Int) (h0 : w.cell? ⟨b, 0, none⟩ = some (.int .i64 x0)) (h1 : w.cell? ⟨b, 1, none⟩ = some (.int .i64 x1)) :
    Ints w (some ⟨b, 0, none⟩) 2 (nums [x0, x1]) := by
  refine .inr ⟨b, 0, rfl, fun i hi => ?_⟩
  obtain rfl | rfl : i = 0 ∨ i = 1 := by omega
  · exact h0
  · exact h1
theorem ints1 (w : World) (b : Nat) (x0 : Int) (h0 : w.cell? ⟨b, 0, none⟩ = some (.int .i64 x0)) :
    Ints w (some ⟨b, 0, none⟩) 1 (nums [x0]) := by
  refine .inr ⟨b, 0, rfl, fun i hi => ?_⟩
  obtain rfl : i = 0 := by omega
  exact h0
theorem works_of4 (b : Nat) (w : World) (h0 : w.cell? ⟨b, 0, none⟩ = some (.int .i64 70)) (h1 : w.cell? ⟨b, 1, none⟩ = some (.int .i64 3)) (h2 : w.cell? ⟨b, 2, none⟩ = some (.int .i64 70)) (h3 : w.cell? ⟨b, 3, none⟩ = some (.int .i64 300)) :
    Calls Tryd.prog 19 #[.slice (some ⟨b, 0, none⟩) 4 4] w fun e w' => e = .returned (.agg #[.int .u64 8, .int .u64 64, .int .u64 0, .int .u64 0]) ∧ Bel w w' := by
  have k := of_any (some ⟨b, 0, none⟩) 4 4 (by omega) (nums [70, 3, 70, 300]) w (ints4 w b 70 3 70 300 h0 h1 h2 h3)
  have e0 : ofw (nums [70, 3, 70, 300]) 4 0 = 8 := by decide +kernel
  have e1 : ofw (nums [70, 3, 70, 300]) 4 1 = 64 := by decide +kernel
  have e2 : ofw (nums [70, 3, 70, 300]) 4 2 = 0 := by decide +kernel
  have e3 : ofw (nums [70, 3, 70, 300]) 4 3 = 0 := by decide +kernel
  rw [e0, e1, e2, e3] at k
  exact k
theorem works_of35 (b : Nat) (w : World) (h0 : w.cell? ⟨b, 0, none⟩ = some (.int .i64 3)) (h1 : w.cell? ⟨b, 1, none⟩ = some (.int .i64 5)) :
    Calls Tryd.prog 19 #[.slice (some ⟨b, 0, none⟩) 2 2] w fun e w' => e = .returned (.agg #[.int .u64 40, .int .u64 0, .int .u64 0, .int .u64 0]) ∧ Bel w w' := by
  have k := of_any (some ⟨b, 0, none⟩) 2 2 (by omega) (nums [3, 5]) w (ints2 w b 3 5 h0 h1)
  have e0 : ofw (nums [3, 5]) 2 0 = 40 := by decide +kernel
  have e1 : ofw (nums [3, 5]) 2 1 = 0 := by decide +kernel
  have e2 : ofw (nums [3, 5]) 2 2 = 0 := by decide +kernel
  have e3 : ofw (nums [3, 5]) 2 3 = 0 := by decide +kernel
  rw [e0, e1, e2, e3] at k
  exact k
theorem works_of3 (b : Nat) (w : World) (h0 : w.cell? ⟨b, 0, none⟩ = some (.int .i64 3)) :
    Calls Tryd.prog 19 #[.slice (some ⟨b, 0, none⟩) 1 1] w fun e w' => e = .returned (.agg #[.int .u64 8, .int .u64 0, .int .u64 0, .int .u64 0]) ∧ Bel w w' := by
  have k := of_any (some ⟨b, 0, none⟩) 1 1 (by omega) (nums [3]) w (ints1 w b 3 h0)
  have e0 : ofw (nums [3]) 1 0 = 8 := by decide +kernel
  have e1 : ofw (nums [3]) 1 1 = 0 := by decide +kernel
  have e2 : ofw (nums [3]) 1 2 = 0 := by decide +kernel
  have e3 : ofw (nums [3]) 1 3 = 0 := by decide +kernel
  rw [e0, e1, e2, e3] at k
  exact k
theorem works_of70 (b : Nat) (w : World) (h0 : w.cell? ⟨b, 0, none⟩ = some (.int .i64 70)) :
    Calls Tryd.prog 19 #[.slice (some ⟨b, 0, none⟩) 1 1] w fun e w' => e = .returned (.agg #[.int .u64 0, .int .u64 64, .int .u64 0, .int .u64 0]) ∧ Bel w w' := by
  have k := of_any (some ⟨b, 0, none⟩) 1 1 (by omega) (nums [70]) w (ints1 w b 70 h0)
  have e0 : ofw (nums [70]) 1 0 = 0 := by decide +kernel
  have e1 : ofw (nums [70]) 1 1 = 64 := by decide +kernel
  have e2 : ofw (nums [70]) 1 2 = 0 := by decide +kernel
  have e3 : ofw (nums [70]) 1 3 = 0 := by decide +kernel
  rw [e0, e1, e2, e3] at k
  exact k
theorem works_next (w : World) (hT : Tab w) : Calls Tryd.prog 23 #[.agg #[.int .u64 8, .int .u64 64, .int .u64 0, .int .u64 0], .int .i64 4] w fun e w' => e = .returned (.tuple #[.int .i64 70, .bool true]) ∧ Bel w w' := by
  have k := next_nx (w4 8 64 0 0) (w4_wd (x0 := 8) (x1 := 64) (x2 := 0) (x3 := 0) (by decide) (by decide) (by decide) (by decide)) 4 (by omega) w hT
  have e : nx (w4 8 64 0 0) 4 = some 70 := by decide +kernel
  rw [e] at k
  exact k
theorem works_last (w : World) : Calls Tryd.prog 25 #[.agg #[.int .u64 8, .int .u64 64, .int .u64 0, .int .u64 0], .int .i64 69] w fun e w' => e = .returned (.tuple #[.int .i64 3, .bool true]) ∧ Bel w w' := by
  have k := last_ls (w4 8 64 0 0) (w4_wd (x0 := 8) (x1 := 64) (x2 := 0) (x3 := 0) (by decide) (by decide) (by decide) (by decide)) 69 (by omega) w
  have e : ls (w4 8 64 0 0) 69 = some 3 := by decide +kernel
  rw [e] at k
  exact k
theorem works_round1 (w : World) (hT : Tab w) : Calls Tryd.prog 27 #[.agg #[.int .u64 8, .int .u64 64, .int .u64 0, .int .u64 0], .int .i64 71, .int .i64 256] w fun e w' => e = .returned (.tuple #[.int .i64 3, .bool true]) ∧ Bel w w' := by
  have k := round_any (w4 8 64 0 0) (w4_wd (x0 := 8) (x1 := 64) (x2 := 0) (x3 := 0) (by decide) (by decide) (by decide) (by decide)) 71 256 (by omega) w hT
  have e : rd (w4 8 64 0 0) 71 256 = some 3 := by decide +kernel
  rw [e] at k
  exact k
theorem works_round2 (w : World) (hT : Tab w) : Calls Tryd.prog 27 #[.agg #[.int .u64 8, .int .u64 64, .int .u64 0, .int .u64 0], .int .i64 5, .int .i64 70] w fun e w' => e = .returned (.tuple #[.int .i64 3, .bool true]) ∧ Bel w w' := by
  have k := round_any (w4 8 64 0 0) (w4_wd (x0 := 8) (x1 := 64) (x2 := 0) (x3 := 0) (by decide) (by decide) (by decide) (by decide)) 5 70 (by omega) w hT
  have e : rd (w4 8 64 0 0) 5 70 = some 3 := by decide +kernel
  rw [e] at k
  exact k
theorem works_list (w : World) (hT : Tab w) : Calls Tryd.prog 18 #[.agg #[.int .u64 8, .int .u64 64, .int .u64 0, .int .u64 0]] w fun e w' => ∃ a cap, e = .returned (.slice a 2 cap) ∧ Ints w' a 2 (nums [3, 70]) ∧ Bel w w' := by
  have k := list_any (w4 8 64 0 0) (w4_wd (x0 := 8) (x1 := 64) (x2 := 0) (x3 := 0) (by decide) (by decide) (by decide) (by decide)) w hT
  have e : bo (w4 8 64 0 0) 256 = [3, 70] := by decide +kernel
  rw [e] at k
  refine k.mono ?_
  rintro e w' ⟨v, rfl, how, _, hb⟩
  obtain ⟨a, cap, rfl, hI⟩ := own_ints how
  refine ⟨a, cap, rfl, ?_, hb⟩
  rcases hI with h | ⟨b, off, ea, hc⟩
  · simp at h
  · refine .inr ⟨b, off, ea, fun i hi => ?_⟩
    rw [hc i (by simpa using hi)]
    obtain rfl | rfl : i = 0 ∨ i = 1 := by omega
    · rfl
    · rfl
theorem works_count (w : World) : Calls Tryd.prog 20 #[.agg #[.int .u64 8, .int .u64 64, .int .u64 0, .int .u64 0]] w fun e w' => e = .returned (.int .i64 2) ∧ Bel w w' := by
  have k := count_any (w4 8 64 0 0) (w4_wd (x0 := 8) (x1 := 64) (x2 := 0) (x3 := 0) (by decide) (by decide) (by decide) (by decide)) w
  have e : cnt (tb (w4 8 64 0 0)) 256 = 2 := by decide +kernel
  rw [e] at k
  exact k
theorem works_has (w : World) : Calls Tryd.prog 14 #[.agg #[.int .u64 8, .int .u64 64, .int .u64 0, .int .u64 0], .int .i64 70] w fun e w' => e = .returned (.bool true) ∧ Bel w w' := by
  have k := has_any (w4 8 64 0 0) (w4_wd (x0 := 8) (x1 := 64) (x2 := 0) (x3 := 0) (by decide) (by decide) (by decide) (by decide)) 70 w
  have e : hs (w4 8 64 0 0) 70 = true := by decide +kernel
  rw [e] at k
  exact k
theorem works_has2 (w : World) : Calls Tryd.prog 14 #[.agg #[.int .u64 8, .int .u64 0, .int .u64 0, .int .u64 0], .int .i64 70] w fun e w' => e = .returned (.bool false) ∧ Bel w w' := by
  have k := has_any (w4 8 0 0 0) (w4_wd (x0 := 8) (x1 := 0) (x2 := 0) (x3 := 0) (by decide) (by decide) (by decide) (by decide)) 70 w
  have e : hs (w4 8 0 0 0) 70 = false := by decide +kernel
  rw [e] at k
  exact k
theorem works_has3 (w : World) : Calls Tryd.prog 14 #[.agg #[.int .u64 24, .int .u64 64, .int .u64 0, .int .u64 0], .int .i64 4] w fun e w' => e = .returned (.bool true) ∧ Bel w w' := by
  have k := has_any (w4 24 64 0 0) (w4_wd (x0 := 24) (x1 := 64) (x2 := 0) (x3 := 0) (by decide) (by decide) (by decide) (by decide)) 4 w
  have e : hs (w4 24 64 0 0) 4 = true := by decide +kernel
  rw [e] at k
  exact k
theorem works_drop (w : World) : Calls Tryd.prog 13 #[.agg #[.int .u64 8, .int .u64 64, .int .u64 0, .int .u64 0], .int .i64 70] w fun e w' => e = .returned (.agg #[.int .u64 8, .int .u64 0, .int .u64 0, .int .u64 0]) ∧ Bel w w' := by
  have k := drop_any (w4 8 64 0 0) (w4_wd (x0 := 8) (x1 := 64) (x2 := 0) (x3 := 0) (by decide) (by decide) (by decide) (by decide)) 70 w
  have e0 : dpi (w4 8 64 0 0) 70 0 = 8 := by decide +kernel
  have e1 : dpi (w4 8 64 0 0) 70 1 = 0 := by decide +kernel
  have e2 : dpi (w4 8 64 0 0) 70 2 = 0 := by decide +kernel
  have e3 : dpi (w4 8 64 0 0) 70 3 = 0 := by decide +kernel
  rw [e0, e1, e2, e3] at k
  exact k
theorem works_put (w : World) : Calls Tryd.prog 12 #[.agg #[.int .u64 8, .int .u64 64, .int .u64 0, .int .u64 0], .int .i64 4] w fun e w' => e = .returned (.agg #[.int .u64 24, .int .u64 64, .int .u64 0, .int .u64 0]) ∧ Bel w w' := by
  have k := put_any (w4 8 64 0 0) (w4_wd (x0 := 8) (x1 := 64) (x2 := 0) (x3 := 0) (by decide) (by decide) (by decide) (by decide)) 4 w
  have e0 : pti (w4 8 64 0 0) 4 0 = 24 := by decide +kernel
  have e1 : pti (w4 8 64 0 0) 4 1 = 64 := by decide +kernel
  have e2 : pti (w4 8 64 0 0) 4 2 = 0 := by decide +kernel
  have e3 : pti (w4 8 64 0 0) 4 3 = 0 := by decide +kernel
  rw [e0, e1, e2, e3] at k
  exact k
theorem works_both (w : World) : Calls Tryd.prog 21 #[.agg #[.int .u64 8, .int .u64 64, .int .u64 0, .int .u64 0], .agg #[.int .u64 40, .int .u64 0, .int .u64 0, .int .u64 0]] w fun e w' => e = .returned (.agg #[.int .u64 8, .int .u64 0, .int .u64 0, .int .u64 0]) ∧ Bel w w' := by
  have k := both_any (w4 8 64 0 0) (w4 40 0 0 0) (w4_wd (x0 := 8) (x1 := 64) (x2 := 0) (x3 := 0) (by decide) (by decide) (by decide) (by decide)) (w4_wd (x0 := 40) (x1 := 0) (x2 := 0) (x3 := 0) (by decide) (by decide) (by decide) (by decide)) w
  have e0 : bth (w4 8 64 0 0) (w4 40 0 0 0) 0 = 8 := by decide +kernel
  have e1 : bth (w4 8 64 0 0) (w4 40 0 0 0) 1 = 0 := by decide +kernel
  have e2 : bth (w4 8 64 0 0) (w4 40 0 0 0) 2 = 0 := by decide +kernel
  have e3 : bth (w4 8 64 0 0) (w4 40 0 0 0) 3 = 0 := by decide +kernel
  rw [e0, e1, e2, e3] at k
  exact k
theorem works_either (w : World) : Calls Tryd.prog 22 #[.agg #[.int .u64 8, .int .u64 0, .int .u64 0, .int .u64 0], .agg #[.int .u64 0, .int .u64 64, .int .u64 0, .int .u64 0]] w fun e w' => e = .returned (.agg #[.int .u64 8, .int .u64 64, .int .u64 0, .int .u64 0]) ∧ Bel w w' := by
  have k := either_any (w4 8 0 0 0) (w4 0 64 0 0) (w4_wd (x0 := 8) (x1 := 0) (x2 := 0) (x3 := 0) (by decide) (by decide) (by decide) (by decide)) (w4_wd (x0 := 0) (x1 := 64) (x2 := 0) (x3 := 0) (by decide) (by decide) (by decide) (by decide)) w
  have e0 : eth (w4 8 0 0 0) (w4 0 64 0 0) 0 = 8 := by decide +kernel
  have e1 : eth (w4 8 0 0 0) (w4 0 64 0 0) 1 = 64 := by decide +kernel
  have e2 : eth (w4 8 0 0 0) (w4 0 64 0 0) 2 = 0 := by decide +kernel
  have e3 : eth (w4 8 0 0 0) (w4 0 64 0 0) 3 = 0 := by decide +kernel
  rw [e0, e1, e2, e3] at k
  exact k
/-- What an operation gives: a value, or a row of numbers that it has laid. -/
inductive Kind where
  | val (c : Value)
  | row (l : List Int)
def Kind.ok : Kind → Value → World → Prop
  | .val c, v, _ => v = c
  | .row l, v, w => ∃ b, v = .slice (some ⟨b, 0, none⟩) l.length l.length ∧ Ints w (some ⟨b, 0, none⟩) l.length (nums l)
def RK (Ks : List Kind) (i : Nat) (v : Value) (w : World) : Prop := match Ks[i]? with
  | some k => k.ok v w
  | none => False
theorem RK_mono (Ks : List Kind) (i : Nat) (v : Value) (w w' : World) (h : RK Ks i v w) (hb : Bel w w') : RK Ks i v w' := by
  unfold RK at *
  cases hk : Ks[i]? with
  | none => rw [hk] at h; exact h
  | some k =>
    rw [hk] at h
    cases k with
    | val c => exact h
    | row l => obtain ⟨b, e, hI⟩ := h; exact ⟨b, e, hI.bel hb⟩
theorem got {ops : Array Oper} {Ks : List Kind} {a : Act} {w : World} {j : Nat} {d : Tmp} {c : Value} (h : Has ops (RK Ks) a w j) (hd : dstOf ops j = d) (hk : Ks[j]? = some (.val c)) : a.tmps[d]? = some c := by
  obtain ⟨v, hv, hr⟩ := h
  unfold RK at hr
  rw [hk] at hr
  have hr' : v = c := hr
  rw [← hd, hv, hr']
theorem got_row {ops : Array Oper} {Ks : List Kind} {a : Act} {w : World} {j : Nat} {d : Tmp} {l : List Int} (h : Has ops (RK Ks) a w j) (hd : dstOf ops j = d) (hk : Ks[j]? = some (.row l)) : ∃ b, a.tmps[d]? = some (.slice (some ⟨b, 0, none⟩) l.length l.length) ∧ Ints w (some ⟨b, 0, none⟩) l.length (nums l) := by
  obtain ⟨v, hv, hr⟩ := h
  unfold RK at hr
  rw [hk] at hr
  obtain ⟨b, e, hI⟩ := hr
  exact ⟨b, by rw [← hd, hv, e], hI⟩
theorem of_ints {w : World} {b n : Nat} {L : Nat → Int} (h : Ints w (some ⟨b, 0, none⟩) n L) (i : Nat) (hi : i < n) : w.cell? ⟨b, i, none⟩ = some (.int .i64 (L i)) := by
  rcases h with h | ⟨b', off, e, hc⟩
  · omega
  · have e' := Option.some.inj e
    injection e' with e1 e2
    subst e1
    have := hc i hi
    rw [← e2, Nat.zero_add] at this
    exact this
set_option maxHeartbeats 4000000 in
set_option maxRecDepth 100000 in
theorem works_any (w : World) (hT : Tab w) : Calls Tryd.prog 9 #[] w fun e w' => e = .returned (.bool true) ∧ Bel w w' := by
  have HT := Lib.hid hT
  clear hT
  go_enter Tryd.func9, Tryd.ntmps9
  go_wp2_with fail
  refine (works_of4 w.heap.size _ ?h0 ?h1 ?h2 ?h3).mono ?_
  case h0 => simp [go_sem]
  case h1 => simp [go_sem]
  case h2 => simp [go_sem]
  case h3 => simp [go_sem]
  rintro e wa ⟨rfl, hb⟩
  have G := Lib.hid ((((Bel.refl w).alloc _ _).trans hb).alloc #[.int .u64 8, .int .u64 64, .int .u64 0, .int .u64 0] 24)
  have X := Lib.hid (Box.new wa 8 64 0 0 24)
  clear hb
  go_wp2_with fail
  with_reducible refine (works_next _ (HT.out.bel G.out)).mono ?_
  rintro e w1 ⟨rfl, hb⟩
  have G' := Lib.hid (G.out.trans hb)
  have X' := Lib.hid (X.out.bel hb)
  clear G X hb
  have G := G'
  have X := X'
  clear G' X'
  obtain ⟨⟨c0, c1, c2, c3⟩, _⟩ := X.out
  go_wp2_with fail
  with_reducible refine (works_last _).mono ?_
  rintro e w2 ⟨rfl, hb⟩
  have G' := Lib.hid (G.out.trans hb)
  have X' := Lib.hid (X.out.bel hb)
  clear G X hb
  clear c0 c1 c2 c3
  have G := G'
  have X := X'
  clear G' X'
  obtain ⟨⟨c0, c1, c2, c3⟩, _⟩ := X.out
  go_wp2_with fail
  with_reducible refine (works_round1 _ (HT.out.bel G.out)).mono ?_
  rintro e w3 ⟨rfl, hb⟩
  have G' := Lib.hid (G.out.trans hb)
  have X' := Lib.hid (X.out.bel hb)
  clear G X hb
  clear c0 c1 c2 c3
  have G := G'
  have X := X'
  clear G' X'
  obtain ⟨⟨c0, c1, c2, c3⟩, _⟩ := X.out
  go_wp2_with fail
  with_reducible refine (works_round2 _ (HT.out.bel G.out)).mono ?_
  rintro e w4 ⟨rfl, hb⟩
  have G' := Lib.hid (G.out.trans hb)
  have X' := Lib.hid (X.out.bel hb)
  clear G X hb
  clear c0 c1 c2 c3
  have G := G'
  have X := X'
  clear G' X'
  obtain ⟨⟨c0, c1, c2, c3⟩, _⟩ := X.out
  go_wp2_with fail
  with_reducible refine (works_list _ (HT.out.bel G.out)).mono ?_
  rintro e w5 ⟨a, cap, rfl, hI, hb⟩
  have G' := Lib.hid (G.out.trans hb)
  have X' := Lib.hid (X.out.bel hb)
  have I := Lib.hid hI
  clear hI
  clear G X hb
  clear c0 c1 c2 c3
  have G := G'
  have X := X'
  clear G' X'
  obtain ⟨⟨c0, c1, c2, c3⟩, _⟩ := X.out
  go_wp2_with fail
  refine (same_yes a _ 2 cap 2 (by omega) (nums [3, 70]) (nums [3, 70]) (fun _ _ => rfl) _ (I.out.bel ((Bel.refl _).alloc _ _)) (ints2 _ w5.heap.size 3 70 ?h0 ?h1)).mono ?_
  case h0 => simp [go_sem]
  case h1 => simp [go_sem]
  rintro e w6 ⟨rfl, hb⟩
  have G' := Lib.hid ((G.out.alloc _ _).trans hb)
  have X' := Lib.hid ((X.out.alloc _ _).bel hb)
  clear G X hb
  clear c0 c1 c2 c3
  have G := G'
  have X := X'
  clear G' X'
  obtain ⟨⟨c0, c1, c2, c3⟩, _⟩ := X.out
  clear I
  go_wp2_with fail
  simp only [List.append_eq, List.cons_append, List.nil_append]
  refine wp_region_each (RK [Kind.val (.bool true), Kind.val (.bool true), Kind.val (.int .i64 70), Kind.val (.bool true), Kind.val (.bool true), Kind.val (.bool true), Kind.val (.bool true), Kind.val (.bool true), Kind.val (.bool true), Kind.val (.int .i64 3), Kind.val (.bool true), Kind.val (.bool true), Kind.val (.bool true), Kind.val (.bool true), Kind.val (.bool true), Kind.val (.bool true), Kind.val (.int .i64 3), Kind.val (.bool true), Kind.val (.bool true), Kind.val (.bool true), Kind.val (.bool true), Kind.val (.bool true), Kind.val (.bool true), Kind.val (.int .i64 3), Kind.val (.bool true), Kind.val (.bool true), Kind.val (.bool true), Kind.val (.bool true), Kind.val (.bool true), Kind.val (.bool true), Kind.val (.agg #[.int .u64 8, .int .u64 64, .int .u64 0, .int .u64 0]), Kind.val (.int .i64 2), Kind.val (.bool true), Kind.val (.bool true), Kind.val (.bool true), Kind.val (.agg #[.int .u64 8, .int .u64 64, .int .u64 0, .int .u64 0]), Kind.val (.bool true), Kind.val (.bool true), Kind.val (.bool true), Kind.val (.agg #[.int .u64 8, .int .u64 64, .int .u64 0, .int .u64 0]), Kind.val (.agg #[.int .u64 8, .int .u64 0, .int .u64 0, .int .u64 0]), Kind.val (.bool false), Kind.val (.bool true), Kind.val (.bool true), Kind.val (.bool true), Kind.val (.agg #[.int .u64 8, .int .u64 64, .int .u64 0, .int .u64 0]), Kind.val (.agg #[.int .u64 24, .int .u64 64, .int .u64 0, .int .u64 0]), Kind.val (.bool true), Kind.val (.bool true), Kind.val (.bool true), Kind.val (.agg #[.int .u64 8, .int .u64 64, .int .u64 0, .int .u64 0]), Kind.row ([3, 5]), Kind.val (.agg #[.int .u64 40, .int .u64 0, .int .u64 0, .int .u64 0]), Kind.val (.agg #[.int .u64 8, .int .u64 0, .int .u64 0, .int .u64 0]), Kind.row ([3]), Kind.val (.agg #[.int .u64 8, .int .u64 0, .int .u64 0, .int .u64 0]), Kind.val (.bool true), Kind.val (.bool true), Kind.val (.bool true), Kind.row ([3]), Kind.val (.agg #[.int .u64 8, .int .u64 0, .int .u64 0, .int .u64 0]), Kind.row ([70]), Kind.val (.agg #[.int .u64 0, .int .u64 64, .int .u64 0, .int .u64 0]), Kind.val (.agg #[.int .u64 8, .int .u64 64, .int .u64 0, .int .u64 0]), Kind.val (.agg #[.int .u64 8, .int .u64 64, .int .u64 0, .int .u64 0]), Kind.val (.bool true), Kind.val (.bool true), Kind.val (.bool true)]) (by kernel_rfl) (RK_mono _) (by show eachOk _ 104 = true; decide +kernel) (by decide +kernel) ?paid ?fin2
  case fin2 =>
    intro a' w' hw hd _ hall
    have h0 := got (d := 0) (c := .bool true) (hall 67 (by decide)) rfl rfl
    clear hall
    go_wp2
    exact ret_slot rfl h0 hd ⟨rfl, G.out.drew.trans hw⟩
  case paid =>
    refine ⟨?_, ?_⟩
    · intro a' w' hw hB H
      have h10 : a'.tmps[10]? = some (.bool true) := (hB 10 rfl).trans rfl
      exact pay_same (v := .bool true) rfl (by simp [execOp, go_sem, h10]) rfl
    refine ⟨?_, ?_⟩
    · intro a' w' hw hB H
      have h37 := got (d := 37) (c := .bool true) (H 0 rfl) rfl rfl
      exact pay_same (v := .bool true) rfl (by simp [execOp, go_sem, h37]) rfl
    refine ⟨?_, ?_⟩
    · intro a' w' hw hB H
      have h38 := got (d := 38) (c := .bool true) (H 1 rfl) rfl rfl
      have h2 : a'.tmps[2]? = some (.int .i64 70) := (hB 2 rfl).trans rfl
      exact pay_same (v := .int .i64 70) (wants rfl (d := 38) rfl h38) (by simp [execOp, go_sem, h2]) rfl
    refine ⟨?_, ?_⟩
    · intro a' w' hw hB H
      have h38 := got (d := 38) (c := .bool true) (H 1 rfl) rfl rfl
      have h39 := got (d := 39) (c := .int .i64 70) (H 2 rfl) rfl rfl
      exact pay_same (v := .bool true) (wants rfl (d := 38) rfl h38) (by simp [execOp, go_sem, h39]) rfl
    refine ⟨?_, ?_⟩
    · intro a' w' hw hB H
      have h38 := got (d := 38) (c := .bool true) (H 1 rfl) rfl rfl
      have h40 := got (d := 40) (c := .bool true) (H 3 rfl) rfl rfl
      exact pay_same (v := .bool true) rfl (by simp [execOp, go_sem, h38, h40]) rfl
    refine ⟨?_, ?_⟩
    · intro a' w' hw hB H
      have h41 := got (d := 41) (c := .bool true) (H 4 rfl) rfl rfl
      exact pay_same (v := .bool true) rfl (by simp [execOp, go_sem, h41]) rfl
    refine ⟨?_, ?_⟩
    · intro a' w' hw hB H
      have h42 := got (d := 42) (c := .bool true) (H 5 rfl) rfl rfl
      have h3 : a'.tmps[3]? = some (.bool true) := (hB 3 rfl).trans rfl
      exact pay_same (v := .bool true) (wants rfl (d := 42) rfl h42) (by simp [execOp, go_sem, h3]) rfl
    refine ⟨?_, ?_⟩
    · intro a' w' hw hB H
      have h42 := got (d := 42) (c := .bool true) (H 5 rfl) rfl rfl
      have h43 := got (d := 43) (c := .bool true) (H 6 rfl) rfl rfl
      exact pay_same (v := .bool true) rfl (by simp [execOp, go_sem, h42, h43]) rfl
    refine ⟨?_, ?_⟩
    · intro a' w' hw hB H
      have h44 := got (d := 44) (c := .bool true) (H 7 rfl) rfl rfl
      exact pay_same (v := .bool true) rfl (by simp [execOp, go_sem, h44]) rfl
    refine ⟨?_, ?_⟩
    · intro a' w' hw hB H
      have h45 := got (d := 45) (c := .bool true) (H 8 rfl) rfl rfl
      have h4 : a'.tmps[4]? = some (.int .i64 3) := (hB 4 rfl).trans rfl
      exact pay_same (v := .int .i64 3) (wants rfl (d := 45) rfl h45) (by simp [execOp, go_sem, h4]) rfl
    refine ⟨?_, ?_⟩
    · intro a' w' hw hB H
      have h45 := got (d := 45) (c := .bool true) (H 8 rfl) rfl rfl
      have h46 := got (d := 46) (c := .int .i64 3) (H 9 rfl) rfl rfl
      exact pay_same (v := .bool true) (wants rfl (d := 45) rfl h45) (by simp [execOp, go_sem, h46]) rfl
    refine ⟨?_, ?_⟩
    · intro a' w' hw hB H
      have h45 := got (d := 45) (c := .bool true) (H 8 rfl) rfl rfl
      have h47 := got (d := 47) (c := .bool true) (H 10 rfl) rfl rfl
      exact pay_same (v := .bool true) rfl (by simp [execOp, go_sem, h45, h47]) rfl
    refine ⟨?_, ?_⟩
    · intro a' w' hw hB H
      have h48 := got (d := 48) (c := .bool true) (H 11 rfl) rfl rfl
      exact pay_same (v := .bool true) rfl (by simp [execOp, go_sem, h48]) rfl
    refine ⟨?_, ?_⟩
    · intro a' w' hw hB H
      have h49 := got (d := 49) (c := .bool true) (H 12 rfl) rfl rfl
      have h5 : a'.tmps[5]? = some (.bool true) := (hB 5 rfl).trans rfl
      exact pay_same (v := .bool true) (wants rfl (d := 49) rfl h49) (by simp [execOp, go_sem, h5]) rfl
    refine ⟨?_, ?_⟩
    · intro a' w' hw hB H
      have h49 := got (d := 49) (c := .bool true) (H 12 rfl) rfl rfl
      have h50 := got (d := 50) (c := .bool true) (H 13 rfl) rfl rfl
      exact pay_same (v := .bool true) rfl (by simp [execOp, go_sem, h49, h50]) rfl
    refine ⟨?_, ?_⟩
    · intro a' w' hw hB H
      have h51 := got (d := 51) (c := .bool true) (H 14 rfl) rfl rfl
      exact pay_same (v := .bool true) rfl (by simp [execOp, go_sem, h51]) rfl
    refine ⟨?_, ?_⟩
    · intro a' w' hw hB H
      have h52 := got (d := 52) (c := .bool true) (H 15 rfl) rfl rfl
      have h6 : a'.tmps[6]? = some (.int .i64 3) := (hB 6 rfl).trans rfl
      exact pay_same (v := .int .i64 3) (wants rfl (d := 52) rfl h52) (by simp [execOp, go_sem, h6]) rfl
    refine ⟨?_, ?_⟩
    · intro a' w' hw hB H
      have h52 := got (d := 52) (c := .bool true) (H 15 rfl) rfl rfl
      have h53 := got (d := 53) (c := .int .i64 3) (H 16 rfl) rfl rfl
      exact pay_same (v := .bool true) (wants rfl (d := 52) rfl h52) (by simp [execOp, go_sem, h53]) rfl
    refine ⟨?_, ?_⟩
    · intro a' w' hw hB H
      have h52 := got (d := 52) (c := .bool true) (H 15 rfl) rfl rfl
      have h54 := got (d := 54) (c := .bool true) (H 17 rfl) rfl rfl
      exact pay_same (v := .bool true) rfl (by simp [execOp, go_sem, h52, h54]) rfl
    refine ⟨?_, ?_⟩
    · intro a' w' hw hB H
      have h55 := got (d := 55) (c := .bool true) (H 18 rfl) rfl rfl
      exact pay_same (v := .bool true) rfl (by simp [execOp, go_sem, h55]) rfl
    refine ⟨?_, ?_⟩
    · intro a' w' hw hB H
      have h56 := got (d := 56) (c := .bool true) (H 19 rfl) rfl rfl
      have h7 : a'.tmps[7]? = some (.bool true) := (hB 7 rfl).trans rfl
      exact pay_same (v := .bool true) (wants rfl (d := 56) rfl h56) (by simp [execOp, go_sem, h7]) rfl
    refine ⟨?_, ?_⟩
    · intro a' w' hw hB H
      have h56 := got (d := 56) (c := .bool true) (H 19 rfl) rfl rfl
      have h57 := got (d := 57) (c := .bool true) (H 20 rfl) rfl rfl
      exact pay_same (v := .bool true) rfl (by simp [execOp, go_sem, h56, h57]) rfl
    refine ⟨?_, ?_⟩
    · intro a' w' hw hB H
      have h58 := got (d := 58) (c := .bool true) (H 21 rfl) rfl rfl
      exact pay_same (v := .bool true) rfl (by simp [execOp, go_sem, h58]) rfl
    refine ⟨?_, ?_⟩
    · intro a' w' hw hB H
      have h59 := got (d := 59) (c := .bool true) (H 22 rfl) rfl rfl
      have h8 : a'.tmps[8]? = some (.int .i64 3) := (hB 8 rfl).trans rfl
      exact pay_same (v := .int .i64 3) (wants rfl (d := 59) rfl h59) (by simp [execOp, go_sem, h8]) rfl
    refine ⟨?_, ?_⟩
    · intro a' w' hw hB H
      have h59 := got (d := 59) (c := .bool true) (H 22 rfl) rfl rfl
      have h60 := got (d := 60) (c := .int .i64 3) (H 23 rfl) rfl rfl
      exact pay_same (v := .bool true) (wants rfl (d := 59) rfl h59) (by simp [execOp, go_sem, h60]) rfl
    refine ⟨?_, ?_⟩
    · intro a' w' hw hB H
      have h59 := got (d := 59) (c := .bool true) (H 22 rfl) rfl rfl
      have h61 := got (d := 61) (c := .bool true) (H 24 rfl) rfl rfl
      exact pay_same (v := .bool true) rfl (by simp [execOp, go_sem, h59, h61]) rfl
    refine ⟨?_, ?_⟩
    · intro a' w' hw hB H
      have h62 := got (d := 62) (c := .bool true) (H 25 rfl) rfl rfl
      exact pay_same (v := .bool true) rfl (by simp [execOp, go_sem, h62]) rfl
    refine ⟨?_, ?_⟩
    · intro a' w' hw hB H
      have h63 := got (d := 63) (c := .bool true) (H 26 rfl) rfl rfl
      have h9 : a'.tmps[9]? = some (.bool true) := (hB 9 rfl).trans rfl
      exact pay_same (v := .bool true) (wants rfl (d := 63) rfl h63) (by simp [execOp, go_sem, h9]) rfl
    refine ⟨?_, ?_⟩
    · intro a' w' hw hB H
      have h63 := got (d := 63) (c := .bool true) (H 26 rfl) rfl rfl
      have h64 := got (d := 64) (c := .bool true) (H 27 rfl) rfl rfl
      exact pay_same (v := .bool true) rfl (by simp [execOp, go_sem, h63, h64]) rfl
    refine ⟨?_, ?_⟩
    · intro a' w' hw hB H
      have h65 := got (d := 65) (c := .bool true) (H 28 rfl) rfl rfl
      exact pay_same (v := .bool true) rfl (by simp [execOp, go_sem, h65]) rfl
    refine ⟨?_, ?_⟩
    · intro a' w' hw hB H
      have h66 := got (d := 66) (c := .bool true) (H 29 rfl) rfl rfl
      have h1 : a'.tmps[1]? = some (.pointer (some ⟨wa.heap.size, 0, none⟩)) := (hB 1 rfl).trans rfl
      have kc0 := hw.cell c0
      have kc1 := hw.cell c1
      have kc2 := hw.cell c2
      have kc3 := hw.cell c3
      exact pay_same (v := .agg #[.int .u64 8, .int .u64 64, .int .u64 0, .int .u64 0]) (wants rfl (d := 66) rfl h66) (by simp [execOp, go_sem, h1, kc0, kc1, kc2, kc3]) rfl
    refine ⟨?_, ?_⟩
    · intro a' w' hw hB H
      have h66 := got (d := 66) (c := .bool true) (H 29 rfl) rfl rfl
      have h67 := got (d := 67) (c := .agg #[.int .u64 8, .int .u64 64, .int .u64 0, .int .u64 0]) (H 30 rfl) rfl rfl
      refine pay_call (f := 20) (args := #[.agg #[.int .u64 8, .int .u64 64, .int .u64 0, .int .u64 0]]) (wants rfl (d := 66) rfl h66) (by simp [go_sem, h67]) ?_
      exact (works_count _).mono fun e w2 h => ⟨_, h.1, rfl, h.2⟩
    refine ⟨?_, ?_⟩
    · intro a' w' hw hB H
      have h66 := got (d := 66) (c := .bool true) (H 29 rfl) rfl rfl
      have h68 := got (d := 68) (c := .int .i64 2) (H 31 rfl) rfl rfl
      exact pay_same (v := .bool true) (wants rfl (d := 66) rfl h66) (by simp [execOp, go_sem, h68]) rfl
    refine ⟨?_, ?_⟩
    · intro a' w' hw hB H
      have h66 := got (d := 66) (c := .bool true) (H 29 rfl) rfl rfl
      have h69 := got (d := 69) (c := .bool true) (H 32 rfl) rfl rfl
      exact pay_same (v := .bool true) rfl (by simp [execOp, go_sem, h66, h69]) rfl
    refine ⟨?_, ?_⟩
    · intro a' w' hw hB H
      have h70 := got (d := 70) (c := .bool true) (H 33 rfl) rfl rfl
      exact pay_same (v := .bool true) rfl (by simp [execOp, go_sem, h70]) rfl
    refine ⟨?_, ?_⟩
    · intro a' w' hw hB H
      have h71 := got (d := 71) (c := .bool true) (H 34 rfl) rfl rfl
      have h1 : a'.tmps[1]? = some (.pointer (some ⟨wa.heap.size, 0, none⟩)) := (hB 1 rfl).trans rfl
      have kc0 := hw.cell c0
      have kc1 := hw.cell c1
      have kc2 := hw.cell c2
      have kc3 := hw.cell c3
      exact pay_same (v := .agg #[.int .u64 8, .int .u64 64, .int .u64 0, .int .u64 0]) (wants rfl (d := 71) rfl h71) (by simp [execOp, go_sem, h1, kc0, kc1, kc2, kc3]) rfl
    refine ⟨?_, ?_⟩
    · intro a' w' hw hB H
      have h71 := got (d := 71) (c := .bool true) (H 34 rfl) rfl rfl
      have h72 := got (d := 72) (c := .agg #[.int .u64 8, .int .u64 64, .int .u64 0, .int .u64 0]) (H 35 rfl) rfl rfl
      refine pay_call (f := 14) (args := #[.agg #[.int .u64 8, .int .u64 64, .int .u64 0, .int .u64 0], .int .i64 70]) (wants rfl (d := 71) rfl h71) (by simp [go_sem, h72]) ?_
      exact (works_has _).mono fun e w2 h => ⟨_, h.1, rfl, h.2⟩
    refine ⟨?_, ?_⟩
    · intro a' w' hw hB H
      have h71 := got (d := 71) (c := .bool true) (H 34 rfl) rfl rfl
      have h73 := got (d := 73) (c := .bool true) (H 36 rfl) rfl rfl
      exact pay_same (v := .bool true) rfl (by simp [execOp, go_sem, h71, h73]) rfl
    refine ⟨?_, ?_⟩
    · intro a' w' hw hB H
      have h74 := got (d := 74) (c := .bool true) (H 37 rfl) rfl rfl
      exact pay_same (v := .bool true) rfl (by simp [execOp, go_sem, h74]) rfl
    refine ⟨?_, ?_⟩
    · intro a' w' hw hB H
      have h75 := got (d := 75) (c := .bool true) (H 38 rfl) rfl rfl
      have h1 : a'.tmps[1]? = some (.pointer (some ⟨wa.heap.size, 0, none⟩)) := (hB 1 rfl).trans rfl
      have kc0 := hw.cell c0
      have kc1 := hw.cell c1
      have kc2 := hw.cell c2
      have kc3 := hw.cell c3
      exact pay_same (v := .agg #[.int .u64 8, .int .u64 64, .int .u64 0, .int .u64 0]) (wants rfl (d := 75) rfl h75) (by simp [execOp, go_sem, h1, kc0, kc1, kc2, kc3]) rfl
    refine ⟨?_, ?_⟩
    · intro a' w' hw hB H
      have h75 := got (d := 75) (c := .bool true) (H 38 rfl) rfl rfl
      have h76 := got (d := 76) (c := .agg #[.int .u64 8, .int .u64 64, .int .u64 0, .int .u64 0]) (H 39 rfl) rfl rfl
      refine pay_call (f := 13) (args := #[.agg #[.int .u64 8, .int .u64 64, .int .u64 0, .int .u64 0], .int .i64 70]) (wants rfl (d := 75) rfl h75) (by simp [go_sem, h76]) ?_
      exact (works_drop _).mono fun e w2 h => ⟨_, h.1, rfl, h.2⟩
    refine ⟨?_, ?_⟩
    · intro a' w' hw hB H
      have h75 := got (d := 75) (c := .bool true) (H 38 rfl) rfl rfl
      have h77 := got (d := 77) (c := .agg #[.int .u64 8, .int .u64 0, .int .u64 0, .int .u64 0]) (H 40 rfl) rfl rfl
      refine pay_call (f := 14) (args := #[.agg #[.int .u64 8, .int .u64 0, .int .u64 0, .int .u64 0], .int .i64 70]) (wants rfl (d := 75) rfl h75) (by simp [go_sem, h77]) ?_
      exact (works_has2 _).mono fun e w2 h => ⟨_, h.1, rfl, h.2⟩
    refine ⟨?_, ?_⟩
    · intro a' w' hw hB H
      have h75 := got (d := 75) (c := .bool true) (H 38 rfl) rfl rfl
      have h78 := got (d := 78) (c := .bool false) (H 41 rfl) rfl rfl
      exact pay_same (v := .bool true) (wants rfl (d := 75) rfl h75) (by simp [execOp, go_sem, h78]) rfl
    refine ⟨?_, ?_⟩
    · intro a' w' hw hB H
      have h75 := got (d := 75) (c := .bool true) (H 38 rfl) rfl rfl
      have h79 := got (d := 79) (c := .bool true) (H 42 rfl) rfl rfl
      exact pay_same (v := .bool true) rfl (by simp [execOp, go_sem, h75, h79]) rfl
    refine ⟨?_, ?_⟩
    · intro a' w' hw hB H
      have h80 := got (d := 80) (c := .bool true) (H 43 rfl) rfl rfl
      exact pay_same (v := .bool true) rfl (by simp [execOp, go_sem, h80]) rfl
    refine ⟨?_, ?_⟩
    · intro a' w' hw hB H
      have h81 := got (d := 81) (c := .bool true) (H 44 rfl) rfl rfl
      have h1 : a'.tmps[1]? = some (.pointer (some ⟨wa.heap.size, 0, none⟩)) := (hB 1 rfl).trans rfl
      have kc0 := hw.cell c0
      have kc1 := hw.cell c1
      have kc2 := hw.cell c2
      have kc3 := hw.cell c3
      exact pay_same (v := .agg #[.int .u64 8, .int .u64 64, .int .u64 0, .int .u64 0]) (wants rfl (d := 81) rfl h81) (by simp [execOp, go_sem, h1, kc0, kc1, kc2, kc3]) rfl
    refine ⟨?_, ?_⟩
    · intro a' w' hw hB H
      have h81 := got (d := 81) (c := .bool true) (H 44 rfl) rfl rfl
      have h82 := got (d := 82) (c := .agg #[.int .u64 8, .int .u64 64, .int .u64 0, .int .u64 0]) (H 45 rfl) rfl rfl
      refine pay_call (f := 12) (args := #[.agg #[.int .u64 8, .int .u64 64, .int .u64 0, .int .u64 0], .int .i64 4]) (wants rfl (d := 81) rfl h81) (by simp [go_sem, h82]) ?_
      exact (works_put _).mono fun e w2 h => ⟨_, h.1, rfl, h.2⟩
    refine ⟨?_, ?_⟩
    · intro a' w' hw hB H
      have h81 := got (d := 81) (c := .bool true) (H 44 rfl) rfl rfl
      have h83 := got (d := 83) (c := .agg #[.int .u64 24, .int .u64 64, .int .u64 0, .int .u64 0]) (H 46 rfl) rfl rfl
      refine pay_call (f := 14) (args := #[.agg #[.int .u64 24, .int .u64 64, .int .u64 0, .int .u64 0], .int .i64 4]) (wants rfl (d := 81) rfl h81) (by simp [go_sem, h83]) ?_
      exact (works_has3 _).mono fun e w2 h => ⟨_, h.1, rfl, h.2⟩
    refine ⟨?_, ?_⟩
    · intro a' w' hw hB H
      have h81 := got (d := 81) (c := .bool true) (H 44 rfl) rfl rfl
      have h84 := got (d := 84) (c := .bool true) (H 47 rfl) rfl rfl
      exact pay_same (v := .bool true) rfl (by simp [execOp, go_sem, h81, h84]) rfl
    refine ⟨?_, ?_⟩
    · intro a' w' hw hB H
      have h85 := got (d := 85) (c := .bool true) (H 48 rfl) rfl rfl
      exact pay_same (v := .bool true) rfl (by simp [execOp, go_sem, h85]) rfl
    refine ⟨?_, ?_⟩
    · intro a' w' hw hB H
      have h86 := got (d := 86) (c := .bool true) (H 49 rfl) rfl rfl
      have h1 : a'.tmps[1]? = some (.pointer (some ⟨wa.heap.size, 0, none⟩)) := (hB 1 rfl).trans rfl
      have kc0 := hw.cell c0
      have kc1 := hw.cell c1
      have kc2 := hw.cell c2
      have kc3 := hw.cell c3
      exact pay_same (v := .agg #[.int .u64 8, .int .u64 64, .int .u64 0, .int .u64 0]) (wants rfl (d := 86) rfl h86) (by simp [execOp, go_sem, h1, kc0, kc1, kc2, kc3]) rfl
    refine ⟨?_, ?_⟩
    · intro a' w' hw hB H
      have h86 := got (d := 86) (c := .bool true) (H 49 rfl) rfl rfl
      exact pay_new (v := .slice (some ⟨w'.heap.size, 0, none⟩) 2 2) (w2 := w'.alloc (.cells #[.int .i64 3, .int .i64 5] 3)) (wants rfl (d := 86) rfl h86) (by simp [execOp, go_sem]) ⟨w'.heap.size, rfl, ints2 _ _ 3 5 (by simp [go_sem]) (by simp [go_sem])⟩ ((Bel.refl _).alloc _ _)
    refine ⟨?_, ?_⟩
    · intro a' w' hw hB H
      have h86 := got (d := 86) (c := .bool true) (H 49 rfl) rfl rfl
      obtain ⟨b88, h88, I88⟩ := got_row (d := 88) (l := [3, 5]) (H 51 rfl) rfl rfl
      refine pay_call (f := 19) (args := #[.slice (some ⟨b88, 0, none⟩) 2 2]) (wants rfl (d := 86) rfl h86) (by simp [go_sem, h88]) ?_
      exact (works_of35 _ _ (of_ints I88 0 (by decide)) (of_ints I88 1 (by decide))).mono fun e w2 h => ⟨_, h.1, rfl, h.2⟩
    refine ⟨?_, ?_⟩
    · intro a' w' hw hB H
      have h86 := got (d := 86) (c := .bool true) (H 49 rfl) rfl rfl
      have h87 := got (d := 87) (c := .agg #[.int .u64 8, .int .u64 64, .int .u64 0, .int .u64 0]) (H 50 rfl) rfl rfl
      have h89 := got (d := 89) (c := .agg #[.int .u64 40, .int .u64 0, .int .u64 0, .int .u64 0]) (H 52 rfl) rfl rfl
      refine pay_call (f := 21) (args := #[.agg #[.int .u64 8, .int .u64 64, .int .u64 0, .int .u64 0], .agg #[.int .u64 40, .int .u64 0, .int .u64 0, .int .u64 0]]) (wants rfl (d := 86) rfl h86) (by simp [go_sem, h87, h89]) ?_
      exact (works_both _).mono fun e w2 h => ⟨_, h.1, rfl, h.2⟩
    refine ⟨?_, ?_⟩
    · intro a' w' hw hB H
      have h86 := got (d := 86) (c := .bool true) (H 49 rfl) rfl rfl
      exact pay_new (v := .slice (some ⟨w'.heap.size, 0, none⟩) 1 1) (w2 := w'.alloc (.cells #[.int .i64 3] 3)) (wants rfl (d := 86) rfl h86) (by simp [execOp, go_sem]) ⟨w'.heap.size, rfl, ints1 _ _ 3 (by simp [go_sem])⟩ ((Bel.refl _).alloc _ _)
    refine ⟨?_, ?_⟩
    · intro a' w' hw hB H
      have h86 := got (d := 86) (c := .bool true) (H 49 rfl) rfl rfl
      obtain ⟨b91, h91, I91⟩ := got_row (d := 91) (l := [3]) (H 54 rfl) rfl rfl
      refine pay_call (f := 19) (args := #[.slice (some ⟨b91, 0, none⟩) 1 1]) (wants rfl (d := 86) rfl h86) (by simp [go_sem, h91]) ?_
      exact (works_of3 _ _ (of_ints I91 0 (by decide))).mono fun e w2 h => ⟨_, h.1, rfl, h.2⟩
    refine ⟨?_, ?_⟩
    · intro a' w' hw hB H
      have h86 := got (d := 86) (c := .bool true) (H 49 rfl) rfl rfl
      have h90 := got (d := 90) (c := .agg #[.int .u64 8, .int .u64 0, .int .u64 0, .int .u64 0]) (H 53 rfl) rfl rfl
      have h92 := got (d := 92) (c := .agg #[.int .u64 8, .int .u64 0, .int .u64 0, .int .u64 0]) (H 55 rfl) rfl rfl
      exact pay_same (v := .bool true) (wants rfl (d := 86) rfl h86) (by simp [execOp, go_sem, h90, h92, eq24]) rfl
    refine ⟨?_, ?_⟩
    · intro a' w' hw hB H
      have h86 := got (d := 86) (c := .bool true) (H 49 rfl) rfl rfl
      have h93 := got (d := 93) (c := .bool true) (H 56 rfl) rfl rfl
      exact pay_same (v := .bool true) rfl (by simp [execOp, go_sem, h86, h93]) rfl
    refine ⟨?_, ?_⟩
    · intro a' w' hw hB H
      have h94 := got (d := 94) (c := .bool true) (H 57 rfl) rfl rfl
      exact pay_same (v := .bool true) rfl (by simp [execOp, go_sem, h94]) rfl
    refine ⟨?_, ?_⟩
    · intro a' w' hw hB H
      have h95 := got (d := 95) (c := .bool true) (H 58 rfl) rfl rfl
      exact pay_new (v := .slice (some ⟨w'.heap.size, 0, none⟩) 1 1) (w2 := w'.alloc (.cells #[.int .i64 3] 3)) (wants rfl (d := 95) rfl h95) (by simp [execOp, go_sem]) ⟨w'.heap.size, rfl, ints1 _ _ 3 (by simp [go_sem])⟩ ((Bel.refl _).alloc _ _)
    refine ⟨?_, ?_⟩
    · intro a' w' hw hB H
      have h95 := got (d := 95) (c := .bool true) (H 58 rfl) rfl rfl
      obtain ⟨b96, h96, I96⟩ := got_row (d := 96) (l := [3]) (H 59 rfl) rfl rfl
      refine pay_call (f := 19) (args := #[.slice (some ⟨b96, 0, none⟩) 1 1]) (wants rfl (d := 95) rfl h95) (by simp [go_sem, h96]) ?_
      exact (works_of3 _ _ (of_ints I96 0 (by decide))).mono fun e w2 h => ⟨_, h.1, rfl, h.2⟩
    refine ⟨?_, ?_⟩
    · intro a' w' hw hB H
      have h95 := got (d := 95) (c := .bool true) (H 58 rfl) rfl rfl
      exact pay_new (v := .slice (some ⟨w'.heap.size, 0, none⟩) 1 1) (w2 := w'.alloc (.cells #[.int .i64 70] 3)) (wants rfl (d := 95) rfl h95) (by simp [execOp, go_sem]) ⟨w'.heap.size, rfl, ints1 _ _ 70 (by simp [go_sem])⟩ ((Bel.refl _).alloc _ _)
    refine ⟨?_, ?_⟩
    · intro a' w' hw hB H
      have h95 := got (d := 95) (c := .bool true) (H 58 rfl) rfl rfl
      obtain ⟨b98, h98, I98⟩ := got_row (d := 98) (l := [70]) (H 61 rfl) rfl rfl
      refine pay_call (f := 19) (args := #[.slice (some ⟨b98, 0, none⟩) 1 1]) (wants rfl (d := 95) rfl h95) (by simp [go_sem, h98]) ?_
      exact (works_of70 _ _ (of_ints I98 0 (by decide))).mono fun e w2 h => ⟨_, h.1, rfl, h.2⟩
    refine ⟨?_, ?_⟩
    · intro a' w' hw hB H
      have h95 := got (d := 95) (c := .bool true) (H 58 rfl) rfl rfl
      have h97 := got (d := 97) (c := .agg #[.int .u64 8, .int .u64 0, .int .u64 0, .int .u64 0]) (H 60 rfl) rfl rfl
      have h99 := got (d := 99) (c := .agg #[.int .u64 0, .int .u64 64, .int .u64 0, .int .u64 0]) (H 62 rfl) rfl rfl
      refine pay_call (f := 22) (args := #[.agg #[.int .u64 8, .int .u64 0, .int .u64 0, .int .u64 0], .agg #[.int .u64 0, .int .u64 64, .int .u64 0, .int .u64 0]]) (wants rfl (d := 95) rfl h95) (by simp [go_sem, h97, h99]) ?_
      exact (works_either _).mono fun e w2 h => ⟨_, h.1, rfl, h.2⟩
    refine ⟨?_, ?_⟩
    · intro a' w' hw hB H
      have h95 := got (d := 95) (c := .bool true) (H 58 rfl) rfl rfl
      have h1 : a'.tmps[1]? = some (.pointer (some ⟨wa.heap.size, 0, none⟩)) := (hB 1 rfl).trans rfl
      have kc0 := hw.cell c0
      have kc1 := hw.cell c1
      have kc2 := hw.cell c2
      have kc3 := hw.cell c3
      exact pay_same (v := .agg #[.int .u64 8, .int .u64 64, .int .u64 0, .int .u64 0]) (wants rfl (d := 95) rfl h95) (by simp [execOp, go_sem, h1, kc0, kc1, kc2, kc3]) rfl
    refine ⟨?_, ?_⟩
    · intro a' w' hw hB H
      have h95 := got (d := 95) (c := .bool true) (H 58 rfl) rfl rfl
      have h100 := got (d := 100) (c := .agg #[.int .u64 8, .int .u64 64, .int .u64 0, .int .u64 0]) (H 63 rfl) rfl rfl
      have h101 := got (d := 101) (c := .agg #[.int .u64 8, .int .u64 64, .int .u64 0, .int .u64 0]) (H 64 rfl) rfl rfl
      exact pay_same (v := .bool true) (wants rfl (d := 95) rfl h95) (by simp [execOp, go_sem, h100, h101, eq24]) rfl
    refine ⟨?_, ?_⟩
    · intro a' w' hw hB H
      have h95 := got (d := 95) (c := .bool true) (H 58 rfl) rfl rfl
      have h102 := got (d := 102) (c := .bool true) (H 65 rfl) rfl rfl
      exact pay_same (v := .bool true) rfl (by simp [execOp, go_sem, h95, h102]) rfl
    refine ⟨?_, ?_⟩
    · intro a' w' hw hB H
      have h103 := got (d := 103) (c := .bool true) (H 66 rfl) rfl rfl
      exact pay_same (v := .bool true) rfl (by simp [execOp, go_sem, h103]) rfl
    trivial
end Go.Proofs.YthgiknkglnagbaaDoor
