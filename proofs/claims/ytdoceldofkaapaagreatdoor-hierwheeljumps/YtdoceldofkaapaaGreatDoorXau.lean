/-
  Contracts of a wheel of four levels: cut, cutFar.
  A wheel's slots in the order of the ticks behind its base, as plain mathematics.
  A range over a function whose body writes what the function reads between two rounds: the function may lean on what the rounds so far leave (M k behind k of them), and tells just the list ys.
-/
import Derived.Test.YtdoceldofkaapaaGreatDoorXat
import Derived.Test.YtdoceldofkaapaaGreatDoorXaj
import Derived.Test.YtdoceldofkaapaaGreatDoorXap
import Derived.Test.YtdoceldofkaapaaGreatDoorXao
import Derived.RangeFuncBox
import Derived.RangeFuncNested
import Derived.RangeFuncBound
import Derived.RangeFuncCalls
import Derived.RangeFuncLeaves
import Derived.RangeFuncWrites
set_option linter.unusedVariables false
set_option linter.unusedSimpArgs false
namespace Go.Proofs.YtdoceldofkaapaaGreatDoor
open Go.RowKit
theorem lsn_lt (b : Nat) {v u : Int} (hv : v = -1 ∨ v = 4 ∨ ∃ m i : Nat, m ≤ 3 ∧ i < 2 ^ b ∧ v = m ∧ u = i) : lsn b v u < 2 + 4 * 2 ^ b := by
  have hp : 0 < 2 ^ b := Nat.pow_pos (by decide)
  rcases hv with rfl | rfl | ⟨m, i, hm, hi, rfl, rfl⟩
  · unfold lsn; simp; omega
  · unfold lsn; simp; omega
  · rw [lsn_slot b m i hm]; exact code_lt hm hi
section
variable {Q Z B G R P b : Nat} {s k : Int} {l : List T}
set_option maxHeartbeats 2000000 in
theorem rcut_any {v u : Int} (now : Int) (w : World) (q : Wr w Q Z B G R P b s k l) (hv : v = -1 ∨ v = 4 ∨ ∃ m i : Nat, m ≤ 3 ∧ i < 2 ^ b ∧ v = m ∧ u = i) :
    Calls Tryz.prog 68 #[.pointer (some ⟨Q, 0, none⟩), spV v u, .int .u64 now] w fun e w' => (∃ d p c, d.Perm (dueL (lw b s) now (lsn b v u) l) ∧ e = .returned (.slice p d.length c) ∧ OwnT w' w.heap.size (.slice p d.length c) d) ∧ Wr w' Q Z B G R P b s k (leftL (lw b s) now (lsn b v u) l) ∧ Off (Fo Q G R) w w' := by
  obtain ⟨⟨ls, r, F, q1, q2, q4⟩, q3⟩ := q
  have hpw := pow_le q3.hb.2
  have ht := lsn_lt b hv
  have KL : Hid (∀ w', Bel w w' → Calls Tryz.prog 61 #[.pointer (some ⟨Q, 0, none⟩), spV v u] w' fun e w2 => e = .returned (.int .i64 (lsn b v u : Nat)) ∧ Bel w' w2) := Lib.hid (fun w' hw => list_any q3.hb.2 w' (q1.bel hw) hv)
  have KC : Hid (∀ w', Bel w w' → Calls Tryz.prog 105 #[.pointer (some ⟨Z, 0, none⟩), .int .i64 (lsn b v u : Nat), .int .u64 now] w' fun e w2 => (∃ d p c, d.Perm (dueL (lw b s) now (lsn b v u) l) ∧ e = .returned (.slice p d.length c) ∧ OwnT w2 w'.heap.size (.slice p d.length c) d) ∧ (∃ ls' r', Qp w2 Z B G R P (2 + 4 * 2 ^ b) (lw b s) ls' r' (leftL (lw b s) now (lsn b v u) l) ∧ Sb (2 + 4 * 2 ^ b) ls r ls' r' ∧ ∀ t, t ≠ lsn b v u → ls' t = ls t) ∧ Off (Fo2 G R) w' w2) :=
    Lib.hid (fun w' hw => (pcut_any ht now w' (q1.ql.bel hw)).mono fun e w2 ⟨⟨d, v2, a1, a2, a3⟩, a4, a5⟩ => by
      obtain ⟨p, c, rfl, _⟩ := a3.slice
      exact ⟨⟨d, p, c, a1, a2, a3⟩, a4, a5⟩)
  have KM : Hid (∀ w' ls' r', Off (Fo2 G R) w w' → Qp w' Z B G R P (2 + 4 * 2 ^ b) (lw b s) ls' r' (leftL (lw b s) now (lsn b v u) l) → Sb (2 + 4 * 2 ^ b) ls r ls' r' → (∀ t, t ≠ lsn b v u → ls' t = ls t) → Calls Tryz.prog 67 #[.pointer (some ⟨Q, 0, none⟩), spV v u] w' fun e w2 => e = .returned (.tuple #[]) ∧ Wr w2 Q Z B G R P b s k (leftL (lw b s) now (lsn b v u) l) ∧ Off (Fo Q G R) w' w2) :=
    Lib.hid (fun w' ls' r' ho h1 h2 h3 => mark_wr w' (q1.put ho h1) q2 hv h3 (q4.sublist (h2 1 (by omega))) ((q3.sub leftL_sub).off ho q3.fo2))
  generalize lsn b v u = t at *
  have HB1 : Hid (Bel w (w.alloc (.cells #[.int .i64 v, .int .i64 u] 109))) := Lib.hid ((Bel.refl _).alloc _ _)
  have HN : Hid ((w.alloc (.cells #[.int .i64 v, .int .i64 u] 109)).heap[w.heap.size]? = some (.cells #[.int .i64 v, .int .i64 u] 109 (0, 0))) := Lib.hid (heap_alloc_new _ _)
  have HFL : Hid (∀ i, Fo2 G R i → i < w.heap.size ∧ i ≠ Q) := Lib.hid (fun i e => by
    obtain ⟨l1, l2, l3, l4, l5⟩ := q1.lt
    obtain ⟨_, _, n3, n4⟩ := q1.ne
    rcases e with e | e <;> omega)
  have HFW : Hid (∀ i, Fo Q G R i → i < w.heap.size) := Lib.hid (fun i e => by
    obtain ⟨l1, l2, l3, l4, l5⟩ := q1.lt
    rcases e with e | e | e <;> omega)
  have HX : Hid (∀ w', Off (Fo2 G R) (w.alloc (.cells #[.int .i64 v, .int .i64 u] 109)) w' → w'.cell? ⟨Q, 0, none⟩ = some (.pointer (some ⟨Z, 0, none⟩)) ∧ w'.cell? ⟨w.heap.size, 0, none⟩ = some (.int .i64 v) ∧ w'.cell? ⟨w.heap.size, 1, none⟩ = some (.int .i64 u)) :=
    Lib.hid (fun w' hw => ⟨hw.cell (p := ⟨Q, 0, none⟩) (fun e => (HFL.out _ e).2 rfl) ((q1.bel HB1.out).cell rfl), (box2 ((hw.block _ (by simp) (fun e => by have := (HFL.out _ e).1; omega)).trans HN.out)).1⟩)
  have HD : Hid (Bel (w.alloc (.cells #[.int .i64 v, .int .i64 u] 109)) (w.alloc (.cells #[.int .i64 v, .int .i64 u] 109)).drew) := Lib.hid (Bel.refl _).drew
  have lQ := q1.ltQ
  clear q1 q2 q3 q4 hv ht
  go_enter Tryz.func68, Tryz.ntmps68
  go_wp2
  go_region_held3 (fun w' => w'.cell? ⟨Q, 0, none⟩ = some (.pointer (some ⟨Z, 0, none⟩)) ∧ w'.cell? ⟨w.heap.size, 0, none⟩ = some (.int .i64 v) ∧ w'.cell? ⟨w.heap.size, 1, none⟩ = some (.int .i64 u))
    (first | (with_reducible exact HX.out _ (HD.out.off _)) | (with_reducible exact HX.out _ ((HD.out.trans hb1).off _)) | exact HX.out _ (((HD.out.trans hb1).off _).then ho2))
    (first
      | (go_at_call 61; (with_reducible refine (KL.out _ (HB1.out.trans HD.out)).mono ?_); rintro e w1 ⟨rfl, hb1⟩)
      | (go_at_call 105; (with_reducible refine (KC.out _ ((HB1.out.trans HD.out).trans hb1)).mono ?_); rintro e w2 ⟨⟨d, p, c, hd, rfl, hown⟩, ⟨ls', r', hq2, hsb, hls⟩, ho2⟩))
  all_goals
    have hsz : w.heap.size ≤ w1.heap.size := ((HB1.out.trans HD.out).trans hb1).size
    have HO2 : Hid (Off (Fo2 G R) w w2) := Lib.hid ((((HB1.out.trans HD.out).trans hb1).off _).then ho2)
    have KX := Lib.hid (KM.out w2 ls' r' HO2.out hq2 hsb hls)
    have HOW := Lib.hid (hown.low hsz)
    have HPD := Lib.hid hd
    obtain ⟨_, y0, y1⟩ := HX.out _ (((HD.out.trans hb1).off _).then ho2)
    clear hq2 hsb hls hown hd
    go_wp2_with fail
    with_reducible refine KX.out.mono ?_
    rintro e w3 ⟨rfl, hq3, ho3⟩
    have HQ3 := Lib.hid hq3
    have HO3 := Lib.hid (HO2.out.foG.then ho3)
    have HOW3 := Lib.hid (HOW.out.off ho3 (fun i e => HFW.out i e))
    clear hq3 ho3
    go_wp2
    go_ret
    exact ⟨⟨d, p, c, HPD.out, rfl, HOW3.out⟩, HQ3.out, HO3.out⟩
theorem horizon_at (s : Int) (b : Nat) (hs : Tk s) (hb : 1 ≤ b ∧ b ≤ 6) (w : World) : Calls Tryz.prog 107 #[.int .u64 s, .int .i64 b] w fun e w' => e = .returned (.int .u64 (hz b s)) ∧ Bel w w' := by
  obtain ⟨h1, h2⟩ := hs
  exact (D3.dHorizon s b h1 (by omega) b (by unfold wi; omega) w).mono fun e w' h => ⟨h.1, bel_of h.2.2⟩
theorem Wr.cells {w : World} (q : Wr w Q Z B G R P b s k l) : w.cell? ⟨Q, 0, none⟩ = some (.pointer (some ⟨Z, 0, none⟩)) ∧ w.cell? ⟨Q, 21, none⟩ = some (.int .i64 b) ∧ w.cell? ⟨Q, 22, none⟩ = some (.int .u64 s) ∧ w.cell? ⟨Q, 23, none⟩ = some (.int .i64 k) ∧ ∀ j, w.frozen? ⟨Q, j, none⟩ = false := by
  obtain ⟨⟨ls, r, F, q1, q2, q4⟩, q3⟩ := q
  exact ⟨q1.cell rfl, q1.cell rfl, q1.cell rfl, q1.cell rfl, q1.froz⟩
set_option maxHeartbeats 2000000 in
theorem far_none (now : Int) (w : World) (q : Wr w Q Z B G R P b s k l) (h : now ≤ hz b s) :
    Calls Tryz.prog 70 #[.pointer (some ⟨Q, 0, none⟩), .int .u64 now] w fun e w' => e = .returned (.tuple #[.slice none 0 0, .slice none 0 0]) ∧ Bel w w' := by
  have K := Lib.hid (fun w' => horizon_at s b q.re.ts q.re.hb w')
  obtain ⟨c0, c1, c2, _⟩ := q.cells
  have lQ := q.lt.1
  have HX : Hid (∀ w', Bel w w' → w'.cell? ⟨Q, 21, none⟩ = some (.int .i64 b) ∧ w'.cell? ⟨Q, 22, none⟩ = some (.int .u64 s)) := Lib.hid (fun w' hw => ⟨hw.cell c1, hw.cell c2⟩)
  have HD : Hid (Bel w w.drew) := Lib.hid (Bel.refl _).drew
  generalize hz b s = z at *
  clear q
  go_enter Tryz.func70, Tryz.ntmps70
  go_wp2
  go_region_held3 (fun w' => w'.cell? ⟨Q, 21, none⟩ = some (.int .i64 b) ∧ w'.cell? ⟨Q, 22, none⟩ = some (.int .u64 s))
    (first | (with_reducible exact HX.out _ HD.out) | exact HX.out _ (HD.out.trans hb1))
    (first | (go_at_call 107; (with_reducible refine (K.out _).mono ?_); rintro e w1 ⟨rfl, hb1⟩))
  all_goals
    have HE := Lib.hid (HD.out.trans hb1)
    go_wp2
    go_ret2
    exact ⟨rfl, HE.out⟩
set_option maxHeartbeats 2000000 in
theorem far_some (now : Int) (w : World) (q : Wr w Q Z B G R P b s k l) (hnow : Tk now) (h : ¬ now ≤ hz b s) :
    Calls Tryz.prog 70 #[.pointer (some ⟨Q, 0, none⟩), .int .u64 now] w fun e w' => (∃ d p c d2 p2 c2, d.Perm (dueL (lw b s) now 1 l) ∧ d2.Perm (dueL (lw b s) (hz b now) 1 (leftL (lw b s) now 1 l)) ∧ e = .returned (.tuple #[.slice p d.length c, .slice p2 d2.length c2]) ∧ OwnT w' w.heap.size (.slice p d.length c) d ∧ OwnT w' w.heap.size (.slice p2 d2.length c2) d2) ∧
      Wr w' Q Z B G R P b s k (leftL (lw b s) (hz b now) 1 (leftL (lw b s) now 1 l)) ∧ Off (Fo Q G R) w w' := by
  have K := Lib.hid (fun w' => horizon_at s b q.re.ts q.re.hb w')
  have K2 := Lib.hid (fun w' => horizon_at now b hnow q.re.hb w')
  have hone : lsn b 4 0 = 1 := rfl
  have KC : Hid (∀ w' m x, Wr w' Q Z B G R P b s k m → Calls Tryz.prog 68 #[.pointer (some ⟨Q, 0, none⟩), spV 4 0, .int .u64 x] w' fun e w2 => (∃ d p c, d.Perm (dueL (lw b s) x 1 m) ∧ e = .returned (.slice p d.length c) ∧ OwnT w2 w'.heap.size (.slice p d.length c) d) ∧ Wr w2 Q Z B G R P b s k (leftL (lw b s) x 1 m) ∧ Off (Fo Q G R) w' w2) :=
    Lib.hid (fun w' m x hq => by have := rcut_any (v := 4) (u := 0) x w' hq (.inr (.inl rfl)); rwa [hone] at this)
  obtain ⟨c0, c1, c2, _⟩ := q.cells
  have lQ := q.lt.1
  have HQ := Lib.hid q
  have HFW : Hid (∀ i, Fo Q G R i → i < w.heap.size) := Lib.hid (fun i e => by
    obtain ⟨l1, l2, l3, l4, l5⟩ := q.lt
    rcases e with e | e | e <;> omega)
  have HX : Hid (∀ w', Bel w w' → w'.cell? ⟨Q, 21, none⟩ = some (.int .i64 b) ∧ w'.cell? ⟨Q, 22, none⟩ = some (.int .u64 s)) := Lib.hid (fun w' hw => ⟨hw.cell c1, hw.cell c2⟩)
  have HD : Hid (Bel w w.drew) := Lib.hid (Bel.refl _).drew
  generalize hz b s = z at *
  generalize hz b now = z2 at *
  clear q hnow
  go_enter Tryz.func70, Tryz.ntmps70
  go_wp2
  go_region_held3 (fun w' => w'.cell? ⟨Q, 21, none⟩ = some (.int .i64 b) ∧ w'.cell? ⟨Q, 22, none⟩ = some (.int .u64 s))
    (first | (with_reducible exact HX.out _ HD.out) | exact HX.out _ (HD.out.trans hb1))
    (first | (go_at_call 107; (with_reducible refine (K.out _).mono ?_); rintro e w1 ⟨rfl, hb1⟩))
  all_goals
    have HB1 := Lib.hid (HD.out.trans hb1)
    have KX := Lib.hid (KC.out _ _ now (HQ.out.bel HB1.out))
    clear hb1 c0 c1 c2
    go_wp2_with fail
    with_reducible refine KX.out.mono ?_
    rintro e w2 ⟨⟨d, p, c, hd, rfl, hown⟩, hq2, ho2⟩
    have HPD := Lib.hid hd
    have HOW := Lib.hid (hown.low HB1.out.size)
    have HQ2 := Lib.hid hq2
    have HO2 := Lib.hid ((HB1.out.off (Fo Q G R)).then ho2)
    obtain ⟨c0, c1, c2, _⟩ := hq2.cells
    have lQ2 := hq2.lt.1
    clear hd hown hq2 ho2
    go_wp2_with fail
    with_reducible refine (K2.out _).mono ?_
    rintro e w3 ⟨rfl, hb3⟩
    have KY := Lib.hid (KC.out _ _ z2 (HQ2.out.bel hb3))
    have HOW3 := Lib.hid (HOW.out.bel hb3)
    have HO3 := Lib.hid (HO2.out.then (hb3.off _))
    clear hb3
    go_wp2_with fail
    with_reducible refine KY.out.mono ?_
    rintro e w4 ⟨⟨d2, p2, c2', hd2, rfl, hown2⟩, hq4, ho4⟩
    have HPD2 := Lib.hid hd2
    have HQ4 := Lib.hid hq4
    have HO4 := Lib.hid (HO3.out.then ho4)
    have HOW4 := Lib.hid (HOW3.out.off ho4 (fun i e => HFW.out i e))
    have HOW5 := Lib.hid (hown2.low HO3.out.size)
    clear hd2 hq4 ho4 hown2
    go_wp2
    go_ret2
    exact ⟨⟨d, p, c, d2, p2, c2', HPD.out, HPD2.out, rfl, HOW4.out, HOW5.out⟩, HQ4.out, HO4.out⟩
/-- What cutFar answers and leaves. -/
theorem far_any (now : Int) (w : World) (q : Wr w Q Z B G R P b s k l) (hnow : Tk now) :
    Calls Tryz.prog 70 #[.pointer (some ⟨Q, 0, none⟩), .int .u64 now] w fun e w' => (∃ d p c d2 p2 c2, d.Perm (fD b s now l) ∧ d2.Perm (fS b s now l) ∧ e = .returned (.tuple #[.slice p d.length c, .slice p2 d2.length c2]) ∧ OwnT w' w.heap.size (.slice p d.length c) d ∧ OwnT w' w.heap.size (.slice p2 d2.length c2) d2) ∧
      Wr w' Q Z B G R P b s k (fL b s now l) ∧ Off (Fo Q G R) w w' := by
  unfold fD fS fL
  by_cases h : now ≤ hz b s
  · rw [if_pos h, if_pos h, if_pos h]
    exact (far_none now w q h).mono fun e w' ⟨h1, h2⟩ => ⟨⟨[], none, 0, [], none, 0, List.Perm.refl _, List.Perm.refl _, h1, OwnT.nil _ _, OwnT.nil _ _⟩, q.bel h2, h2.off _⟩
  · rw [if_neg h, if_neg h, if_neg h]
    exact far_some now w q hnow h
end
end Go.Proofs.YtdoceldofkaapaaGreatDoor
namespace Go.Proofs.YtdoceldofkaapaaGreatDoor
/-- Which numbers from a on, below c, are in the bits. -/
def sg (F : Nat → Nat) (a c : Nat) : List Nat := (List.range c).filter fun i => decide (a ≤ i) && Bm.tb F i
theorem sg_mem {F : Nat → Nat} {a c i : Nat} : i ∈ sg F a c ↔ i < c ∧ a ≤ i ∧ Bm.tb F i = true := by
  unfold sg; simp
theorem sg_nodup (F : Nat → Nat) (a c : Nat) : (sg F a c).Nodup := (List.nodup_range (n := c)).filter _
theorem sg_lt (F : Nat → Nat) (a c : Nat) : (sg F a c).Pairwise (· < ·) := (List.pairwise_lt_range (n := c)).filter _
theorem sg_none {F : Nat → Nat} {a c : Nat} (h : ∀ j, a ≤ j → j < c → Bm.tb F j = false) : sg F a c = [] := by
  unfold sg
  rw [List.filter_eq_nil_iff]
  intro i hi
  simp at hi ⊢
  intro h2
  rw [h i h2 hi]
/-- Two lists that rise and have the same numbers are the same. -/
theorem rise_ext : ∀ {l m : List Nat}, l.Pairwise (· < ·) → m.Pairwise (· < ·) → (∀ i, i ∈ l ↔ i ∈ m) → l = m
  | [], [], _, _, _ => rfl
  | [], y :: m, _, _, h => by have := (h y).2 (by simp); simp at this
  | x :: l, [], _, _, h => by have := (h x).1 (by simp); simp at this
  | x :: l, y :: m, h1, h2, h => by
    obtain ⟨a1, a2⟩ := List.pairwise_cons.1 h1
    obtain ⟨b1, b2⟩ := List.pairwise_cons.1 h2
    have e : x = y := by
      have h3 := (h x).1 (by simp)
      have h4 := (h y).2 (by simp)
      rcases List.mem_cons.1 h3 with e | e
      · exact e
      · rcases List.mem_cons.1 h4 with e2 | e2
        · exact e2.symm
        · have := b1 x e; have := a1 y e2; omega
    subst e
    rw [rise_ext a2 b2 (fun i => ?_)]
    have h3 := h i
    constructor
    · intro hi
      rcases List.mem_cons.1 (h3.1 (by simp [hi])) with e | e
      · have := a1 i hi; omega
      · exact e
    · intro hi
      rcases List.mem_cons.1 (h3.2 (by simp [hi])) with e | e
      · have := b1 i hi; omega
      · exact e
theorem sg_cons {F : Nat → Nat} {a c i : Nat} {r : List Nat} (h : sg F a c = i :: r) : a ≤ i ∧ i < c ∧ Bm.tb F i = true ∧ (∀ j, a ≤ j → j < i → Bm.tb F j = false) ∧ r = sg F (i + 1) c := by
  have hm : i ∈ sg F a c := by rw [h]; simp
  obtain ⟨h1, h2, h3⟩ := sg_mem.1 hm
  have hp := sg_lt F a c
  rw [h] at hp
  obtain ⟨hp1, hp2⟩ := List.pairwise_cons.1 hp
  refine ⟨h2, h1, h3, fun j hj1 hj2 => ?_, rise_ext hp2 (sg_lt _ _ _) (fun j => ?_)⟩
  · cases hb : Bm.tb F j with
    | false => rfl
    | true =>
      have : j ∈ sg F a c := sg_mem.2 ⟨by omega, hj1, hb⟩
      rw [h] at this
      rcases List.mem_cons.1 this with e | e
      · omega
      · have := hp1 j e; omega
  · rw [sg_mem]
    constructor
    · intro hj
      have h5 := hp1 j hj
      have : j ∈ sg F a c := by rw [h]; simp [hj]
      obtain ⟨q1, q2, q3⟩ := sg_mem.1 this
      exact ⟨q1, by omega, q3⟩
    · rintro ⟨q1, q2, q3⟩
      have : j ∈ sg F a c := sg_mem.2 ⟨q1, by omega, q3⟩
      rw [h] at this
      rcases List.mem_cons.1 this with e | e
      · omega
      · exact e
/-- The next one that is in the bits. -/
def nx (F : Nat → Nat) (a : Nat) : Option Nat := (Bm.bo (Bm.wth F (Bm.bl a)) 256).head?
theorem nx_sg (F : Nat → Nat) (a : Nat) : Bm.bo (Bm.wth F (Bm.bl a)) 256 = sg F a 256 := by
  unfold Bm.bo sg
  congr 1
  funext i
  rw [Bm.tb_wth F _ (Bm.bl_wd a), Bm.tb_bl]
  by_cases h : i < a
  · have : ¬ a ≤ i := by omega
    simp [h, this]
  · have : a ≤ i := by omega
    simp [h, this]
theorem nx_hit {F F0 : Nat → Nat} {a y : Nat} (hy : a ≤ y) (h1 : y < 256) (h2 : Bm.tb F y = true) (h3 : ∀ j, a ≤ j → j < y → Bm.tb F0 j = false) (hsub : ∀ i, i < 256 → Bm.tb F i = true → Bm.tb F0 i = true) : nx F a = some y := by
  unfold nx
  rw [nx_sg]
  cases h : sg F a 256 with
  | nil =>
    have : y ∈ sg F a 256 := sg_mem.2 ⟨h1, hy, h2⟩
    rw [h] at this; simp at this
  | cons i r =>
    obtain ⟨q1, q2, q3, q4, _⟩ := sg_cons h
    rw [List.head?_cons]
    congr 1
    have n1 : ¬ i < y := fun e => by have := h3 i q1 e; rw [hsub i q2 q3] at this; cases this
    have n2 : ¬ y < i := fun e => by have := q4 y hy e; rw [h2] at this; cases this
    omega
theorem nx_miss {F F0 : Nat → Nat} {a e : Nat} (h : sg F0 a e = []) (hsub : ∀ i, i < 256 → Bm.tb F i = true → Bm.tb F0 i = true) : nx F a = none ∨ ∃ i, nx F a = some i ∧ e ≤ i ∧ i < 256 := by
  unfold nx
  rw [nx_sg]
  cases h2 : sg F a 256 with
  | nil => exact .inl rfl
  | cons i r =>
    obtain ⟨q1, q2, q3, _⟩ := sg_cons h2
    refine .inr ⟨i, rfl, ?_, q2⟩
    apply Nat.le_of_not_lt
    intro hlt
    have : i ∈ sg F0 a e := sg_mem.2 ⟨hlt, q1, hsub i q2 q3⟩
    rw [h] at this; simp at this
/-- The slot of the first tick behind the base. -/
def fs (S : Nat) (s : Int) : Nat := if s = 18446744073709551615 then 0 else ((s + 1) % (S : Int)).toNat
theorem fs_lt {S : Nat} (h : 0 < S) (s : Int) : fs S s < S := by
  unfold fs
  split
  · exact h
  · have h1 := Int.emod_nonneg (s + 1) (b := (S : Int)) (by omega)
    have h2 := Int.emod_lt_of_pos (s + 1) (b := (S : Int)) (by omega)
    omega
/-- The slots that have something, of the n ticks behind the base, in the order of these ticks: those of the first turn, and of the second one. -/
def cur (F : Nat → Nat) (S f n t : Nat) : List Nat := sg F ((f : Int) - (t : Int) * (S : Int)).toNat (((f + n : Nat) : Int) - (t : Int) * (S : Int)).toNat
def yss (F : Nat → Nat) (S f n : Nat) : List Nat := cur F S f n 0 ++ cur F S f n 1
def tlq (F : Nat → Nat) (S f n t : Nat) : List Nat := if t = 0 then yss F S f n else if t = 1 then cur F S f n 1 else []
theorem tlq_zero (F : Nat → Nat) (S f n : Nat) : tlq F S f n 0 = yss F S f n := rfl
theorem tlq_cur {F : Nat → Nat} {S f n t : Nat} (h : t < 2) : tlq F S f n t = cur F S f n t ++ tlq F S f n (t + 1) := by
  have : t = 0 ∨ t = 1 := by omega
  rcases this with rfl | rfl
  · rfl
  · unfold tlq; simp
theorem tlq_two (F : Nat → Nat) (S f n : Nat) : tlq F S f n 2 = [] := rfl
end Go.Proofs.YtdoceldofkaapaaGreatDoor
namespace Go.Proofs.YtdoceldofkaapaaGreatDoor
open Go.RowKit
variable {α : Type} {F : Fence} {n : Nat} {P : Program}
/-- The function gf tells ys, one by one, to whatever rounds there are that leave M k behind k of them. -/
def Feeds (F : Fence) (n : Nat) (P : Program) (gf : Nat) (lb : Array Value) (en : α → Array Value) (ys : List α) (M : Nat → World → Prop) (w : World) : Prop :=
  ∀ (l : Nat) (J Jx : List α → World → Prop) (W : World), w.heap.size ≤ W.heap.size → AbidesFrom W.heap.size J → (∀ pre V, J pre V → M pre.length V) →
    (∀ pre x V, pre ++ [x] <+: ys → J pre V → YieldAt F (n - 1) P l (en x) V fun e V' => (e = .returned (.bool true) ∧ J (pre ++ [x]) V') ∨ (e = .returned (.bool false) ∧ Jx (pre ++ [x]) V')) →
    J [] W → CallsIn F n P gf (#[.func (.yield l) #[] #[]] ++ lb) W fun e V => (∃ v, e = .returned v) ∧ (J ys V ∨ ∃ pre, pre <+: ys ∧ Jx pre V)
/-- How a round may end. -/
abbrev roundEnd (B : Nat) (I : List α → World → Prop) (Ix : Code → List α → World → Prop) (xs : List α) (W : World) : Exit → Act → World → Prop := ownPostG B (fun _ _ => True) I Ix xs W
set_option maxHeartbeats 1000000 in
theorem range_any {g : Operand} {ps : Array Tmp} {assign body : Code} {Q : Exit → Act → World → Prop} {a : Act} {w : World} (hro : F.round = none) (h1 : 1 ≤ n) {gf : Nat} {lb : Array Value}
    (hg : a.eval g = .func (.func gf) #[] lb) (hFg : F.fn gf) (eg : ∀ args w, (callFunc gf args).run P w = .ok (.enter gf args) w) {en : α → Array Value} {ys : List α} {M : Nat → World → Prop}
    (hs : Feeds F (n - 1) P gf lb en ys M w) (hps : ∀ x, (en x).size = ps.size) (I : List α → World → Prop) (Ix : Code → List α → World → Prop)
    (hI : OwnFrom w.heap.size I) (hIx : ∀ c, OwnFrom w.heap.size (Ix c)) (hM : ∀ pre V, I pre V → M pre.length V) (h0 : I [] w) (a1 : α → Act)
    (hassign : ∀ (l : Nat) (x : α) (V : World) (K : Act → World → Prop), K (a1 x) V →
      assign.wpIn (F.inRound l) (n - 1 - 1) P (Exit.then K (fun _ _ _ => False)) { tmps := (ps.zip (en x)).foldl (fun t (p, v) => t.setIfInBounds p v) a.tmps, defers := [] } V)
    (hbody : ∀ (l : Nat) (pre : List α) (x : α) (V : World), pre ++ [x] <+: ys → I pre V → body.wpIn (F.inRound l) (n - 1 - 1) P (roundEnd w.heap.size I Ix (pre ++ [x]) V) (a1 x) V)
    (hdone : ∀ (D : Nat) (V : World), w.heap.size ≤ D → I ys V → V.heap[D]? = some (.deferred (some [])) → Q .normal { a with defers := { target := .collected D, args := #[] } :: a.defers } V)
    (hstop : ∀ (D : Nat) (c : Code) (pre : List α) (V : World), w.heap.size ≤ D → pre <+: ys → Ix c pre V → V.heap[D]? = some (.deferred (some [])) → c.wpIn F n P Q { a with defers := { target := .collected D, args := #[] } :: a.defers } V) :
    (Code.rangeFunc g ps assign body).wpIn F n P Q a w := by
  refine wpIn_rangeFunc fun fn hfn => ?_
  obtain ⟨d, hd⟩ : ∃ d, w.heap.size = d := ⟨_, rfl⟩
  let R : LoopState → Option Code → Loop := fun s j => { state := s, pending := j, fn := fn, tmps := a.tmps, params := ps, assign := assign, body := body, defers := d }
  have hR : ∀ s j, (R s j).params = ps ∧ (R s j).tmps = a.tmps ∧ (R s j).fn = fn ∧ (R s j).assign = assign ∧ (R s j).body = body ∧ (R s j).state = s ∧ (R s j).pending = j := fun s j => ⟨rfl, rfl, rfl, rfl, rfl, rfl, rfl⟩
  obtain ⟨V0, hV0⟩ : ∃ V0, (w.alloc (.deferred (some []))).alloc (.loop (R .ready none)) = V0 := ⟨_, rfl⟩
  have z0 : V0.heap.size = d + 2 := by rw [← hV0]; simp [hd]
  have kl : V0.heap[d + 1]? = some (.loop (R .ready none)) := by
    have := World.alloc_heap_new (w.alloc (.deferred (some []))) (.loop (R .ready none))
    rw [World.size_alloc, hd] at this
    rw [← hV0]; exact this
  have kd : V0.heap[d]? = some (.deferred (some [])) := by
    have h2 := World.alloc_heap_new w (.deferred (some []))
    rw [hd] at h2
    rw [← hV0]
    exact (Below.heap_alloc _ _ _ (by simp [hd])).trans h2
  have i0 : I [] V0 := by rw [← hV0]; exact hI.alloc _ (hI.alloc _ h0)
  -- a record that a round turns
  have turn : ∀ (V : World) (r r' : Loop), V.heap[d + 1]? = some (.loop r) → V.heap[d]? = some (.deferred (some [])) →
      (V.putObj (d + 1) (.loop r')).heap[d + 1]? = some (.loop r') ∧ (V.putObj (d + 1) (.loop r')).heap[d]? = some (.deferred (some [])) := fun V r r' hl hk =>
    ⟨World.putObj_heap_same (Array.getElem?_eq_some_iff.1 hl).1, (World.putObj_heap_other (by omega)).trans hk⟩
  have keepI : ∀ (xs : List α) (V : World) (r r' : Loop), V.heap[d + 1]? = some (.loop r) → I xs V → I xs (V.putObj (d + 1) (.loop r')) := fun xs V r r' hl hi => hI.putObj _ hi (by omega) hl rfl
  have keepX : ∀ (c : Code) (xs : List α) (V : World) (r r' : Loop), V.heap[d + 1]? = some (.loop r) → Ix c xs V → Ix c xs (V.putObj (d + 1) (.loop r')) := fun c xs V r r' hl hi => (hIx c).putObj _ hi (by omega) hl rfl
  rw [hro]
  refine ⟨d + 1, [{ target := .collected d, args := #[] }], V0, { target := .fn (.func gf) lb, args := #[.func (.yield (d + 1)) #[] #[]] }, V0, gf, #[.func (.yield (d + 1)) #[] #[]] ++ lb, V0, ?_, ?_, ?_, ?_, fun _ => h1, ?_⟩
  · have := run_enterLoop_outer (P := P) (w := w) fn a.tmps ps assign body
    rw [hd] at this
    rw [this, ← hV0]
  · simp only [resolve, hg]
    simp [go_sem]
  · intro f' hf'
    simp [Target.leads] at hf'
    subst hf'
    exact hFg
  · simp [invoke, go_sem, eg]
  refine (hs (d + 1) (fun pre V => I pre V ∧ V.heap[d + 1]? = some (.loop (R .ready none)) ∧ V.heap[d]? = some (.deferred (some [])))
    (fun pre V => ∃ c, Ix c pre V ∧ V.heap[d + 1]? = some (.loop (R .done (some c))) ∧ V.heap[d]? = some (.deferred (some []))) V0 (by omega) ?_ (fun pre V h => hM pre V h.1) ?_ ⟨i0, kl, kd⟩).mono ?_
  · intro xs A B row hJ hgr hrow
    have nw : ∀ r, row = some r → w.heap.size ≤ r ∧ ∃ o : Obj, A.heap[r]? = some o ∧ o.isCells = false := fun r e => by
      obtain ⟨h2, o, ho, hw⟩ := hrow r e
      exact ⟨by omega, o, ho, Obj.not_cells_of_walk hw⟩
    exact ⟨hI xs A B row hJ.1 hgr nw, (grownBy_keeps hgr (fun r e => (hrow r e).2) hJ.2.1 rfl).trans hJ.2.1, (grownBy_keeps hgr (fun r e => (hrow r e).2) hJ.2.2 rfl).trans hJ.2.2⟩
  · rintro pre x V hpre ⟨hi, hl, hk⟩
    have hy := run_yield (P := P) (args := en x) hl (hps x)
    obtain ⟨hl2, hk2⟩ := turn V _ { R .ready none with state := .busy } hl hk
    refine ⟨fn, _, assign, body, hy, roundIn_of_wpIn hfn (hassign _ x V _ ⟨_, run_beginRound hl rfl, wpIn_mono (hbody _ pre x _ hpre (keepI _ V _ _ hl hi)) ?_⟩)⟩
    intro ex a3 V3 hp
    have close : ∀ (j : Option Code), KeepsFrom w.heap.size (V.putObj (d + 1) (.loop { R .ready none with state := .busy })) V3 →
        V3.heap[d + 1]? = some (.loop { R .ready none with state := .busy }) ∧ (Instr.endRound (d + 1) j).run P V3 = .ok (.bool j.isNone) (V3.putObj (d + 1) (.loop (R (if j.isNone then .ready else .done) j))) ∧
        (V3.putObj (d + 1) (.loop (R (if j.isNone then .ready else .done) j))).heap[d + 1]? = some (.loop (R (if j.isNone then .ready else .done) j)) ∧ (V3.putObj (d + 1) (.loop (R (if j.isNone then .ready else .done) j))).heap[d]? = some (.deferred (some [])) := fun j hk3 => by
      have q := hk3.same _ _ (by omega) hl2 rfl
      obtain ⟨q1, q2⟩ := turn V3 _ (R (if j.isNone then .ready else .done) j) q (hk3.same _ _ (by omega) hk2 rfl)
      exact ⟨q, run_endRound (P := P) j q, q1, q2⟩
    cases ex with
    | normal => obtain ⟨hk3, _, hi3⟩ := hp; obtain ⟨q, q0, q1, q2⟩ := close none hk3; exact ⟨_, _, q0, .inl ⟨rfl, keepI _ V3 _ _ q hi3, q1, q2⟩⟩
    | ret => obtain ⟨hk3, hi3⟩ := hp; obtain ⟨q, q0, q1, q2⟩ := close (some .ret) hk3; exact ⟨_, _, q0, .inr ⟨rfl, _, keepX _ _ V3 _ _ q hi3, q1, q2⟩⟩
    | exit id => obtain ⟨hk3, hi3⟩ := hp; obtain ⟨q, q0, q1, q2⟩ := close (some (.exit id)) hk3; exact ⟨_, _, q0, .inr ⟨rfl, _, keepX _ _ V3 _ _ q hi3, q1, q2⟩⟩
    | goto t => obtain ⟨hk3, hi3⟩ := hp; obtain ⟨q, q0, q1, q2⟩ := close (some (.goto t)) hk3; exact ⟨_, _, q0, .inr ⟨rfl, _, keepX _ _ V3 _ _ q hi3, q1, q2⟩⟩
    | panic ch => exact hp.elim
    | outgrown => exact hp.elim
  · rintro e V2 ⟨⟨v, rfl⟩, (⟨hi, hl, hk⟩ | ⟨pre, hpre, c, hi, hl, hk⟩)⟩
    · exact ⟨none, _, run_endLoop (P := P) hl (by simp [R]), hdone _ _ (by omega) (keepI _ V2 _ _ hl hi) (turn V2 _ _ hl hk).2⟩
    · exact ⟨some c, _, run_endLoop (P := P) hl (by simp [R]), hstop _ c pre _ (by omega) hpre (keepX _ _ V2 _ _ hl hi) (turn V2 _ _ hl hk).2⟩
end Go.Proofs.YtdoceldofkaapaaGreatDoor
