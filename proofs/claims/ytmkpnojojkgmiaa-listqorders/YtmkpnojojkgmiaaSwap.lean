/-
  A store into a row of timers of the call's own; an exchange of two of them; two queues beside such a row.
-/
import Derived.Test.YtmkpnojojkgmiaaLawM
import Derived.Deep.MidRow
namespace Go.Proofs.Ytmkpnojojkgmiaa
open Go.RowKit
theorem encs_set : ∀ (l : List T) (j : Nat) (x : T), j < l.length →
    encs (l.set j x) = (((encs l).set (j * 3) (.int .u64 x.a)).set (j * 3 + 1) (.int .u64 x.s)).set (j * 3 + 2) (.int .i64 x.p)
  | [], j, x, h => by simp at h
  | y :: r, 0, x, _ => rfl
  | y :: r, j + 1, x, h => by
    have ih := encs_set r j x (by simpa using h)
    have e : ∀ z s, encs (z :: s) = enc z ++ encs s := fun _ _ => rfl
    have el : (enc y).length = 3 := rfl
    rw [List.set_cons_succ, e, ih, e]
    rw [show (j + 1) * 3 = (enc y).length + j * 3 by rw [el]; omega]
    rw [List.set_append_right _ _ (by omega), Nat.add_sub_cancel_left, Nat.add_assoc, List.set_append_right _ _ (by omega), Nat.add_sub_cancel_left, Nat.add_assoc, List.set_append_right _ _ (by omega), Nat.add_sub_cancel_left]
theorem info38s : (Try.prog.info? 38).map (·.size) = some 3 := by kernel_rfl
/-- 'row[j] = t', the row of the call's own. -/
theorem wpList_store_own {ops : Array Oper} {rest : List Oper} {op : Oper} {a : Act} {w : World} {Q : Exit → Act → World → Prop} (hgd : op.guard = none) (x y : Operand) (ho : op.op = .store 38 x y)
    (g j n c base : Nat) (t : T) (cur : List T) (hx : a.eval x = .pointer (some ⟨g, j * 3, none⟩)) (hy : a.eval y = .agg #[.int .u64 t.a, .int .u64 t.s, .int .i64 t.p])
    (hown : OwnT w base (.slice (some ⟨g, 0, none⟩) n c) cur) (hn : cur.length = n) (hj : j < n)
    (h : ∀ w', OwnT w' base (.slice (some ⟨g, 0, none⟩) n c) (cur.set j t) → w.grownBy w' (some g) → wpList Try.prog ops Q rest (a.put op.dst undef) w') : wpList Try.prog ops Q (op :: rest) a w := by
  subst hn
  have h0 : w.ownsRow base 38 3 (.slice (some ⟨g, 0, none⟩) cur.length c) cur.length (encs cur) := hown
  have there : w.there g (j * 3) 3 := fun i hi => by
    have hg := encs_get cur j hj
    refine ⟨?_, h0.frozenAt _⟩
    rw [h0.cellAt _ (by omega)]
    have hlt : j * 3 + i < (encs cur).length := by rw [encs_len]; omega
    rw [List.getElem?_eq_getElem hlt]
    rfl
  refine wpList_store_mid hgd 38 x y ho g (j * 3) _ hx hy there info38s (all_oneCell_toArray (encs_one' [t])) (h _ ?_ ?_)
  · have h1 := (h0.stored (j * 3) (.int .u64 t.a)).1
    have h2 := (h1.stored (j * 3 + 1) (.int .u64 t.s)).1
    have h3 := (h2.stored (j * 3 + 2) (.int .i64 t.p)).1
    rw [← encs_set cur j t hj] at h3
    unfold OwnT
    rw [List.length_set]
    exact h3
  · refine ⟨rfl, rfl, rfl, ?_, fun k _ hk => ?_⟩
    · simp [World.setCells, World.setCell]
    · have hne : k ≠ g := fun e => hk (by rw [e])
      show ((((w.setCell ⟨g, j * 3, none⟩ _).setCell ⟨g, j * 3 + 1, none⟩ _).setCell ⟨g, j * 3 + 2, none⟩ _)).heap[k]? = _
      rw [Below.heap_setCell _ _ _ _ hne, Below.heap_setCell _ _ _ _ hne, Below.heap_setCell _ _ _ _ hne]
theorem swap_perm (l : List T) (j k : Nat) (hj : j < l.length) (hk : k < l.length) : ((l.set j (l.getD k default)).set k (l.getD j default)).Perm l := by
  have e := Array.swap_perm (xs := l.toArray) (i := j) (j := k) (by simpa using hj) (by simpa using hk)
  have e2 := e.toList
  have ej : l.getD j default = l[j] := by simp [List.getD_eq_getElem?_getD, List.getElem?_eq_getElem hj]
  have ek : l.getD k default = l[k] := by simp [List.getD_eq_getElem?_getD, List.getElem?_eq_getElem hk]
  rw [ej, ek]
  simpa [Array.swap] using e2
theorem OwnT.cells3 {w : World} {base g n c : Nat} {cur : List T} (h : OwnT w base (.slice (some ⟨g, 0, none⟩) n c) cur) (hn : cur.length = n) {i : Nat} (hi : i < n) {x : T} (hx : cur.getD i default = x) :
    w.cell? ⟨g, i * 3, none⟩ = some (.int .u64 x.a) ∧ w.cell? ⟨g, i * 3 + 1, none⟩ = some (.int .u64 x.s) ∧ w.cell? ⟨g, i * 3 + 2, none⟩ = some (.int .i64 x.p) := by
  subst hn
  have hown : w.ownsRow base 38 3 (.slice (some ⟨g, 0, none⟩) cur.length c) cur.length (encs cur) := h
  have hg := encs_get cur i hi
  rw [hx] at hg
  refine ⟨?_, ?_, ?_⟩
  · rw [hown.cellAt _ (by omega)]; exact hg.1
  · rw [hown.cellAt _ (by omega)]; exact hg.2.1
  · rw [hown.cellAt _ (by omega)]; exact hg.2.2
theorem rem_nat (y : Int) (n : Nat) (h0 : 0 ≤ y) (hn : 1 ≤ n) : ∃ j : Nat, y.tmod n = j ∧ j < n := by
  refine ⟨(y % n).toNat, ?_, ?_⟩
  · rw [Int.tmod_eq_emod_of_nonneg h0, Int.toNat_of_nonneg (Int.emod_nonneg _ (by omega))]
  · have := Int.emod_lt_of_pos y (show (0 : Int) < n by omega)
    have := Int.emod_nonneg y (show (n : Int) ≠ 0 by omega)
    omega
/-- Two queues, and a row of timers of the call's own behind them. -/
structure Row2 (w : World) (Q B G R Q2 B2 G2 R2 P base : Nat) (l l2 : List T) (v : Value) (cur : List T) (wr : World) : Prop where
  two : Two w Q B G R Q2 B2 G2 R2 P l l2 wr
  own : OwnT wr base v cur
  lta : (Q < base ∧ B < base) ∧ G < base ∧ R < base
  ltb : (Q2 < base ∧ B2 < base) ∧ G2 < base ∧ R2 < base
  wb : w.heap.size ≤ base
  bw : base ≤ wr.heap.size
section
variable {w : World} {Q B G R Q2 B2 G2 R2 P base : Nat} {l l2 : List T} {v : Value} {cur : List T} {w1 w2 : World}
theorem Row2.le (h : Row2 w Q B G R Q2 B2 G2 R2 P base l l2 v cur w1) (k : Bel w1 w2) : Row2 w Q B G R Q2 B2 G2 R2 P base l l2 v cur w2 :=
  ⟨h.two.le k, h.own.bel k, h.lta, h.ltb, h.wb, Nat.le_trans h.bw k.size⟩
theorem Row2.stepA {l' : List T} (h : Row2 w Q B G R Q2 B2 G2 R2 P base l l2 v cur w1) (hq : Qu w2 Q B G R P l') (k : Off (Foot G R) w1 w2) : Row2 w Q B G R Q2 B2 G2 R2 P base l' l2 v cur w2 :=
  ⟨h.two.stepA hq k, h.own.off k (fun b e => by have := h.lta; rcases e with e | e <;> omega), h.lta, h.ltb, h.wb, Nat.le_trans h.bw k.size⟩
theorem Row2.stepB {l' : List T} (h : Row2 w Q B G R Q2 B2 G2 R2 P base l l2 v cur w1) (hq : Qu w2 Q2 B2 G2 R2 P l') (k : Off (Foot G2 R2) w1 w2) : Row2 w Q B G R Q2 B2 G2 R2 P base l l' v cur w2 :=
  ⟨h.two.stepB hq k, h.own.off k (fun b e => by have := h.ltb; rcases e with e | e <;> omega), h.lta, h.ltb, h.wb, Nat.le_trans h.bw k.size⟩
theorem Row2.grow {v' : Value} {cur' : List T} (h : Row2 w Q B G R Q2 B2 G2 R2 P base l l2 v cur w1) (ho : OwnT w2 base v' cur') (hg : w1.grownBy w2 v.ownBlock) : Row2 w Q B G R Q2 B2 G2 R2 P base l l2 v' cur' w2 := by
  have k : Off (fun k => v.ownBlock = some k) w1 w2 := Off.grown (Off.refl _ _) hg (fun k hk => .inl hk)
  have hr : ∀ k, v.ownBlock = some k → base ≤ k := fun k hk => (h.own.lt k hk).1
  have la := h.lta
  have lb := h.ltb
  have wb := h.wb
  refine ⟨⟨h.two.a.off k ?_ ?_ ?_ ?_, h.two.b.off k ?_ ?_ ?_ ?_, Off.trans h.two.bel k (fun i e => .inr (Nat.le_trans wb (hr i e))), h.two.ge, h.two.ap, h.two.bp⟩, ho, la, lb, wb, Nat.le_trans h.bw k.size⟩
  all_goals
    intro e
    have := hr _ e
    omega
end
/-- Whoever lies in a queue, in whatever order, is taken by another one that holds those before. -/
theorem Qu.takes {w : World} {Q B G R P : Nat} {lq : List T} (h : Qu w Q B G R P lq) {cur lo : List T} {m : Nat} (hm : m < cur.length) (hc : lq.Perm cur) (ho : lo.Perm (cur.take m)) :
    insE P lo (cur.getD m default) = 0 ∧ (put lo (cur.getD m default)).Perm (cur.take (m + 1)) := by
  obtain ⟨⟨g, r, _, hi⟩, _⟩ := h
  have e : cur.getD m default = cur[m] := by simp [List.getD_eq_getElem?_getD, List.getElem?_eq_getElem hm]
  rw [e]
  have hmem : cur[m] ∈ lq := hc.symm.subset (List.getElem_mem hm)
  obtain ⟨h1, h2, _⟩ := hi.tm _ hmem
  have hnd : (cur.map pl).Nodup := (hc.map pl).nodup_iff.1 hi.nodup
  have et : cur.take (m + 1) = cur.take m ++ [cur[m]] := by rw [List.take_append_getElem]
  refine ⟨?_, ?_⟩
  · unfold insE
    rw [h1, hp_yes h2, if_pos rfl]
    cases hf : fnd lo ((pl cur[m] : Nat) : Int) with
    | none => rfl
    | some x =>
      exfalso
      obtain ⟨h3, h4⟩ := fnd_some hf
      have h5 : x ∈ cur.take m := ho.subset h3
      have hnd2 : ((cur.take (m + 1)).map pl).Nodup := List.Nodup.sublist ((List.take_sublist _ _).map pl) hnd
      rw [et, List.map_append] at hnd2
      refine (List.nodup_append.1 hnd2).2.2 (pl x) (List.mem_map.2 ⟨x, h5, rfl⟩) (pl cur[m]) (by simp) ?_
      have h6 : pl x = x.p.toNat := rfl
      rw [h6, h4]
      exact Int.toNat_natCast _
  · rw [et]
    exact (put_perm lo _).trans (((ho.cons _).trans (List.perm_append_singleton _ _).symm))
end Go.Proofs.Ytmkpnojojkgmiaa
