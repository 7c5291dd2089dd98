/-
  A store into a row of timers of the call's own; an exchange of two of them.
-/
import Derived.Test.YtbbhgmdpafhbeaaFrame
import Derived.Deep.MidRow
namespace Go.Proofs.Ytbbhgmdpafhbeaa
open Go.RowKit
theorem encs_set : ∀ (l : List T) (j : Nat) (x : T), j < l.length →
    encs (l.set j x) = (((encs l).set (j * 3) (.int .u64 x.a)).set (j * 3 + 1) (.int .u64 x.s)).set (j * 3 + 2) (.int .i64 x.p)
  | [], j, x, h => by simp at h
  | y :: r, 0, x, _ => rfl
  | y :: r, j + 1, x, h => by
    have ih := encs_set r j x (by simpa using h)
    have e : ∀ z s, encs (z :: s) = enc z ++ encs s := fun _ _ => rfl
    have el : (enc y).length = 3 := rfl
    rw [List.set_cons_succ, e, ih, e]
    rw [show (j + 1) * 3 = (enc y).length + j * 3 by rw [el]; omega]
    rw [List.set_append_right _ _ (by omega), Nat.add_sub_cancel_left, Nat.add_assoc, List.set_append_right _ _ (by omega), Nat.add_sub_cancel_left, Nat.add_assoc, List.set_append_right _ _ (by omega), Nat.add_sub_cancel_left]
theorem info30s : (Try.prog.info? 30).map (·.size) = some 3 := by kernel_rfl
/-- 'row[j] = t', the row of the call's own. -/
theorem wpList_store_own {ops : Array Oper} {rest : List Oper} {op : Oper} {a : Act} {w : World} {Q : Exit → Act → World → Prop} (hgd : op.guard = none) (x y : Operand) (ho : op.op = .store 30 x y)
    (g j n c base : Nat) (t : T) (cur : List T) (hx : a.eval x = .pointer (some ⟨g, j * 3, none⟩)) (hy : a.eval y = .agg #[.int .u64 t.a, .int .u64 t.s, .int .i64 t.p])
    (hown : Own w base (.slice (some ⟨g, 0, none⟩) n c) cur) (hn : cur.length = n) (hj : j < n)
    (h : ∀ w', Own w' base (.slice (some ⟨g, 0, none⟩) n c) (cur.set j t) → w.grownBy w' (some g) → wpList Try.prog ops Q rest (a.put op.dst undef) w') : wpList Try.prog ops Q (op :: rest) a w := by
  subst hn
  have h0 : w.ownsRow base 30 3 (.slice (some ⟨g, 0, none⟩) cur.length c) cur.length (encs cur) := hown
  have there : w.there g (j * 3) 3 := fun i hi => by
    have hg := encs_get cur j hj
    refine ⟨?_, h0.frozenAt _⟩
    rw [h0.cellAt _ (by omega)]
    have hlt : j * 3 + i < (encs cur).length := by rw [encs_len]; omega
    rw [List.getElem?_eq_getElem hlt]
    rfl
  refine wpList_store_mid hgd 30 x y ho g (j * 3) _ hx hy there info30s (all_oneCell_toArray (encs_one' [t])) (h _ ?_ ?_)
  · have h1 := (h0.stored (j * 3) (.int .u64 t.a)).1
    have h2 := (h1.stored (j * 3 + 1) (.int .u64 t.s)).1
    have h3 := (h2.stored (j * 3 + 2) (.int .i64 t.p)).1
    rw [← encs_set cur j t hj] at h3
    unfold Own
    rw [List.length_set]
    exact h3
  · refine ⟨rfl, rfl, rfl, ?_, fun k _ hk => ?_⟩
    · simp [World.setCells, World.setCell]
    · have hne : k ≠ g := fun e => hk (by rw [e])
      show ((((w.setCell ⟨g, j * 3, none⟩ _).setCell ⟨g, j * 3 + 1, none⟩ _).setCell ⟨g, j * 3 + 2, none⟩ _)).heap[k]? = _
      rw [Below.heap_setCell _ _ _ _ hne, Below.heap_setCell _ _ _ _ hne, Below.heap_setCell _ _ _ _ hne]
theorem swap_perm (l : List T) (j k : Nat) (hj : j < l.length) (hk : k < l.length) : ((l.set j (l.getD k default)).set k (l.getD j default)).Perm l := by
  have e := Array.swap_perm (xs := l.toArray) (i := j) (j := k) (by simpa using hj) (by simpa using hk)
  have e2 := e.toList
  have ej : l.getD j default = l[j] := by simp [List.getD_eq_getElem?_getD, List.getElem?_eq_getElem hj]
  have ek : l.getD k default = l[k] := by simp [List.getD_eq_getElem?_getD, List.getElem?_eq_getElem hk]
  rw [ej, ek]
  simpa [Array.swap] using e2
end Go.Proofs.Ytbbhgmdpafhbeaa
