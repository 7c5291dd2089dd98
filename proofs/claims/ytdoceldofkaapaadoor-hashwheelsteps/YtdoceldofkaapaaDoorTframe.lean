/-
  What is known of memory: what lay there stays, a row of timers lies in cells, a slice is a list of timers, a slice of its own.
-/
import Derived.Test.YtdoceldofkaapaaDoorTmath
import Derived.Test.YtdoceldofkaapaaDoorFrame
set_option linter.unusedVariables false
set_option linter.unusedSimpArgs false
namespace Go.Proofs.YtdoceldofkaapaaDoor
open Go.RowKit

theorem eql_no (x y : T) (h : ¬ x = y) (w : World) :
   (binOp .eql 41 (.agg #[.int .u64 x.a, .int .u64 x.s, .int .i64 x.p]) (.agg #[.int .u64 y.a, .int .u64 y.s, .int .i64 y.p])).run Tryd.prog w = .ok (.bool false) w := by
  rw [T.eq_iff] at h
  by_cases ha : x.a = y.a
  · by_cases hs : x.s = y.s
    · have hp : x.p ≠ y.p := fun e => h ⟨ha, hs, e⟩
      simp [go_sem, ha, hs, hp]
    · simp [go_sem, ha, hs]
  · simp [go_sem, ha]
theorem eql_yes (x y : T) (h : x = y) (w : World) :
   (binOp .eql 41 (.agg #[.int .u64 x.a, .int .u64 x.s, .int .i64 x.p]) (.agg #[.int .u64 y.a, .int .u64 y.s, .int .i64 y.p])).run Tryd.prog w = .ok (.bool true) w := by
  subst h
  simp [go_sem]
theorem neq_yes (x y : T) (h : ¬ x = y) (w : World) :
   (binOp .neq 41 (.agg #[.int .u64 x.a, .int .u64 x.s, .int .i64 x.p]) (.agg #[.int .u64 y.a, .int .u64 y.s, .int .i64 y.p])).run Tryd.prog w = .ok (.bool true) w := by
  rw [T.eq_iff] at h
  by_cases ha : x.a = y.a
  · by_cases hs : x.s = y.s
    · have hp : x.p ≠ y.p := fun e => h ⟨ha, hs, e⟩
      simp [go_sem, ha, hs, hp]
    · simp [go_sem, ha, hs]
  · simp [go_sem, ha]
theorem neq_no (x y : T) (h : x = y) (w : World) :
   (binOp .neq 41 (.agg #[.int .u64 x.a, .int .u64 x.s, .int .i64 x.p]) (.agg #[.int .u64 y.a, .int .u64 y.s, .int .i64 y.p])).run Tryd.prog w = .ok (.bool false) w := by
  subst h
  simp [go_sem]

/-- A timer, as a value. -/
abbrev tv (t : T) : Value := .agg #[.int .u64 t.a, .int .u64 t.s, .int .i64 t.p]
/-- A timer's three cells. -/
def enc (t : T) : List Value := [.int .u64 t.a, .int .u64 t.s, .int .i64 t.p]
def encs (l : List T) : List Value := l.flatMap enc
theorem encs_append (l m : List T) : encs (l ++ m) = encs l ++ encs m := by unfold encs; rw [List.flatMap_append]
theorem encs_nil : encs [] = [] := rfl
theorem encs_one (t : T) : encs [t] = [.int .u64 t.a, .int .u64 t.s, .int .i64 t.p] := rfl
theorem encs_len : ∀ l : List T, (encs l).length = l.length * 3
  | [] => rfl
  | x :: r => by
    have := encs_len r
    show (enc x ++ encs r).length = _
    rw [List.length_append, this]
    simp [enc]; omega
theorem encs_get : ∀ (l : List T) (i : Nat), i < l.length →
    (encs l)[i * 3]? = some (.int .u64 (l.getD i default).a) ∧ (encs l)[i * 3 + 1]? = some (.int .u64 (l.getD i default).s) ∧ (encs l)[i * 3 + 2]? = some (.int .i64 (l.getD i default).p)
  | [], i, h => by simp at h
  | x :: r, 0, h => ⟨rfl, rfl, rfl⟩
  | x :: r, i + 1, h => by
    have ih := encs_get r i (by simpa using h)
    have e : encs (x :: r) = enc x ++ encs r := rfl
    have q : ∀ j, (encs (x :: r))[(i + 1) * 3 + j]? = (encs r)[i * 3 + j]? := fun j => by
      rw [e, List.getElem?_append_right (by simp [enc]; omega)]
      congr 1
      simp [enc]; omega
    have q0 := q 0
    simp only [Nat.add_zero] at q0
    rw [q0, q 1, q 2]
    simpa using ih
theorem encs_one' (l : List T) : ∀ u ∈ encs l, u.oneCell' = true := by
  intro u hu
  unfold encs at hu
  rw [List.mem_flatMap] at hu
  obtain ⟨x, _, hx⟩ := hu
  simp [enc] at hx
  rcases hx with rfl | rfl | rfl <;> rfl

/-- A row of timers lies at a place of a block. -/
def Row (w : World) (b off : Nat) (l : List T) : Prop := ∀ i, i < l.length →
  w.cell? ⟨b, off + i * 3, none⟩ = some (.int .u64 (l.getD i default).a) ∧ w.cell? ⟨b, off + i * 3 + 1, none⟩ = some (.int .u64 (l.getD i default).s) ∧ w.cell? ⟨b, off + i * 3 + 2, none⟩ = some (.int .i64 (l.getD i default).p)
theorem Row.bel {w w' : World} {b off : Nat} {l : List T} (h : Row w b off l) (k : Bel w w') : Row w' b off l :=
  fun i hi => ⟨k.cell (h i hi).1, k.cell (h i hi).2.1, k.cell (h i hi).2.2⟩
/-- What a slice's address tells: the timers lie there; of no timers nothing is known of it. -/
def Has (w : World) (p : Option Addr) (l : List T) : Prop := l = [] ∨ ∃ b off, p = some ⟨b, off, none⟩ ∧ Row w b off l
theorem Has.bel {w w' : World} {p : Option Addr} {l : List T} (h : Has w p l) (k : Bel w w') : Has w' p l := by
  rcases h with h | ⟨b, off, e, h⟩
  · exact .inl h
  · exact .inr ⟨b, off, e, h.bel k⟩
theorem Has.row {w : World} {p : Option Addr} {l : List T} (h : Has w p l) (h0 : 0 < l.length) : ∃ b off, p = some ⟨b, off, none⟩ ∧ Row w b off l := by
  rcases h with rfl | h
  · simp at h0
  · exact h
theorem Has.nil (w : World) (p : Option Addr) : Has w p [] := .inl rfl
theorem getD_take (l : List T) (c i : Nat) (h : i < c) : (l.take c).getD i default = l.getD i default := by
  simp [List.getD_eq_getElem?_getD, h]
theorem getD_drop (l : List T) (c i : Nat) : (l.drop c).getD i default = l.getD (c + i) default := by
  simp [List.getD_eq_getElem?_getD, List.getElem?_drop]
theorem Row.take {w : World} {b off : Nat} {l : List T} (h : Row w b off l) (c : Nat) : Row w b off (l.take c) := by
  intro i hi
  have hi' : i < c ∧ i < l.length := by simp at hi; omega
  rw [getD_take l c i hi'.1]
  exact h i hi'.2
theorem Row.drop {w : World} {b off : Nat} {l : List T} (h : Row w b off l) (c : Nat) : Row w b (off + c * 3) (l.drop c) := by
  intro i hi
  have hi' : c + i < l.length := by simp at hi; omega
  rw [getD_drop l c i]
  have k := h (c + i) hi'
  rw [show off + (c + i) * 3 = off + c * 3 + i * 3 by omega] at k
  exact k
theorem Has.take {w : World} {p : Option Addr} {l : List T} (h : Has w p l) (c : Nat) : Has w p (l.take c) := by
  rcases h with rfl | ⟨b, off, e, h⟩
  · exact .inl (by simp)
  · exact .inr ⟨b, off, e, h.take c⟩
theorem addr_add (b off j : Nat) : (⟨b, off, none⟩ : Addr).add j = ⟨b, off + j, none⟩ := by unfold Addr.add; split <;> simp_all
theorem Has.drop {w : World} {p : Option Addr} {l : List T} (h : Has w p l) (c : Nat) : Has w (p.map (·.add (c * 3))) (l.drop c) := by
  rcases h with rfl | ⟨b, off, rfl, h⟩
  · exact .inl (by simp)
  · exact .inr ⟨b, off + c * 3, by rw [Option.map_some, addr_add], h.drop c⟩
theorem Has.cut {w : World} {p : Option Addr} {l : List T} {n cap : Nat} (h : Has w p l) (hn : l.length = n) (hc : n ≤ cap) (c : Nat) : Has w (if cap = c then p else p.map (·.add (c * 3))) (l.drop c) := by
  by_cases e : cap = c
  · rw [if_pos e]; exact .inl (List.drop_eq_nil_of_le (by omega))
  · rw [if_neg e]; exact h.drop c
/-- What a call hands back: a slice that is this list. -/
def Out (w : World) (e : Ending) (l : List T) : Prop := ∃ p cap, e = .returned (.slice p l.length cap) ∧ l.length ≤ cap ∧ Has w p l
theorem row_news {w : World} {b off : Nat} {l : List T} (h : Row w b off l) : ∀ j u, (encs l)[j]? = some u → w.cell? ((⟨b, off, none⟩ : Addr).add j) = some u := by
  intro j u hu
  have hj : j < l.length * 3 := by rw [← encs_len]; exact (List.getElem?_eq_some_iff.1 hu).1
  have hadd : (⟨b, off, none⟩ : Addr).add j = ⟨b, off + j, none⟩ := by unfold Addr.add; split <;> simp_all
  rw [hadd]
  have hi : j / 3 < l.length := by omega
  have hr := h (j / 3) hi
  have hg := encs_get l (j / 3) hi
  rcases (show j = j / 3 * 3 ∨ j = j / 3 * 3 + 1 ∨ j = j / 3 * 3 + 2 by omega) with e | e | e
  · rw [← e] at hr hg; rw [hr.1]; rw [hg.1] at hu; exact hu
  · have e' : off + j / 3 * 3 + 1 = off + j := by omega
    rw [e'] at hr; rw [← e] at hg; rw [hr.2.1]; rw [hg.2.1] at hu; exact hu
  · have e' : off + j / 3 * 3 + 2 = off + j := by omega
    rw [e'] at hr; rw [← e] at hg; rw [hr.2.2]; rw [hg.2.2] at hu; exact hu
/-- A slice of the call's own, of these timers. -/
def OwnT (w : World) (base : Nat) (v : Value) (l : List T) : Prop := w.ownsRow base 41 3 v l.length (encs l)
theorem OwnT.slice {w : World} {base : Nat} {v : Value} {l : List T} (h : OwnT w base v l) :
    ∃ p cap, v = .slice p l.length cap ∧ l.length ≤ cap ∧ cap ≤ maxLen ∧ Has w p l := by
  rcases h.2 with ⟨rfl, h0⟩ | ⟨g, cap, cur, rfl, hb, hg, hc, hm, hs, ht⟩
  · have : l = [] := List.eq_nil_of_length_eq_zero h0
    subst this
    exact ⟨none, 0, rfl, by simp, by simp, .inl rfl⟩
  · refine ⟨_, cap, rfl, hc, hm, .inr ⟨g, 0, rfl, fun i hi => ?_⟩⟩
    have hown : w.ownsRow base 41 3 (.slice (some ⟨g, 0, none⟩) l.length cap) l.length (encs l) := h
    have hg := encs_get l i hi
    simp only [Nat.zero_add]
    refine ⟨?_, ?_, ?_⟩
    · rw [hown.cellAt _ (by omega)]; exact hg.1
    · rw [hown.cellAt _ (by omega)]; exact hg.2.1
    · rw [hown.cellAt _ (by omega)]; exact hg.2.2
theorem OwnT.out {w : World} {base : Nat} {v : Value} {l : List T} (h : OwnT w base v l) : Out w (.returned v) l := by
  obtain ⟨p, cap, rfl, hc, _, hl⟩ := h.slice
  exact ⟨p, cap, rfl, hc, hl⟩
theorem OwnT.bel {w w' : World} {base : Nat} {v : Value} {l : List T} (h : OwnT w base v l) (hb : Bel w w') : OwnT w' base v l := by
  refine ⟨h.1, ?_⟩
  rcases h.2 with hn | ⟨g, cap, cur, rfl, hbb, hgg, rest⟩
  · exact .inl hn
  · exact .inr ⟨g, cap, cur, rfl, hbb, hb.heap hgg, rest⟩
theorem OwnT.nil (w : World) (base : Nat) : OwnT w base (.slice none 0 0) [] := World.ownsRow_nil w base 41 3
theorem OwnT.empty (w : World) (base : Nat) (hb : base ≤ w.heap.size) : OwnT (w.alloc (.cells #[] 41)) base (.slice (some ⟨w.heap.size, 0, none⟩) 0 0) [] :=
  World.ownsRow_made w #[] 0 hb (by simp) (by simp)
/-- Behind an append to a slice of the call's own nothing that lay below has turned. -/
theorem OwnT.grown {W w w1 : World} {v : Value} {l : List T} (hB : Bel W w) (h : OwnT w W.heap.size v l) (_ : W.heap.size ≤ w.heap.size) (hg : w.grownBy w1 v.ownBlock) : Bel W w1 :=
  Off.grown hB hg fun k hk => .inr (h.lt k hk).1
theorem rowG_row {w : World} {b off : Nat} {l : List T} (h : RowG w b off (encs l)) : Row w b off l := fun i hi =>
  ⟨h _ _ (encs_get l i hi).1, h _ _ (encs_get l i hi).2.1, h _ _ (encs_get l i hi).2.2⟩
theorem row_rowG {w : World} {b off : Nat} {l : List T} (h : Row w b off l) : RowG w b off (encs l) := fun j u hu => by
  have k := row_news h j u hu
  rw [addr_add] at k
  exact k
theorem Lies.has {f : Nat → Prop} {w : World} {p : Option Addr} {l : List T} (h : Lies f w p (encs l)) : Has w p l := by
  by_cases h0 : l = []
  · exact .inl h0
  · rcases h with h | ⟨b, off, e, _, h⟩
    · exfalso
      have := encs_len l
      rw [h] at this
      have h2 : l.length = 0 := by simp only [List.length_nil] at this; omega
      exact h0 (List.eq_nil_of_length_eq_zero h2)
    · exact .inr ⟨b, off, e, rowG_row h⟩
theorem Has.lies {w : World} {p : Option Addr} {l : List T} (h : Has w p l) : Lies nof w p (encs l) := by
  rcases h with rfl | ⟨b, off, e, h⟩
  · exact .inl rfl
  · exact .inr ⟨b, off, e, fun e => e, row_rowG h⟩
/-- What a call hands back: a slice of new memory that is this list. -/
def OutN (w w' : World) (e : Ending) (l : List T) : Prop := ∃ p cap, e = .returned (.slice p l.length cap) ∧ l.length ≤ cap ∧ Lies (old w) w' p (encs l)
theorem OwnT.lies {w w' : World} {base : Nat} {v : Value} {l : List T} (h : OwnT w' base v l) (hb : w.heap.size ≤ base) : ∃ p cap, v = .slice p l.length cap ∧ l.length ≤ cap ∧ Lies (old w) w' p (encs l) := by
  have h0 : w'.ownsRow 0 41 3 v l.length (encs l) := by
    refine ⟨h.1, ?_⟩
    rcases h.2 with h1 | ⟨g, cap, cur, e1, e2, rest⟩
    · exact .inl h1
    · exact .inr ⟨g, cap, cur, e1, Nat.zero_le _, rest⟩
  obtain ⟨p, cap, e, h1, _, h3⟩ := own_slice h0 (old w) (fun k hk => by have := (h.lt k hk).1; unfold old; omega)
  exact ⟨p, cap, e, h1, h3⟩
theorem OwnT.outN {w w' : World} {base : Nat} {v : Value} {l : List T} (h : OwnT w' base v l) (hb : w.heap.size ≤ base) : OutN w w' (.returned v) l := by
  obtain ⟨p, cap, rfl, h1, h2⟩ := h.lies hb
  exact ⟨p, cap, rfl, h1, h2⟩
theorem info41 : (Tryd.prog.info? 41).map (fun i => (i.zero, i.size, i.bytes)) = some (some (.agg #[.int .u64 0, .int .u64 0, .int .i64 0]), 3, 24) := by kernel_rfl
/-- append(out, xs...), out of the call's own, xs whatever slice of timers. -/
theorem append_any (w : World) (ty : TypeId) (base : Nat) (v : Value) (l : List T) (hown : OwnT w base v l) (p : Option Addr) (m c : Nat) (xs : List T) (hm : xs.length = m) (hx : Has w p xs)
    (h63 : l.length + m ≤ 1000000) (hbase : base ≤ w.heap.size) :
    ∃ v' w', (Builtin.append_ #[36, 36] ty #[v, .slice p m c]).run Tryd.prog w = .ok v' w' ∧ OwnT w' base v' (l ++ xs) ∧ w.grownBy w' v.ownBlock ∧ (v' = .slice none 0 0 ↔ v = .slice none 0 0 ∧ m = 0) := by
  obtain ⟨i0, hi, hz0, hz1, hz2⟩ := info_parts info41
  subst hm
  have key : ∀ ad : Addr, (∀ j u, (encs xs)[j]? = some u → w.cell? (ad.add j) = some u) →
      ∃ v' w', (Builtin.append_ #[36, 36] ty #[v, .slice (some ad) xs.length c]).run Tryd.prog w = .ok v' w' ∧ OwnT w' base v' (l ++ xs) ∧ w.grownBy w' v.ownBlock ∧ (v' = .slice none 0 0 ↔ v = .slice none 0 0 ∧ xs.length = 0) := by
    intro ad hn
    obtain ⟨v', w', h1, h2, h3, h4⟩ := run_append_own (P := Tryd.prog) w base 36 ty 41 i0 _ 3 24 Tryd.underlying36 hi hz0 hz1 hz2 rfl (by decide) v l.length (encs l) hown ad xs.length c (encs xs) (encs_len xs) hn (encs_one' xs) (by unfold maxLen; omega) (by omega) hbase
    refine ⟨v', w', h1, ?_, h3, h4⟩
    unfold OwnT
    rw [List.length_append, encs_append]
    exact h2
  rcases hx with rfl | ⟨b, off, rfl, hr⟩
  · cases p with
    | none =>
      refine ⟨v, w, ?_, by simpa using hown, World.grownBy.refl _ _, by simp⟩
      exact run_append_owned_none (P := Tryd.prog) w base 36 ty 41 i0 3 Tryd.underlying36 hi v l.length (encs l) hown 
    | some ad => exact key ad (by simp [encs_nil])
  · exact key _ (row_news hr)
theorem wpList_append_any {w : World} {ops : Array Oper} {rest : List Oper} {o : Oper} {a : Act} {Q : Exit → Act → World → Prop} (hgd : o.guard = none) (s x : Operand)
    (ho : o.op = .call { callee := .builtin .append, args := #[s, x], argTypes := #[36, 36] })
    (base : Nat) (v : Value) (l : List T) (hs : a.eval s = v) (hown : OwnT w base v l) (p : Option Addr) (m c : Nat) (xs : List T) (hx : a.eval x = .slice p m c) (hm : xs.length = m) (hHas : Has w p xs)
    (h63 : l.length + m ≤ 1000000) (hbase : base ≤ w.heap.size)
    (h : ∀ v' w', OwnT w' base v' (l ++ xs) → w.grownBy w' v.ownBlock → (v' = .slice none 0 0 ↔ v = .slice none 0 0 ∧ m = 0) → wpList Tryd.prog ops Q rest (a.put o.dst v') w') : wpList Tryd.prog ops Q (o :: rest) a w :=
  wpList_plain hgd fun K hK => by
    obtain ⟨v', w', hr, h2, h3, h4⟩ := append_any w o.type base v l hown p m c xs hm hHas h63 hbase
    unfold Oper.wp execOp
    simp only [ho, resolve, invoke, builtin, Sem.run_bind, Sem.run_pure, Result.andThen_ok, List.map_toArray, List.map_cons, List.map_nil, hs, hx, hr]
    exact hK _ _ (h v' w' h2 h3 h4)
end Go.Proofs.YtdoceldofkaapaaDoor
