/-
  What is known of memory: what lay there stays, a row of timers lies in cells, a slice is a list of timers, a slice of its own.
  Contracts of chain's small calls: hasPlace, hasList, isIn, end, forward, backward, alone, join, put.
  What each act answers and leaves, over a plain list of timers in order; small facts on boxes.
-/
import Derived.Test.YtdoceldofkaapaaGreatDoorXaa
import Derived.Test.YtdoceldofkaapaaGreatDoorFrame
import Derived.Deep.QuietTactic
import Derived.BigQuiet
import Derived.RegionTactic
import Derived.StillTailTactics
import Derived.Deep.Cut
set_option linter.unusedVariables false
set_option linter.unusedSimpArgs false
namespace Go.Proofs.YtdoceldofkaapaaGreatDoor
open Go.RowKit

theorem eql_no (x y : T) (h : ¬ x = y) (w : World) :
   (binOp .eql 37 (.agg #[.int .u64 x.a, .int .u64 x.s, .int .i64 x.p]) (.agg #[.int .u64 y.a, .int .u64 y.s, .int .i64 y.p])).run Tryz.prog w = .ok (.bool false) w := by
  rw [T.eq_iff] at h
  by_cases ha : x.a = y.a
  · by_cases hs : x.s = y.s
    · have hp : x.p ≠ y.p := fun e => h ⟨ha, hs, e⟩
      simp [go_sem, ha, hs, hp]
    · simp [go_sem, ha, hs]
  · simp [go_sem, ha]
theorem eql_yes (x y : T) (h : x = y) (w : World) :
   (binOp .eql 37 (.agg #[.int .u64 x.a, .int .u64 x.s, .int .i64 x.p]) (.agg #[.int .u64 y.a, .int .u64 y.s, .int .i64 y.p])).run Tryz.prog w = .ok (.bool true) w := by
  subst h
  simp [go_sem]
theorem neq_yes (x y : T) (h : ¬ x = y) (w : World) :
   (binOp .neq 37 (.agg #[.int .u64 x.a, .int .u64 x.s, .int .i64 x.p]) (.agg #[.int .u64 y.a, .int .u64 y.s, .int .i64 y.p])).run Tryz.prog w = .ok (.bool true) w := by
  rw [T.eq_iff] at h
  by_cases ha : x.a = y.a
  · by_cases hs : x.s = y.s
    · have hp : x.p ≠ y.p := fun e => h ⟨ha, hs, e⟩
      simp [go_sem, ha, hs, hp]
    · simp [go_sem, ha, hs]
  · simp [go_sem, ha]
theorem neq_no (x y : T) (h : x = y) (w : World) :
   (binOp .neq 37 (.agg #[.int .u64 x.a, .int .u64 x.s, .int .i64 x.p]) (.agg #[.int .u64 y.a, .int .u64 y.s, .int .i64 y.p])).run Tryz.prog w = .ok (.bool false) w := by
  subst h
  simp [go_sem]

/-- A timer, as a value. -/
abbrev tv (t : T) : Value := .agg #[.int .u64 t.a, .int .u64 t.s, .int .i64 t.p]
/-- A timer's three cells. -/
def enc (t : T) : List Value := [.int .u64 t.a, .int .u64 t.s, .int .i64 t.p]
def encs (l : List T) : List Value := l.flatMap enc
theorem encs_append (l m : List T) : encs (l ++ m) = encs l ++ encs m := by unfold encs; rw [List.flatMap_append]
theorem encs_nil : encs [] = [] := rfl
theorem encs_one (t : T) : encs [t] = [.int .u64 t.a, .int .u64 t.s, .int .i64 t.p] := rfl
theorem encs_len : ∀ l : List T, (encs l).length = l.length * 3
  | [] => rfl
  | x :: r => by
    have := encs_len r
    show (enc x ++ encs r).length = _
    rw [List.length_append, this]
    simp [enc]; omega
theorem encs_get : ∀ (l : List T) (i : Nat), i < l.length →
    (encs l)[i * 3]? = some (.int .u64 (l.getD i default).a) ∧ (encs l)[i * 3 + 1]? = some (.int .u64 (l.getD i default).s) ∧ (encs l)[i * 3 + 2]? = some (.int .i64 (l.getD i default).p)
  | [], i, h => by simp at h
  | x :: r, 0, h => ⟨rfl, rfl, rfl⟩
  | x :: r, i + 1, h => by
    have ih := encs_get r i (by simpa using h)
    have e : encs (x :: r) = enc x ++ encs r := rfl
    have q : ∀ j, (encs (x :: r))[(i + 1) * 3 + j]? = (encs r)[i * 3 + j]? := fun j => by
      rw [e, List.getElem?_append_right (by simp [enc]; omega)]
      congr 1
      simp [enc]; omega
    have q0 := q 0
    simp only [Nat.add_zero] at q0
    rw [q0, q 1, q 2]
    simpa using ih
theorem encs_one' (l : List T) : ∀ u ∈ encs l, u.oneCell' = true := by
  intro u hu
  unfold encs at hu
  rw [List.mem_flatMap] at hu
  obtain ⟨x, _, hx⟩ := hu
  simp [enc] at hx
  rcases hx with rfl | rfl | rfl <;> rfl

/-- A row of timers lies at a place of a block. -/
def Row (w : World) (b off : Nat) (l : List T) : Prop := ∀ i, i < l.length →
  w.cell? ⟨b, off + i * 3, none⟩ = some (.int .u64 (l.getD i default).a) ∧ w.cell? ⟨b, off + i * 3 + 1, none⟩ = some (.int .u64 (l.getD i default).s) ∧ w.cell? ⟨b, off + i * 3 + 2, none⟩ = some (.int .i64 (l.getD i default).p)
theorem Row.bel {w w' : World} {b off : Nat} {l : List T} (h : Row w b off l) (k : Bel w w') : Row w' b off l :=
  fun i hi => ⟨k.cell (h i hi).1, k.cell (h i hi).2.1, k.cell (h i hi).2.2⟩
/-- What a slice's address tells: the timers lie there; of no timers nothing is known of it. -/
def Has (w : World) (p : Option Addr) (l : List T) : Prop := l = [] ∨ ∃ b off, p = some ⟨b, off, none⟩ ∧ Row w b off l
theorem Has.bel {w w' : World} {p : Option Addr} {l : List T} (h : Has w p l) (k : Bel w w') : Has w' p l := by
  rcases h with h | ⟨b, off, e, h⟩
  · exact .inl h
  · exact .inr ⟨b, off, e, h.bel k⟩
theorem Has.row {w : World} {p : Option Addr} {l : List T} (h : Has w p l) (h0 : 0 < l.length) : ∃ b off, p = some ⟨b, off, none⟩ ∧ Row w b off l := by
  rcases h with rfl | h
  · simp at h0
  · exact h
theorem Has.nil (w : World) (p : Option Addr) : Has w p [] := .inl rfl
theorem getD_take (l : List T) (c i : Nat) (h : i < c) : (l.take c).getD i default = l.getD i default := by
  simp [List.getD_eq_getElem?_getD, h]
theorem getD_drop (l : List T) (c i : Nat) : (l.drop c).getD i default = l.getD (c + i) default := by
  simp [List.getD_eq_getElem?_getD, List.getElem?_drop]
theorem Row.take {w : World} {b off : Nat} {l : List T} (h : Row w b off l) (c : Nat) : Row w b off (l.take c) := by
  intro i hi
  have hi' : i < c ∧ i < l.length := by simp at hi; omega
  rw [getD_take l c i hi'.1]
  exact h i hi'.2
theorem Row.drop {w : World} {b off : Nat} {l : List T} (h : Row w b off l) (c : Nat) : Row w b (off + c * 3) (l.drop c) := by
  intro i hi
  have hi' : c + i < l.length := by simp at hi; omega
  rw [getD_drop l c i]
  have k := h (c + i) hi'
  rw [show off + (c + i) * 3 = off + c * 3 + i * 3 by omega] at k
  exact k
theorem Has.take {w : World} {p : Option Addr} {l : List T} (h : Has w p l) (c : Nat) : Has w p (l.take c) := by
  rcases h with rfl | ⟨b, off, e, h⟩
  · exact .inl (by simp)
  · exact .inr ⟨b, off, e, h.take c⟩
theorem addr_add (b off j : Nat) : (⟨b, off, none⟩ : Addr).add j = ⟨b, off + j, none⟩ := by unfold Addr.add; split <;> simp_all
theorem Has.drop {w : World} {p : Option Addr} {l : List T} (h : Has w p l) (c : Nat) : Has w (p.map (·.add (c * 3))) (l.drop c) := by
  rcases h with rfl | ⟨b, off, rfl, h⟩
  · exact .inl (by simp)
  · exact .inr ⟨b, off + c * 3, by rw [Option.map_some, addr_add], h.drop c⟩
theorem Has.cut {w : World} {p : Option Addr} {l : List T} {n cap : Nat} (h : Has w p l) (hn : l.length = n) (hc : n ≤ cap) (c : Nat) : Has w (if cap = c then p else p.map (·.add (c * 3))) (l.drop c) := by
  by_cases e : cap = c
  · rw [if_pos e]; exact .inl (List.drop_eq_nil_of_le (by omega))
  · rw [if_neg e]; exact h.drop c
/-- What a call hands back: a slice that is this list. -/
def Out (w : World) (e : Ending) (l : List T) : Prop := ∃ p cap, e = .returned (.slice p l.length cap) ∧ l.length ≤ cap ∧ Has w p l
theorem row_news {w : World} {b off : Nat} {l : List T} (h : Row w b off l) : ∀ j u, (encs l)[j]? = some u → w.cell? ((⟨b, off, none⟩ : Addr).add j) = some u := by
  intro j u hu
  have hj : j < l.length * 3 := by rw [← encs_len]; exact (List.getElem?_eq_some_iff.1 hu).1
  have hadd : (⟨b, off, none⟩ : Addr).add j = ⟨b, off + j, none⟩ := by unfold Addr.add; split <;> simp_all
  rw [hadd]
  have hi : j / 3 < l.length := by omega
  have hr := h (j / 3) hi
  have hg := encs_get l (j / 3) hi
  rcases (show j = j / 3 * 3 ∨ j = j / 3 * 3 + 1 ∨ j = j / 3 * 3 + 2 by omega) with e | e | e
  · rw [← e] at hr hg; rw [hr.1]; rw [hg.1] at hu; exact hu
  · have e' : off + j / 3 * 3 + 1 = off + j := by omega
    rw [e'] at hr; rw [← e] at hg; rw [hr.2.1]; rw [hg.2.1] at hu; exact hu
  · have e' : off + j / 3 * 3 + 2 = off + j := by omega
    rw [e'] at hr; rw [← e] at hg; rw [hr.2.2]; rw [hg.2.2] at hu; exact hu
/-- A slice of the call's own, of these timers. -/
def OwnT (w : World) (base : Nat) (v : Value) (l : List T) : Prop := w.ownsRow base 37 3 v l.length (encs l)
theorem OwnT.slice {w : World} {base : Nat} {v : Value} {l : List T} (h : OwnT w base v l) :
    ∃ p cap, v = .slice p l.length cap ∧ l.length ≤ cap ∧ cap ≤ maxLen ∧ Has w p l := by
  rcases h.2 with ⟨rfl, h0⟩ | ⟨g, cap, cur, rfl, hb, hg, hc, hm, hs, ht⟩
  · have : l = [] := List.eq_nil_of_length_eq_zero h0
    subst this
    exact ⟨none, 0, rfl, by simp, by simp, .inl rfl⟩
  · refine ⟨_, cap, rfl, hc, hm, .inr ⟨g, 0, rfl, fun i hi => ?_⟩⟩
    have hown : w.ownsRow base 37 3 (.slice (some ⟨g, 0, none⟩) l.length cap) l.length (encs l) := h
    have hg := encs_get l i hi
    simp only [Nat.zero_add]
    refine ⟨?_, ?_, ?_⟩
    · rw [hown.cellAt _ (by omega)]; exact hg.1
    · rw [hown.cellAt _ (by omega)]; exact hg.2.1
    · rw [hown.cellAt _ (by omega)]; exact hg.2.2
theorem OwnT.out {w : World} {base : Nat} {v : Value} {l : List T} (h : OwnT w base v l) : Out w (.returned v) l := by
  obtain ⟨p, cap, rfl, hc, _, hl⟩ := h.slice
  exact ⟨p, cap, rfl, hc, hl⟩
theorem OwnT.bel {w w' : World} {base : Nat} {v : Value} {l : List T} (h : OwnT w base v l) (hb : Bel w w') : OwnT w' base v l := by
  refine ⟨h.1, ?_⟩
  rcases h.2 with hn | ⟨g, cap, cur, rfl, hbb, hgg, rest⟩
  · exact .inl hn
  · exact .inr ⟨g, cap, cur, rfl, hbb, hb.heap hgg, rest⟩
theorem OwnT.nil (w : World) (base : Nat) : OwnT w base (.slice none 0 0) [] := World.ownsRow_nil w base 37 3
theorem OwnT.empty (w : World) (base : Nat) (hb : base ≤ w.heap.size) : OwnT (w.alloc (.cells #[] 37)) base (.slice (some ⟨w.heap.size, 0, none⟩) 0 0) [] :=
  World.ownsRow_made w #[] 0 hb (by simp) (by simp)
/-- Behind an append to a slice of the call's own nothing that lay below has turned. -/
theorem OwnT.grown {W w w1 : World} {v : Value} {l : List T} (hB : Bel W w) (h : OwnT w W.heap.size v l) (_ : W.heap.size ≤ w.heap.size) (hg : w.grownBy w1 v.ownBlock) : Bel W w1 :=
  Off.grown hB hg fun k hk => .inr (h.lt k hk).1
theorem rowG_row {w : World} {b off : Nat} {l : List T} (h : RowG w b off (encs l)) : Row w b off l := fun i hi =>
  ⟨h _ _ (encs_get l i hi).1, h _ _ (encs_get l i hi).2.1, h _ _ (encs_get l i hi).2.2⟩
theorem row_rowG {w : World} {b off : Nat} {l : List T} (h : Row w b off l) : RowG w b off (encs l) := fun j u hu => by
  have k := row_news h j u hu
  rw [addr_add] at k
  exact k
theorem Lies.has {f : Nat → Prop} {w : World} {p : Option Addr} {l : List T} (h : Lies f w p (encs l)) : Has w p l := by
  by_cases h0 : l = []
  · exact .inl h0
  · rcases h with h | ⟨b, off, e, _, h⟩
    · exfalso
      have := encs_len l
      rw [h] at this
      have h2 : l.length = 0 := by simp only [List.length_nil] at this; omega
      exact h0 (List.eq_nil_of_length_eq_zero h2)
    · exact .inr ⟨b, off, e, rowG_row h⟩
theorem Has.lies {w : World} {p : Option Addr} {l : List T} (h : Has w p l) : Lies nof w p (encs l) := by
  rcases h with rfl | ⟨b, off, e, h⟩
  · exact .inl rfl
  · exact .inr ⟨b, off, e, fun e => e, row_rowG h⟩
/-- What a call hands back: a slice of new memory that is this list. -/
def OutN (w w' : World) (e : Ending) (l : List T) : Prop := ∃ p cap, e = .returned (.slice p l.length cap) ∧ l.length ≤ cap ∧ Lies (old w) w' p (encs l)
theorem OwnT.lies {w w' : World} {base : Nat} {v : Value} {l : List T} (h : OwnT w' base v l) (hb : w.heap.size ≤ base) : ∃ p cap, v = .slice p l.length cap ∧ l.length ≤ cap ∧ Lies (old w) w' p (encs l) := by
  have h0 : w'.ownsRow 0 37 3 v l.length (encs l) := by
    refine ⟨h.1, ?_⟩
    rcases h.2 with h1 | ⟨g, cap, cur, e1, e2, rest⟩
    · exact .inl h1
    · exact .inr ⟨g, cap, cur, e1, Nat.zero_le _, rest⟩
  obtain ⟨p, cap, e, h1, _, h3⟩ := own_slice h0 (old w) (fun k hk => by have := (h.lt k hk).1; unfold old; omega)
  exact ⟨p, cap, e, h1, h3⟩
theorem OwnT.outN {w w' : World} {base : Nat} {v : Value} {l : List T} (h : OwnT w' base v l) (hb : w.heap.size ≤ base) : OutN w w' (.returned v) l := by
  obtain ⟨p, cap, rfl, h1, h2⟩ := h.lies hb
  exact ⟨p, cap, rfl, h1, h2⟩
theorem info37 : (Tryz.prog.info? 37).map (fun i => (i.zero, i.size, i.bytes)) = some (some (.agg #[.int .u64 0, .int .u64 0, .int .i64 0]), 3, 24) := by kernel_rfl
/-- append(out, xs...), out of the call's own, xs whatever slice of timers. -/
theorem append_any (w : World) (ty : TypeId) (base : Nat) (v : Value) (l : List T) (hown : OwnT w base v l) (p : Option Addr) (m c : Nat) (xs : List T) (hm : xs.length = m) (hx : Has w p xs)
    (h63 : l.length + m ≤ 1000000) (hbase : base ≤ w.heap.size) :
    ∃ v' w', (Builtin.append_ #[29, 29] ty #[v, .slice p m c]).run Tryz.prog w = .ok v' w' ∧ OwnT w' base v' (l ++ xs) ∧ w.grownBy w' v.ownBlock ∧ (v' = .slice none 0 0 ↔ v = .slice none 0 0 ∧ m = 0) := by
  obtain ⟨i0, hi, hz0, hz1, hz2⟩ := info_parts info37
  subst hm
  have key : ∀ ad : Addr, (∀ j u, (encs xs)[j]? = some u → w.cell? (ad.add j) = some u) →
      ∃ v' w', (Builtin.append_ #[29, 29] ty #[v, .slice (some ad) xs.length c]).run Tryz.prog w = .ok v' w' ∧ OwnT w' base v' (l ++ xs) ∧ w.grownBy w' v.ownBlock ∧ (v' = .slice none 0 0 ↔ v = .slice none 0 0 ∧ xs.length = 0) := by
    intro ad hn
    obtain ⟨v', w', h1, h2, h3, h4⟩ := run_append_own (P := Tryz.prog) w base 29 ty 37 i0 _ 3 24 Tryz.underlying29 hi hz0 hz1 hz2 rfl (by decide) v l.length (encs l) hown ad xs.length c (encs xs) (encs_len xs) hn (encs_one' xs) (by unfold maxLen; omega) (by omega) hbase
    refine ⟨v', w', h1, ?_, h3, h4⟩
    unfold OwnT
    rw [List.length_append, encs_append]
    exact h2
  rcases hx with rfl | ⟨b, off, rfl, hr⟩
  · cases p with
    | none =>
      refine ⟨v, w, ?_, by simpa using hown, World.grownBy.refl _ _, by simp⟩
      exact run_append_owned_none (P := Tryz.prog) w base 29 ty 37 i0 3 Tryz.underlying29 hi v l.length (encs l) hown 
    | some ad => exact key ad (by simp [encs_nil])
  · exact key _ (row_news hr)
theorem wpList_append_any {w : World} {ops : Array Oper} {rest : List Oper} {o : Oper} {a : Act} {Q : Exit → Act → World → Prop} (hgd : o.guard = none) (s x : Operand)
    (ho : o.op = .call { callee := .builtin .append, args := #[s, x], argTypes := #[29, 29] })
    (base : Nat) (v : Value) (l : List T) (hs : a.eval s = v) (hown : OwnT w base v l) (p : Option Addr) (m c : Nat) (xs : List T) (hx : a.eval x = .slice p m c) (hm : xs.length = m) (hHas : Has w p xs)
    (h63 : l.length + m ≤ 1000000) (hbase : base ≤ w.heap.size)
    (h : ∀ v' w', OwnT w' base v' (l ++ xs) → w.grownBy w' v.ownBlock → (v' = .slice none 0 0 ↔ v = .slice none 0 0 ∧ m = 0) → wpList Tryz.prog ops Q rest (a.put o.dst v') w') : wpList Tryz.prog ops Q (o :: rest) a w :=
  wpList_plain hgd fun K hK => by
    obtain ⟨v', w', hr, h2, h3, h4⟩ := append_any w o.type base v l hown p m c xs hm hHas h63 hbase
    unfold Oper.wp execOp
    simp only [ho, resolve, invoke, builtin, Sem.run_bind, Sem.run_pure, Result.andThen_ok, List.map_toArray, List.map_cons, List.map_nil, hs, hx, hr]
    exact hK _ _ (h v' w' h2 h3 h4)
end Go.Proofs.YtdoceldofkaapaaGreatDoor
namespace Go.Proofs.YtdoceldofkaapaaGreatDoor
open Go.RowKit
/-- Is there such a place? -/
def hp (P : Nat) (i : Int) : Bool := decide (0 ≤ i) && decide (i < P)
theorem hp_nat {P : Nat} {i : Int} (h : hp P i = true) : ∃ k : Nat, i = k ∧ k < P := by
  unfold hp at h
  simp only [Bool.and_eq_true, decide_eq_true_eq] at h
  exact ⟨i.toNat, by omega, by omega⟩
theorem hp_yes {P k : Nat} (h : k < P) : hp P k = true := by unfold hp; simp; omega
theorem hp_no {P : Nat} {i : Int} (h : ¬ (0 ≤ i ∧ i < P)) : hp P i = false := by unfold hp; simp; omega
theorem hasPlace_any (B : Nat) (P : Nat) (i : Int) (w : World) (h : w.cell? ⟨B, 0, none⟩ = some (.int .i64 P)) :
    Calls Tryz.prog 84 #[.pointer (some ⟨B, 0, none⟩), .int .i64 i] w fun e w' => e = .returned (.bool (hp P i)) ∧ w = w' := by
  unfold hp
  by_cases h0 : 0 ≤ i
  · go_enter Tryz.func84, Tryz.ntmps84
    go_wp2
    go_ret
    exact ⟨ret_bool (by simp [h0]), rfl⟩
  · go_enter Tryz.func84, Tryz.ntmps84
    go_wp2
    go_ret
    exact ⟨ret_bool (by simp; omega), rfl⟩
theorem end_any (B : Nat) (P : Nat) (i : Nat) (w : World) (h : w.cell? ⟨B, 0, none⟩ = some (.int .i64 P)) (hP : P ≤ 1024) (hi : i ≤ 1024) :
    Calls Tryz.prog 113 #[.pointer (some ⟨B, 0, none⟩), .int .i64 i] w fun e w' => e = .returned (.int .i64 ((P + i : Nat) : Int)) ∧ w = w' := by
  go_enter Tryz.func113, Tryz.ntmps113
  go_wp2
  go_ret
  exact ⟨ret_int (by omega), rfl⟩
theorem hasList_any (B : Nat) (P L : Nat) (p : Option Addr) (i : Int) (w : World) (h : w.cell? ⟨B, 0, none⟩ = some (.int .i64 P)) (h1 : w.cell? ⟨B, 1, none⟩ = some (.slice p (P + L) (P + L))) (hP : P ≤ 1024) (hL : L ≤ 1024) :
    Calls Tryz.prog 118 #[.pointer (some ⟨B, 0, none⟩), .int .i64 i] w fun e w' => e = .returned (.bool (hp L i)) ∧ ∃ k, w' = w.drewN k := by
  have hs : IntKind.i64.wrap ((P + L : Nat) - (P : Int)) = L := by rw [i64_in _ (by omega) (by omega)]; omega
  unfold hp
  generalize P + L = N at *
  by_cases h0 : 0 ≤ i
  · have hd : decide (0 ≤ i) = true := decide_eq_true h0
    go_enter Tryz.func118, Tryz.ntmps118
    go_wp2
    go_quiet (fail)
    go_wp2
    go_ret
    exact ⟨ret_bool (by simp [hd]), _, rfl⟩
  · have hd : decide (0 ≤ i) = false := decide_eq_false h0
    go_enter Tryz.func118, Tryz.ntmps118
    go_wp2
    go_quiet (fail)
    go_wp2
    go_ret
    exact ⟨ret_bool (by simp [hd]), _, rfl⟩
theorem isIn_any (B G P L : Nat) (g : Rg) (k : Nat) (w : World) (h : Chn w B G P L g) (hk : k < P + L) (hs : P + L ≤ 2048) :
    Calls Tryz.prog 85 #[.pointer (some ⟨B, 0, none⟩), .int .i64 k] w fun e w' => e = .returned (.bool (!decide ((g k).li = -1))) ∧ w = w' := by
  obtain ⟨c0, c1⟩ := h.head
  obtain ⟨a0, a1, a2, _⟩ := h.at hk
  generalize (g k).li = v at *
  generalize P + L = N at *
  clear h
  go_enter Tryz.func85, Tryz.ntmps85
  go_wp2
  go_ret
  exact ⟨ret_bool rfl, rfl⟩
theorem forward_any (a b : Int) (w : World) :
    Calls Tryz.prog 120 #[.agg #[.int .i64 a, .int .i64 b]] w fun e w' => e = .returned (.int .i64 b) ∧ Bel w w' := by
  go_enter Tryz.func120, Tryz.ntmps120
  go_wp2
  go_ret
  exact ⟨rfl, (Bel.refl _).alloc _ _⟩
theorem alone_any (w : World) :
    Calls Tryz.prog 112 #[] w fun e w' => e = .returned (.agg #[.int .i64 (-1), .int .i64 (-1), .int .i64 (-1)]) ∧ Bel w w' := by
  go_enter Tryz.func112, Tryz.ntmps112
  go_wp2
  refine bodyPost_ret (v := .agg #[.int .i64 (-1), .int .i64 (-1), .int .i64 (-1)]) (by simp [results, Tryz.results112, go_sem]) rfl ⟨rfl, ?_⟩
  exact (Bel.refl _).alloc _ _
theorem join_any (B G P L : Nat) (g : Rg) (a b : Nat) (w : World) (h : Chn w B G P L g) (ha : a < P + L) (hb : b < P + L) (hs : P + L ≤ 2048) :
    Calls Tryz.prog 114 #[.pointer (some ⟨B, 0, none⟩), .int .i64 a, .int .i64 b] w fun e w' => e = .returned (.tuple #[]) ∧ Chn w' B G P L (joinG g a b) ∧ Off (Only G) w w' := by
  obtain ⟨c0, c1⟩ := h.head
  obtain ⟨_, a1, _, fz⟩ := h.at ha
  obtain ⟨k1, o1⟩ := h.putB ha b
  obtain ⟨b0, _, _, fz2⟩ := k1.at hb
  obtain ⟨k2, o2⟩ := k1.putA hb a
  obtain ⟨d0, d1⟩ := k1.head
  have HR : Hid (Chn ((w.setCell ⟨G, a * 3 + 1, none⟩ (.int .i64 b)).setCell ⟨G, b * 3, none⟩ (.int .i64 a)) B G P L (joinG g a b) ∧ Off (Only G) w ((w.setCell ⟨G, a * 3 + 1, none⟩ (.int .i64 b)).setCell ⟨G, b * 3, none⟩ (.int .i64 a))) := Lib.hid ⟨k2, o1.then o2⟩
  have z1 := fz (a * 3 + 1)
  have z2 := fz2 (b * 3)
  generalize (g a).bh = u at *
  generalize (upB g a b b).ah = u2 at *
  clear k1 k2 h o1 o2 fz fz2
  generalize P + L = N at *
  go_enter Tryz.func114, Tryz.ntmps114
  go_upto_region 2 with (fail)
  generalize hW : w.setCell ⟨G, a * 3 + 1, none⟩ (.int .i64 b) = W at *
  clear hW
  go_wp2
  go_end0
  exact ⟨rfl, HR.out⟩
end Go.Proofs.YtdoceldofkaapaaGreatDoor
namespace Go.Proofs.YtdoceldofkaapaaGreatDoor
open Go.RowKit
/-- A timer's place. -/
def pl (t : T) : Nat := t.p.toNat
/-- The places of a list. -/
def pls (l : List T) : List Nat := l.map pl
/-- The one at a place. -/
def fnd (l : List T) (k : Int) : Option T := l.find? fun t => decide (t.p = k)
theorem fnd_some {l : List T} {k : Int} {t : T} (h : fnd l k = some t) : t ∈ l ∧ t.p = k := by
  unfold fnd at h
  refine ⟨List.mem_of_find?_eq_some h, ?_⟩
  simpa using List.find?_some h
theorem fnd_none {l : List T} {k : Int} (h : fnd l k = none) : ∀ t ∈ l, ¬ t.p = k := by
  unfold fnd at h
  intro t ht
  simpa using List.find?_eq_none.1 h t ht
/-- What is told of a timer, if there is one. -/
def ansT : Option T → Value
  | some t => .tuple #[.agg #[.int .u64 t.a, .int .u64 t.s, .int .i64 t.p], .bool true]
  | none => .tuple #[.agg #[.int .u64 0, .int .u64 0, .int .i64 0], .bool false]
theorem box3 {w : World} {T : Nat} {a b c : Value} {t : TypeId} (h : w.heap[T]? = some (.cells #[a, b, c] t (0, 0))) :
    (w.cell? ⟨T, 0, none⟩ = some a ∧ w.cell? ⟨T, 1, none⟩ = some b ∧ w.cell? ⟨T, 2, none⟩ = some c) ∧ (w.frozen? ⟨T, 0, none⟩ = false ∧ w.frozen? ⟨T, 1, none⟩ = false ∧ w.frozen? ⟨T, 2, none⟩ = false) := by
  refine ⟨⟨?_, ?_, ?_⟩, frozen_of_row w T _ _ t h, frozen_of_row w T _ _ t h, frozen_of_row w T _ _ t h⟩ <;> (rw [cell_of_row w T _ _ t (0, 0) h]; rfl)
theorem off3 (w : World) (T : Nat) (a b c : Value) : Off (fun k => k = T) w (((w.setCell ⟨T, 0, none⟩ a).setCell ⟨T, 1, none⟩ b).setCell ⟨T, 2, none⟩ c) :=
  Off.setCell (p := ⟨T, 2, none⟩) (off2 w T a b) (.inl rfl) c
theorem bel3 {w w' : World} (h : Bel w w') {T : Nat} (hT : w.heap.size ≤ T) (a b c : Value) : Bel w (((w'.setCell ⟨T, 0, none⟩ a).setCell ⟨T, 1, none⟩ b).setCell ⟨T, 2, none⟩ c) :=
  ((h.setCell (p := ⟨T, 0, none⟩) hT a).setCell (p := ⟨T, 1, none⟩) hT b).setCell (p := ⟨T, 2, none⟩) hT c
/-- Those at other places. -/
def wo (l : List T) (k : Int) : List T := l.filter fun t => !decide (t.p = k)
def canE (P : Nat) (l : List T) (k : Int) : Int := if hp P k = true then (if (fnd l k).isSome = true then 0 else 5) else 1
def insE (P : Nat) (l : List T) (t : T) : Int := if hp P t.p = true then (if (fnd l t.p).isSome = true then 4 else 0) else 1
def insL (P : Nat) (l : List T) (t : T) : List T := if insE P l t = 0 then put l t else l
def movL (P : Nat) (l : List T) (t : T) : List T := if canE P l t.p = 0 then put (wo l t.p) t else l
theorem wo_none {l : List T} {k : Int} (h : fnd l k = none) : wo l k = l := by
  unfold wo
  rw [List.filter_eq_self]
  intro t ht
  simpa using fnd_none h t ht
theorem fnd_wo (l : List T) (k : Int) : fnd (wo l k) k = none := by
  unfold fnd wo
  rw [List.find?_eq_none]
  intro t ht
  simpa using (List.mem_filter.1 ht).2
theorem wo_so {l : List T} (h : So l) (k : Int) : So (wo l k) := h.filter _
theorem canE_cases (P : Nat) (l : List T) (k : Int) : (¬ canE P l k = 0 ∧ (canE P l k = 1 ∧ hp P k = false ∨ canE P l k = 5 ∧ hp P k = true ∧ fnd l k = none)) ∨ (canE P l k = 0 ∧ ∃ j : Nat, k = j ∧ j < P ∧ ∃ x, fnd l j = some x) := by
  unfold canE
  cases hk : hp P k with
  | false => exact .inl ⟨by simp, .inl ⟨rfl, rfl⟩⟩
  | true =>
    obtain ⟨j, rfl, hj⟩ := hp_nat hk
    cases hf : fnd l j with
    | none => exact .inl ⟨by simp, .inr ⟨rfl, rfl, rfl⟩⟩
    | some x => exact .inr ⟨rfl, j, rfl, hj, x, hf⟩
theorem insE_wo {P : Nat} {l : List T} {t : T} {j : Nat} (e : t.p = j) (hj : j < P) : insE P (wo l t.p) t = 0 := by
  unfold insE
  rw [fnd_wo, e, hp_yes hj]
  rfl
theorem insE_cases (P : Nat) (l : List T) (t : T) : (insE P l t = 1 ∧ hp P t.p = false) ∨ (∃ k : Nat, t.p = k ∧ k < P ∧ ((insE P l t = 4 ∧ ∃ x, fnd l k = some x) ∨ (insE P l t = 0 ∧ fnd l k = none))) := by
  unfold insE
  cases hk : hp P t.p with
  | false => exact .inl ⟨rfl, rfl⟩
  | true =>
    obtain ⟨k, e, hk2⟩ := hp_nat hk
    refine .inr ⟨k, e, hk2, ?_⟩
    rw [e]
    cases hf : fnd l k with
    | none => exact .inr ⟨rfl, rfl⟩
    | some x => exact .inl ⟨rfl, x, rfl⟩
def canV (t : T) (er : Int) : Value := .tuple #[.agg #[.int .u64 t.a, .int .u64 t.s, .int .i64 t.p], .int .i64 er]
theorem So.at {d m : List T} {x : T} (h : So (d ++ x :: m)) : ∀ y ∈ m, x.a ≤ y.a := by
  intro y hy
  have h1 := (List.pairwise_append.1 h).2.1
  have h2 := (List.pairwise_cons.1 h1).1 y hy
  rw [lt_no] at h2
  unfold Lt at h2
  omega
theorem due_split {d m : List T} {now : Int} (h : So (d ++ m)) (hd : ∀ x ∈ d, x.a ≤ now) (hm : ∀ x ∈ m.head?, ¬ x.a ≤ now) : due (d ++ m) now true = d ∧ due (d ++ m) now false = m := by
  have hm2 : ∀ x ∈ m, ¬ x.a ≤ now := by
    cases m with
    | nil => intro x hx; simp at hx
    | cons y r =>
      have h1 := hm y (by simp)
      intro x hx
      rcases List.mem_cons.1 hx with rfl | hx
      · exact h1
      · have := h.at x hx; omega
  have e1 : d.filter (fun x => decide (x.a ≤ now) == true) = d := by rw [List.filter_eq_self]; intro x hx; simpa using hd x hx
  have e2 : m.filter (fun x => decide (x.a ≤ now) == true) = [] := by rw [List.filter_eq_nil_iff]; intro x hx; simpa using hm2 x hx
  have e3 : d.filter (fun x => decide (x.a ≤ now) == false) = [] := by rw [List.filter_eq_nil_iff]; intro x hx; simpa using hd x hx
  have e4 : m.filter (fun x => decide (x.a ≤ now) == false) = m := by rw [List.filter_eq_self]; intro x hx; simpa using hm2 x hx
  unfold due
  rw [List.filter_append, List.filter_append, e1, e2, e3, e4]
  simp
end Go.Proofs.YtdoceldofkaapaaGreatDoor
