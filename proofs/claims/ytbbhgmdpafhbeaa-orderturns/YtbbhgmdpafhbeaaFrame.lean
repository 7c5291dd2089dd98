/-
  What is known of memory: what lay there stays, a row of timers lies in cells, a slice is a list of timers, a slice of its own.
-/
import Derived.Test.YtbbhgmdpafhbeaaMath
import Derived.Test.YtbbhgmdpafhbeaaRows
import Derived.WalkKit
import Derived.WalkSpells
import Derived.WalkLawsBesides
import Derived.Lib.Hide
import Derived.RowKit3
import Derived.Deep.RegionHeld3
import Derived.Deep.AppendLies
import Derived.Laws.AppendOwnNone
import Derived.Laws.OwnMore
import Derived.Below
import Derived.Outline
namespace Go.Proofs.Ytbbhgmdpafhbeaa
open Go.RowKit

theorem cell_later {w w' : World} (hb : Below w.heap.size w w') {p : Addr} {v : Value} (h : w.cell? p = some v) : w'.cell? p = some v :=
  (hb.cell (World.block_lt_of_cell? w _ h)).trans h
/-- The later world is the earlier one with new blocks behind it, and nothing of what was there has turned. -/
def Bel (w w' : World) : Prop := Below w.heap.size w w'
theorem Bel.refl (w : World) : Bel w w := Below.refl _ w
theorem Bel.alloc {a w : World} (h : Bel a w) (c : Array Value) (t : TypeId) : Bel a (w.alloc (.cells c t)) := Below.alloc h (Below.size h) _
theorem Bel.drew {a w : World} (h : Bel a w) : Bel a w.drew := by
  have k : Below a.heap.size a w := h
  exact ⟨k.os, k.tape, k.output, k.size, k.block⟩
theorem Bel.drewN {a w : World} (h : Bel a w) (n : Nat) : Bel a (w.drewN n) := by
  have k : Below a.heap.size a w := h
  exact ⟨k.os, k.tape, k.output, k.size, k.block⟩
theorem Bel.setCell {a w : World} (h : Bel a w) {p : Addr} (hp : a.heap.size ≤ p.block) (v : Value) : Bel a (w.setCell p v) := Below.setCell h hp v
theorem Bel.trans {a b c : World} (h : Bel a b) (k : Bel b c) : Bel a c := Below.trans h (Below.mono k (Below.size h))
theorem Bel.size {a b : World} (h : Bel a b) : a.heap.size ≤ b.heap.size := Below.size h
theorem Bel.cell {a b : World} (h : Bel a b) {p : Addr} {v : Value} (hc : a.cell? p = some v) : b.cell? p = some v := cell_later h hc
theorem Bel.froz {a b : World} (h : Bel a b) {p : Addr} {v : Value} (hc : a.cell? p = some v) (hf : a.frozen? p = false) : b.frozen? p = false :=
  (Below.frozen h (World.block_lt_of_cell? a _ hc)).trans hf

theorem ret_int {k : IntKind} {x y : Int} (h : x = y) : Ending.returned (.int k x) = .returned (.int k y) := by rw [h]
theorem ret_bool {x y : Bool} (h : x = y) : Ending.returned (.bool x) = .returned (.bool y) := by rw [h]

theorem i64_in (x : Int) (h0 : -9223372036854775808 ≤ x) (h1 : x < 9223372036854775808) : IntKind.i64.wrap x = x := by rw [IntKind.wrap_i64]; omega
theorem eql_no (x y : T) (h : ¬ x = y) (w : World) :
   (binOp .eql 30 (.agg #[.int .u64 x.a, .int .u64 x.s, .int .i64 x.p]) (.agg #[.int .u64 y.a, .int .u64 y.s, .int .i64 y.p])).run Try.prog w = .ok (.bool false) w := by
  rw [T.eq_iff] at h
  by_cases ha : x.a = y.a
  · by_cases hs : x.s = y.s
    · have hp : x.p ≠ y.p := fun e => h ⟨ha, hs, e⟩
      simp [go_sem, ha, hs, hp]
    · simp [go_sem, ha, hs]
  · simp [go_sem, ha]
theorem eql_yes (x y : T) (h : x = y) (w : World) :
   (binOp .eql 30 (.agg #[.int .u64 x.a, .int .u64 x.s, .int .i64 x.p]) (.agg #[.int .u64 y.a, .int .u64 y.s, .int .i64 y.p])).run Try.prog w = .ok (.bool true) w := by
  subst h
  simp [go_sem]
theorem neq_yes (x y : T) (h : ¬ x = y) (w : World) :
   (binOp .neq 30 (.agg #[.int .u64 x.a, .int .u64 x.s, .int .i64 x.p]) (.agg #[.int .u64 y.a, .int .u64 y.s, .int .i64 y.p])).run Try.prog w = .ok (.bool true) w := by
  rw [T.eq_iff] at h
  by_cases ha : x.a = y.a
  · by_cases hs : x.s = y.s
    · have hp : x.p ≠ y.p := fun e => h ⟨ha, hs, e⟩
      simp [go_sem, ha, hs, hp]
    · simp [go_sem, ha, hs]
  · simp [go_sem, ha]
theorem neq_no (x y : T) (h : x = y) (w : World) :
   (binOp .neq 30 (.agg #[.int .u64 x.a, .int .u64 x.s, .int .i64 x.p]) (.agg #[.int .u64 y.a, .int .u64 y.s, .int .i64 y.p])).run Try.prog w = .ok (.bool false) w := by
  subst h
  simp [go_sem]

/-- A timer, as a value. -/
abbrev tv (t : T) : Value := .agg #[.int .u64 t.a, .int .u64 t.s, .int .i64 t.p]
/-- A timer's three cells. -/
def enc (t : T) : List Value := [.int .u64 t.a, .int .u64 t.s, .int .i64 t.p]
def encs (l : List T) : List Value := l.flatMap enc
theorem encs_append (l m : List T) : encs (l ++ m) = encs l ++ encs m := by unfold encs; rw [List.flatMap_append]
theorem encs_nil : encs [] = [] := rfl
theorem encs_one (t : T) : encs [t] = [.int .u64 t.a, .int .u64 t.s, .int .i64 t.p] := rfl
theorem encs_len : ∀ l : List T, (encs l).length = l.length * 3
  | [] => rfl
  | x :: r => by
    have := encs_len r
    show (enc x ++ encs r).length = _
    rw [List.length_append, this]
    simp [enc]; omega
theorem encs_get : ∀ (l : List T) (i : Nat), i < l.length →
    (encs l)[i * 3]? = some (.int .u64 (l.getD i default).a) ∧ (encs l)[i * 3 + 1]? = some (.int .u64 (l.getD i default).s) ∧ (encs l)[i * 3 + 2]? = some (.int .i64 (l.getD i default).p)
  | [], i, h => by simp at h
  | x :: r, 0, h => ⟨rfl, rfl, rfl⟩
  | x :: r, i + 1, h => by
    have ih := encs_get r i (by simpa using h)
    have e : encs (x :: r) = enc x ++ encs r := rfl
    have q : ∀ j, (encs (x :: r))[(i + 1) * 3 + j]? = (encs r)[i * 3 + j]? := fun j => by
      rw [e, List.getElem?_append_right (by simp [enc]; omega)]
      congr 1
      simp [enc]; omega
    have q0 := q 0
    simp only [Nat.add_zero] at q0
    rw [q0, q 1, q 2]
    simpa using ih
theorem encs_one' (l : List T) : ∀ u ∈ encs l, u.oneCell' = true := by
  intro u hu
  unfold encs at hu
  rw [List.mem_flatMap] at hu
  obtain ⟨x, _, hx⟩ := hu
  simp [enc] at hx
  rcases hx with rfl | rfl | rfl <;> rfl

/-- A row of timers lies at a place of a block. -/
def Row (w : World) (b off : Nat) (l : List T) : Prop := ∀ i, i < l.length →
  w.cell? ⟨b, off + i * 3, none⟩ = some (.int .u64 (l.getD i default).a) ∧ w.cell? ⟨b, off + i * 3 + 1, none⟩ = some (.int .u64 (l.getD i default).s) ∧ w.cell? ⟨b, off + i * 3 + 2, none⟩ = some (.int .i64 (l.getD i default).p)
theorem Row.bel {w w' : World} {b off : Nat} {l : List T} (h : Row w b off l) (k : Bel w w') : Row w' b off l :=
  fun i hi => ⟨k.cell (h i hi).1, k.cell (h i hi).2.1, k.cell (h i hi).2.2⟩
/-- What a slice's address tells: the timers lie there; of no timers nothing is known of it. -/
def Has (w : World) (p : Option Addr) (l : List T) : Prop := l = [] ∨ ∃ b off, p = some ⟨b, off, none⟩ ∧ Row w b off l
theorem Has.bel {w w' : World} {p : Option Addr} {l : List T} (h : Has w p l) (k : Bel w w') : Has w' p l := by
  rcases h with h | ⟨b, off, e, h⟩
  · exact .inl h
  · exact .inr ⟨b, off, e, h.bel k⟩
theorem Has.row {w : World} {p : Option Addr} {l : List T} (h : Has w p l) (h0 : 0 < l.length) : ∃ b off, p = some ⟨b, off, none⟩ ∧ Row w b off l := by
  rcases h with rfl | h
  · simp at h0
  · exact h
theorem Has.nil (w : World) (p : Option Addr) : Has w p [] := .inl rfl
theorem getD_take (l : List T) (c i : Nat) (h : i < c) : (l.take c).getD i default = l.getD i default := by
  simp [List.getD_eq_getElem?_getD, h]
theorem getD_drop (l : List T) (c i : Nat) : (l.drop c).getD i default = l.getD (c + i) default := by
  simp [List.getD_eq_getElem?_getD, List.getElem?_drop]
theorem Row.take {w : World} {b off : Nat} {l : List T} (h : Row w b off l) (c : Nat) : Row w b off (l.take c) := by
  intro i hi
  have hi' : i < c ∧ i < l.length := by simp at hi; omega
  rw [getD_take l c i hi'.1]
  exact h i hi'.2
theorem Row.drop {w : World} {b off : Nat} {l : List T} (h : Row w b off l) (c : Nat) : Row w b (off + c * 3) (l.drop c) := by
  intro i hi
  have hi' : c + i < l.length := by simp at hi; omega
  rw [getD_drop l c i]
  have k := h (c + i) hi'
  rw [show off + (c + i) * 3 = off + c * 3 + i * 3 by omega] at k
  exact k
theorem Has.take {w : World} {p : Option Addr} {l : List T} (h : Has w p l) (c : Nat) : Has w p (l.take c) := by
  rcases h with rfl | ⟨b, off, e, h⟩
  · exact .inl (by simp)
  · exact .inr ⟨b, off, e, h.take c⟩
theorem addr_add (b off j : Nat) : (⟨b, off, none⟩ : Addr).add j = ⟨b, off + j, none⟩ := by unfold Addr.add; split <;> simp_all
theorem Has.drop {w : World} {p : Option Addr} {l : List T} (h : Has w p l) (c : Nat) : Has w (p.map (·.add (c * 3))) (l.drop c) := by
  rcases h with rfl | ⟨b, off, rfl, h⟩
  · exact .inl (by simp)
  · exact .inr ⟨b, off + c * 3, by rw [Option.map_some, addr_add], h.drop c⟩
theorem Has.cut {w : World} {p : Option Addr} {l : List T} {n cap : Nat} (h : Has w p l) (hn : l.length = n) (hc : n ≤ cap) (c : Nat) : Has w (if cap = c then p else p.map (·.add (c * 3))) (l.drop c) := by
  by_cases e : cap = c
  · rw [if_pos e]; exact .inl (List.drop_eq_nil_of_le (by omega))
  · rw [if_neg e]; exact h.drop c
/-- What a call hands back: a slice that is this list. -/
def Out (w : World) (e : Ending) (l : List T) : Prop := ∃ p cap, e = .returned (.slice p l.length cap) ∧ l.length ≤ cap ∧ Has w p l
theorem row_news {w : World} {b off : Nat} {l : List T} (h : Row w b off l) : ∀ j u, (encs l)[j]? = some u → w.cell? ((⟨b, off, none⟩ : Addr).add j) = some u := by
  intro j u hu
  have hj : j < l.length * 3 := by rw [← encs_len]; exact (List.getElem?_eq_some_iff.1 hu).1
  have hadd : (⟨b, off, none⟩ : Addr).add j = ⟨b, off + j, none⟩ := by unfold Addr.add; split <;> simp_all
  rw [hadd]
  have hi : j / 3 < l.length := by omega
  have hr := h (j / 3) hi
  have hg := encs_get l (j / 3) hi
  rcases (show j = j / 3 * 3 ∨ j = j / 3 * 3 + 1 ∨ j = j / 3 * 3 + 2 by omega) with e | e | e
  · rw [← e] at hr hg; rw [hr.1]; rw [hg.1] at hu; exact hu
  · have e' : off + j / 3 * 3 + 1 = off + j := by omega
    rw [e'] at hr; rw [← e] at hg; rw [hr.2.1]; rw [hg.2.1] at hu; exact hu
  · have e' : off + j / 3 * 3 + 2 = off + j := by omega
    rw [e'] at hr; rw [← e] at hg; rw [hr.2.2]; rw [hg.2.2] at hu; exact hu
/-- A slice of the call's own, of these timers. -/
def Own (w : World) (base : Nat) (v : Value) (l : List T) : Prop := w.ownsRow base 30 3 v l.length (encs l)
theorem Own.slice {w : World} {base : Nat} {v : Value} {l : List T} (h : Own w base v l) :
    ∃ p cap, v = .slice p l.length cap ∧ l.length ≤ cap ∧ cap ≤ maxLen ∧ Has w p l := by
  rcases h.2 with ⟨rfl, h0⟩ | ⟨g, cap, cur, rfl, hb, hg, hc, hm, hs, ht⟩
  · have : l = [] := List.eq_nil_of_length_eq_zero h0
    subst this
    exact ⟨none, 0, rfl, by simp, by simp, .inl rfl⟩
  · refine ⟨_, cap, rfl, hc, hm, .inr ⟨g, 0, rfl, fun i hi => ?_⟩⟩
    have hown : w.ownsRow base 30 3 (.slice (some ⟨g, 0, none⟩) l.length cap) l.length (encs l) := h
    have hg := encs_get l i hi
    simp only [Nat.zero_add]
    refine ⟨?_, ?_, ?_⟩
    · rw [hown.cellAt _ (by omega)]; exact hg.1
    · rw [hown.cellAt _ (by omega)]; exact hg.2.1
    · rw [hown.cellAt _ (by omega)]; exact hg.2.2
theorem Own.out {w : World} {base : Nat} {v : Value} {l : List T} (h : Own w base v l) : Out w (.returned v) l := by
  obtain ⟨p, cap, rfl, hc, _, hl⟩ := h.slice
  exact ⟨p, cap, rfl, hc, hl⟩
theorem Own.bel {w w' : World} {base : Nat} {v : Value} {l : List T} (h : Own w base v l) (hb : Bel w w') : Own w' base v l := by
  refine ⟨h.1, ?_⟩
  rcases h.2 with hn | ⟨g, cap, cur, rfl, hbb, hgg, rest⟩
  · exact .inl hn
  · refine .inr ⟨g, cap, cur, rfl, hbb, ?_, rest⟩
    have k : Below w.heap.size w w' := hb
    rw [k.block g (Array.getElem?_eq_some_iff.1 hgg).1]
    exact hgg
theorem Own.nil (w : World) (base : Nat) : Own w base (.slice none 0 0) [] := World.ownsRow_nil w base 30 3
theorem Own.empty (w : World) (base : Nat) (hb : base ≤ w.heap.size) : Own (w.alloc (.cells #[] 30)) base (.slice (some ⟨w.heap.size, 0, none⟩) 0 0) [] :=
  World.ownsRow_made w #[] 0 hb (by simp) (by simp)
/-- Behind an append to a slice of the call's own nothing that lay below has turned. -/
theorem Own.grown {W w w1 : World} {base : Nat} {v : Value} {l : List T} (hB : Below base W w) (h : Own w base v l) (hb : base ≤ w.heap.size) (hg : w.grownBy w1 v.ownBlock) : Below base W w1 :=
  hB.grown hg hb fun k hk => (h.lt k hk).1

theorem info30 : (Try.prog.info? 30).map (fun i => (i.zero, i.size, i.bytes)) = some (some (.agg #[.int .u64 0, .int .u64 0, .int .i64 0]), 3, 24) := by kernel_rfl
/-- append(out, xs...), out of the call's own, xs whatever slice of timers. -/
theorem append_any (w : World) (ty : TypeId) (base : Nat) (v : Value) (l : List T) (hown : Own w base v l) (p : Option Addr) (m c : Nat) (xs : List T) (hm : xs.length = m) (hx : Has w p xs)
    (h63 : l.length + m ≤ 1000000) (hbase : base ≤ w.heap.size) :
    ∃ v' w', (Builtin.append_ #[22, 22] ty #[v, .slice p m c]).run Try.prog w = .ok v' w' ∧ Own w' base v' (l ++ xs) ∧ w.grownBy w' v.ownBlock ∧ (v' = .slice none 0 0 ↔ v = .slice none 0 0 ∧ m = 0) := by
  obtain ⟨i0, hi, hz0, hz1, hz2⟩ := info_parts info30
  subst hm
  have key : ∀ ad : Addr, (∀ j u, (encs xs)[j]? = some u → w.cell? (ad.add j) = some u) →
      ∃ v' w', (Builtin.append_ #[22, 22] ty #[v, .slice (some ad) xs.length c]).run Try.prog w = .ok v' w' ∧ Own w' base v' (l ++ xs) ∧ w.grownBy w' v.ownBlock ∧ (v' = .slice none 0 0 ↔ v = .slice none 0 0 ∧ xs.length = 0) := by
    intro ad hn
    obtain ⟨v', w', h1, h2, h3, h4⟩ := run_append_own (P := Try.prog) w base 22 ty 30 i0 _ 3 24 Try.underlying22 hi hz0 hz1 hz2 rfl (by decide) v l.length (encs l) hown ad xs.length c (encs xs) (encs_len xs) hn (encs_one' xs) (by unfold maxLen; omega) (by omega) hbase
    refine ⟨v', w', h1, ?_, h3, h4⟩
    unfold Own
    rw [List.length_append, encs_append]
    exact h2
  rcases hx with rfl | ⟨b, off, rfl, hr⟩
  · cases p with
    | none =>
      refine ⟨v, w, ?_, by simpa using hown, World.grownBy.refl _ _, by simp⟩
      exact run_append_owned_none (P := Try.prog) w base 22 ty 30 i0 3 Try.underlying22 hi v l.length (encs l) hown 
    | some ad => exact key ad (by simp [encs_nil])
  · exact key _ (row_news hr)
theorem wpList_append_any {w : World} {ops : Array Oper} {rest : List Oper} {o : Oper} {a : Act} {Q : Exit → Act → World → Prop} (hgd : o.guard = none) (s x : Operand)
    (ho : o.op = .call { callee := .builtin .append, args := #[s, x], argTypes := #[22, 22] })
    (base : Nat) (v : Value) (l : List T) (hs : a.eval s = v) (hown : Own w base v l) (p : Option Addr) (m c : Nat) (xs : List T) (hx : a.eval x = .slice p m c) (hm : xs.length = m) (hHas : Has w p xs)
    (h63 : l.length + m ≤ 1000000) (hbase : base ≤ w.heap.size)
    (h : ∀ v' w', Own w' base v' (l ++ xs) → w.grownBy w' v.ownBlock → (v' = .slice none 0 0 ↔ v = .slice none 0 0 ∧ m = 0) → wpList Try.prog ops Q rest (a.put o.dst v') w') : wpList Try.prog ops Q (o :: rest) a w :=
  wpList_plain hgd fun K hK => by
    obtain ⟨v', w', hr, h2, h3, h4⟩ := append_any w o.type base v l hown p m c xs hm hHas h63 hbase
    unfold Oper.wp execOp
    simp only [ho, resolve, invoke, builtin, Sem.run_bind, Sem.run_pure, Result.andThen_ok, List.map_toArray, List.map_cons, List.map_nil, hs, hx, hr]
    exact hK _ _ (h v' w' h2 h3 h4)
end Go.Proofs.Ytbbhgmdpafhbeaa
