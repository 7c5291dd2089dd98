/-
  Small facts on boxes, rows of the call's own, and an append in a drawn region.
  What holds in memory behind each slot that a Due visits.
-/
import Derived.Test.YtdoceldofkaapaaDoorPx
import Derived.RangeFuncBox
import Derived.Test.YtdoceldofkaapaaDoorAm4
import Derived.Test.YtdoceldofkaapaaDoorAsl
set_option linter.unusedVariables false
set_option linter.unusedSimpArgs false
namespace Go.Proofs.YtdoceldofkaapaaDoor
open Go.RowKit
theorem box1 {w : World} {T : Nat} {a : Value} {t : TypeId} (h : w.heap[T]? = some (.cells #[a] t (0, 0))) : w.cell? ⟨T, 0, none⟩ = some a ∧ w.frozen? ⟨T, 0, none⟩ = false :=
  ⟨by rw [cell_of_row w T _ _ t (0, 0) h]; rfl, frozen_of_row w T _ _ t h⟩
/-- A row of the call's own stays where no row of cells turns. -/
theorem OwnT.cells {w : World} {base : Nat} {v : Value} {l : List T} (h : OwnT w base v l) {k : Nat} (e : v.ownBlock = some k) : ∃ c, w.heap[k]? = some (.cells c 41 (0, 0)) := by
  rcases h.2 with ⟨rfl, _⟩ | ⟨g, cap, cur, rfl, hb, hg, _⟩
  · cases e
  · cases e; exact ⟨_, hg⟩
theorem OwnT.off2 {f : Nat → Prop} {w w' : World} {base : Nat} {v : Value} {l : List T} (h : OwnT w base v l) (hb : Off f w w') (hf : ∀ k, v.ownBlock = some k → ¬ f k) : OwnT w' base v l := by
  refine ⟨h.1, ?_⟩
  rcases h.2 with hn | ⟨g, cap, cur, rfl, hbb, hgg, rest⟩
  · exact .inl hn
  · exact .inr ⟨g, cap, cur, rfl, hbb, (hb.block g (Array.getElem?_eq_some_iff.1 hgg).1 (hf g rfl)).trans hgg, rest⟩
theorem own_has {w : World} {base n c : Nat} {p : Option Addr} {l : List T} (h : OwnT w base (.slice p n c) l) : Has w p l := by
  obtain ⟨p2, c2, e, _, _, h2⟩ := h.slice
  cases e
  exact h2
/-- Behind the lists V: the wheel is what is left; in the box D is what was taken. -/
theorem ty_ne {wr : World} {i j : Nat} {x y : Array Value} {a c : TypeId} (h : wr.heap[i]? = some (.cells x a (0, 0))) (k : wr.heap[j]? = some (.cells y c (0, 0))) (hne : a ≠ c) : i ≠ j := fun e => by
  subst e
  rw [h] at k
  injection k with k
  injection k with _ k _
  exact hne k
end Go.Proofs.YtdoceldofkaapaaDoor
namespace Go.Proofs.YtdoceldofkaapaaDoor.Ha
open Go.RowKit
theorem wpListIn_append_any {F : Fence} {n : Nat} {w : World} {ops : Array Oper} {rest : List Oper} {o : Oper} {a : Act} {Q : Exit → Act → World → Prop} (hgd : o.guard = none) (s x : Operand)
    (ho : o.op = .call { callee := .builtin .append, args := #[s, x], argTypes := #[36, 36] })
    (base : Nat) (v : Value) (l : List T) (hs : a.eval s = v) (hown : OwnT w base v l) (p : Option Addr) (m c : Nat) (xs : List T) (hx : a.eval x = .slice p m c) (hm : xs.length = m) (hHas : Has w p xs)
    (h63 : l.length + m ≤ 1000000) (hbase : base ≤ w.heap.size)
    (h : ∀ v' w', OwnT w' base v' (l ++ xs) → w.grownBy w' v.ownBlock → (v' = .slice none 0 0 ↔ v = .slice none 0 0 ∧ m = 0) → wpListIn F n Tryd.prog ops Q rest (a.put o.dst v') w') : wpListIn F n Tryd.prog ops Q (o :: rest) a w := by
  refine wpListIn_plain hgd fun K hK => ?_
  obtain ⟨v', w', hr, h2, h3, h4⟩ := append_any w o.type base v l hown p m c xs hm hHas h63 hbase
  unfold Oper.wpIn
  refine ⟨?_, ?_⟩
  · simp [Oper.about, ho, resolve, Target.leads, Sem.run_pure]
  · rw [Oper.semAt_plain F _ _ (by rw [ho]; intro c hc; cases hc)]
    simp [execOp, ho, resolve, invoke, builtin, hs, hx, hr, Result.andThen]
    exact hK _ _ (h v' w' h2 h3 h4)
theorem fo_lt {Q Z B G R i n : Nat} (h : Q < n ∧ Z < n ∧ B < n ∧ G < n ∧ R < n) : Fo Q G R i → i < n := fun e => by rcases e with e | e | e <;> omega
section
variable {w : World} {Q Z B G R P b : Nat} {s k : Int} {l : List T}
theorem Wh.cell (h : Wh w Q Z B G R P b s k l) : w.cell? ⟨Q, 1, none⟩ = some (.int .i64 (slo b : Nat)) ∧ w.cell? ⟨Q, 2, none⟩ = some (.int .u64 s) ∧ w.cell? ⟨Q, 7, none⟩ = some (.int .i64 k) ∧ ∀ j, w.frozen? ⟨Q, j, none⟩ = false := by
  obtain ⟨⟨ls, r, F, q1, q2⟩, q3⟩ := h
  exact ⟨q1.cell rfl, q1.cell rfl, q1.cell rfl, q1.froz⟩
theorem Wh.ty (h : Wh w Q Z B G R P b s k l) {i : Nat} (hi : Fo5 Q Z B G R i) : ∃ c t, w.heap[i]? = some (.cells c t (0, 0)) ∧ (t = 34 ∨ t = 78 ∨ t = 103 ∨ t = 100 ∨ (t = 41 ∧ i = R)) := by
  obtain ⟨⟨ls, r, F, q1, q2⟩, q3⟩ := h
  obtain ⟨⟨g, g1, _⟩, _⟩ := q1.ql
  rcases hi with rfl | rfl | rfl | rfl | rfl
  · exact ⟨_, _, q1.hQ, .inl rfl⟩
  · exact ⟨_, _, g1.hZ, .inr (.inl rfl)⟩
  · exact ⟨_, _, g1.ch.hB, .inr (.inr (.inl rfl))⟩
  · exact ⟨_, _, g1.ch.hG, .inr (.inr (.inr (.inl rfl)))⟩
  · exact ⟨_, _, g1.hR, .inr (.inr (.inr (.inr ⟨rfl, rfl⟩)))⟩
/-- How many were looked into is another number. -/
theorem Wh.looked (h : Wh w Q Z B G R P b s k l) (k' : Int) : Wh (w.setCell ⟨Q, 7, none⟩ (.int .i64 k')) Q Z B G R P b s k' l ∧ Off (Only Q) w (w.setCell ⟨Q, 7, none⟩ (.int .i64 k')) := by
  obtain ⟨⟨ls, r, F, q1, q2⟩, q3⟩ := h
  obtain ⟨a1, a2⟩ := q1.own (i := 7) (v := .int .i64 k') (cs' := hcells Z (slo b) s F k') (by omega) rfl
  exact ⟨⟨⟨ls, r, F, a1, q2⟩, q3.off a2 q3.only⟩, a2⟩
/-- The base has gone on, past none that pends. -/
theorem Wh.based (h : Wh w Q Z B G R P b s k l) (s' : Int) (hs' : Tk s') (he : ∀ x ∈ l, lof (slo b) s' x = lof (slo b) s x) : Wh (w.setCell ⟨Q, 2, none⟩ (.int .u64 s')) Q Z B G R P b s' k l ∧ Off (Only Q) w (w.setCell ⟨Q, 2, none⟩ (.int .u64 s')) := by
  obtain ⟨⟨ls, r, F, q1, q2⟩, q3⟩ := h
  obtain ⟨a1, a2⟩ := q1.own (i := 2) (v := .int .u64 s') (cs' := hcells Z (slo b) s' F k) (by omega) rfl
  have q4 : Rest w Q Z B G R b s' l := ⟨q3.hb, hs', q3.tl, q3.tab, q3.zs⟩
  exact ⟨⟨⟨ls, r, F, a1.other he, q2⟩, q4.off a2 q3.only⟩, a2⟩
end
/-- Behind the lists V: the wheel is what is left; in the box D is what was taken. -/
structure Ds (w : World) (Q Z B G R P b : Nat) (s k : Int) (l : List T) (now : Int) (V : List Nat) (bq bn D : Nat) (wr : World) : Prop where
  wh : Wh wr Q Z B G R P b s k (vsL (slo b) s now V l)
  cq : wr.heap[bq]? = some (.cells #[.pointer (some ⟨Q, 0, none⟩)] 25 (0, 0))
  cn : wr.heap[bn]? = some (.cells #[.int .u64 now] 22 (0, 0))
  du : ∃ v d, wr.heap[D]? = some (.cells #[v] 36 (0, 0)) ∧ OwnT wr w.heap.size v d ∧ d.Perm (vsA (slo b) s now V l)
  ge : w.heap.size ≤ bq ∧ w.heap.size ≤ bn ∧ w.heap.size ≤ D
  lw : Q < w.heap.size ∧ Z < w.heap.size ∧ B < w.heap.size ∧ G < w.heap.size ∧ R < w.heap.size
  off : Off (Fo Q G R) w wr
section
variable {w : World} {Q Z B G R P b : Nat} {s k : Int} {l : List T} {now : Int} {V : List Nat} {bq bn D : Nat} {wr wr' : World}
theorem fo4_lt {i n : Nat} (h : Q < n ∧ Z < n ∧ B < n ∧ G < n ∧ R < n) : Fo5 Q Z B G R i → i < n := fun e => by rcases e with e | e | e | e | e <;> omega
/-- It stays where only newer blocks turn, none of them of cells that it has. -/
theorem Ds.keep {f : Nat → Prop} (h : Ds w Q Z B G R P b s k l now V bq bn D wr) (o : Off f wr wr') (hf : ∀ i, f i → w.heap.size ≤ i ∧ ∀ c t, ¬ wr.heap[i]? = some (.cells c t (0, 0))) : Ds w Q Z B G R P b s k l now V bq bn D wr' := by
  obtain ⟨v, d, c1, c2, c3⟩ := h.du
  have hn : ∀ {i : Nat} {c : Array Value} {t : TypeId}, wr.heap[i]? = some (.cells c t (0, 0)) → ¬ f i := fun e hi => (hf _ hi).2 _ _ e
  have hlt : ∀ {i : Nat} {c : Array Value} {t : TypeId}, wr.heap[i]? = some (.cells c t (0, 0)) → i < wr.heap.size := fun e => (Array.getElem?_eq_some_iff.1 e).1
  refine ⟨h.wh.off o (fun i e hi => by have := (hf i hi).1; have := fo4_lt h.lw e; omega) (fun e => by have := (hf 0 e).1; have := h.lw.1; omega), (o.block bq (hlt h.cq) (hn h.cq)).trans h.cq, (o.block bn (hlt h.cn) (hn h.cn)).trans h.cn,
    ⟨v, d, (o.block D (hlt c1) (hn c1)).trans c1, c2.off2 o (fun i e => by obtain ⟨c, hc⟩ := c2.cells e; exact hn hc), c3⟩, h.ge, h.lw, Off.trans h.off o (fun i e => .inr (hf i e).1)⟩
theorem Ds.bel (h : Ds w Q Z B G R P b s k l now V bq bn D wr) (o : Bel wr wr') : Ds w Q Z B G R P b s k l now V bq bn D wr' := h.keep o (fun _ e => e.elim)
theorem Ds.own (h : Ds w Q Z B G R P b s k l now V bq bn D wr) {row : Option Nat} (hg : wr.grownBy wr' row) (hr : ∀ r, row = some r → w.heap.size ≤ r ∧ ∃ o : Obj, wr.heap[r]? = some o ∧ o.isCells = false) : Ds w Q Z B G R P b s k l now V bq bn D wr' := by
  have o : Off (fun k => row = some k) wr wr' := Off.grown (Off.refl _ wr) hg (fun k e => .inl e)
  refine h.keep o (fun i e => ?_)
  obtain ⟨h1, ob, h2, h3⟩ := hr i e
  refine ⟨h1, fun c t e2 => ?_⟩
  rw [h2] at e2
  cases e2
  cases h3
/-- Behind the list of those that are ready. -/
theorem ds_first {W0 Wx w2 : World} {d : List T} {p : Option Addr} {c : Nat} (h0 : Bel w W0) (c0 : W0.heap[bq]? = some (.cells #[.pointer (some ⟨Q, 0, none⟩)] 25 (0, 0))) (c1 : W0.heap[bn]? = some (.cells #[.int .u64 now] 22 (0, 0)))
    (hge : w.heap.size ≤ bq ∧ w.heap.size ≤ bn) (hlt : Q < w.heap.size ∧ Z < w.heap.size ∧ B < w.heap.size ∧ G < w.heap.size ∧ R < w.heap.size) (hln : l.Nodup) (hx : Bel W0 Wx) (o2 : Off (Fo Q G R) Wx w2)
    (hd : d.Perm (dueIn (slo b) s now (slo b) l)) (hown : OwnT w2 Wx.heap.size (.slice p d.length c) d) (hq2 : Wh w2 Q Z B G R P b s k (leftIn (slo b) s now (slo b) l))
    {g : Nat → Prop} (o3 : Off g w2 wr) (hg : ∀ i, g i → i = D) (hD : W0.heap.size ≤ D) (hDn : D < Wx.heap.size ∨ w2.heap.size ≤ D) (hDh : wr.heap[D]? = some (.cells #[.slice p d.length c] 36 (0, 0))) :
    Ds w Q Z B G R P b s k l now [slo b] bq bn D wr := by
  have z0 := h0.size
  have zx := hx.size
  have z2 := o2.size
  have l0 := (Array.getElem?_eq_some_iff.1 c0).1
  have l1 := (Array.getElem?_eq_some_iff.1 c1).1
  have e1 : leftIn (slo b) s now (slo b) l = vsL (slo b) s now [slo b] l := by
    have := vsL_next (S := slo b) (s := s) (now := now) (V := []) (l := l) (t := slo b)
    rwa [vsL_nil] at this
  have e2 : d.Perm (vsA (slo b) s now [slo b] l) := by
    have := vsA_next (S := slo b) (s := s) (now := now) (V := []) (l := l) (t := slo b) hln (by simp) (acc := []) (d := d) (by unfold vsA; simp) (by rw [vsL_nil]; exact hd)
    simpa using this
  have keep : ∀ i, i < W0.heap.size → w.heap.size ≤ i → wr.heap[i]? = W0.heap[i]? := fun i hi h2 => by
    rw [o3.block i (by omega) (fun e => by have := hg i e; omega), o2.block i (by omega) (fun e => by have := fo_lt hlt e; omega), hx.block i hi (fun e => e)]
  refine ⟨?_, (keep bq l0 hge.1).trans c0, (keep bn l1 hge.2).trans c1, ⟨_, d, hDh, ?_, e2⟩, ⟨hge.1, hge.2, by omega⟩, hlt, ?_⟩
  · rw [← e1]
    exact hq2.off o3 (fun i e e3 => by have := hg i e3; have := fo4_lt hlt e; omega) (fun e => by have := hg 0 e; omega)
  · refine (hown.low (by omega)).off2 o3 (fun i e e3 => ?_)
    have h1 := (hown.lt i e).1
    obtain ⟨cc, hc⟩ := hown.cells e
    have h2 := (Array.getElem?_eq_some_iff.1 hc).1
    have := hg i e3
    omega
  · refine Off.trans (Off.trans (h0.off _) ((hx.off (Fo Q G R)).then o2) (fun i e => .inl e)) o3 (fun i e => .inr (by have := hg i e; omega))
/-- How many were looked into is another number. -/
theorem Ds.looked (h : Ds w Q Z B G R P b s k l now V bq bn D wr) (k' : Int) : Ds w Q Z B G R P b s k' l now V bq bn D (wr.setCell ⟨Q, 7, none⟩ (.int .i64 k')) := by
  obtain ⟨a1, a2⟩ := h.wh.looked k'
  obtain ⟨v, d, c1, c2, c3⟩ := h.du
  obtain ⟨g1, g2, g3⟩ := h.ge
  have hlt : ∀ {i : Nat} {c : Array Value} {t : TypeId}, wr.heap[i]? = some (.cells c t (0, 0)) → i < wr.heap.size := fun e => (Array.getElem?_eq_some_iff.1 e).1
  have hQ := h.lw.1
  refine ⟨a1, (a2.block bq (hlt h.cq) (fun e => by have : bq = Q := e; omega)).trans h.cq, (a2.block bn (hlt h.cn) (fun e => by have : bn = Q := e; omega)).trans h.cn, ⟨v, d, (a2.block D (hlt c1) (fun e => by have : D = Q := e; omega)).trans c1, c2.off2 a2 (fun i e e2 => ?_), c3⟩, h.ge, h.lw, h.off.then (a2.mono (fun _ _ e => .inl e))⟩
  have := (c2.lt i e).1
  have : i = Q := e2
  omega
end
end Go.Proofs.YtdoceldofkaapaaDoor.Ha
