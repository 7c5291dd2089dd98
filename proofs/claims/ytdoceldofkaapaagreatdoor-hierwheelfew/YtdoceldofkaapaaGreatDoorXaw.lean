/-
  What the rounds of cutSlots keep: a wheel, and two rows of timers in boxes.
  Contracts of placed.New and of hierwheel.New.
-/
import Derived.Test.YtdoceldofkaapaaGreatDoorXav
import Derived.Test.YtdoceldofkaapaaGreatDoorXar
import Derived.Test.YtdoceldofkaapaaGreatDoorXal
set_option linter.unusedVariables false
set_option linter.unusedSimpArgs false
namespace Go.Proofs.YtdoceldofkaapaaGreatDoor
open Go.RowKit
theorem el29 : Elem 29 37 3 24 := ⟨Tryz.underlying29, by obtain ⟨i, hi, h0, h1, h2⟩ := info_parts info37; exact ⟨i, _, hi, h0, h1, h2, rfl⟩, by decide, by decide⟩
theorem own_zero {w : World} {base : Nat} {v : Value} {l : List T} (h : OwnT w base v l) : OwnT w 0 v l := h.low (Nat.zero_le _)
theorem own_up {w : World} {base : Nat} {v : Value} {l : List T} (h : OwnT w 0 v l) (hb : ∀ k, v.ownBlock = some k → base ≤ k) : OwnT w base v l := by
  refine ⟨h.1, ?_⟩
  rcases h.2 with hn | ⟨b, cap, cur, rfl, hbb, rest⟩
  · exact .inl hn
  · exact .inr ⟨b, cap, cur, rfl, hb b rfl, rest⟩
/-- An append, with where the new row lies. -/
theorem append_at (w : World) (ty : TypeId) (base : Nat) (v : Value) (l : List T) (hown : OwnT w base v l) (p : Option Addr) (c : Nat) (xs : List T) (hx : Has w p xs) (h63 : l.length + xs.length ≤ 1000000) (hbase : base ≤ w.heap.size) :
    ∃ v' w', (Builtin.append_ #[29, 29] ty #[v, .slice p xs.length c]).run Tryz.prog w = .ok v' w' ∧ OwnT w' base v' (l ++ xs) ∧ w.grownBy w' v.ownBlock ∧ (∀ k, v'.ownBlock = some k → v.ownBlock = some k ∨ w.heap.size ≤ k) := by
  obtain ⟨v', w', h1, h2, h3, h4⟩ := append_gen el29 w ty v l.length (encs l) (own_zero hown) p xs.length c (encs xs) (encs_len xs) hx.lies (encs_one' xs) h63
  refine ⟨v', w', h1, ?_, h3, h4⟩
  have h5 : OwnT w' 0 v' (l ++ xs) := by
    unfold OwnT
    rw [List.length_append, encs_append]
    exact h2
  refine own_up h5 fun k e => ?_
  rcases h4 k e with h6 | h6
  · exact (hown.lt k h6).1
  · omega
/-- The wheel is the list m; the box D1 has a row of dl, the box D2 one of cl. -/
structure Kw (w : World) (Q Z B G R P b : Nat) (s k : Int) (now : Int) (m dl cl : List T) (bq bn D1 D2 : Nat) (wr : World) : Prop where
  wh : Wr wr Q Z B G R P b s k m
  cq : wr.heap[bq]? = some (.cells #[.pointer (some ⟨Q, 0, none⟩)] 61 (0, 0))
  cn : wr.heap[bn]? = some (.cells #[.int .u64 now] 22 (0, 0))
  du : ∃ p d c p2 d2 c2, wr.heap[D1]? = some (.cells #[.slice p d.length c] 29 (0, 0)) ∧ OwnT wr w.heap.size (.slice p d.length c) d ∧ d.Perm dl ∧
    wr.heap[D2]? = some (.cells #[.slice p2 d2.length c2] 29 (0, 0)) ∧ OwnT wr w.heap.size (.slice p2 d2.length c2) d2 ∧ d2.Perm cl ∧ (∀ i, (Value.slice p d.length c).ownBlock = some i → ¬ (Value.slice p2 d2.length c2).ownBlock = some i)
  ge : w.heap.size ≤ bq ∧ w.heap.size ≤ bn ∧ w.heap.size ≤ D1 ∧ w.heap.size ≤ D2 ∧ ¬ D1 = D2
  lw : Q < w.heap.size ∧ Z < w.heap.size ∧ B < w.heap.size ∧ G < w.heap.size ∧ R < w.heap.size
  off : Off (Fo Q G R) w wr
theorem fo_lt {Q Z B G R i n : Nat} (h : Q < n ∧ Z < n ∧ B < n ∧ G < n ∧ R < n) : Fo Q G R i → i < n := fun e => by rcases e with e | e | e <;> omega
theorem fo5_lt {Q Z B G R i n : Nat} (h : Q < n ∧ Z < n ∧ B < n ∧ G < n ∧ R < n) : Fo5 Q Z B G R i → i < n := fun e => by rcases e with e | e | e | e | e <;> omega
/-- All that has cells, but rows of timers and boxes of such rows, stays; so does what has no cells. -/
structure Sty (n : Nat) (a b : World) : Prop where
  cl : ∀ i c t, a.heap[i]? = some (.cells c t (0, 0)) → n ≤ i → t ≠ 37 → t ≠ 29 → b.heap[i]? = a.heap[i]?
  no : ∀ i ob, a.heap[i]? = some ob → n ≤ i → ob.isCells = false → b.heap[i]? = some ob
  sz : a.heap.size ≤ b.heap.size
section
variable {w : World} {Q Z B G R P b : Nat} {s k : Int} {now : Int} {m m' dl dl' cl : List T} {bq bn D1 D2 : Nat} {wr wr' : World}
theorem Kw.swap (h : Kw w Q Z B G R P b s k now m dl cl bq bn D1 D2 wr) : Kw w Q Z B G R P b s k now m cl dl bq bn D2 D1 wr := by
  obtain ⟨p, d, c, p2, d2, c2, a1, a2, a3, a4, a5, a6, a7⟩ := h.du
  obtain ⟨g1, g2, g3, g4, g5⟩ := h.ge
  exact ⟨h.wh, h.cq, h.cn, ⟨p2, d2, c2, p, d, c, a4, a5, a6, a1, a2, a3, fun i e e2 => a7 i e2 e⟩, ⟨g1, g2, g4, g3, fun e => g5 e.symm⟩, h.lw, h.off⟩
/-- It stays where only newer blocks turn, none of them of cells that it has. -/
theorem Kw.keep {f : Nat → Prop} (h : Kw w Q Z B G R P b s k now m dl cl bq bn D1 D2 wr) (o : Off f wr wr') (hf : ∀ i, f i → w.heap.size ≤ i ∧ ∀ c t, ¬ wr.heap[i]? = some (.cells c t (0, 0))) : Kw w Q Z B G R P b s k now m dl cl bq bn D1 D2 wr' := by
  obtain ⟨p, d, c, p2, d2, c2, a1, a2, a3, a4, a5, a6, a7⟩ := h.du
  have hn : ∀ {i : Nat} {c : Array Value} {t : TypeId}, wr.heap[i]? = some (.cells c t (0, 0)) → ¬ f i := fun e hi => (hf _ hi).2 _ _ e
  have hlt : ∀ {i : Nat} {c : Array Value} {t : TypeId}, wr.heap[i]? = some (.cells c t (0, 0)) → i < wr.heap.size := fun e => (Array.getElem?_eq_some_iff.1 e).1
  refine ⟨h.wh.off o (fun i e hi => by have := (hf i hi).1; have := fo5_lt h.lw e; omega) (fun e => by have := (hf 0 e).1; have := h.lw.1; omega), (o.block bq (hlt h.cq) (hn h.cq)).trans h.cq, (o.block bn (hlt h.cn) (hn h.cn)).trans h.cn,
    ⟨p, d, c, p2, d2, c2, (o.block D1 (hlt a1) (hn a1)).trans a1, a2.off2 o (fun i e => by obtain ⟨cc, hc⟩ := a2.cells e; exact hn hc), a3, (o.block D2 (hlt a4) (hn a4)).trans a4, a5.off2 o (fun i e => by obtain ⟨cc, hc⟩ := a5.cells e; exact hn hc), a6, a7⟩, h.ge, h.lw, Off.trans h.off o (fun i e => .inr (hf i e).1)⟩
theorem Kw.bel (h : Kw w Q Z B G R P b s k now m dl cl bq bn D1 D2 wr) (o : Bel wr wr') : Kw w Q Z B G R P b s k now m dl cl bq bn D1 D2 wr' := h.keep o (fun _ e => e.elim)
theorem Kw.own (h : Kw w Q Z B G R P b s k now m dl cl bq bn D1 D2 wr) {row : Option Nat} (hg : wr.grownBy wr' row) (hr : ∀ r, row = some r → w.heap.size ≤ r ∧ ∃ o : Obj, wr.heap[r]? = some o ∧ o.isCells = false) : Kw w Q Z B G R P b s k now m dl cl bq bn D1 D2 wr' := by
  have o : Off (fun k => row = some k) wr wr' := Off.grown (Off.refl _ wr) hg (fun k e => .inl e)
  refine h.keep o (fun i e => ?_)
  obtain ⟨h1, ob, h2, h3⟩ := hr i e
  refine ⟨h1, fun c t e2 => ?_⟩
  rw [h2] at e2
  cases e2
  cases h3
/-- Behind a cut, an append and the store: the wheel is m', the box D1 has one more piece. -/
theorem Kw.step (h : Kw w Q Z B G R P b s k now m dl cl bq bn D1 D2 wr) {p p' p2 : Option Addr} {d d2 e2 : List T} {c c' c2 : Nat} (a1 : wr.heap[D1]? = some (.cells #[.slice p d.length c] 29 (0, 0))) (a2 : OwnT wr w.heap.size (.slice p d.length c) d) (a3 : (d ++ e2).Perm dl')
    (a4 : wr.heap[D2]? = some (.cells #[.slice p2 d2.length c2] 29 (0, 0))) (a5 : OwnT wr w.heap.size (.slice p2 d2.length c2) d2) (a6 : d2.Perm cl) (a7 : ∀ i, (Value.slice p d.length c).ownBlock = some i → ¬ (Value.slice p2 d2.length c2).ownBlock = some i)
    {w2 w3 : World} (o2 : Off (Fo Q G R) wr w2) (hq2 : Wr w2 Q Z B G R P b s k m')
    (hown : OwnT w3 w.heap.size (.slice p' (d ++ e2).length c') (d ++ e2)) (hg : w2.grownBy w3 (Value.slice p d.length c).ownBlock) (hl : ∀ i, (Value.slice p' (d ++ e2).length c').ownBlock = some i → (Value.slice p d.length c).ownBlock = some i ∨ w2.heap.size ≤ i) :
    Kw w Q Z B G R P b s k now m' dl' cl bq bn D1 D2 (w3.setCell ⟨D1, 0, none⟩ (.slice p' (d ++ e2).length c')) ∧ Sty w.heap.size wr (w3.setCell ⟨D1, 0, none⟩ (.slice p' (d ++ e2).length c')) := by
  obtain ⟨g1, g2, g3, g4, g5⟩ := h.ge
  have lw := h.lw
  have hlt : ∀ {i : Nat} {c : Array Value} {t : TypeId}, wr.heap[i]? = some (.cells c t (0, 0)) → i < wr.heap.size := fun e => (Array.getElem?_eq_some_iff.1 e).1
  have o3 : Off (fun i => (Value.slice p d.length c).ownBlock = some i) w2 w3 := Off.grown (Off.refl _ w2) hg (fun i e => .inl e)
  have o4 : Off (fun i => i = D1) w3 (w3.setCell ⟨D1, 0, none⟩ (.slice p' (d ++ e2).length c')) := Off.setCell (Off.refl (fun i => i = D1) w3) (p := ⟨D1, 0, none⟩) (.inl rfl) _
  have oAll : Off (fun i => Fo Q G R i ∨ (Value.slice p d.length c).ownBlock = some i ∨ i = D1) wr (w3.setCell ⟨D1, 0, none⟩ (.slice p' (d ++ e2).length c')) :=
    ((o2.mono (fun _ _ e => .inl e)).then (o3.mono (fun _ _ e => .inr (.inl e)))).then (o4.mono (fun _ _ e => .inr (.inr e)))
  have ownge : ∀ i, (Value.slice p d.length c).ownBlock = some i → w.heap.size ≤ i := fun i e => (a2.lt i e).1
  have stay : ∀ (i : Nat) (cs : Array Value) (t : TypeId), wr.heap[i]? = some (.cells cs t (0, 0)) → w.heap.size ≤ i → t ≠ 37 → t ≠ 29 → (w3.setCell ⟨D1, 0, none⟩ (.slice p' (d ++ e2).length c')).heap[i]? = wr.heap[i]? := fun i cs t e hge n1 n2 => by
    refine oAll.block i (hlt e) (fun e2 => ?_)
    rcases e2 with e2 | e2 | e2
    · have := fo_lt lw e2; omega
    · obtain ⟨cc, hc⟩ := a2.cells e2
      exact ty_ne e hc n1 rfl
    · subst e2
      exact ty_ne e a1 n2 rfl
  have hD2 : w2.heap[D1]? = some (.cells #[.slice p d.length c] 29 (0, 0)) := (o2.block D1 (hlt a1) (fun e => by have := fo_lt lw e; omega)).trans a1
  have hD3 : w3.heap[D1]? = some (.cells #[.slice p d.length c] 29 (0, 0)) := (o3.block D1 (Array.getElem?_eq_some_iff.1 hD2).1 (fun e => by
    obtain ⟨cc, hc⟩ := a2.cells e
    exact ty_ne a1 hc (by decide) rfl)).trans hD2
  have hwh : Wr (w3.setCell ⟨D1, 0, none⟩ (.slice p' (d ++ e2).length c')) Q Z B G R P b s k m' :=
    (hq2.off o3 (fun i e e2 => by have := ownge i e2; have := fo5_lt lw e; omega) (fun e => by have := ownge 0 e; omega)).off o4 (fun i e e2 => by have := fo5_lt lw e; have : i = D1 := e2; omega) (fun e => by have : (0 : Nat) = D1 := e; omega)
  have k2 : ∀ i, (Value.slice p2 d2.length c2).ownBlock = some i → w.heap.size ≤ i ∧ i < wr.heap.size := fun i e => a5.lt i e
  refine ⟨⟨hwh, (stay bq _ _ h.cq g1 (by decide) (by decide)).trans h.cq, (stay bn _ _ h.cn g2 (by decide) (by decide)).trans h.cn,
    ⟨p', d ++ e2, c', p2, d2, c2, heap_setCell_same _ _ 0 _ 29 _ hD3, hown.off2 o4 (fun i e e2 => ?_), a3, (oAll.block D2 (hlt a4) (fun e => ?_)).trans a4, a5.off2 oAll (fun i e e2 => ?_), a6, fun i e e2 => ?_⟩, ⟨g1, g2, g3, g4, g5⟩, lw, ?_⟩, ⟨stay, fun i ob e hi hc => ?_, oAll.size⟩⟩
  · have e3 : i = D1 := e2
    subst e3
    obtain ⟨cc, hc2⟩ := hown.cells e
    exact ty_ne hD3 hc2 (by decide) rfl
  · rcases e with e | e | e
    · have := fo_lt lw e; omega
    · obtain ⟨cc, hc⟩ := a2.cells e
      exact ty_ne a4 hc (by decide) rfl
    · exact g5 e.symm
  · rcases e2 with e2 | e2 | e2
    · have := (k2 i e).1; have := fo_lt lw e2; omega
    · exact a7 i e2 e
    · subst e2
      obtain ⟨cc, hc⟩ := a5.cells e
      exact ty_ne a1 hc (by decide) rfl
  · have h1 := k2 i e2
    rcases hl i e with e3 | e3
    · exact a7 i e3 e2
    · have := o2.size; omega
  · exact Off.trans h.off oAll (fun i e => by
      rcases e with e | e | e
      · exact .inl e
      · exact .inr (ownge i e)
      · exact .inr (by omega))
  · refine (oAll.block i (Array.getElem?_eq_some_iff.1 e).1 (fun e2 => ?_)).trans e
    rcases e2 with e2 | e2 | e2
    · have := fo_lt lw e2; omega
    · obtain ⟨cc, hc2⟩ := a2.cells e2
      rw [hc2] at e
      cases e
      cases hc
    · subst e2
      rw [a1] at e
      cases e
      cases hc
end
/-- What holds while the operations of such a statement come up, whatever the order: which have come, and what they left. -/
structure Jc (base : Nat) (V1 : World) (FO : Nat → Prop) (D1 : Nat) (p : Option Addr) (c : Nat) (d DP : List T) (WR FIN : World → Prop) (xq xs xn : Value) (l0 l1 l2 l3 l4 l5 l6 : Bool) (u0 u1 u2 u3 u4 u5 : Value) (W : World) : Prop where
  c0 : l0 = true → u0 = .slice p d.length c
  c1 : l1 = true → u1 = xq
  c2 : l2 = true → u2 = xs
  c3 : l3 = true → u3 = xn
  f4 : l4 = true → l1 = true ∧ l2 = true ∧ l3 = true
  f5 : l5 = true → l0 = true ∧ l4 = true
  f6 : l6 = true → l5 = true
  wA : l4 = false → W = V1
  wB : l4 = true → l5 = false → ∃ d2 p2 c2, u4 = .slice p2 d2.length c2 ∧ d2.Perm DP ∧ Has W p2 d2 ∧ WR W ∧ Off FO V1 W
  wC : l5 = true → l6 = false → ∃ w1 d2 p3 c3, u5 = .slice p3 (d ++ d2).length c3 ∧ d2.Perm DP ∧ WR w1 ∧ Off FO V1 w1 ∧ OwnT W base (.slice p3 (d ++ d2).length c3) (d ++ d2) ∧ w1.grownBy W (Value.slice p d.length c).ownBlock ∧
    (∀ i, (Value.slice p3 (d ++ d2).length c3).ownBlock = some i → (Value.slice p d.length c).ownBlock = some i ∨ w1.heap.size ≤ i) ∧ W.heap[D1]? = some (.cells #[.slice p d.length c] 29 (0, 0))
  wD : l6 = true → FIN W
section
variable {base : Nat} {V1 : World} {FO : Nat → Prop} {D1 : Nat} {p : Option Addr} {c : Nat} {d DP : List T} {WR FIN : World → Prop} {xq xs xn : Value} {l0 l1 l2 l3 l4 l5 l6 : Bool} {u0 u1 u2 u3 u4 u5 : Value} {W : World}
theorem Jc.start : Jc base V1 FO D1 p c d DP WR FIN xq xs xn false false false l3 false false false u0 u1 u2 xn u4 u5 V1 :=
  ⟨(fun e => by cases e), (fun e => by cases e), (fun e => by cases e), (fun _ => rfl), (fun e => by cases e), (fun e => by cases e), (fun e => by cases e), (fun _ => rfl), (fun e => by cases e), (fun e => by cases e), (fun e => by cases e)⟩
theorem Jc.start2 : Jc base V1 FO D1 p c d DP WR FIN xq xs xn false false false false false false false u0 u1 u2 u3 u4 u5 V1 :=
  ⟨(fun e => by cases e), (fun e => by cases e), (fun e => by cases e), (fun e => by cases e), (fun e => by cases e), (fun e => by cases e), (fun e => by cases e), (fun _ => rfl), (fun e => by cases e), (fun e => by cases e), (fun e => by cases e)⟩
theorem Jc.no5 (h : Jc base V1 FO D1 p c d DP WR FIN xq xs xn false l1 l2 l3 l4 l5 l6 u0 u1 u2 u3 u4 u5 W) : l5 = false := by
  cases e : l5 with
  | false => rfl
  | true => exact absurd (h.f5 e).1 (by decide)
theorem Jc.t0 (h : Jc base V1 FO D1 p c d DP WR FIN xq xs xn false l1 l2 l3 l4 l5 l6 u0 u1 u2 u3 u4 u5 W) : Jc base V1 FO D1 p c d DP WR FIN xq xs xn true l1 l2 l3 l4 l5 l6 (.slice p d.length c) u1 u2 u3 u4 u5 W :=
  ⟨fun _ => rfl, h.c1, h.c2, h.c3, h.f4, fun e => ⟨rfl, (h.f5 e).2⟩, h.f6, h.wA, h.wB, h.wC, h.wD⟩
/-- The box at the time it is read. -/
theorem Jc.r0 (h : Jc base V1 FO D1 p c d DP WR FIN xq xs xn false l1 l2 l3 l4 l5 l6 u0 u1 u2 u3 u4 u5 W) (hD : ∀ W', Off FO V1 W' → W'.cell? ⟨D1, 0, none⟩ = some (.slice p d.length c)) : W.cell? ⟨D1, 0, none⟩ = some (.slice p d.length c) := by
  have h5 := h.no5
  cases e : l4 with
  | false =>
    have := h.wA e
    subst this
    exact hD _ (Off.refl _ _)
  | true =>
    obtain ⟨d2, p2, c2, _, _, _, _, h6⟩ := h.wB e h5
    exact hD _ h6
theorem Jc.a1 (h : Jc base V1 FO D1 p c d DP WR FIN xq xs xn l0 false l2 l3 l4 l5 l6 u0 u1 u2 u3 u4 u5 W) : W = V1 := by
  refine h.wA ?_
  cases e : l4 with
  | false => rfl
  | true => exact absurd (h.f4 e).1 (by decide)
theorem Jc.a2 (h : Jc base V1 FO D1 p c d DP WR FIN xq xs xn l0 l1 false l3 l4 l5 l6 u0 u1 u2 u3 u4 u5 W) : W = V1 := by
  refine h.wA ?_
  cases e : l4 with
  | false => rfl
  | true => exact absurd (h.f4 e).2.1 (by decide)
theorem Jc.a3 (h : Jc base V1 FO D1 p c d DP WR FIN xq xs xn l0 l1 l2 false l4 l5 l6 u0 u1 u2 u3 u4 u5 W) : W = V1 := by
  refine h.wA ?_
  cases e : l4 with
  | false => rfl
  | true => exact absurd (h.f4 e).2.2 (by decide)
theorem Jc.t1 (h : Jc base V1 FO D1 p c d DP WR FIN xq xs xn l0 l1 l2 l3 l4 l5 l6 u0 u1 u2 u3 u4 u5 W) : Jc base V1 FO D1 p c d DP WR FIN xq xs xn l0 true l2 l3 l4 l5 l6 u0 xq u2 u3 u4 u5 W :=
  ⟨h.c0, fun _ => rfl, h.c2, h.c3, fun e => ⟨rfl, (h.f4 e).2⟩, h.f5, h.f6, h.wA, h.wB, h.wC, h.wD⟩
theorem Jc.t2 (h : Jc base V1 FO D1 p c d DP WR FIN xq xs xn l0 l1 l2 l3 l4 l5 l6 u0 u1 u2 u3 u4 u5 W) : Jc base V1 FO D1 p c d DP WR FIN xq xs xn l0 l1 true l3 l4 l5 l6 u0 u1 xs u3 u4 u5 W :=
  ⟨h.c0, h.c1, fun _ => rfl, h.c3, fun e => ⟨(h.f4 e).1, rfl, (h.f4 e).2.2⟩, h.f5, h.f6, h.wA, h.wB, h.wC, h.wD⟩
theorem Jc.t3 (h : Jc base V1 FO D1 p c d DP WR FIN xq xs xn l0 l1 l2 l3 l4 l5 l6 u0 u1 u2 u3 u4 u5 W) : Jc base V1 FO D1 p c d DP WR FIN xq xs xn l0 l1 l2 true l4 l5 l6 u0 u1 u2 xn u4 u5 W :=
  ⟨h.c0, h.c1, h.c2, fun _ => rfl, fun e => ⟨(h.f4 e).1, (h.f4 e).2.1, rfl⟩, h.f5, h.f6, h.wA, h.wB, h.wC, h.wD⟩
theorem Jc.no54 (h : Jc base V1 FO D1 p c d DP WR FIN xq xs xn l0 l1 l2 l3 false l5 l6 u0 u1 u2 u3 u4 u5 W) : l5 = false ∧ l6 = false := by
  have h5 : l5 = false := by
    cases e : l5 with
    | false => rfl
    | true => exact absurd (h.f5 e).2 (by decide)
  refine ⟨h5, ?_⟩
  cases e : l6 with
  | false => rfl
  | true => rw [h.f6 e] at h5; cases h5
theorem Jc.t4 (h : Jc base V1 FO D1 p c d DP WR FIN xq xs xn l0 true true true false l5 l6 u0 u1 u2 u3 u4 u5 W) {W' : World} {d2 : List T} {p2 : Option Addr} {c2 : Nat} (h1 : d2.Perm DP) (h2 : Has W' p2 d2) (h3 : WR W') (h4 : Off FO V1 W') :
    Jc base V1 FO D1 p c d DP WR FIN xq xs xn l0 true true true true l5 l6 u0 u1 u2 u3 (.slice p2 d2.length c2) u5 W' := by
  obtain ⟨h5, h6⟩ := h.no54
  subst h5 h6
  exact ⟨h.c0, h.c1, h.c2, h.c3, fun _ => ⟨rfl, rfl, rfl⟩, (fun e => by cases e), (fun e => by cases e), (fun e => by cases e), fun _ _ => ⟨d2, p2, c2, rfl, h1, h2, h3, h4⟩, (fun e => by cases e), (fun e => by cases e)⟩
theorem Jc.no6 (h : Jc base V1 FO D1 p c d DP WR FIN xq xs xn l0 l1 l2 l3 l4 false l6 u0 u1 u2 u3 u4 u5 W) : l6 = false := by
  cases e : l6 with
  | false => rfl
  | true => exact absurd (h.f6 e) (by decide)
theorem Jc.t5 (h : Jc base V1 FO D1 p c d DP WR FIN xq xs xn true l1 l2 l3 true false l6 u0 u1 u2 u3 u4 u5 W) {W' : World} {d2 : List T} {p3 : Option Addr} {c3 : Nat} (h1 : d2.Perm DP) (h2 : WR W) (h3 : Off FO V1 W) (h4 : OwnT W' base (.slice p3 (d ++ d2).length c3) (d ++ d2)) (h5 : W.grownBy W' (Value.slice p d.length c).ownBlock)
    (h6 : ∀ i, (Value.slice p3 (d ++ d2).length c3).ownBlock = some i → (Value.slice p d.length c).ownBlock = some i ∨ W.heap.size ≤ i) (h7 : W'.heap[D1]? = some (.cells #[.slice p d.length c] 29 (0, 0))) :
    Jc base V1 FO D1 p c d DP WR FIN xq xs xn true l1 l2 l3 true true l6 u0 u1 u2 u3 u4 (.slice p3 (d ++ d2).length c3) W' := by
  obtain rfl := h.no6
  exact ⟨h.c0, h.c1, h.c2, h.c3, h.f4, fun _ => ⟨rfl, rfl⟩, (fun e => by cases e), (fun e => by cases e), (fun _ e => by cases e), fun _ _ => ⟨W, d2, p3, c3, rfl, h1, h2, h3, h4, h5, h6, h7⟩, (fun e => by cases e)⟩
theorem Jc.t6 (h : Jc base V1 FO D1 p c d DP WR FIN xq xs xn l0 l1 l2 l3 l4 true false u0 u1 u2 u3 u4 u5 W) {W' : World} (h1 : FIN W') :
    Jc base V1 FO D1 p c d DP WR FIN xq xs xn l0 l1 l2 l3 l4 true true u0 u1 u2 u3 u4 u5 W' := by
  have h4 := (h.f5 rfl).2
  subst h4
  exact ⟨h.c0, h.c1, h.c2, h.c3, h.f4, h.f5, fun _ => rfl, (fun e => by cases e), (fun _ e => by cases e), (fun _ e => by cases e), fun _ => h1⟩
end
end Go.Proofs.YtdoceldofkaapaaGreatDoor
namespace Go.Proofs.YtdoceldofkaapaaGreatDoor
open Go.RowKit
theorem made37 (N : Nat) : madeCells (Value.agg #[.int .u64 0, .int .u64 0, .int .i64 0]).cells (N * 3) = (encQ N (fun _ => ⟨0, 0, 0⟩)).toArray := by
  apply Array.toList_inj.1
  refine encQ_ext (by simp [madeCells]) (fun i j hi hj => ?_)
  have hlt : i * 3 + j < N * 3 := by omega
  unfold madeCells
  rw [Array.getElem?_toList, Array.getElem?_map, Array.getElem?_range]
  simp only [hlt, if_true, Option.map_some]
  obtain rfl | rfl | rfl : j = 0 ∨ j = 1 ∨ j = 2 := by omega
  all_goals simp [Value.cells, enc]
theorem make37 (N : Nat) (hN : N ≤ 2048) (w : World) : (Instr.makeSlice 29 (.int .i64 (N : Int)) (.int .i64 (N : Int))).run Tryz.prog w = .ok (.slice (some ⟨w.heap.size, 0, none⟩) N N) (w.alloc (.cells (encQ N (fun _ => ⟨0, 0, 0⟩)).toArray 37)) := by
  obtain ⟨i, hi, hz, hs, hb⟩ := info_parts info37
  have h := run_make (P := Tryz.prog) w 29 37 i _ Tryz.underlying29 hi hz .i64 .i64 (N : Int) (N : Int) (by omega) (Int.le_refl _) (by rw [hb]; omega) (by omega)
  rw [hs, Int.toNat_natCast, made37] at h
  exact h
theorem pnew_no (P : Int) (L : Nat) (hL : L ≤ 258) (w : World) (h : ¬ (0 ≤ P ∧ P ≤ 1024)) :
    Calls Tryz.prog 43 #[.int .i64 P, .int .i64 L] w fun e w' => e = .returned (.tuple #[.pointer none, .int .i64 1]) ∧ w = w' := by
  have K := Lib.hid (new_no P L w (fun e => h ⟨e.1, e.2.1⟩))
  clear h
  go_enter Tryz.func43, Tryz.ntmps43
  go_wp2_with fail
  with_reducible refine K.out.mono ?_
  rintro e w1 ⟨rfl, rfl⟩
  go_wp2
  go_ret2
  exact ⟨rfl, rfl⟩
theorem pnew_yes (P L : Nat) (w : World) (hP : P ≤ 1024) (hL : L ≤ 258) :
    Calls Tryz.prog 43 #[.int .i64 P, .int .i64 L] w fun e w' => ∃ Z B G R, e = .returned (.tuple #[.pointer (some ⟨Z, 0, none⟩), .int .i64 0]) ∧ (∀ lo : T → Nat, Qp w' Z B G R P L lo (fun _ => []) (fun _ => ⟨0, 0, 0⟩) []) ∧ Bel w w' ∧ w.heap.size ≤ Z ∧ w.heap.size ≤ B ∧ w.heap.size ≤ G ∧ w.heap.size ≤ R := by
  have K := Lib.hid (new_yes P L w hP (by omega))
  have hmk := make37 P (by omega)
  have HPL := Lib.hid (And.intro hP hL)
  generalize hc : (encQ P (fun _ => ⟨0, 0, 0⟩)).toArray = C0 at *
  have HC0 := Lib.hid hc
  clear hc
  go_enter Tryz.func43, Tryz.ntmps43
  go_wp2_with fail
  with_reducible refine K.out.mono ?_
  rintro e w1 ⟨B, G, g, rfl, hch, hg, hb, hB, hG⟩
  have HB1 := Lib.hid hb
  have HCH := Lib.hid hch
  have HG := Lib.hid hg
  have HGE : Hid (w.heap.size ≤ B ∧ w.heap.size ≤ G) := Lib.hid ⟨hB, hG⟩
  clear hch hg hb hB hG
  have HF : Hid (∀ lo : T → Nat, Qp ((w1.alloc (.cells C0 37)).alloc (.cells #[.pointer (some ⟨B, 0, none⟩), .slice (some ⟨w1.heap.size, 0, none⟩) P P] 99)) (w1.heap.size + 1) B G w1.heap.size P L lo (fun _ => []) (fun _ => ⟨0, 0, 0⟩) []) := Lib.hid (fun lo => by
    have hr : (w1.alloc (.cells C0 37)).heap[w1.heap.size]? = some (.cells C0 37 (0, 0)) := heap_alloc_new _ _
    have hz := heap_alloc_new (w1.alloc (.cells C0 37)) (.cells #[.pointer (some ⟨B, 0, none⟩), .slice (some ⟨w1.heap.size, 0, none⟩) P P] 99)
    rw [World.size_alloc] at hz
    have hb2 : Bel (w1.alloc (.cells C0 37)) ((w1.alloc (.cells C0 37)).alloc (.cells #[.pointer (some ⟨B, 0, none⟩), .slice (some ⟨w1.heap.size, 0, none⟩) P P] 99)) := (Bel.refl _).alloc _ _
    refine ⟨⟨g, ⟨hz, HCH.out.bel (((Bel.refl w1).alloc _ _).trans hb2), ?_⟩, rep_new HG.out⟩, ⟨fun x hx => by simp at hx, fun t _ i hi => by simp at hi, List.nodup_nil, List.Pairwise.nil⟩, HPL.out.1, by have := HPL.out.2; omega⟩
    rw [HC0.out]
    exact hb2.heap hr)
  have HE : Hid (Bel w ((w1.alloc (.cells C0 37)).alloc (.cells #[.pointer (some ⟨B, 0, none⟩), .slice (some ⟨w1.heap.size, 0, none⟩) P P] 99))) := Lib.hid ((HB1.out.alloc _ _).alloc _ _)
  go_upto_region 4 with (fail)
  go_wp2
  go_ret2
  refine ⟨w1.heap.size + 1, B, G, w1.heap.size, by simp, HF.out, HE.out, ?_, HGE.out.1, HGE.out.2, HB1.out.size⟩
  have := HB1.out.size
  omega
theorem hnew_bits (P b s : Int) (w : World) (h : ¬ (1 ≤ b ∧ b ≤ 6)) :
    Calls Tryz.prog 26 #[.int .i64 P, .int .i64 b, .int .u64 s] w fun e w' => e = .returned (.tuple #[.pointer none, .int .i64 1]) ∧ Bel w w' := by
  by_cases h1 : b < 1
  · clear h
    go_enter Tryz.func26, Tryz.ntmps26
    go_wp2
    go_ret2
    exact ⟨rfl, Bel.refl _⟩
  · have h2 : 6 < b := by omega
    clear h
    go_enter Tryz.func26, Tryz.ntmps26
    go_wp2
    go_ret2
    exact ⟨rfl, Bel.refl _⟩
theorem shl_pow {b S : Nat} (hb : b ≤ 6) (hS : 2 ^ b = S) : wrap64 ((2 : Int) ^ b) = (S : Int) := by
  subst hS
  have : b = 0 ∨ b = 1 ∨ b = 2 ∨ b = 3 ∨ b = 4 ∨ b = 5 ∨ b = 6 := by omega
  rcases this with rfl | rfl | rfl | rfl | rfl | rfl | rfl <;> (simp; first | rfl | (unfold wrap64; decide) | simp [wrap64] | (unfold wrap64; omega))
theorem hnew_place (P s : Int) (b : Nat) (hb : 1 ≤ b ∧ b ≤ 6) (w : World) (hP : ¬ (0 ≤ P ∧ P ≤ 1024)) :
    Calls Tryz.prog 26 #[.int .i64 P, .int .i64 (b : Nat), .int .u64 s] w fun e w' => e = .returned (.tuple #[.pointer none, .int .i64 1]) ∧ Bel w w' := by
  obtain ⟨S, hS⟩ : ∃ S, 2 ^ b = S := ⟨_, rfl⟩
  have hsh := shl_pow hb.2 hS
  have hSb := pow_le hb.2
  rw [hS] at hSb
  have K1 := pnew_no P (2 + 4 * S) (by omega) w hP
  rw [show (((2 + 4 * S : Nat) : Int)) = 2 + 4 * (S : Int) by omega] at K1
  have K := Lib.hid K1
  have h1 : ¬ (b : Int) < 1 := by omega
  have h2 : ¬ (6 : Int) < b := by omega
  clear K1 hP hb hS
  go_enter Tryz.func26, Tryz.ntmps26
  go_wp2_with fail
  with_reducible refine K.out.mono ?_
  rintro e w1 ⟨rfl, rfl⟩
  go_wp2
  go_ret2
  exact ⟨rfl, Bel.refl _⟩
theorem hnew_no (P b s : Int) (w : World) (h : ¬ ((0 ≤ P ∧ P ≤ 1024) ∧ 1 ≤ b ∧ b ≤ 6)) :
    Calls Tryz.prog 26 #[.int .i64 P, .int .i64 b, .int .u64 s] w fun e w' => e = .returned (.tuple #[.pointer none, .int .i64 1]) ∧ Bel w w' := by
  by_cases hb : 1 ≤ b ∧ b ≤ 6
  · obtain ⟨bn, rfl⟩ : ∃ bn : Nat, b = bn := ⟨b.toNat, by omega⟩
    exact hnew_place P s bn (by omega) w (fun e => h ⟨e, hb⟩)
  · exact hnew_bits P b s w hb
/-- The lists of the first m levels' slots 0. -/
def fstM (S m i : Nat) : Int := if i < m then 2 + (i : Int) * S else 0
theorem rcells_fst {Z b S : Nat} {s : Int} (m : Nat) (hm : m < 4) : (rcells Z b (fstM S m) (fun _ _ => 0) s 0).toArray.setIfInBounds (1 + m * 5) (.int .i64 (2 + (m : Int) * S)) = (rcells Z b (fstM S (m + 1)) (fun _ _ => 0) s 0).toArray := by
  obtain rfl | rfl | rfl | rfl : m = 0 ∨ m = 1 ∨ m = 2 ∨ m = 3 := by omega
  all_goals simp [rcells, fstM]
theorem hnew_yes (P b : Nat) (s : Int) (w : World) (hP : P ≤ 1024) (hb : 1 ≤ b ∧ b ≤ 6) (hs : Tk s) (hT : Bm.Tab w) :
    Calls Tryz.prog 26 #[.int .i64 P, .int .i64 b, .int .u64 s] w fun e w' => ∃ Q Z B G R, e = .returned (.tuple #[.pointer (some ⟨Q, 0, none⟩), .int .i64 0]) ∧ Wr w' Q Z B G R P b s 0 [] ∧ (∀ k, Fo5 Q Z B G R k → w.heap.size ≤ k) ∧ Bel w w' := by
  obtain ⟨S, hS⟩ : ∃ S, 2 ^ b = S := ⟨_, rfl⟩
  have hsh := shl_pow hb.2 hS
  have hSb := pow_le hb.2
  rw [hS] at hSb
  have K1 := pnew_yes P (2 + 4 * S) w hP (by omega)
  rw [show (((2 + 4 * S : Nat) : Int)) = 2 + 4 * (S : Int) by omega] at K1
  have K := Lib.hid K1
  have HT := Lib.hid hT
  have HBS := Lib.hid (And.intro hb hs)
  have HS := Lib.hid hS
  have h1 : ¬ (b : Int) < 1 := by omega
  have h2 : ¬ (6 : Int) < b := by omega
  clear K1 hP hb hS hs hT
  go_enter Tryz.func26, Tryz.ntmps26
  go_wp2_with fail
  with_reducible refine K.out.mono ?_
  rintro e w1 ⟨Z, B, G, R, rfl, hq, hb, hZ, hB, hG, hR⟩
  have HQ := Lib.hid hq
  have HB1 := Lib.hid hb
  have HG : Hid (w.heap.size ≤ Z ∧ w.heap.size ≤ B ∧ w.heap.size ≤ G ∧ w.heap.size ≤ R) := Lib.hid ⟨hZ, hB, hG, hR⟩
  clear hq hb hZ hB hG hR K
  have HN : Hid ((w1.alloc (.cells (rcells Z b (fstM S 0) (fun _ _ => 0) s 0).toArray 78)).heap[w1.heap.size]? = some (.cells (rcells Z b (fstM S 0) (fun _ _ => 0) s 0).toArray 78 (0, 0))) := Lib.hid (heap_alloc_new _ _)
  have HO : Hid (Bel w1 (w1.alloc (.cells (rcells Z b (fstM S 0) (fun _ _ => 0) s 0).toArray 78))) := Lib.hid ((Bel.refl _).alloc _ _)
  go_upto_region 9 with (fail)
  rw [show (Obj.cells #[.pointer (some ⟨Z, 0, none⟩), .int .i64 0, .int .u64 0, .int .u64 0, .int .u64 0, .int .u64 0, .int .i64 0, .int .u64 0, .int .u64 0, .int .u64 0, .int .u64 0, .int .i64 0, .int .u64 0, .int .u64 0, .int .u64 0, .int .u64 0, .int .i64 0, .int .u64 0, .int .u64 0, .int .u64 0, .int .u64 0, .int .i64 b, .int .u64 s, .int .i64 0] 78) = .cells (rcells Z b (fstM S 0) (fun _ _ => 0) s 0).toArray 78 from rfl]
  have HQ1 := Lib.hid (fun lo => (HQ.out lo).bel HO.out)
  have HZ1 := Lib.hid HB1.out.size
  have HB2 := Lib.hid (HB1.out.trans HO.out)
  obtain ⟨Q, hQ⟩ : ∃ Q, w1.heap.size = Q := ⟨_, rfl⟩
  rw [hQ] at HN HZ1 ⊢
  clear HQ HB1
  generalize w1.alloc (.cells (rcells Z b (fstM S 0) (fun _ _ => 0) s 0).toArray 78) = W at *
  go_loopw [12, 37] (fun _ v wr => ∃ m : Nat, v = .int .i64 m ∧ m ≤ 4 ∧ wr.heap[Q]? = some (.cells (rcells Z b (fstM S m) (fun _ _ => 0) s 0).toArray 78 (0, 0)) ∧ Off (Only Q) W wr) (fun _ v _ => 4 - (intOf v).toNat)
  case atStart => exact ⟨0, rfl, by omega, HN.out, Off.refl _ _⟩
  case round =>
    obtain ⟨m, rfl, hm, hh, hoff⟩ := hrel
    have HH := Lib.hid hh
    have HOF := Lib.hid hoff
    have lQ : Q < wr.heap.size := (Array.getElem?_eq_some_iff.1 hh).1
    clear hh hoff
    by_cases hlt : m < 4
    · have hfr : ∀ j, wr.frozen? ⟨Q, j, none⟩ = false := fun j => frozen_of_row wr Q j _ 78 HH.out
      have hce : ∃ v, wr.cell? ⟨Q, 1 + m * 5, none⟩ = some v := ⟨_, by
        rw [cell_of_row wr Q _ _ 78 (0, 0) HH.out]
        obtain rfl | rfl | rfl | rfl : m = 0 ∨ m = 1 ∨ m = 2 ∨ m = 3 := by omega
        all_goals rfl⟩
      have HNX : Hid ((wr.setCell ⟨Q, 1 + m * 5, none⟩ (.int .i64 (2 + (m : Int) * S))).heap[Q]? = some (.cells (rcells Z b (fstM S (m + 1)) (fun _ _ => 0) s 0).toArray 78 (0, 0))) := Lib.hid (by
        have e := heap_setCell_same wr Q (1 + m * 5) _ 78 (.int .i64 (2 + (m : Int) * S)) HH.out
        rw [rcells_fst m hlt] at e
        exact e)
      have HOX : Hid (Off (Only Q) W (wr.setCell ⟨Q, 1 + m * 5, none⟩ (.int .i64 (2 + (m : Int) * S)))) := Lib.hid (HOF.out.then (Off.setCell (Off.refl (Only Q) wr) (p := ⟨Q, 1 + m * 5, none⟩) (.inl rfl) _))
      obtain ⟨v0, hv0⟩ := hce
      have hf0 := hfr (1 + m * 5)
      have hmS : (m : Int) * S ≤ 3 * 64 := by
        obtain rfl | rfl | rfl | rfl : m = 0 ∨ m = 1 ∨ m = 2 ∨ m = 3 := by omega
        all_goals omega
      have hmS0 : 0 ≤ (m : Int) * S := by
        obtain rfl | rfl | rfl | rfl : m = 0 ∨ m = 1 ∨ m = 2 ∨ m = 3 := by omega
        all_goals omega
      clear hfr HH HOF
      go_wp2
      go_roundw
      case rel => exact ⟨m + 1, by go_num, by omega, HNX.out, HOX.out⟩
      case measure => simp [intOf]; omega
    · obtain rfl : m = 4 := by omega
      go_wp2
      go_ret2
      obtain ⟨hbb, hss⟩ := HBS.out
      obtain ⟨g1, g2, g3, g4⟩ := HG.out
      have hz0 : 0 < w.heap.size := by
        have := World.block_lt_of_cell? w _ (HT.out 0 (by omega))
        simpa using this
      have hzz := HZ1.out
      have hty : ∀ i x t, W.heap[i]? = some (.cells x t (0, 0)) → t ≠ 78 → ¬ Only Q i := fun i x t h ht e => by
        have e2 : i = Q := e
        rw [e2, HN.out] at h
        injection h with h
        injection h with _ h _
        exact ht h.symm
      obtain ⟨⟨g, q1, _⟩, _⟩ := HQ1.out (lw b s)
      have hqf : Qp wr Z B G R P (2 + 4 * 2 ^ b) (lw b s) (fun _ => []) (fun _ => ⟨0, 0, 0⟩) [] := by
        rw [HS.out]
        exact (HQ1.out (lw b s)).off HOF.out (hty _ _ _ q1.hZ (by decide)) (hty _ _ _ q1.ch.hB (by decide)) (hty _ _ _ q1.ch.hG (by decide)) (hty _ _ _ q1.hR (by decide))
      have hcf : rcells Z b (fstM S 4) (fun _ _ => 0) s 0 = rcells Z b (fst4 b) (fun _ _ => 0) s 0 := by
        have e : ∀ i, i < 4 → fstM S 4 i = fst4 b i := fun i hi => by
          unfold fstM fst4
          rw [if_pos hi, HS.out]
          push_cast
          rfl
        unfold rcells
        rw [e 0 (by omega), e 1 (by omega), e 2 (by omega), e 3 (by omega)]
      have hhq := HH.out
      rw [hcf] at hhq
      refine ⟨Q, Z, B, G, R, by simp, ⟨⟨fun _ => [], fun _ => ⟨0, 0, 0⟩, fun _ _ => 0, ⟨hhq, hqf, rfl, by decide⟩, ⟨fun m _ k => by simp, fun m _ i => by simp [Bm.tb]⟩, List.Pairwise.nil⟩, ⟨hbb, hss, fun t ht => by simp at ht, fun j hj => HOF.out.cell (p := ⟨0, j, none⟩) (fun e => by have : (0 : Nat) = Q := e; omega) (HB2.out.cell (HT.out j hj)), by omega, by omega, by omega, by omega, by omega⟩⟩, fun k e => ?_, ?_⟩
      · rcases e with e | e | e | e | e <;> omega
      · exact HOF.out.bel HB2.out (fun i e => by have : i = Q := e; omega)
end Go.Proofs.YtdoceldofkaapaaGreatDoor
