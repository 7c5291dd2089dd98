/-
  What a Due's rounds keep.
-/
import Derived.Test.YtdoceldofkaapaaDoorXaq
set_option linter.unusedVariables false
set_option linter.unusedSimpArgs false
namespace Go.Proofs.YtdoceldofkaapaaDoor.Ha
open Go.RowKit
structure Iv (w : World) (Q Z B G R P b : Nat) (s : Int) (l : List T) (now : Int) (bq bn D Bq Bn n : Nat) (ys pre : List Nat) (W : World) : Prop where
  pf : pre <+: ys
  ds : Ds w Q Z B G R P b s (pre.length : Nat) l now (slo b :: pre) bq bn D W
  bx : W.heap[Bq]? = some (.cells #[.pointer (some ⟨Q, 0, none⟩)] 25 (0, 0))
  bm : W.heap[Bn]? = some (.cells #[.int .i64 (n : Nat)] 3 (0, 0))
  gb : w.heap.size ≤ Bq ∧ w.heap.size ≤ Bn
section
variable {w : World} {Q Z B G R P b : Nat} {s : Int} {l : List T} {now : Int} {bq bn D Bq Bn n : Nat} {ys pre : List Nat} {W W' : World}
theorem Iv.own (h : Iv w Q Z B G R P b s l now bq bn D Bq Bn n ys pre W) {row : Option Nat} (hg : W.grownBy W' row) (hr : ∀ r, row = some r → w.heap.size ≤ r ∧ ∃ o : Obj, W.heap[r]? = some o ∧ o.isCells = false) : Iv w Q Z B G R P b s l now bq bn D Bq Bn n ys pre W' := by
  have o : Off (fun k => row = some k) W W' := Off.grown (Off.refl _ W) hg (fun k e => .inl e)
  have hn : ∀ {i : Nat} {c : Array Value} {t : TypeId}, W.heap[i]? = some (.cells c t (0, 0)) → ¬ row = some i := fun e e2 => by
    obtain ⟨_, ob, h2, h3⟩ := hr _ e2
    rw [h2] at e
    cases e
    cases h3
  have hlt : ∀ {i : Nat} {c : Array Value} {t : TypeId}, W.heap[i]? = some (.cells c t (0, 0)) → i < W.heap.size := fun e => (Array.getElem?_eq_some_iff.1 e).1
  exact ⟨h.pf, h.ds.own hg hr, (o.block Bq (hlt h.bx) (hn h.bx)).trans h.bx, (o.block Bn (hlt h.bm) (hn h.bm)).trans h.bm, h.gb⟩
theorem prefix_not {ys pre : List Nat} (hp : pre <+: ys) (hn : ys.Nodup) {j y : Nat} (hj : pre.length ≤ j) (hy : ys[j]? = some y) : y ∉ pre := by
  intro hm
  obtain ⟨r, hr⟩ := hp
  subst hr
  rw [List.getElem?_append_right hj] at hy
  have h2 : y ∈ r := List.mem_of_getElem? hy
  exact (List.nodup_append.1 hn).2.2 y hm y h2 rfl
theorem Iv.ms {F0 : Nat → Nat} (h : Iv w Q Z B G R P b s l now bq bn D Bq Bn n ys pre W) (hn : ys.Nodup) (hF : ∀ i, Bm.tb F0 i = true ↔ i < slo b ∧ ∃ x ∈ l, lof (slo b) s x = i) (hy : ∀ y ∈ ys, Bm.tb F0 y = true) :
    Ms Bq Bn Q (slo b) n s F0 ys pre.length W := by
  obtain ⟨⟨ls, r, F, q1, q2⟩, q3⟩ := h.ds.wh
  refine ⟨F, ⟨(box1 h.bx).1, (box1 h.bm).1, q1.cell rfl, q1.cell rfl, q1.cell rfl, q1.cell rfl, q1.cell rfl, q1.cell rfl, q3.tab, q2.wd⟩, fun i _ e => ?_, fun j y hj e => ?_⟩
  · obtain ⟨h1, x, hx, h2⟩ := (q2.iff q1.ql.is i).1 e
    exact (hF i).2 ⟨h1, x, (vsL_mem.1 hx).1, h2⟩
  · obtain ⟨h1, x, hx, h2⟩ := (hF y).1 (hy y (List.mem_of_getElem? e))
    refine (q2.iff q1.ql.is y).2 ⟨h1, x, vsL_mem.2 ⟨hx, fun e3 => ?_⟩, h2⟩
    rw [h2] at e3
    rcases List.mem_cons.1 e3.1 with e4 | e4
    · omega
    · exact prefix_not h.pf hn hj e e4
/-- What a round's call of cut is asked in, and what it leaves. -/
theorem Iv.step {v : Value} {d d2 : List T} {Wx w2 w3 : World} {p' : Option Addr} {n' c' x : Nat} (h : Iv w Q Z B G R P b s l now bq bn D Bq Bn n ys pre W) (hn : ys.Nodup) (hln : l.Nodup) (hys : ∀ y ∈ ys, y < slo b) (hx : pre ++ [x] <+: ys)
    (c1 : W.heap[D]? = some (.cells #[v] 36 (0, 0))) (c2 : OwnT W w.heap.size v d) (c3 : d.Perm (vsA (slo b) s now (slo b :: pre) l))
    (hb : Bel (W.setCell ⟨Q, 7, none⟩ (.int .i64 ((pre.length + 1 : Nat) : Int))) Wx) (o2 : Off (Fo Q G R) Wx w2) (hd2 : d2.Perm (dueIn (slo b) s now x (vsL (slo b) s now (slo b :: pre) l)))
    (hq2 : Wh w2 Q Z B G R P b s ((pre.length + 1 : Nat) : Int) (leftIn (slo b) s now x (vsL (slo b) s now (slo b :: pre) l)))
    (hown : OwnT w3 w.heap.size (.slice p' n' c') (d ++ d2)) (hg : w2.grownBy w3 v.ownBlock) (Bz : Nat) (hBz : D < Bz ∧ w.heap.size ≤ Bz) :
    KeepsFrom Bz W (w3.setCell ⟨D, 0, none⟩ (.slice p' n' c')) ∧ Iv w Q Z B G R P b s l now bq bn D Bq Bn n ys (pre ++ [x]) (w3.setCell ⟨D, 0, none⟩ (.slice p' n' c')) := by
  obtain ⟨g1, g2, g3⟩ := h.ds.ge
  have lw := h.ds.lw
  have hlt : ∀ {i : Nat} {c : Array Value} {t : TypeId}, W.heap[i]? = some (.cells c t (0, 0)) → i < W.heap.size := fun e => (Array.getElem?_eq_some_iff.1 e).1
  have o1 : Off (Only Q) W (W.setCell ⟨Q, 7, none⟩ (.int .i64 ((pre.length + 1 : Nat) : Int))) := Off.setCell (Off.refl (Only Q) W) (p := ⟨Q, 7, none⟩) (.inl rfl) _
  have oW2 : Off (Fo Q G R) W w2 := ((o1.mono (fun _ _ e => .inl e)).then (hb.off _)).then o2
  have o3 : Off (fun i => v.ownBlock = some i) w2 w3 := Off.grown (Off.refl _ w2) hg (fun i e => .inl e)
  have o4 : Off (fun i => i = D) w3 (w3.setCell ⟨D, 0, none⟩ (.slice p' n' c')) := Off.setCell (Off.refl (fun i => i = D) w3) (p := ⟨D, 0, none⟩) (.inl rfl) _
  have oAll : Off (fun i => Fo Q G R i ∨ v.ownBlock = some i ∨ i = D) W (w3.setCell ⟨D, 0, none⟩ (.slice p' n' c')) :=
    ((oW2.mono (fun _ _ e => .inl e)).then (o3.mono (fun _ _ e => .inr (.inl e)))).then (o4.mono (fun _ _ e => .inr (.inr e)))
  have ownge : ∀ i, v.ownBlock = some i → w.heap.size ≤ i := fun i e => (c2.lt i e).1
  have stay : ∀ {i : Nat} {c : Array Value} {t : TypeId}, W.heap[i]? = some (.cells c t (0, 0)) → w.heap.size ≤ i → t ≠ 41 → t ≠ 36 → (w3.setCell ⟨D, 0, none⟩ (.slice p' n' c')).heap[i]? = W.heap[i]? := fun {i c t} e hge n1 n2 => by
    refine oAll.block i (hlt e) (fun e2 => ?_)
    rcases e2 with e2 | e2 | e2
    · have := fo_lt lw e2; omega
    · obtain ⟨cc, hc⟩ := c2.cells e2
      exact ty_ne e hc n1 rfl
    · subst e2
      exact ty_ne e c1 n2 rfl
  have hDw2 : w2.heap[D]? = some (.cells #[v] 36 (0, 0)) := (oW2.block D (hlt c1) (fun e => by have := fo_lt lw e; omega)).trans c1
  have hDw3 : w3.heap[D]? = some (.cells #[v] 36 (0, 0)) := (o3.block D (Array.getElem?_eq_some_iff.1 hDw2).1 (fun e => by
    obtain ⟨cc, hc⟩ := c2.cells e
    exact ty_ne c1 hc (by decide) rfl)).trans hDw2
  have hxn : x ∉ slo b :: pre := by
    intro e
    have hxm : x ∈ ys := hx.subset (by simp)
    rcases List.mem_cons.1 e with e | e
    · have := hys x hxm; omega
    · obtain ⟨r, hr⟩ := hx
      rw [← hr, List.append_assoc] at hn
      exact (List.nodup_append.1 hn).2.2 x e x (by simp) rfl
  have hwh : Wh (w3.setCell ⟨D, 0, none⟩ (.slice p' n' c')) Q Z B G R P b s ((pre.length + 1 : Nat) : Int) (vsL (slo b) s now (slo b :: (pre ++ [x])) l) := by
    have e1 : leftIn (slo b) s now x (vsL (slo b) s now (slo b :: pre) l) = vsL (slo b) s now (slo b :: (pre ++ [x])) l := vsL_next
    rw [e1] at hq2
    have z1 := lw
    exact (hq2.off o3 (fun i e e2 => by have := ownge i e2; have := fo4_lt lw e; omega) (fun e => by have := ownge 0 e; omega)).off o4 (fun i e e2 => by have := fo4_lt lw e; omega) (fun e => by omega)
  refine ⟨⟨oAll.size, fun i ob hi e hc => ?_⟩, hx, ⟨by simpa using hwh, (stay h.ds.cq g1 (by decide) (by decide)).trans h.ds.cq, (stay h.ds.cn g2 (by decide) (by decide)).trans h.ds.cn, ⟨_, d ++ d2, heap_setCell_same _ _ 0 _ 36 _ hDw3, hown.off2 o4 (fun i e e2 => ?_), vsA_next hln hxn c3 hd2⟩, ⟨g1, g2, g3⟩, lw, ?_⟩, (stay h.bx h.gb.1 (by decide) (by decide)).trans h.bx, (stay h.bm h.gb.2 (by decide) (by decide)).trans h.bm, h.gb⟩
  · refine (oAll.block i (Array.getElem?_eq_some_iff.1 e).1 (fun e2 => ?_)).trans e
    rcases e2 with e2 | e2 | e2
    · have := fo_lt lw e2; omega
    · obtain ⟨cc, hc2⟩ := c2.cells e2
      rw [hc2] at e
      cases e
      cases hc
    · subst e2
      rw [c1] at e
      cases e
      cases hc
  · subst e2
    obtain ⟨cc, hc2⟩ := hown.cells e
    exact ty_ne hDw3 hc2 (by decide) rfl
  · exact Off.trans h.ds.off oAll (fun i e => by
      rcases e with e | e | e
      · exact .inl e
      · exact .inr (ownge i e)
      · exact .inr (by omega))
end
end Go.Proofs.YtdoceldofkaapaaDoor.Ha
