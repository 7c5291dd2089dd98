/-
  Which timer a wheel's Min finds, as plain mathematics.
  What a Min's rounds keep.
-/
import Derived.Test.YtdoceldofkaapaaDoorAm4
import Derived.Test.YtdoceldofkaapaaDoorAiv
import Derived.Deep.Cut
import Derived.Stop.RegionWithIn
import Derived.Sort.CutIn
import Derived.Sort.QuietIn
set_option linter.unusedVariables false
set_option linter.unusedSimpArgs false
namespace Go.Proofs.YtdoceldofkaapaaDoor.Ha
theorem head_of {l : List T} (h : So l) {x : T} (hx : x ∈ l) (hm : ∀ y ∈ l, lt y x = false) : l.head? = some x := by
  cases l with
  | nil => simp at hx
  | cons z r =>
    rw [List.head?_cons]
    congr 1
    have h1 := hm z (by simp)
    rcases List.mem_cons.1 hx with e | e
    · exact e.symm
    · exact lt_total h1 ((List.pairwise_cons.1 h).1 x e)
theorem lof_ready {S : Nat} (h : 0 < S) {s : Int} {x : T} : lof S s x = S ↔ x.a ≤ s := by
  unfold lof
  have := slt_lt h x
  constructor
  · intro e
    split at e
    · assumption
    · omega
  · intro e; rw [if_pos e]
/-- The first of those that lie in the slots pre. -/
structure Mi (S : Nat) (s : Int) (l : List T) (pre : List Nat) (m : Option T) : Prop where
  no : pre = [] → m = none
  so : pre ≠ [] → ∃ x, m = some x ∧ x ∈ l ∧ lof S s x ∈ pre ∧ ∀ y ∈ l, lof S s y ∈ pre → lt y x = false
def bst (m : Option T) (t : T) : T := match m with | none => t | some f => if lt t f = true then t else f
section
variable {P S : Nat} {s : Int} {ls : Ls} {r : Nat → T} {F : Nat → Nat} {l : List T}
theorem ready_some (hi : Is P (S + 1) (lof S s) ls r l) (h0 : 4 ≤ S) (hne : ls S ≠ []) : ∃ m, mn ((ls S).map r) = some m ∧ l.head? = some m := by
  cases e : mn ((ls S).map r) with
  | none =>
    exfalso
    cases hq : ls S with
    | nil => exact hne hq
    | cons y q => rw [hq, List.map_cons, mn_cons] at e; cases e
  | some m =>
    refine ⟨m, rfl, ?_⟩
    obtain ⟨h1, h2⟩ := mn_spec e
    obtain ⟨h3, h4⟩ := (hi.mem_list (Nat.lt_succ_self S) _).1 h1
    have h5 := (lof_ready (by omega)).1 h4
    refine head_of hi.so h3 fun y hy => ?_
    by_cases e2 : lof S s y = S
    · exact h2 y ((hi.mem_list (Nat.lt_succ_self S) _).2 ⟨hy, e2⟩)
    · have e3 : ¬ y.a ≤ s := fun e3 => e2 ((lof_ready (by omega)).2 e3)
      rw [lt_no]
      unfold Lt
      omega
theorem ready_none (hi : Is P (S + 1) (lof S s) ls r l) (h0 : 4 ≤ S) (hne : ls S = []) : ∀ x ∈ l, s < x.a := by
  intro x hx
  apply Int.lt_of_not_ge
  intro e
  have h1 := (hi.tm x hx).2.2.2.2
  rw [(lof_ready (by omega)).2 e, hne] at h1
  cases h1
theorem Mi.step {pre : List Nat} {m : Option T} (h : Mi S s l pre m) (hi : Is P (S + 1) (lof S s) ls r l) {x : Nat} (hx : x < S + 1) {t : T} (ht : mn ((ls x).map r) = some t) : Mi S s l (pre ++ [x]) (some (bst m t)) := by
  obtain ⟨h1, h2⟩ := mn_spec ht
  obtain ⟨h3, h4⟩ := (hi.mem_list hx _).1 h1
  have hq : ∀ y ∈ l, lof S s y = x → lt y t = false := fun y hy e => h2 y ((hi.mem_list hx _).2 ⟨hy, e⟩)
  refine ⟨fun e => by simp at e, fun _ => ⟨_, rfl, ?_⟩⟩
  by_cases hp : pre = []
  · rw [h.no hp]
    subst hp
    refine ⟨h3, by simp [bst, h4], fun y hy e => hq y hy (by simpa using e)⟩
  · obtain ⟨f, e1, e2, e3, e4⟩ := h.so hp
    subst e1
    unfold bst
    simp only
    by_cases hc : lt t f = true
    · rw [if_pos hc]
      refine ⟨h3, by simp [h4], fun y hy e => ?_⟩
      rcases List.mem_append.1 e with e | e
      · exact lt_ntrans (e4 y hy e) (lt_asymm hc)
      · exact hq y hy (by simpa using e)
    · rw [if_neg hc]
      refine ⟨e2, by simp [e3], fun y hy e => ?_⟩
      rcases List.mem_append.1 e with e | e
      · exact e4 y hy e
      · exact lt_ntrans (hq y hy (by simpa using e)) (by simpa using hc)
theorem Mi.done (hi : Is P (S + 1) (lof S s) ls r l) (hF : Fl S ls F) (h0 : 4 ≤ S) (hr : ls S = []) {m : Option T} (h : Mi S s l (yss F S (fs S s) S) m) : m = l.head? := by
  have hf := fs_lt (S := S) (by omega) s
  have hall : ∀ y ∈ l, lof S s y ∈ yss F S (fs S s) S := fun y hy => by
    have h1 := ready_none hi h0 hr y hy
    have h2 : lof S s y < S := by rw [lof_of h1]; exact slt_lt (by omega) y
    exact (mem_yss hF.hz hf (Nat.le_refl S)).2 ⟨(hF.iff hi _).2 ⟨h2, y, hy, rfl⟩, Nat.mod_lt _ (by omega)⟩
  by_cases hp : yss F S (fs S s) S = []
  · rw [h.no hp]
    cases l with
    | nil => rfl
    | cons z q => have := hall z (by simp); rw [hp] at this; cases this
  · obtain ⟨x, rfl, h1, h2, h3⟩ := h.so hp
    exact (head_of hi.so h1 fun y hy => h3 y hy (hall y hy)).symm
theorem Mi.brk (hi : Is P (S + 1) (lof S s) ls r l) (hF : Fl S ls F) (h0 : 4 ≤ S) (hs : Tk s) (hl : ∀ t ∈ l, Tk t.a) (hr : ls S = []) {pre : List Nat} (hp : pre <+: yss F S (fs S s) S) {x : T} (h : Mi S s l pre (some x)) (hd : x.a - s ≤ (S : Int)) : l.head? = some x := by
  have hf := fs_lt (S := S) (by omega) s
  have hne : pre ≠ [] := fun e => by have := h.no e; cases this
  obtain ⟨x', e, h1, h2, h3⟩ := h.so hne
  cases e
  refine head_of hi.so h1 fun y hy => ?_
  by_cases hm : lof S s y ∈ pre
  · exact h3 y hy hm
  · have g1 := ready_none hi h0 hr y hy
    have g0 := ready_none hi h0 hr x h1
    have g2 : lof S s y < S := by rw [lof_of g1]; exact slt_lt (by omega) y
    have g3 : lof S s y ∈ yss F S (fs S s) S := (mem_yss hF.hz hf (Nat.le_refl S)).2 ⟨(hF.iff hi _).2 ⟨g2, y, hy, rfl⟩, Nat.mod_lt _ (by omega)⟩
    have ho := yss_order (F := F) hF.hz hf (Nat.le_refl S)
    obtain ⟨q, hq⟩ := hp
    rw [← hq] at g3 ho
    rcases List.mem_append.1 g3 with g3 | g3
    · exact absurd g3 hm
    · have k := (List.pairwise_append.1 ho).2.2 _ h2 _ g3
      rw [lof_of g1, lof_of g0, pos_slt h0 hs (hl x h1) g0, pos_slt h0 hs (hl y hy) g1] at k
      have a1 : (x.a - s - 1) % (S : Int) = x.a - s - 1 := Int.emod_eq_of_lt (by omega) (by omega)
      have a2 := Int.emod_nonneg (y.a - s - 1) (b := (S : Int)) (by omega)
      have a3 : (y.a - s - 1) % (S : Int) ≤ y.a - s - 1 := by
        have := Int.emod_add_mul_ediv (y.a - s - 1) (S : Int)
        have q : 0 ≤ (S : Int) * ((y.a - s - 1) / (S : Int)) := Int.mul_nonneg (by omega) (Int.ediv_nonneg (by omega) (by omega))
        omega
      rw [lt_no]
      unfold Lt
      omega
theorem slot_some (hi : Is P (S + 1) (lof S s) ls r l) (hF : Fl S ls F) {x : Nat} (hx : Bm.tb F x = true) : x < S ∧ ∃ t, mn ((ls x).map r) = some t ∧ t ∈ l := by
  obtain ⟨h1, h2⟩ := (hF.on x).1 hx
  refine ⟨h1, ?_⟩
  cases e : mn ((ls x).map r) with
  | none =>
    exfalso
    cases hq : ls x with
    | nil => exact h2 hq
    | cons y q => rw [hq, List.map_cons, mn_cons] at e; cases e
  | some m => exact ⟨m, rfl, ((hi.mem_list (by omega) _).1 (mn_spec e).1).1⟩
end
end Go.Proofs.YtdoceldofkaapaaDoor.Ha
namespace Go.Proofs.YtdoceldofkaapaaDoor.Ha
open Go.RowKit Go.Shelf
attribute [local go_sem] Oper.semAt_some
/-- The boxes of a Min: that of the queue, that of its answer, and those of the first one so far. -/
structure Sb (w : World) (Q bq b2 D1 D2 : Nat) (x : T) (z : Bool) (W : World) : Prop where
  cq : W.heap[bq]? = some (.cells #[.pointer (some ⟨Q, 0, none⟩)] 25 (0, 0))
  c2 : W.heap[b2]? = some (.cells #[.int .u64 0, .int .u64 0, .int .i64 0] 41 (0, 0))
  d1 : W.heap[D1]? = some (.cells #[.int .u64 x.a, .int .u64 x.s, .int .i64 x.p] 41 (0, 0))
  d2 : W.heap[D2]? = some (.cells #[.bool z] 4 (0, 0))
  ge : w.heap.size ≤ bq ∧ w.heap.size ≤ b2 ∧ w.heap.size ≤ D1 ∧ w.heap.size ≤ D2
  ne : ¬ b2 = D1
  bel : Bel w W
section
variable {w : World} {Q bq b2 D1 D2 : Nat} {x : T} {z : Bool} {W W' : World}
theorem Sb.keep {f : Nat → Prop} (h : Sb w Q bq b2 D1 D2 x z W) (o : Off f W W') (hf : ∀ i, f i → w.heap.size ≤ i ∧ ∀ c t, ¬ W.heap[i]? = some (.cells c t (0, 0))) : Sb w Q bq b2 D1 D2 x z W' := by
  have st : ∀ {i : Nat} {c : Array Value} {t : TypeId}, W.heap[i]? = some (.cells c t (0, 0)) → W'.heap[i]? = some (.cells c t (0, 0)) := fun e => (o.block _ (Array.getElem?_eq_some_iff.1 e).1 (fun hi => (hf _ hi).2 _ _ e)).trans e
  exact ⟨st h.cq, st h.c2, st h.d1, st h.d2, h.ge, h.ne, o.bel h.bel (fun i e => (hf i e).1)⟩
theorem Sb.le (h : Sb w Q bq b2 D1 D2 x z W) (o : Bel W W') : Sb w Q bq b2 D1 D2 x z W' := h.keep o (fun _ e => e.elim)
theorem Sb.own (h : Sb w Q bq b2 D1 D2 x z W) {row : Option Nat} (hg : W.grownBy W' row) (hr : ∀ r, row = some r → w.heap.size ≤ r ∧ ∃ o : Obj, W.heap[r]? = some o ∧ o.isCells = false) : Sb w Q bq b2 D1 D2 x z W' := by
  have o : Off (fun k => row = some k) W W' := Off.grown (Off.refl _ W) hg (fun k e => .inl e)
  refine h.keep o (fun i e => ?_)
  obtain ⟨h1, ob, h2, h3⟩ := hr i e
  refine ⟨h1, fun c t e2 => ?_⟩
  rw [h2] at e2
  cases e2
  cases h3
/-- The first one so far is another one. -/
theorem Sb.turn (h : Sb w Q bq b2 D1 D2 x z W) (y : T) (u : Bool) : Sb w Q bq b2 D1 D2 y u ((((W.setCell ⟨D1, 0, none⟩ (.int .u64 y.a)).setCell ⟨D1, 1, none⟩ (.int .u64 y.s)).setCell ⟨D1, 2, none⟩ (.int .i64 y.p)).setCell ⟨D2, 0, none⟩ (.bool u)) := by
  obtain ⟨g1, g2, g3, g4⟩ := h.ge
  have lt : ∀ {i : Nat} {c : Array Value} {t : TypeId}, W.heap[i]? = some (.cells c t (0, 0)) → i < W.heap.size := fun e => (Array.getElem?_eq_some_iff.1 e).1
  have o1 := off3 W D1 (.int .u64 y.a) (.int .u64 y.s) (.int .i64 y.p)
  have s1 := box3_set (x' := .int .u64 y.a) (y' := .int .u64 y.s) (z' := .int .i64 y.p) h.d1
  generalize ((W.setCell ⟨D1, 0, none⟩ (.int .u64 y.a)).setCell ⟨D1, 1, none⟩ (.int .u64 y.s)).setCell ⟨D1, 2, none⟩ (.int .i64 y.p) = V at *
  have n1 : bq ≠ D1 := ty_ne h.cq h.d1 (by decide)
  have n2 : D2 ≠ D1 := ty_ne h.d2 h.d1 (by decide)
  have n3 : bq ≠ D2 := ty_ne h.cq h.d2 (by decide)
  have n4 : b2 ≠ D2 := ty_ne h.c2 h.d2 (by decide)
  have o2 : Off (fun k => k = D2) V (V.setCell ⟨D2, 0, none⟩ (.bool u)) := Off.setCell (Off.refl (fun k => k = D2) V) (p := ⟨D2, 0, none⟩) (.inl rfl) _
  have d2V := (o1.block D2 (lt h.d2) n2).trans h.d2
  refine ⟨(o2.block bq (by have := o1.size; have := lt h.cq; omega) n3).trans ((o1.block bq (lt h.cq) n1).trans h.cq), (o2.block b2 (by have := o1.size; have := lt h.c2; omega) n4).trans ((o1.block b2 (lt h.c2) h.ne).trans h.c2), (o2.block D1 (by have := o1.size; have := lt h.d1; omega) (fun e => n2 e.symm)).trans s1, ?_, h.ge, h.ne, o2.bel (o1.bel h.bel (fun i e => by subst e; exact g3)) (fun i e => by subst e; exact g4)⟩
  exact heap_setCell_same _ _ 0 _ 4 _ d2V
theorem Sb.turnO (h : Sb w Q bq b2 D1 D2 x z W) (y : T) (u : Bool) : Off (fun i => i = D1 ∨ i = D2) W ((((W.setCell ⟨D1, 0, none⟩ (.int .u64 y.a)).setCell ⟨D1, 1, none⟩ (.int .u64 y.s)).setCell ⟨D1, 2, none⟩ (.int .i64 y.p)).setCell ⟨D2, 0, none⟩ (.bool u)) :=
  Off.setCell (p := ⟨D2, 0, none⟩) ((off3 W D1 _ _ _).mono (fun _ _ e => .inl e)) (.inl (.inr rfl)) _
theorem keeps_of {f : Nat → Prop} (o : Off f W W') (hf : ∀ i, f i → ∃ c t, W.heap[i]? = some (.cells c t (0, 0))) (Bz : Nat) : KeepsFrom Bz W W' := by
  refine ⟨o.size, fun i ob hi e hc => (o.block i (Array.getElem?_eq_some_iff.1 e).1 (fun e2 => ?_)).trans e⟩
  obtain ⟨c, t, h2⟩ := hf i e2
  rw [h2] at e
  cases e
  cases hc
/-- What a Min's rounds keep. -/
structure Iw (w : World) (Q S : Nat) (s : Int) (l : List T) (bq b2 D1 D2 Bq Bn n : Nat) (ys pre : List Nat) (W : World) : Prop where
  pf : pre <+: ys
  st : ∃ m, Mi S s l pre m ∧ Sb w Q bq b2 D1 D2 (m.getD default) m.isSome W
  bx : W.heap[Bq]? = some (.cells #[.pointer (some ⟨Q, 0, none⟩)] 25 (0, 0))
  bm : W.heap[Bn]? = some (.cells #[.int .i64 (n : Nat)] 3 (0, 0))
  gb : w.heap.size ≤ Bq ∧ w.heap.size ≤ Bn
theorem Iw.own {S : Nat} {s : Int} {l : List T} {Bq Bn n : Nat} {ys pre : List Nat} (h : Iw w Q S s l bq b2 D1 D2 Bq Bn n ys pre W) {row : Option Nat} (hg : W.grownBy W' row) (hr : ∀ r, row = some r → w.heap.size ≤ r ∧ ∃ o : Obj, W.heap[r]? = some o ∧ o.isCells = false) : Iw w Q S s l bq b2 D1 D2 Bq Bn n ys pre W' := by
  have o : Off (fun k => row = some k) W W' := Off.grown (Off.refl _ W) hg (fun k e => .inl e)
  have st : ∀ {i : Nat} {c : Array Value} {t : TypeId}, W.heap[i]? = some (.cells c t (0, 0)) → W'.heap[i]? = some (.cells c t (0, 0)) := fun {i c t} e => (o.block i (Array.getElem?_eq_some_iff.1 e).1 (fun hi => by
    obtain ⟨_, ob, h2, h3⟩ := hr i hi
    rw [h2] at e
    cases e
    cases h3)).trans e
  obtain ⟨m, h1, h2⟩ := h.st
  exact ⟨h.pf, ⟨m, h1, h2.own hg hr⟩, st h.bx, st h.bm, h.gb⟩
theorem Iw.step {S : Nat} {s : Int} {l : List T} {Bq Bn n x' : Nat} {ys pre : List Nat} {y : T} (h : Iw w Q S s l bq b2 D1 D2 Bq Bn n ys pre W) (hx : pre ++ [x'] <+: ys) (hm : Mi S s l (pre ++ [x']) (some y)) (hs : Sb w Q bq b2 D1 D2 y true W') (o : Off (fun i => i = D1 ∨ i = D2) W W') (Bz : Nat) :
    KeepsFrom Bz W W' ∧ Iw w Q S s l bq b2 D1 D2 Bq Bn n ys (pre ++ [x']) W' := by
  obtain ⟨m, h1, h2⟩ := h.st
  have st : ∀ {i : Nat} {c : Array Value} {t : TypeId}, W.heap[i]? = some (.cells c t (0, 0)) → t ≠ 41 → t ≠ 4 → W'.heap[i]? = some (.cells c t (0, 0)) := fun {i c t} e n1 n2 => (o.block i (Array.getElem?_eq_some_iff.1 e).1 (fun hi => by
    rcases hi with hi | hi
    · exact ty_ne e h2.d1 n1 hi
    · exact ty_ne e h2.d2 n2 hi)).trans e
  refine ⟨keeps_of o (fun i e => ?_) Bz, hx, ⟨some y, hm, hs⟩, st h.bx (by decide) (by decide), st h.bm (by decide) (by decide), h.gb⟩
  rcases e with rfl | rfl
  · exact ⟨_, _, h2.d1⟩
  · exact ⟨_, _, h2.d2⟩
end
theorem mn_ready {P S : Nat} {s : Int} {ls : Ls} {r : Nat → T} {l : List T} (hi : Is P (S + 1) (lof S s) ls r l) (h0 : 4 ≤ S) {m : T} (h : mn ((ls S).map r) = some m) : l.head? = some m := by
  have hne : ls S ≠ [] := fun e => by rw [e] at h; cases h
  obtain ⟨m', h1, h2⟩ := ready_some hi h0 hne
  rw [h] at h1
  cases h1
  exact h2
theorem mn_noready {S : Nat} {ls : Ls} {r : Nat → T} (h : mn ((ls S).map r) = none) : ls S = [] := by
  cases e : ls S with
  | nil => rfl
  | cons y q => rw [e, List.map_cons, mn_cons] at h; cases h
end Go.Proofs.YtdoceldofkaapaaDoor.Ha
