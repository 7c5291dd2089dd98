/-
  Which timer a wheel's Min finds, as plain mathematics.
-/
import Derived.Test.YtllohpojajijjaaGreatDoorWm4
set_option linter.unusedVariables false
set_option linter.unusedSimpArgs false
namespace Go.Proofs.YtllohpojajijjaaGreatDoor
theorem head_of {l : List T} (h : So l) {x : T} (hx : x ∈ l) (hm : ∀ y ∈ l, lt y x = false) : l.head? = some x := by
  cases l with
  | nil => simp at hx
  | cons z r =>
    rw [List.head?_cons]
    congr 1
    have h1 := hm z (by simp)
    rcases List.mem_cons.1 hx with e | e
    · exact e.symm
    · exact lt_total h1 ((List.pairwise_cons.1 h).1 x e)
theorem lof_ready {S : Nat} (h : 0 < S) {s : Int} {x : T} : lof S s x = S ↔ x.a ≤ s := by
  unfold lof
  have := slt_lt h x
  constructor
  · intro e
    split at e
    · assumption
    · omega
  · intro e; rw [if_pos e]
/-- The first of those that lie in the slots pre. -/
structure Mi (S : Nat) (s : Int) (l : List T) (pre : List Nat) (m : Option T) : Prop where
  no : pre = [] → m = none
  so : pre ≠ [] → ∃ x, m = some x ∧ x ∈ l ∧ lof S s x ∈ pre ∧ ∀ y ∈ l, lof S s y ∈ pre → lt y x = false
def bst (m : Option T) (t : T) : T := match m with | none => t | some f => if lt t f = true then t else f
section
variable {P S : Nat} {s : Int} {ls : Ls} {r : Nat → T} {F : Nat → Nat} {l : List T}
theorem ready_some (hi : Is P (S + 1) (lof S s) ls r l) (h0 : 4 ≤ S) (hne : ls S ≠ []) : ∃ m, mn ((ls S).map r) = some m ∧ l.head? = some m := by
  cases e : mn ((ls S).map r) with
  | none =>
    exfalso
    cases hq : ls S with
    | nil => exact hne hq
    | cons y q => rw [hq, List.map_cons, mn_cons] at e; cases e
  | some m =>
    refine ⟨m, rfl, ?_⟩
    obtain ⟨h1, h2⟩ := mn_spec e
    obtain ⟨h3, h4⟩ := (hi.mem_list (Nat.lt_succ_self S) _).1 h1
    have h5 := (lof_ready (by omega)).1 h4
    refine head_of hi.so h3 fun y hy => ?_
    by_cases e2 : lof S s y = S
    · exact h2 y ((hi.mem_list (Nat.lt_succ_self S) _).2 ⟨hy, e2⟩)
    · have e3 : ¬ y.a ≤ s := fun e3 => e2 ((lof_ready (by omega)).2 e3)
      rw [lt_no]
      unfold Lt
      omega
theorem ready_none (hi : Is P (S + 1) (lof S s) ls r l) (h0 : 4 ≤ S) (hne : ls S = []) : ∀ x ∈ l, s < x.a := by
  intro x hx
  apply Int.lt_of_not_ge
  intro e
  have h1 := (hi.tm x hx).2.2.2.2
  rw [(lof_ready (by omega)).2 e, hne] at h1
  cases h1
theorem Mi.step {pre : List Nat} {m : Option T} (h : Mi S s l pre m) (hi : Is P (S + 1) (lof S s) ls r l) {x : Nat} (hx : x < S + 1) {t : T} (ht : mn ((ls x).map r) = some t) : Mi S s l (pre ++ [x]) (some (bst m t)) := by
  obtain ⟨h1, h2⟩ := mn_spec ht
  obtain ⟨h3, h4⟩ := (hi.mem_list hx _).1 h1
  have hq : ∀ y ∈ l, lof S s y = x → lt y t = false := fun y hy e => h2 y ((hi.mem_list hx _).2 ⟨hy, e⟩)
  refine ⟨fun e => by simp at e, fun _ => ⟨_, rfl, ?_⟩⟩
  by_cases hp : pre = []
  · rw [h.no hp]
    subst hp
    refine ⟨h3, by simp [bst, h4], fun y hy e => hq y hy (by simpa using e)⟩
  · obtain ⟨f, e1, e2, e3, e4⟩ := h.so hp
    subst e1
    unfold bst
    simp only
    by_cases hc : lt t f = true
    · rw [if_pos hc]
      refine ⟨h3, by simp [h4], fun y hy e => ?_⟩
      rcases List.mem_append.1 e with e | e
      · exact lt_ntrans (e4 y hy e) (lt_asymm hc)
      · exact hq y hy (by simpa using e)
    · rw [if_neg hc]
      refine ⟨e2, by simp [e3], fun y hy e => ?_⟩
      rcases List.mem_append.1 e with e | e
      · exact e4 y hy e
      · exact lt_ntrans (hq y hy (by simpa using e)) (by simpa using hc)
theorem Mi.done (hi : Is P (S + 1) (lof S s) ls r l) (hF : Fl S ls F) (h0 : 4 ≤ S) (hr : ls S = []) {m : Option T} (h : Mi S s l (yss F S (fs S s) S) m) : m = l.head? := by
  have hf := fs_lt (S := S) (by omega) s
  have hall : ∀ y ∈ l, lof S s y ∈ yss F S (fs S s) S := fun y hy => by
    have h1 := ready_none hi h0 hr y hy
    have h2 : lof S s y < S := by rw [lof_of h1]; exact slt_lt (by omega) y
    exact (mem_yss hF.hz hf (Nat.le_refl S)).2 ⟨(hF.iff hi _).2 ⟨h2, y, hy, rfl⟩, Nat.mod_lt _ (by omega)⟩
  by_cases hp : yss F S (fs S s) S = []
  · rw [h.no hp]
    cases l with
    | nil => rfl
    | cons z q => have := hall z (by simp); rw [hp] at this; cases this
  · obtain ⟨x, rfl, h1, h2, h3⟩ := h.so hp
    exact (head_of hi.so h1 fun y hy => h3 y hy (hall y hy)).symm
theorem Mi.brk (hi : Is P (S + 1) (lof S s) ls r l) (hF : Fl S ls F) (h0 : 4 ≤ S) (hs : Tk s) (hl : ∀ t ∈ l, Tk t.a) (hr : ls S = []) {pre : List Nat} (hp : pre <+: yss F S (fs S s) S) {x : T} (h : Mi S s l pre (some x)) (hd : x.a - s ≤ (S : Int)) : l.head? = some x := by
  have hf := fs_lt (S := S) (by omega) s
  have hne : pre ≠ [] := fun e => by have := h.no e; cases this
  obtain ⟨x', e, h1, h2, h3⟩ := h.so hne
  cases e
  refine head_of hi.so h1 fun y hy => ?_
  by_cases hm : lof S s y ∈ pre
  · exact h3 y hy hm
  · have g1 := ready_none hi h0 hr y hy
    have g0 := ready_none hi h0 hr x h1
    have g2 : lof S s y < S := by rw [lof_of g1]; exact slt_lt (by omega) y
    have g3 : lof S s y ∈ yss F S (fs S s) S := (mem_yss hF.hz hf (Nat.le_refl S)).2 ⟨(hF.iff hi _).2 ⟨g2, y, hy, rfl⟩, Nat.mod_lt _ (by omega)⟩
    have ho := yss_order (F := F) hF.hz hf (Nat.le_refl S)
    obtain ⟨q, hq⟩ := hp
    rw [← hq] at g3 ho
    rcases List.mem_append.1 g3 with g3 | g3
    · exact absurd g3 hm
    · have k := (List.pairwise_append.1 ho).2.2 _ h2 _ g3
      rw [lof_of g1, lof_of g0, pos_slt h0 hs (hl x h1) g0, pos_slt h0 hs (hl y hy) g1] at k
      have a1 : (x.a - s - 1) % (S : Int) = x.a - s - 1 := Int.emod_eq_of_lt (by omega) (by omega)
      have a2 := Int.emod_nonneg (y.a - s - 1) (b := (S : Int)) (by omega)
      have a3 : (y.a - s - 1) % (S : Int) ≤ y.a - s - 1 := by
        have := Int.emod_add_mul_ediv (y.a - s - 1) (S : Int)
        have q : 0 ≤ (S : Int) * ((y.a - s - 1) / (S : Int)) := Int.mul_nonneg (by omega) (Int.ediv_nonneg (by omega) (by omega))
        omega
      rw [lt_no]
      unfold Lt
      omega
theorem slot_some (hi : Is P (S + 1) (lof S s) ls r l) (hF : Fl S ls F) {x : Nat} (hx : Bm.tb F x = true) : x < S ∧ ∃ t, mn ((ls x).map r) = some t ∧ t ∈ l := by
  obtain ⟨h1, h2⟩ := (hF.on x).1 hx
  refine ⟨h1, ?_⟩
  cases e : mn ((ls x).map r) with
  | none =>
    exfalso
    cases hq : ls x with
    | nil => exact h2 hq
    | cons y q => rw [hq, List.map_cons, mn_cons] at e; cases e
  | some m => exact ⟨m, rfl, ((hi.mem_list (by omega) _).1 (mn_spec e).1).1⟩
end
end Go.Proofs.YtllohpojajijjaaGreatDoor
