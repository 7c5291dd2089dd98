/-
  Timers as triples, their order, and lists of them in order: plain mathematics, no program.
-/
import Derived.Below
set_option linter.unusedVariables false
set_option linter.unusedSimpArgs false
namespace Go.Proofs.YtdoceldofkaapaaDoor

/-- -1, 0 or 1, as the one is less than the other, the same, or more. -/
def cz (x y : Int) : Int := if x < y then -1 else if y < x then 1 else 0
theorem cz_lt {x y : Int} (h : x < y) : cz x y = -1 := by unfold cz; rw [if_pos h]
theorem cz_gt {x y : Int} (h : y < x) : cz x y = 1 := by unfold cz; rw [if_neg (by omega), if_pos h]
theorem cz_eq (x : Int) : cz x x = 0 := by unfold cz; rw [if_neg (by omega), if_neg (by omega)]
/-- The first of three that is not 0. -/
def or3 (x y z : Int) : Int := if x ≠ 0 then x else if y ≠ 0 then y else z

/-- A timer: At, Seq, Place. -/
structure T where
  a : Int
  s : Int
  p : Int
instance : Inhabited T := ⟨⟨0, 0, 0⟩⟩
theorem T.ext' {x y : T} (h0 : x.a = y.a) (h1 : x.s = y.s) (h2 : x.p = y.p) : x = y := by cases x; cases y; simp_all
instance : DecidableEq T := fun x y =>
  if h : x.a = y.a ∧ x.s = y.s ∧ x.p = y.p then isTrue (T.ext' h.1 h.2.1 h.2.2) else isFalse fun e => h (by subst e; exact ⟨rfl, rfl, rfl⟩)
theorem T.eq_iff (x y : T) : x = y ↔ x.a = y.a ∧ x.s = y.s ∧ x.p = y.p :=
  ⟨fun e => by subst e; exact ⟨rfl, rfl, rfl⟩, fun h => T.ext' h.1 h.2.1 h.2.2⟩

/-- Which timer is before which, as a number. -/
def cf (x y : T) : Int := or3 (cz x.a y.a) (cz x.s y.s) (cz x.p y.p)
/-- The first is before the second. -/
def lt (x y : T) : Bool := decide (cf x y < 0)
def Lt (x y : T) : Prop := x.a < y.a ∨ x.a = y.a ∧ (x.s < y.s ∨ x.s = y.s ∧ x.p < y.p)
theorem cf_neg (x y : T) : cf x y < 0 ↔ Lt x y := by
  unfold cf Lt or3
  rcases Int.lt_trichotomy x.a y.a with h | h | h
  · rw [cz_lt h]; simp [h]
  · rw [h, cz_eq]
    rcases Int.lt_trichotomy x.s y.s with k | k | k
    · rw [cz_lt k]; simp [k]
    · rw [k, cz_eq]
      rcases Int.lt_trichotomy x.p y.p with l | l | l
      · rw [cz_lt l]; simp [l]
      · rw [l, cz_eq]; simp
      · rw [cz_gt l]; simp; omega
    · rw [cz_gt k]; simp; omega
  · rw [cz_gt h]; simp; omega
theorem lt_iff (x y : T) : lt x y = true ↔ Lt x y := by unfold lt; rw [decide_eq_true_iff, cf_neg]
theorem lt_no (x y : T) : lt x y = false ↔ ¬ Lt x y := by rw [← lt_iff]; simp
theorem lt_irrefl (x : T) : lt x x = false := by rw [lt_no]; unfold Lt; omega
theorem lt_trans {x y z : T} (h : lt x y = true) (k : lt y z = true) : lt x z = true := by
  rw [lt_iff] at *; unfold Lt at *; omega
theorem lt_ntrans {x y z : T} (h : lt x y = false) (k : lt y z = false) : lt x z = false := by
  rw [lt_no] at *; unfold Lt at *; omega
theorem lt_total {x y : T} (h : lt x y = false) (k : lt y x = false) : x = y := by
  rw [lt_no] at *; unfold Lt at *; exact T.ext' (by omega) (by omega) (by omega)
theorem lt_asymm {x y : T} (h : lt x y = true) : lt y x = false := by
  rw [lt_iff] at h; rw [lt_no]; unfold Lt at *; omega

/-- In order: none is before one ahead of it. -/
def So (l : List T) : Prop := l.Pairwise fun x y => lt y x = false
/-- Whether none is before the one ahead of it. -/
def so : List T → Bool
  | [] => true
  | [_] => true
  | x :: y :: r => !lt y x && so (y :: r)
theorem so_iff : ∀ l : List T, so l = true ↔ So l
  | [] => by simp [so, So]
  | [x] => by simp [so, So]
  | x :: y :: r => by
    have ih := so_iff (y :: r)
    unfold so So
    rw [Bool.and_eq_true, ih, List.pairwise_cons]
    unfold So
    constructor
    · rintro ⟨h, k⟩
      refine ⟨fun z hz => ?_, k⟩
      have h' : lt y x = false := by simpa using h
      rcases List.mem_cons.1 hz with rfl | hz
      · exact h'
      · exact lt_ntrans ((List.pairwise_cons.1 k).1 z hz) h'
    · rintro ⟨h, k⟩
      exact ⟨by simpa using h y (by simp), k⟩
theorem so_no (l : List T) : so l = false ↔ ¬ So l := by rw [← so_iff]; simp
/-- By places: at place i + 1 none is before the one at place i. -/
theorem so_places : ∀ l : List T, so l = true ↔ ∀ i, i + 1 < l.length → lt (l.getD (i + 1) default) (l.getD i default) = false
  | [] => by simp [so]
  | [x] => by simp [so]
  | x :: y :: r => by
    have ih := so_places (y :: r)
    unfold so
    rw [Bool.and_eq_true, ih]
    constructor
    · rintro ⟨h, k⟩ i hi
      cases i with
      | zero => simpa using h
      | succ i => simpa using k i (by simpa using hi)
    · intro h
      refine ⟨by simpa using h 0 (by simp), fun i hi => ?_⟩
      simpa using h (i + 1) (by simpa using hi)
theorem So.unique {l m : List T} (h : So l) (k : So m) (p : l.Perm m) : l = m := by
  induction l generalizing m with
  | nil => exact (List.Perm.nil_eq p)
  | cons x r ih =>
    cases m with
    | nil => exact absurd p (by simp)
    | cons y s =>
      have hx := (List.pairwise_cons.1 h)
      have hy := (List.pairwise_cons.1 k)
      have e : x = y := by
        have m1 : x ∈ y :: s := p.subset (by simp)
        have m2 : y ∈ x :: r := p.symm.subset (by simp)
        rcases List.mem_cons.1 m1 with e | m1
        · exact e
        rcases List.mem_cons.1 m2 with e | m2
        · exact e.symm
        exact lt_total (hy.1 x m1) (hx.1 y m2)
      subst e
      rw [ih hx.2 hy.2 (List.Perm.cons_inv p)]
/-- How many are before one. -/
def cnt (l : List T) (t : T) : Nat := l.countP fun x => lt x t
theorem cnt_le (l : List T) (t : T) : cnt l t ≤ l.length := List.countP_le_length
/-- In a list in order those for which a test holds that goes down stand first. -/
theorem split_at {l : List T} {p : T → Bool} (h : l.Pairwise fun x y => p y = true → p x = true) :
    l.take (l.countP p) = l.filter p ∧ l.drop (l.countP p) = l.filter fun x => !p x := by
  induction l with
  | nil => simp
  | cons x r ih =>
    have hx := List.pairwise_cons.1 h
    by_cases c : p x = true
    · have e : (x :: r).countP p = r.countP p + 1 := by simp [c]
      rw [e]
      simp [c, (ih hx.2).1, (ih hx.2).2]
    · have no : ∀ y ∈ r, ¬ p y = true := fun y hy k => c (hx.1 y hy k)
      have e : (x :: r).countP p = 0 := by
        rw [List.countP_eq_zero]
        intro y hy
        rcases List.mem_cons.1 hy with rfl | hy
        · exact c
        · exact no y hy
      have f : r.filter p = [] := by rw [List.filter_eq_nil_iff]; exact no
      have g : r.filter (fun x => !p x) = r := by rw [List.filter_eq_self]; intro y hy; simpa using no y hy
      rw [e]
      simp [c, f, g]
theorem So.before {l : List T} (h : So l) (t : T) : l.take (cnt l t) = l.filter (fun x => lt x t) ∧ l.drop (cnt l t) = l.filter fun x => !lt x t := by
  refine split_at (h.imp ?_)
  intro x y hxy hyt
  cases e : lt x t with
  | true => rfl
  | false => rw [lt_ntrans hxy e] at hyt; cases hyt
/-- A list with one more, behind those that are before it. -/
def put (l : List T) (t : T) : List T := l.take (cnt l t) ++ t :: l.drop (cnt l t)
theorem put_perm (l : List T) (t : T) : (put l t).Perm (t :: l) := by
  unfold put
  refine (List.perm_middle).trans ?_
  rw [List.take_append_drop]
theorem put_so {l : List T} (h : So l) (t : T) : So (put l t) := by
  have k := h.before t
  unfold put So
  rw [List.pairwise_append, List.pairwise_cons, k.1, k.2]
  refine ⟨h.filter _, ⟨fun y hy => ?_, h.filter _⟩, fun x hx y hy => ?_⟩
  · simpa using (List.mem_filter.1 hy).2
  · have hxt : lt x t = true := (List.mem_filter.1 hx).2
    rcases List.mem_cons.1 hy with rfl | hy
    · exact lt_asymm hxt
    · have hyt : lt y t = false := by simpa using (List.mem_filter.1 hy).2
      exact lt_ntrans hyt (lt_asymm hxt)
/-- One by one. -/
def srt (l : List T) : List T := l.foldl put []
theorem srt_aux (l acc : List T) (h : So acc) : So (l.foldl put acc) ∧ (l.foldl put acc).Perm (acc ++ l) := by
  induction l generalizing acc with
  | nil => simpa using h
  | cons x r ih =>
    obtain ⟨h1, h2⟩ := ih (put acc x) (put_so h x)
    refine ⟨h1, h2.trans ?_⟩
    refine ((put_perm acc x).append_right r).trans ?_
    exact List.perm_middle.symm
theorem srt_so (l : List T) : So (srt l) := (srt_aux l [] (by simp [So])).1
theorem srt_perm (l : List T) : (srt l).Perm l := by unfold srt; simpa using (srt_aux l [] (by simp [So])).2
theorem srt_len (l : List T) : (srt l).length = l.length := (srt_perm l).length_eq
theorem srt_of {l m : List T} (h : So m) (p : m.Perm l) : m = srt l := h.unique (srt_so l) (p.trans (srt_perm l).symm)
theorem srt_self {l : List T} (h : So l) : srt l = l := (srt_of h (List.Perm.refl l)).symm
theorem srt_same {l m : List T} (p : l.Perm m) : srt l = srt m := srt_of (srt_so l) ((srt_perm l).trans p)
theorem srt_snoc (l : List T) (x : T) : srt (l ++ [x]) = put (srt l) x := by unfold srt; rw [List.foldl_append]; rfl
/-- Two lists, merged. -/
def mrg : List T → List T → List T
  | [], b => b
  | x :: a, [] => x :: a
  | x :: a, y :: b => if lt y x = true then y :: mrg (x :: a) b else x :: mrg a (y :: b)
termination_by a b => a.length + b.length
theorem mrg_nil_left (b : List T) : mrg [] b = b := by rw [mrg]
theorem mrg_nil_right (a : List T) : mrg a [] = a := by cases a <;> rw [mrg]
theorem mrg_yes {x y : T} {a b : List T} (h : lt y x = true) : mrg (x :: a) (y :: b) = y :: mrg (x :: a) b := by rw [mrg, if_pos h]
theorem mrg_no {x y : T} {a b : List T} (h : lt y x = false) : mrg (x :: a) (y :: b) = x :: mrg a (y :: b) := by rw [mrg, if_neg (by simp [h])]
theorem mrg_perm : ∀ (n : Nat) (a b : List T), a.length + b.length = n → (mrg a b).Perm (a ++ b)
  | n, [], b, _ => by rw [mrg_nil_left]; exact List.Perm.refl _
  | n, x :: a, [], _ => by rw [mrg_nil_right]; simp
  | 0, x :: a, y :: b, h => by simp at h
  | n + 1, x :: a, y :: b, h => by
    cases e : lt y x with
    | true =>
      rw [mrg_yes e]
      refine ((mrg_perm n (x :: a) b (by simp at h ⊢; omega)).cons y).trans ?_
      exact (List.perm_middle (l₁ := x :: a)).symm
    | false =>
      rw [mrg_no e]
      exact (mrg_perm n a (y :: b) (by simp at h ⊢; omega)).cons x
theorem mrg_so : ∀ (n : Nat) (a b : List T), a.length + b.length = n → So a → So b → So (mrg a b)
  | n, [], b, _, _, hb => by rw [mrg_nil_left]; exact hb
  | n, x :: a, [], _, ha, _ => by rw [mrg_nil_right]; exact ha
  | 0, x :: a, y :: b, h, _, _ => by simp at h
  | n + 1, x :: a, y :: b, h, ha, hb => by
    have hx := List.pairwise_cons.1 ha
    have hy := List.pairwise_cons.1 hb
    cases e : lt y x with
    | true =>
      rw [mrg_yes e]
      refine List.pairwise_cons.2 ⟨fun z hz => ?_, mrg_so n (x :: a) b (by simp at h ⊢; omega) ha hy.2⟩
      have hz := (mrg_perm _ (x :: a) b rfl).subset hz
      rcases List.mem_append.1 hz with hz | hz
      · rcases List.mem_cons.1 hz with rfl | hz
        · exact lt_asymm e
        · exact lt_ntrans (hx.1 z hz) (lt_asymm e)
      · exact hy.1 z hz
    | false =>
      rw [mrg_no e]
      refine List.pairwise_cons.2 ⟨fun z hz => ?_, mrg_so n a (y :: b) (by simp at h ⊢; omega) hx.2 hb⟩
      have hz := (mrg_perm _ a (y :: b) rfl).subset hz
      rcases List.mem_append.1 hz with hz | hz
      · exact hx.1 z hz
      · rcases List.mem_cons.1 hz with rfl | hz
        · exact e
        · exact lt_ntrans (hy.1 z hz) e
theorem mrg_srt {a b : List T} (ha : So a) (hb : So b) : mrg a b = srt (a ++ b) := srt_of (mrg_so _ a b rfl ha hb) (mrg_perm _ a b rfl)
theorem mrg_srt2 (a b : List T) : mrg (srt a) (srt b) = srt (a ++ b) := by
  rw [mrg_srt (srt_so a) (srt_so b)]
  exact srt_same ((srt_perm a).append (srt_perm b))
theorem mrg_len (a b : List T) : (mrg a b).length = a.length + b.length := by rw [(mrg_perm _ a b rfl).length_eq, List.length_append]
/-- Those that are due, or the others. -/
def due (l : List T) (now : Int) (d : Bool) : List T := l.filter fun x => decide (x.a ≤ now) == d
theorem So.due {l : List T} (h : So l) (now : Int) :
    l.take (l.countP fun x => decide (x.a ≤ now)) = due l now true ∧ l.drop (l.countP fun x => decide (x.a ≤ now)) = due l now false := by
  have k := split_at (l := l) (p := fun x => decide (x.a ≤ now)) (h.imp ?_)
  · unfold YtdoceldofkaapaaDoor.due
    refine ⟨k.1.trans ?_, k.2.trans ?_⟩
    · congr 1; funext x; simp
    · congr 1; funext x; cases decide (x.a ≤ now) <;> rfl
  · intro x y hxy
    rw [lt_no] at hxy
    unfold Lt at hxy
    simp
    omega
theorem so_due {l : List T} (h : So l) (now : Int) (d : Bool) : So (due l now d) := h.filter _
theorem due_both {l : List T} (h : So l) (now : Int) : srt (due l now true ++ due l now false) = l := by
  rw [← (h.due now).1, ← (h.due now).2, List.take_append_drop, srt_self h]
end Go.Proofs.YtdoceldofkaapaaDoor
