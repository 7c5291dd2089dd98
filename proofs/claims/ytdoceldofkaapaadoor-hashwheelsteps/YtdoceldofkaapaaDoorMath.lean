/-
  Rings of places, as plain functions: paths, what one meets on them, and how they turn.
-/
import Derived.Below
set_option linter.unusedVariables false
set_option linter.unusedSimpArgs false
namespace Go.Proofs.YtdoceldofkaapaaDoor

/-- A place of the ring: what stands ahead, what behind, in which list. -/
structure Plc where
  ah : Int
  bh : Int
  li : Int
deriving DecidableEq, Inhabited
/-- A ring. -/
abbrev Rg := Nat → Plc
def upA (g : Rg) (i : Nat) (x : Int) : Rg := fun k => if k = i then { g k with ah := x } else g k
def upB (g : Rg) (i : Nat) (x : Int) : Rg := fun k => if k = i then { g k with bh := x } else g k
def upL (g : Rg) (i : Nat) (x : Int) : Rg := fun k => if k = i then { g k with li := x } else g k
/-- In no list. -/
abbrev al0 : Plc := ⟨-1, -1, -1⟩
def upZ (g : Rg) (i : Nat) : Rg := fun k => if k = i then al0 else g k
/-- One stands just behind the other. -/
def joinG (g : Rg) (a b : Nat) : Rg := upA (upB g a b) b a

/-- Each one leads to the next one. -/
def Path (d : Nat → Int) : List Nat → Prop
  | a :: b :: r => d a = b ∧ Path d (b :: r)
  | _ => True
theorem path_one (d : Nat → Int) (a : Nat) : Path d [a] := trivial
theorem path_cons2 (d : Nat → Int) (a b : Nat) (r : List Nat) : Path d (a :: b :: r) ↔ d a = b ∧ Path d (b :: r) := Iff.rfl
theorem path_append (d : Nat → Int) (a : Nat) (y : List Nat) : ∀ x : List Nat, Path d (x ++ a :: y) ↔ Path d (x ++ [a]) ∧ Path d (a :: y)
  | [] => by simp [path_one]
  | [b] => by
    show d b = a ∧ Path d (a :: y) ↔ (d b = a ∧ Path d [a]) ∧ Path d (a :: y)
    simp [path_one]
  | b :: c :: r => by
    have ih := path_append d a y (c :: r)
    show d b = c ∧ Path d (c :: r ++ a :: y) ↔ (d b = c ∧ Path d (c :: r ++ [a])) ∧ Path d (a :: y)
    rw [ih, and_assoc]
theorem path_tail {d : Nat → Int} {a : Nat} : ∀ {r : List Nat}, Path d (a :: r) → Path d r
  | [], _ => trivial
  | _ :: _, h => h.2
theorem path_congr {d e : Nat → Int} : ∀ {l : List Nat}, Path d l → (∀ a ∈ l.dropLast, d a = e a) → Path e l
  | [], _, _ => trivial
  | [_], _, _ => trivial
  | a :: b :: r, h, k => ⟨(k a (by simp)).symm.trans h.1, path_congr h.2 (fun c hc => k c (by rw [List.dropLast_cons_of_ne_nil (by simp)]; exact List.mem_cons_of_mem _ hc))⟩

/-- The last one of a list with one ahead. -/
def lst (E : Nat) (x : List Nat) : Nat := x.getLast?.getD E
/-- The first one of a list with one behind. -/
def fst (E : Nat) (y : List Nat) : Nat := y.head?.getD E
theorem lst_split (E : Nat) (x : List Nat) : ∃ u, E :: x = u ++ [lst E x] := by
  rcases List.eq_nil_or_concat x with rfl | ⟨r, a, rfl⟩
  · exact ⟨[], rfl⟩
  · refine ⟨E :: r, ?_⟩
    simp [lst]
theorem fst_split (E : Nat) (y : List Nat) : ∃ v, y ++ [E] = fst E y :: v := by
  cases y with
  | nil => exact ⟨[], rfl⟩
  | cons a r => exact ⟨r ++ [E], rfl⟩
theorem lst_mem (E : Nat) (x : List Nat) : lst E x = E ∨ lst E x ∈ x := by
  rcases List.eq_nil_or_concat x with rfl | ⟨r, a, rfl⟩
  · exact .inl rfl
  · exact .inr (by simp [lst])
theorem fst_mem (E : Nat) (y : List Nat) : fst E y = E ∨ fst E y ∈ y := by
  cases y with
  | nil => exact .inl rfl
  | cons a r => exact .inr (by simp [fst])
theorem lst_reverse (E : Nat) (x : List Nat) : lst E x.reverse = fst E x := by simp [lst, fst]
theorem fst_reverse (E : Nat) (x : List Nat) : fst E x.reverse = lst E x := by simp [lst, fst]
theorem path_first {d : Nat → Int} {E : Nat} {y : List Nat} {s : Nat} (h : Path d (s :: y ++ [E])) : d s = fst E y := by
  obtain ⟨v, hv⟩ := fst_split E y
  rw [List.cons_append, hv] at h
  exact h.1
/-- Some are put in. -/
theorem path_in {d e : Nat → Int} {E : Nat} {x y m : List Nat} (h : Path d (E :: (x ++ y) ++ [E])) (hm : Path d m) (h0 : m ≠ []) (hn : (E :: (x ++ m ++ y)).Nodup)
    (ha : e (lst E x) = fst E m) (hb : e (lst E m) = fst E y)
    (hs : ∀ i ∈ E :: (x ++ m ++ y), i ≠ lst E x → i ≠ lst E m → e i = d i) : Path e (E :: (x ++ m ++ y) ++ [E]) := by
  obtain ⟨u, hu⟩ := lst_split E x
  obtain ⟨v, hv⟩ := fst_split E y
  obtain ⟨m0, hm0⟩ : ∃ m0, m = m0 ++ [lst E m] := by
    rcases List.eq_nil_or_concat m with rfl | ⟨r, a, rfl⟩
    · exact absurd rfl h0
    · exact ⟨r, by simp [lst]⟩
  obtain ⟨m1, hm1⟩ : ∃ m1, m = fst E m :: m1 := by
    cases m with
    | nil => exact absurd rfl h0
    | cons a r => exact ⟨r, rfl⟩
  have e1 : E :: (x ++ y) ++ [E] = u ++ lst E x :: (fst E y :: v) := by rw [← hv]; simp; rw [← List.cons_append, hu]; simp
  have e2 : E :: (x ++ m ++ y) ++ [E] = u ++ lst E x :: (m ++ fst E y :: v) := by rw [← hv]; simp; rw [← List.cons_append, hu]; simp
  have e3 : E :: (x ++ m ++ y) = u ++ lst E x :: (m ++ y) := by simp; rw [← List.cons_append, hu]; simp
  rw [e1, path_append] at h
  rw [e3] at hn hs
  have hn2 := List.nodup_append.1 hn
  have hn3 := List.nodup_cons.1 hn2.2.1
  have hn4 := List.nodup_append.1 hn3.2
  have hxa : ∀ i ∈ u, i ≠ lst E x := fun i hi => hn2.2.2 i hi _ (by simp)
  have hlm : lst E m ∈ m := by rw [hm0]; simp [lst]
  have hxm : ∀ i ∈ u, i ≠ lst E m := fun i hi => hn2.2.2 i hi _ (by simp [hlm])
  have hya : ∀ i ∈ y, i ≠ lst E x := fun i hi e => hn3.1 (by rw [← e]; simp [hi])
  have hym : ∀ i ∈ y, i ≠ lst E m := fun i hi e => hn4.2.2 _ hlm i hi e.symm
  have hdy : (fst E y :: v).dropLast = y := by rw [← hv]; simp
  rw [e2, path_append]
  refine ⟨path_congr h.1 (fun i hi => ?_), ?_⟩
  · have hi : i ∈ u := by simpa using hi
    exact (hs i (by simp [hi]) (hxa i hi) (hxm i hi)).symm
  · rw [hm1, List.cons_append]
    refine ⟨ha, ?_⟩
    rw [← List.cons_append, ← hm1]
    have e4 : m ++ fst E y :: v = m0 ++ lst E m :: (fst E y :: v) := by
      conv => lhs; rw [hm0]
      simp
    rw [e4, path_append]
    refine ⟨?_, hb, ?_⟩
    · rw [← hm0]
      refine path_congr hm (fun i hi => ?_)
      have hi2 : i ∈ m0 := by rw [hm0] at hi; simpa using hi
      have him : i ∈ m := by rw [hm0]; simp [hi2]
      refine (hs i (by simp [him]) (fun e => hn3.1 (by rw [← e]; simp [him])) (fun e => ?_)).symm
      have h5 := hn4.1
      rw [hm0] at h5
      exact (List.nodup_append.1 h5).2.2 i hi2 _ (by simp) e
    · refine path_congr h.2.2 (fun i hi => ?_)
      have hi : i ∈ y := by rw [← hdy]; exact hi
      exact (hs i (by simp [hi]) (hya i hi) (hym i hi)).symm
/-- One is taken out. -/
theorem path_out {d e : Nat → Int} {E p : Nat} {x y : List Nat} (h : Path d (E :: (x ++ p :: y) ++ [E])) (hn : (E :: (x ++ p :: y)).Nodup) (ha : e (lst E x) = fst E y)
    (hs : ∀ i ∈ E :: (x ++ y), i ≠ lst E x → e i = d i) : Path e (E :: (x ++ y) ++ [E]) := by
  obtain ⟨u, hu⟩ := lst_split E x
  obtain ⟨v, hv⟩ := fst_split E y
  have e1 : E :: (x ++ p :: y) ++ [E] = u ++ lst E x :: (p :: fst E y :: v) := by rw [← hv]; simp; rw [← List.cons_append, hu]; simp
  have e2 : E :: (x ++ y) ++ [E] = u ++ lst E x :: (fst E y :: v) := by rw [← hv]; simp; rw [← List.cons_append, hu]; simp
  have e3 : E :: (x ++ p :: y) = u ++ lst E x :: (p :: y) := by rw [← List.cons_append, hu]; simp
  have e4 : E :: (x ++ y) = u ++ lst E x :: y := by rw [← List.cons_append, hu]; simp
  rw [e1, path_append] at h
  rw [e3] at hn
  rw [e4] at hs
  have hn2 := List.nodup_append.1 hn
  have hn3 := List.nodup_cons.1 hn2.2.1
  have hdy : (fst E y :: v).dropLast = y := by rw [← hv]; simp
  rw [e2, path_append]
  refine ⟨path_congr h.1 (fun i hi => ?_), ha, path_congr h.2.2.2 (fun i hi => ?_)⟩
  · have hi : i ∈ u := by simpa using hi
    exact (hs i (by simp [hi]) (hn2.2.2 i hi _ (by simp))).symm
  · have hi : i ∈ y := by rw [← hdy]; exact hi
    exact (hs i (by simp [hi]) (fun e => hn3.1 (by rw [← e]; simp [hi]))).symm

/-- What one meets. -/
def Met (d : Nat → Int) (P s : Nat) : List Nat → Prop
  | [] => ¬ (0 ≤ d s ∧ d s < P)
  | y :: r => d s = y ∧ y < P ∧ Met d P y r
theorem met_of_path {d : Nat → Int} {P e : Nat} (he : P ≤ e) : ∀ {ys : List Nat} {s : Nat}, Path d (s :: ys ++ [e]) → (∀ y ∈ ys, y < P) → Met d P s ys
  | [], s, h, _ => by
    have h1 : d s = e := h.1
    show ¬ (0 ≤ d s ∧ d s < P)
    rw [h1]
    omega
  | y :: r, s, h, k => ⟨h.1, k y (by simp), met_of_path he h.2 (fun z hz => k z (by simp [hz]))⟩
theorem met_from {d : Nat → Int} {P E p : Nat} {x y : List Nat} (h : Path d (E :: (x ++ p :: y) ++ [E])) (hE : P ≤ E) (hp : ∀ i ∈ y, i < P) : Met d P p y := by
  have e1 : E :: (x ++ p :: y) ++ [E] = (E :: x) ++ p :: (y ++ [E]) := by simp
  rw [e1, path_append] at h
  exact met_of_path hE h.2 hp

theorem nodup_len : ∀ (P : Nat) (l : List Nat), l.Nodup → (∀ i ∈ l, i < P) → l.length ≤ P
  | 0, l, _, h => by
    cases l with
    | nil => simp
    | cons a r => have := h a (by simp); omega
  | P + 1, l, hn, h => by
    have h1 := nodup_len P (l.erase P) (hn.erase P) (fun i hi => by
      have h2 := h i (List.mem_of_mem_erase hi)
      have h3 : i ≠ P := fun e => by
        subst e
        exact absurd hi (List.Nodup.not_mem_erase hn)
      omega)
    have h2 := List.length_erase (a := P) (l := l)
    rw [h2] at h1
    split at h1 <;> omega
end Go.Proofs.YtdoceldofkaapaaDoor
