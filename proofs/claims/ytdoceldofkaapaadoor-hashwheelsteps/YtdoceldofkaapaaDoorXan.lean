/-
  A wheel's slots in the order of the ticks behind its base, as plain mathematics.
  Lists of timers, cut and put together again, as plain mathematics.
-/
import Derived.Test.YtdoceldofkaapaaDoorXae
import Derived.Test.YtdoceldofkaapaaDoorXam
import Derived.Test.YtdoceldofkaapaaDoorTmath
set_option linter.unusedVariables false
set_option linter.unusedSimpArgs false
namespace Go.Proofs.YtdoceldofkaapaaDoor
/-- Which numbers from a on, below c, are in the bits. -/
def sg (F : Nat → Nat) (a c : Nat) : List Nat := (List.range c).filter fun i => decide (a ≤ i) && Bm.tb F i
theorem sg_mem {F : Nat → Nat} {a c i : Nat} : i ∈ sg F a c ↔ i < c ∧ a ≤ i ∧ Bm.tb F i = true := by
  unfold sg; simp
theorem sg_nodup (F : Nat → Nat) (a c : Nat) : (sg F a c).Nodup := (List.nodup_range (n := c)).filter _
theorem sg_lt (F : Nat → Nat) (a c : Nat) : (sg F a c).Pairwise (· < ·) := (List.pairwise_lt_range (n := c)).filter _
theorem sg_none {F : Nat → Nat} {a c : Nat} (h : ∀ j, a ≤ j → j < c → Bm.tb F j = false) : sg F a c = [] := by
  unfold sg
  rw [List.filter_eq_nil_iff]
  intro i hi
  simp at hi ⊢
  intro h2
  rw [h i h2 hi]
/-- Two lists that rise and have the same numbers are the same. -/
theorem rise_ext : ∀ {l m : List Nat}, l.Pairwise (· < ·) → m.Pairwise (· < ·) → (∀ i, i ∈ l ↔ i ∈ m) → l = m
  | [], [], _, _, _ => rfl
  | [], y :: m, _, _, h => by have := (h y).2 (by simp); simp at this
  | x :: l, [], _, _, h => by have := (h x).1 (by simp); simp at this
  | x :: l, y :: m, h1, h2, h => by
    obtain ⟨a1, a2⟩ := List.pairwise_cons.1 h1
    obtain ⟨b1, b2⟩ := List.pairwise_cons.1 h2
    have e : x = y := by
      have h3 := (h x).1 (by simp)
      have h4 := (h y).2 (by simp)
      rcases List.mem_cons.1 h3 with e | e
      · exact e
      · rcases List.mem_cons.1 h4 with e2 | e2
        · exact e2.symm
        · have := b1 x e; have := a1 y e2; omega
    subst e
    rw [rise_ext a2 b2 (fun i => ?_)]
    have h3 := h i
    constructor
    · intro hi
      rcases List.mem_cons.1 (h3.1 (by simp [hi])) with e | e
      · have := a1 i hi; omega
      · exact e
    · intro hi
      rcases List.mem_cons.1 (h3.2 (by simp [hi])) with e | e
      · have := b1 i hi; omega
      · exact e
theorem sg_cons {F : Nat → Nat} {a c i : Nat} {r : List Nat} (h : sg F a c = i :: r) : a ≤ i ∧ i < c ∧ Bm.tb F i = true ∧ (∀ j, a ≤ j → j < i → Bm.tb F j = false) ∧ r = sg F (i + 1) c := by
  have hm : i ∈ sg F a c := by rw [h]; simp
  obtain ⟨h1, h2, h3⟩ := sg_mem.1 hm
  have hp := sg_lt F a c
  rw [h] at hp
  obtain ⟨hp1, hp2⟩ := List.pairwise_cons.1 hp
  refine ⟨h2, h1, h3, fun j hj1 hj2 => ?_, rise_ext hp2 (sg_lt _ _ _) (fun j => ?_)⟩
  · cases hb : Bm.tb F j with
    | false => rfl
    | true =>
      have : j ∈ sg F a c := sg_mem.2 ⟨by omega, hj1, hb⟩
      rw [h] at this
      rcases List.mem_cons.1 this with e | e
      · omega
      · have := hp1 j e; omega
  · rw [sg_mem]
    constructor
    · intro hj
      have h5 := hp1 j hj
      have : j ∈ sg F a c := by rw [h]; simp [hj]
      obtain ⟨q1, q2, q3⟩ := sg_mem.1 this
      exact ⟨q1, by omega, q3⟩
    · rintro ⟨q1, q2, q3⟩
      have : j ∈ sg F a c := sg_mem.2 ⟨q1, by omega, q3⟩
      rw [h] at this
      rcases List.mem_cons.1 this with e | e
      · omega
      · exact e
/-- The next one that is in the bits. -/
def nx (F : Nat → Nat) (a : Nat) : Option Nat := (Bm.bo (Bm.wth F (Bm.bl a)) 256).head?
theorem nx_sg (F : Nat → Nat) (a : Nat) : Bm.bo (Bm.wth F (Bm.bl a)) 256 = sg F a 256 := by
  unfold Bm.bo sg
  congr 1
  funext i
  rw [Bm.tb_wth F _ (Bm.bl_wd a), Bm.tb_bl]
  by_cases h : i < a
  · have : ¬ a ≤ i := by omega
    simp [h, this]
  · have : a ≤ i := by omega
    simp [h, this]
theorem nx_hit {F F0 : Nat → Nat} {a y : Nat} (hy : a ≤ y) (h1 : y < 256) (h2 : Bm.tb F y = true) (h3 : ∀ j, a ≤ j → j < y → Bm.tb F0 j = false) (hsub : ∀ i, i < 256 → Bm.tb F i = true → Bm.tb F0 i = true) : nx F a = some y := by
  unfold nx
  rw [nx_sg]
  cases h : sg F a 256 with
  | nil =>
    have : y ∈ sg F a 256 := sg_mem.2 ⟨h1, hy, h2⟩
    rw [h] at this; simp at this
  | cons i r =>
    obtain ⟨q1, q2, q3, q4, _⟩ := sg_cons h
    rw [List.head?_cons]
    congr 1
    have n1 : ¬ i < y := fun e => by have := h3 i q1 e; rw [hsub i q2 q3] at this; cases this
    have n2 : ¬ y < i := fun e => by have := q4 y hy e; rw [h2] at this; cases this
    omega
theorem nx_miss {F F0 : Nat → Nat} {a e : Nat} (h : sg F0 a e = []) (hsub : ∀ i, i < 256 → Bm.tb F i = true → Bm.tb F0 i = true) : nx F a = none ∨ ∃ i, nx F a = some i ∧ e ≤ i ∧ i < 256 := by
  unfold nx
  rw [nx_sg]
  cases h2 : sg F a 256 with
  | nil => exact .inl rfl
  | cons i r =>
    obtain ⟨q1, q2, q3, _⟩ := sg_cons h2
    refine .inr ⟨i, rfl, ?_, q2⟩
    apply Nat.le_of_not_lt
    intro hlt
    have : i ∈ sg F0 a e := sg_mem.2 ⟨hlt, q1, hsub i q2 q3⟩
    rw [h] at this; simp at this
/-- The slot of the first tick behind the base. -/
def fs (S : Nat) (s : Int) : Nat := if s = 18446744073709551615 then 0 else ((s + 1) % (S : Int)).toNat
theorem fs_lt {S : Nat} (h : 0 < S) (s : Int) : fs S s < S := by
  unfold fs
  split
  · exact h
  · have h1 := Int.emod_nonneg (s + 1) (b := (S : Int)) (by omega)
    have h2 := Int.emod_lt_of_pos (s + 1) (b := (S : Int)) (by omega)
    omega
/-- The slots that have something, of the n ticks behind the base, in the order of these ticks: those of the first turn, and of the second one. -/
def cur (F : Nat → Nat) (S f n t : Nat) : List Nat := sg F ((f : Int) - (t : Int) * (S : Int)).toNat (((f + n : Nat) : Int) - (t : Int) * (S : Int)).toNat
def yss (F : Nat → Nat) (S f n : Nat) : List Nat := cur F S f n 0 ++ cur F S f n 1
def tlq (F : Nat → Nat) (S f n t : Nat) : List Nat := if t = 0 then yss F S f n else if t = 1 then cur F S f n 1 else []
theorem tlq_zero (F : Nat → Nat) (S f n : Nat) : tlq F S f n 0 = yss F S f n := rfl
theorem tlq_cur {F : Nat → Nat} {S f n t : Nat} (h : t < 2) : tlq F S f n t = cur F S f n t ++ tlq F S f n (t + 1) := by
  have : t = 0 ∨ t = 1 := by omega
  rcases this with rfl | rfl
  · rfl
  · unfold tlq; simp
theorem tlq_two (F : Nat → Nat) (S f n : Nat) : tlq F S f n 2 = [] := rfl
end Go.Proofs.YtdoceldofkaapaaDoor
namespace Go.Proofs.YtdoceldofkaapaaDoor
theorem perm_two {l a b : List T} {p q r : T → Bool} (h : ∀ x ∈ l, r x = (p x || q x)) (hd : ∀ x ∈ l, ¬ (p x = true ∧ q x = true)) (ha : a.Perm (l.filter p)) (hb : b.Perm (l.filter q)) : (a ++ b).Perm (l.filter r) := by
  refine (ha.append hb).trans ?_
  clear ha hb
  induction l with
  | nil => simp
  | cons x t ih =>
    have ih := ih (fun y hy => h y (List.mem_cons_of_mem _ hy)) (fun y hy => hd y (List.mem_cons_of_mem _ hy))
    have hx := h x (List.mem_cons_self ..)
    have hdx := hd x (List.mem_cons_self ..)
    cases hp : p x with
    | true =>
      have hq : q x = false := by
        cases hq : q x with
        | false => rfl
        | true => exact absurd ⟨hp, hq⟩ hdx
      rw [List.filter_cons_of_pos hp, List.filter_cons_of_neg (by simp [hq]), List.filter_cons_of_pos (by simp [hx, hp])]
      exact List.Perm.cons _ ih
    | false =>
      cases hq : q x with
      | true =>
        rw [List.filter_cons_of_neg (by simp [hp]), List.filter_cons_of_pos hq, List.filter_cons_of_pos (by simp [hx, hq])]
        exact List.perm_middle.trans (List.Perm.cons _ ih)
      | false =>
        rw [List.filter_cons_of_neg (by simp [hp]), List.filter_cons_of_neg (by simp [hq]), List.filter_cons_of_neg (by simp [hx, hp, hq])]
        exact ih
/-- What is due in a list, and what is left. -/
def dueL (lo : T → Nat) (now : Int) (t : Nat) (l : List T) : List T := l.filter fun y => decide (lo y = t) && decide (y.a ≤ now)
def leftL (lo : T → Nat) (now : Int) (t : Nat) (l : List T) : List T := l.filter fun y => !(decide (lo y = t) && decide (y.a ≤ now))
/-- Behind the lists V, that were emptied: what is left, what was due there, and what was not. -/
def vL (lo : T → Nat) (V : List Nat) (l : List T) : List T := l.filter fun y => !V.contains (lo y)
def vD (lo : T → Nat) (now : Int) (V : List Nat) (l : List T) : List T := l.filter fun y => V.contains (lo y) && decide (y.a ≤ now)
def vC (lo : T → Nat) (now : Int) (V : List Nat) (l : List T) : List T := l.filter fun y => V.contains (lo y) && !decide (y.a ≤ now)
section
variable {lo : T → Nat} {now top : Int} {V : List Nat} {l : List T} {t : Nat}
theorem vL_nil : vL lo [] l = l := by unfold vL; exact List.filter_eq_self.2 (fun y _ => by simp)
theorem vD_nil : vD lo now [] l = [] := by unfold vD; exact List.filter_eq_nil_iff.2 (fun y _ => by simp)
theorem vC_nil : vC lo now [] l = [] := by unfold vC; exact List.filter_eq_nil_iff.2 (fun y _ => by simp)
theorem vL_next (htop : ∀ y ∈ l, y.a ≤ top) : leftL lo top t (leftL lo now t (vL lo V l)) = vL lo (V ++ [t]) l := by
  unfold leftL vL
  rw [List.filter_filter, List.filter_filter]
  apply List.filter_congr
  intro y hy
  have h1 := htop y hy
  by_cases h : lo y = t <;> by_cases h2 : y.a ≤ now <;> simp [h, h1, h2] <;> (cases hc : decide (lo y ∈ V) <;> simp_all)
theorem vD_next (ht : t ∉ V) {acc d : List T} (ha : acc.Perm (vD lo now V l)) (hd : d.Perm (dueL lo now t (vL lo V l))) : (acc ++ d).Perm (vD lo now (V ++ [t]) l) := by
  unfold dueL vL at hd
  unfold vD at *
  rw [List.filter_filter] at hd
  refine perm_two (fun y hy => ?_) (fun y hy => ?_) ha hd
  · by_cases h : lo y = t
    · subst h; simp [ht]
    · by_cases h3 : lo y ∈ V <;> simp [h, h3]
  · rintro ⟨h1, h2⟩
    simp at h1 h2
    exact h2.2 h1.1
theorem vC_next (ht : t ∉ V) (htop : ∀ y ∈ l, y.a ≤ top) {acc d : List T} (ha : acc.Perm (vC lo now V l)) (hd : d.Perm (dueL lo top t (leftL lo now t (vL lo V l)))) : (acc ++ d).Perm (vC lo now (V ++ [t]) l) := by
  unfold dueL leftL vL at hd
  unfold vC at *
  rw [List.filter_filter, List.filter_filter] at hd
  refine perm_two (fun y hy => ?_) (fun y hy => ?_) ha hd
  · have h1 := htop y hy
    by_cases h : lo y = t
    · subst h; by_cases h2 : y.a ≤ now <;> simp [ht, h1, h2]
    · by_cases h3 : lo y ∈ V <;> by_cases h2 : y.a ≤ now <;> simp [h, h2, h3]
  · rintro ⟨h1, h2⟩
    simp at h1 h2
    first | exact h2.2 h1.1 | exact h2.2.2 h1.1
end
/-- A timer with a lesser tick is not behind. -/
theorem lt_less {x y : T} (h : x.a < y.a) : lt y x = false := by
  rw [lt_no]; unfold Lt; omega
/-- Those that turn are put in again, one by one. -/
theorem puts_so : ∀ (ts : List T) {m : List T}, So m → So (ts.foldl put m) ∧ (ts.foldl put m).Perm (m ++ ts)
  | [], m, h => ⟨h, by simp⟩
  | t :: r, m, h => by
    obtain ⟨h1, h2⟩ := puts_so r (put_so h t)
    refine ⟨h1, h2.trans ?_⟩
    exact (List.Perm.append_right r (put_perm m t)).trans (by simpa using (List.perm_middle (a := t) (l₁ := m) (l₂ := r)).symm)
theorem due_ends {l m cV fs : List T} {now : Int} (hl : So l) (hm : So m) (h : ((m ++ cV) ++ fs).Perm (due l now false)) : (cV ++ fs).foldl put m = due l now false := by
  obtain ⟨h1, h2⟩ := puts_so (cV ++ fs) hm
  exact h1.unique (hl.filter _) (h2.trans (by rw [← List.append_assoc]; exact h))
end Go.Proofs.YtdoceldofkaapaaDoor
