/-
  A wheel's slots in the order of the ticks behind its base, as plain mathematics.
-/
import Derived.Test.YtllohpojajijjaaGreatDoorXf
import Derived.Test.YtllohpojajijjaaGreatDoorWh
set_option linter.unusedVariables false
set_option linter.unusedSimpArgs false
namespace Go.Proofs.YtllohpojajijjaaGreatDoor
/-- Which numbers from a on, below c, are in the bits. -/
def sg (F : Nat → Nat) (a c : Nat) : List Nat := (List.range c).filter fun i => decide (a ≤ i) && Bm.tb F i
theorem sg_mem {F : Nat → Nat} {a c i : Nat} : i ∈ sg F a c ↔ i < c ∧ a ≤ i ∧ Bm.tb F i = true := by
  unfold sg; simp
theorem sg_nodup (F : Nat → Nat) (a c : Nat) : (sg F a c).Nodup := (List.nodup_range (n := c)).filter _
theorem sg_lt (F : Nat → Nat) (a c : Nat) : (sg F a c).Pairwise (· < ·) := (List.pairwise_lt_range (n := c)).filter _
theorem sg_none {F : Nat → Nat} {a c : Nat} (h : ∀ j, a ≤ j → j < c → Bm.tb F j = false) : sg F a c = [] := by
  unfold sg
  rw [List.filter_eq_nil_iff]
  intro i hi
  simp at hi ⊢
  intro h2
  rw [h i h2 hi]
/-- Two lists that rise and have the same numbers are the same. -/
theorem rise_ext : ∀ {l m : List Nat}, l.Pairwise (· < ·) → m.Pairwise (· < ·) → (∀ i, i ∈ l ↔ i ∈ m) → l = m
  | [], [], _, _, _ => rfl
  | [], y :: m, _, _, h => by have := (h y).2 (by simp); simp at this
  | x :: l, [], _, _, h => by have := (h x).1 (by simp); simp at this
  | x :: l, y :: m, h1, h2, h => by
    obtain ⟨a1, a2⟩ := List.pairwise_cons.1 h1
    obtain ⟨b1, b2⟩ := List.pairwise_cons.1 h2
    have e : x = y := by
      have h3 := (h x).1 (by simp)
      have h4 := (h y).2 (by simp)
      rcases List.mem_cons.1 h3 with e | e
      · exact e
      · rcases List.mem_cons.1 h4 with e2 | e2
        · exact e2.symm
        · have := b1 x e; have := a1 y e2; omega
    subst e
    rw [rise_ext a2 b2 (fun i => ?_)]
    have h3 := h i
    constructor
    · intro hi
      rcases List.mem_cons.1 (h3.1 (by simp [hi])) with e | e
      · have := a1 i hi; omega
      · exact e
    · intro hi
      rcases List.mem_cons.1 (h3.2 (by simp [hi])) with e | e
      · have := b1 i hi; omega
      · exact e
theorem sg_cons {F : Nat → Nat} {a c i : Nat} {r : List Nat} (h : sg F a c = i :: r) : a ≤ i ∧ i < c ∧ Bm.tb F i = true ∧ (∀ j, a ≤ j → j < i → Bm.tb F j = false) ∧ r = sg F (i + 1) c := by
  have hm : i ∈ sg F a c := by rw [h]; simp
  obtain ⟨h1, h2, h3⟩ := sg_mem.1 hm
  have hp := sg_lt F a c
  rw [h] at hp
  obtain ⟨hp1, hp2⟩ := List.pairwise_cons.1 hp
  refine ⟨h2, h1, h3, fun j hj1 hj2 => ?_, rise_ext hp2 (sg_lt _ _ _) (fun j => ?_)⟩
  · cases hb : Bm.tb F j with
    | false => rfl
    | true =>
      have : j ∈ sg F a c := sg_mem.2 ⟨by omega, hj1, hb⟩
      rw [h] at this
      rcases List.mem_cons.1 this with e | e
      · omega
      · have := hp1 j e; omega
  · rw [sg_mem]
    constructor
    · intro hj
      have h5 := hp1 j hj
      have : j ∈ sg F a c := by rw [h]; simp [hj]
      obtain ⟨q1, q2, q3⟩ := sg_mem.1 this
      exact ⟨q1, by omega, q3⟩
    · rintro ⟨q1, q2, q3⟩
      have : j ∈ sg F a c := sg_mem.2 ⟨q1, by omega, q3⟩
      rw [h] at this
      rcases List.mem_cons.1 this with e | e
      · omega
      · exact e
/-- The next one that is in the bits. -/
def nx (F : Nat → Nat) (a : Nat) : Option Nat := (Bm.bo (Bm.wth F (Bm.bl a)) 256).head?
theorem nx_sg (F : Nat → Nat) (a : Nat) : Bm.bo (Bm.wth F (Bm.bl a)) 256 = sg F a 256 := by
  unfold Bm.bo sg
  congr 1
  funext i
  rw [Bm.tb_wth F _ (Bm.bl_wd a), Bm.tb_bl]
  by_cases h : i < a
  · have : ¬ a ≤ i := by omega
    simp [h, this]
  · have : a ≤ i := by omega
    simp [h, this]
theorem nx_hit {F F0 : Nat → Nat} {a y : Nat} (hy : a ≤ y) (h1 : y < 256) (h2 : Bm.tb F y = true) (h3 : ∀ j, a ≤ j → j < y → Bm.tb F0 j = false) (hsub : ∀ i, i < 256 → Bm.tb F i = true → Bm.tb F0 i = true) : nx F a = some y := by
  unfold nx
  rw [nx_sg]
  cases h : sg F a 256 with
  | nil =>
    have : y ∈ sg F a 256 := sg_mem.2 ⟨h1, hy, h2⟩
    rw [h] at this; simp at this
  | cons i r =>
    obtain ⟨q1, q2, q3, q4, _⟩ := sg_cons h
    rw [List.head?_cons]
    congr 1
    have n1 : ¬ i < y := fun e => by have := h3 i q1 e; rw [hsub i q2 q3] at this; cases this
    have n2 : ¬ y < i := fun e => by have := q4 y hy e; rw [h2] at this; cases this
    omega
theorem nx_miss {F F0 : Nat → Nat} {a e : Nat} (h : sg F0 a e = []) (hsub : ∀ i, i < 256 → Bm.tb F i = true → Bm.tb F0 i = true) : nx F a = none ∨ ∃ i, nx F a = some i ∧ e ≤ i ∧ i < 256 := by
  unfold nx
  rw [nx_sg]
  cases h2 : sg F a 256 with
  | nil => exact .inl rfl
  | cons i r =>
    obtain ⟨q1, q2, q3, _⟩ := sg_cons h2
    refine .inr ⟨i, rfl, ?_, q2⟩
    apply Nat.le_of_not_lt
    intro hlt
    have : i ∈ sg F0 a e := sg_mem.2 ⟨hlt, q1, hsub i q2 q3⟩
    rw [h] at this; simp at this
/-- The slot of the first tick behind the base. -/
def fs (S : Nat) (s : Int) : Nat := if s = 18446744073709551615 then 0 else ((s + 1) % (S : Int)).toNat
theorem fs_lt {S : Nat} (h : 0 < S) (s : Int) : fs S s < S := by
  unfold fs
  split
  · exact h
  · have h1 := Int.emod_nonneg (s + 1) (b := (S : Int)) (by omega)
    have h2 := Int.emod_lt_of_pos (s + 1) (b := (S : Int)) (by omega)
    omega
/-- The slots that have something, of the n ticks behind the base, in the order of these ticks: those of the first turn, and of the second one. -/
def cur (F : Nat → Nat) (S f n t : Nat) : List Nat := sg F ((f : Int) - (t : Int) * (S : Int)).toNat (((f + n : Nat) : Int) - (t : Int) * (S : Int)).toNat
def yss (F : Nat → Nat) (S f n : Nat) : List Nat := cur F S f n 0 ++ cur F S f n 1
def tlq (F : Nat → Nat) (S f n t : Nat) : List Nat := if t = 0 then yss F S f n else if t = 1 then cur F S f n 1 else []
theorem tlq_zero (F : Nat → Nat) (S f n : Nat) : tlq F S f n 0 = yss F S f n := rfl
theorem tlq_cur {F : Nat → Nat} {S f n t : Nat} (h : t < 2) : tlq F S f n t = cur F S f n t ++ tlq F S f n (t + 1) := by
  have : t = 0 ∨ t = 1 := by omega
  rcases this with rfl | rfl
  · rfl
  · unfold tlq; simp
theorem tlq_two (F : Nat → Nat) (S f n : Nat) : tlq F S f n 2 = [] := rfl
end Go.Proofs.YtllohpojajijjaaGreatDoor
