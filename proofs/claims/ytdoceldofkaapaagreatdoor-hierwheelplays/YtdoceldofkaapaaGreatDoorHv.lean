/-
  A wheel of four levels, as plain mathematics: the lists in which timers lie, what a Due takes and lets turn, which timer is the first.
-/
import Derived.Test.YtdoceldofkaapaaGreatDoorXaq
import Derived.Test.YtdoceldofkaapaaGreatDoorXap
set_option linter.unusedVariables false
set_option linter.unusedSimpArgs false
namespace Go.Proofs.YtdoceldofkaapaaGreatDoor
/-- The list of a timer at level v, in slot u. -/
def lsn (c : Nat) (v u : Int) : Nat := if v < 0 then 0 else if 3 < v then 1 else 2 + v.toNat * 2 ^ c + u.toNat
def lw (c : Nat) (s : Int) (x : T) : Nat := lsn c (lv c s x.a) (sv c s x.a)
theorem q1_nat (c : Nat) : q c 1 = ((2 ^ c : Nat) : Int) := by rw [q_nat, Nat.mul_one]
theorem sv_in (c : Nat) (s a : Int) : 0 ≤ sv c s a ∧ sv c s a < ((2 ^ c : Nat) : Int) := by
  have hp : 0 < 2 ^ c := Nat.pow_pos (by decide)
  unfold sv
  split
  · omega
  · have := dg_in c a (lv c s a).toNat
    rw [q1_nat] at this
    exact this
/-- Levels and slots, told of a list's number. -/
theorem lsn_slot (c m i : Nat) (hm : m ≤ 3) : lsn c m i = 2 + m * 2 ^ c + i := by
  unfold lsn
  rw [if_neg (by omega), if_neg (by omega)]
  simp
theorem lw_cases (c : Nat) (s : Int) (x : T) : (lw c s x = 0 ∧ x.a ≤ s) ∨ (lw c s x = 1 ∧ lv c s x.a = 4) ∨ (∃ m i : Nat, m ≤ 3 ∧ i < 2 ^ c ∧ lv c s x.a = m ∧ sv c s x.a = i ∧ lw c s x = 2 + m * 2 ^ c + i) := by
  have h1 := lv_in c s x.a
  have h2 := sv_in c s x.a
  by_cases h3 : lv c s x.a < 0
  · exact .inl ⟨by unfold lw lsn; rw [if_pos h3], (lv_neg c s x.a).1 h3⟩
  · by_cases h4 : lv c s x.a = 4
    · exact .inr (.inl ⟨by unfold lw lsn; rw [if_neg h3, if_pos (by omega)], h4⟩)
    · refine .inr (.inr ⟨(lv c s x.a).toNat, (sv c s x.a).toNat, by omega, by omega, by omega, by omega, ?_⟩)
      unfold lw lsn
      rw [if_neg h3, if_neg (by omega)]
theorem code_inj {S m i n j : Nat} (hi : i < S) (hj : j < S) (h : m * S + i = n * S + j) : m = n ∧ i = j := by
  have h1 : m = n := by
    rcases Nat.lt_trichotomy m n with h2 | h2 | h2
    · have : (m + 1) * S ≤ n * S := Nat.mul_le_mul_right _ h2
      rw [Nat.add_mul] at this
      omega
    · exact h2
    · have : (n + 1) * S ≤ m * S := Nat.mul_le_mul_right _ h2
      rw [Nat.add_mul] at this
      omega
  subst h1
  exact ⟨rfl, by omega⟩
theorem lw_zero {c : Nat} {s : Int} {x : T} : lw c s x = 0 ↔ x.a ≤ s := by
  rcases lw_cases c s x with ⟨h1, h2⟩ | ⟨h1, h2⟩ | ⟨m, i, _, _, h3, _, h1⟩
  · simp [h1, h2]
  · have := lv_neg c s x.a
    constructor <;> intro h <;> omega
  · have := lv_neg c s x.a
    constructor <;> intro h <;> omega
theorem lw_one {c : Nat} {s : Int} {x : T} : lw c s x = 1 ↔ lv c s x.a = 4 := by
  rcases lw_cases c s x with ⟨h1, h2⟩ | ⟨h1, h2⟩ | ⟨m, i, _, _, h3, _, h1⟩
  · have := lv_neg c s x.a
    constructor <;> intro h <;> omega
  · simp [h1, h2]
  · constructor <;> intro h <;> omega
theorem lw_slot {c : Nat} {s : Int} {x : T} {m i : Nat} (hi : i < 2 ^ c) : lw c s x = 2 + m * 2 ^ c + i ↔ m ≤ 3 ∧ lv c s x.a = m ∧ sv c s x.a = i := by
  constructor
  · intro h
    rcases lw_cases c s x with ⟨h1, h2⟩ | ⟨h1, h2⟩ | ⟨m2, i2, k1, k2, k3, k4, k5⟩
    · omega
    · omega
    · have := code_inj (S := 2 ^ c) k2 hi (show m2 * 2 ^ c + i2 = m * 2 ^ c + i by omega)
      obtain ⟨rfl, rfl⟩ := this
      exact ⟨k1, k3, k4⟩
  · rintro ⟨h0, h1, h2⟩
    unfold lw
    rw [h1, h2]
    exact lsn_slot c m i h0
theorem code_lt {S m i : Nat} (hm : m ≤ 3) (hi : i < S) : 2 + m * S + i < 2 + 4 * S := by
  have : m * S ≤ 3 * S := Nat.mul_le_mul_right _ hm
  omega
theorem lw_lt (c : Nat) (s : Int) (x : T) : lw c s x < 2 + 4 * 2 ^ c := by
  have hp : 0 < 2 ^ c := Nat.pow_pos (by decide)
  rcases lw_cases c s x with ⟨h1, h2⟩ | ⟨h1, h2⟩ | ⟨m2, i2, k1, k2, k3, k4, k5⟩
  · omega
  · omega
  · rw [k5]; exact code_lt k1 k2
/-- Slots that stand further on begin behind all that lies in those ahead of them. -/
theorem bg_order {c : Nat} {s a a2 : Int} {m n : Nat} {i j : Int} (hm : m ≤ 3) (hn : n ≤ 3) (h1 : lv c s a = m) (h2 : sv c s a = i) (h3 : lv c s a2 = n) (h4 : sv c s a2 = j) (h : m < n ∨ m = n ∧ i < j) : a < bg c s n j := by
  have f1 := fl a (q c m) (q_pos c m)
  rcases h with h | ⟨rfl, h⟩
  · -- the same above as the base
    have e1 := lv_same c s a m hm (by omega) (by omega)
    have climb : ∀ d, s / q c (m + 1 + d) = a / q c (m + 1 + d) := by
      intro d
      induction d with
      | zero => exact e1
      | succ d ih => exact up1 c (m + 1 + d) a s ih
    have e2 := climb (n - (m + 1))
    rw [show m + 1 + (n - (m + 1)) = n by omega] at e2
    have f2 := fl a (q c n) (q_pos c n)
    have h5 := hw_own hn h3
    rw [h4] at h5
    have h6 := dg_split c s n
    rw [← e2] at f2
    have h7 : bg c s n j = (s / q c (n + 1) * q c 1 + j) * q c n := (bg_other c s n j).symm
    rw [h7]
    have h8 : (s / q c n + 1) * q c n ≤ (s / q c (n + 1) * q c 1 + j) * q c n := Int.mul_le_mul_of_nonneg_right (by omega) (by have := q_pos c n; omega)
    rw [Int.add_mul] at h8
    omega
  · have e1 := bg_own c s a m hm h1
    rw [h2] at e1
    have h7 : bg c s m i = (s / q c (m + 1) * q c 1 + i) * q c m := (bg_other c s m i).symm
    have h9 : bg c s m j = (s / q c (m + 1) * q c 1 + j) * q c m := (bg_other c s m j).symm
    have h8 : (s / q c (m + 1) * q c 1 + i + 1) * q c m ≤ (s / q c (m + 1) * q c 1 + j) * q c m := Int.mul_le_mul_of_nonneg_right (by omega) (by have := q_pos c m; omega)
    rw [Int.add_mul (s / q c (m + 1) * q c 1 + i) 1] at h8
    omega
/-- It falls just where its slot begins no later than the new base. -/
theorem falls_bg {c m : Nat} {s now a : Int} (hm : m ≤ 3) (h : lv c s a = m) (h1 : s ≤ now) (h2 : now < a) : lv c now a < m ↔ bg c s m (sv c s a) ≤ now := by
  rw [hw_falls hm h h1 h2, bg_own c s a m hm h]
  have hp := q_pos c m
  have f1 := fl now (q c m) hp
  have f2 := fl a (q c m) hp
  have f3 := fl_mono now a (q c m) hp (by omega)
  constructor
  · intro e; rw [← e]; omega
  · intro e
    have := fl_mono (a / q c m * q c m) now (q c m) hp e
    rw [fl_own a _ hp] at this
    omega
/-- The slots that have something, in order. -/
structure Sls (c : Nat) (s : Int) (l : List T) (ys : List (Nat × Nat)) : Prop where
  or : ys.Pairwise fun y z => y.1 < z.1 ∨ y.1 = z.1 ∧ y.2 < z.2
  me : ∀ m i : Nat, (m, i) ∈ ys ↔ m ≤ 3 ∧ i < 2 ^ c ∧ ∃ x ∈ l, lv c s x.a = m ∧ sv c s x.a = i
def cod (c : Nat) (y : Nat × Nat) : Nat := 2 + y.1 * 2 ^ c + y.2
/-- Which slots were visited: those that begin no later than now. -/
theorem visited {c : Nat} {s now : Int} {l : List T} {ys pre : List (Nat × Nat)} (h : Sls c s l ys) (hp : pre <+: ys) (hb : ∀ y ∈ pre, bg c s y.1 y.2 ≤ now) (he : pre = ys ∨ ∃ y, pre ++ [y] <+: ys ∧ now < bg c s y.1 y.2) {x : T} (hx : x ∈ l) {m i : Nat} (hm : m ≤ 3) (hi : i < 2 ^ c) (h1 : lv c s x.a = m) (h2 : sv c s x.a = i) :
    lw c s x ∈ pre.map (cod c) ↔ bg c s m (sv c s x.a) ≤ now := by
  rw [h2]
  constructor
  · intro h3
    obtain ⟨⟨m2, i2⟩, h4, h5⟩ := List.mem_map.1 h3
    have h6 := (h.me m2 i2).1 (hp.subset h4)
    have h7 : lw c s x = 2 + m2 * 2 ^ c + i2 := h5.symm
    obtain ⟨k1, k2, k3⟩ := (lw_slot h6.2.1).1 h7
    have e1 : m2 = m := by omega
    have e2 : i2 = i := by omega
    have h8 := hb _ h4
    simp only at h8
    rw [e1, e2] at h8
    exact h8
  · intro h3
    have hin : (m, i) ∈ ys := (h.me m i).2 ⟨hm, hi, x, hx, h1, h2⟩
    have hpre : (m, i) ∈ pre := by
      rcases he with rfl | ⟨y, ⟨r, hr⟩, h4⟩
      · exact hin
      · rw [← hr] at hin
        have hor := h.or
        rw [← hr] at hor
        rcases List.mem_append.1 hin with h5 | h5
        · rcases List.mem_append.1 h5 with h6 | h6
          · exact h6
          · simp at h6
            subst h6
            simp at h4
            omega
        · have h6 := (List.pairwise_append.1 hor).2.2 y (by simp) (m, i) h5
          have hy : (y.1, y.2) ∈ ys := by rw [← hr]; simp
          obtain ⟨k1, k2, x2, hx2, k3, k4⟩ := (h.me y.1 y.2).1 hy
          have k5 := bg_order (i := (y.2 : Int)) (j := (i : Int)) k1 hm k3 k4 h1 h2 (by rcases h6 with h6 | h6; exact .inl h6; exact .inr ⟨h6.1, by have := h6.2; omega⟩)
          have k6 := bg_between c s x2.a y.1 k1 k3
          rw [k4] at k6
          omega
    refine List.mem_map.2 ⟨(m, i), hpre, ?_⟩
    unfold cod
    exact ((lw_slot hi).2 ⟨hm, h1, h2⟩).symm
/-- What a Due takes of those that are far, what it lets enter, and what it leaves. -/
def fD (c : Nat) (s now : Int) (m : List T) : List T := if now ≤ hz c s then [] else dueL (lw c s) now 1 m
def fS (c : Nat) (s now : Int) (m : List T) : List T := if now ≤ hz c s then [] else dueL (lw c s) (hz c now) 1 (leftL (lw c s) now 1 m)
def fL (c : Nat) (s now : Int) (m : List T) : List T := if now ≤ hz c s then m else leftL (lw c s) (hz c now) 1 (leftL (lw c s) now 1 m)
/-- Which lists a Due emptied. -/
structure Vis (c : Nat) (s now : Int) (l : List T) (V : List Nat) : Prop where
  two : ∀ t ∈ V, 2 ≤ t
  bg : ∀ x ∈ l, ∀ m : Nat, m ≤ 3 → lv c s x.a = m → (lw c s x ∈ V ↔ bg c s m (sv c s x.a) ≤ now)
section
variable {c : Nat} {s now : Int} {l : List T} {V : List Nat}
theorem Vis.cases (h : Vis c s now l V) {x : T} (hx : x ∈ l) :
    (lw c s x = 0 ∧ x.a ≤ s ∧ lw c s x ∉ V ∧ fall c s now x = false) ∨
    (lw c s x = 1 ∧ lv c s x.a = 4 ∧ hz c s < x.a ∧ lw c s x ∉ V ∧ fall c s now x = false ∧ s < x.a) ∨
    (lw c s x ≠ 0 ∧ lw c s x ≠ 1 ∧ s < x.a ∧ (x.a ≤ now → lw c s x ∈ V) ∧ (s ≤ now → now < x.a → (lw c s x ∈ V ↔ fall c s now x = true)) ∧ (now ≤ s → lw c s x ∉ V) ∧ ∃ m : Nat, m ≤ 3 ∧ lv c s x.a = m) := by
  rcases lw_cases c s x with ⟨h1, h2⟩ | ⟨h1, h2⟩ | ⟨m, i, k1, k2, k3, k4, k5⟩
  · refine .inl ⟨h1, h2, fun e => ?_, ?_⟩
    · have := h.two _ e; omega
    · have := (lv_neg c s x.a).2 h2
      unfold fall
      rw [decide_eq_false (show ¬ 0 ≤ lv c s x.a by omega)]
      rfl
  · refine .inr (.inl ⟨h1, h2, hz_over c s x.a h2, fun e => ?_, ?_, ?_⟩)
    · have := h.two _ e; omega
    · unfold fall
      rw [decide_eq_false (show ¬ lv c s x.a ≤ 3 by omega)]
      simp
    · have := lv_neg c s x.a; omega
  · have hb := h.bg x hx m k1 k3
    have h3 := bg_between c s x.a m k1 k3
    refine .inr (.inr ⟨by omega, by omega, by omega, fun e => hb.2 (by omega), fun e1 e2 => ?_, fun e => ?_, m, k1, k3⟩)
    · rw [hb, ← falls_bg k1 k3 e1 e2]
      unfold fall
      simp only [Bool.and_eq_true, decide_eq_true_eq]
      constructor <;> intro h <;> omega
    · rw [hb]; omega
theorem due_true (h : Vis c s now l V) {d0 dV dF : List T} (h0 : d0.Perm (dueL (lw c s) now 0 l)) (h1 : dV.Perm (vD (lw c s) now V (leftL (lw c s) now 0 l))) (h2 : dF.Perm (fD c s now (vL (lw c s) V (leftL (lw c s) now 0 l)))) : ((d0 ++ dV) ++ dF).Perm (due l now true) := by
  unfold dueL at h0
  unfold vD leftL at h1
  rw [List.filter_filter] at h1
  have h01 := perm_two (r := fun y => (decide (lw c s y = 0) && decide (y.a ≤ now)) || ((V.contains (lw c s y) && decide (y.a ≤ now)) && !(decide (lw c s y = 0) && decide (y.a ≤ now)))) (fun y hy => rfl) (fun y hy => by
    rintro ⟨e1, e2⟩
    simp at e1 e2
    rcases e2.2 with e3 | e3
    · exact e3 e1.1
    · omega) h0 h1
  unfold fD at h2
  unfold due
  by_cases hh : now ≤ hz c s
  · rw [if_pos hh] at h2
    rw [h2.eq_nil, List.append_nil]
    refine h01.trans ?_
    refine List.Perm.of_eq (List.filter_congr fun x hx => ?_)
    rw [Bool.eq_iff_iff]
    rcases h.cases hx with ⟨k1, k2, k3, k4⟩ | ⟨k1, k2, k3, k4, k5, k6⟩ | ⟨k1, k2, k3, k4, k5, k6, k7⟩
    · rw [k1] at k3; simp [k1, k3]
    · have : ¬ x.a ≤ now := by omega
      simp [this]
    · by_cases e : x.a ≤ now
      · simp [k1, e, k4 e]
      · simp [e]
  · rw [if_neg hh] at h2
    unfold dueL vL leftL at h2
    rw [List.filter_filter, List.filter_filter] at h2
    refine perm_two (fun x hx => ?_) (fun x hx => ?_) h01 h2
    · rw [Bool.eq_iff_iff]
      rcases h.cases hx with ⟨k1, k2, k3, k4⟩ | ⟨k1, k2, k3, k4, k5, k6⟩ | ⟨k1, k2, k3, k4, k5, k6, k7⟩
      · rw [k1] at k3; simp [k1, k3]
      · rw [k1] at k4; by_cases e : x.a ≤ now <;> simp [k1, k4, e]
      · by_cases e : x.a ≤ now
        · simp [k1, k2, e, k4 e]
        · simp [e]
    · rintro ⟨e1, e2⟩
      simp at e1 e2
      rcases e1 with e1 | e1
      · have := e1.1; have := e2.1.1; omega
      · first | exact e2.2.1 e1.1.1 | exact e2.1.2 e1.1.1 | exact e2.2 e1.1.1
theorem due_left (h : Vis c s now l V) {x : T} (hx : x ∈ fL c s now (vL (lw c s) V (leftL (lw c s) now 0 l))) : x ∈ l ∧ now < x.a ∧ lw c s x ∉ V ∧ lw c (max s now) x = lw c s x := by
  have hm : x ∈ l ∧ ¬ (lw c s x = 0 ∧ x.a ≤ now) ∧ lw c s x ∉ V ∧ (¬ now ≤ hz c s → ¬ (lw c s x = 1 ∧ x.a ≤ now) ∧ ¬ (lw c s x = 1 ∧ x.a ≤ hz c now)) := by
    unfold fL vL leftL at hx
    split at hx
    · rename_i e
      rw [List.mem_filter, List.mem_filter] at hx
      obtain ⟨⟨a1, a2⟩, a3⟩ := hx
      refine ⟨a1, ?_, ?_, fun e2 => absurd e e2⟩
      · rintro ⟨b1, b2⟩; simp [b1, b2] at a2
      · simpa using a3
    · rw [List.mem_filter, List.mem_filter, List.mem_filter, List.mem_filter] at hx
      obtain ⟨⟨⟨⟨a1, a2⟩, a3⟩, a4⟩, a5⟩ := hx
      refine ⟨a1, ?_, ?_, fun _ => ⟨?_, ?_⟩⟩
      · rintro ⟨b1, b2⟩; simp [b1, b2] at a2
      · simpa using a3
      · rintro ⟨b1, b2⟩; simp [b1, b2] at a4
      · rintro ⟨b1, b2⟩; simp [b1, b2] at a5
  obtain ⟨m1, m2, m3, m4⟩ := hm
  rcases h.cases m1 with ⟨k1, k2, k3, k4⟩ | ⟨k1, k2, k3, k4, k5, k6⟩ | ⟨k1, k2, k3, k4, k5, k6, m, k7, k8⟩
  · have e1 : now < x.a := by
      apply Int.lt_of_not_ge
      intro e; exact m2 ⟨k1, e⟩
    exact ⟨m1, e1, m3, by rw [show max s now = s by omega]⟩
  · have e1 : now < x.a := by
      apply Int.lt_of_not_ge
      intro e
      exact (m4 (by omega)).1 ⟨k1, e⟩
    refine ⟨m1, e1, m3, ?_⟩
    rw [k1, lw_one]
    by_cases hs : now ≤ s
    · rw [show max s now = s by omega]; exact k2
    · rw [show max s now = now by omega]
      by_cases hh : now ≤ hz c s
      · rw [hw_kept k2 (by omega) e1]
        intro e
        -- the base is in the same round of all levels
        have hp := q_pos c 4
        have f1 := fl_mono s now (q c 4) hp (by omega)
        have f2 := fl now (q c 4) hp
        have f3 := fl s (q c 4) hp
        have f4 := lv_part c s x.a 4 (by omega) k2
        have f5 : now / q c 4 ≤ s / q c 4 := by
          apply Int.le_of_not_gt
          intro e5
          have := fl_lt now s (q c 4) hp e5
          unfold hz at hh
          omega
        omega
      · have h5 := (m4 hh).2
        have h6 := lv_in c now x.a
        have h7 := lv_neg c now x.a
        apply Classical.byContradiction
        intro e
        exact h5 ⟨k1, hz_under c now x.a (by omega) (by omega)⟩
  · have e1 : now < x.a := by
      apply Int.lt_of_not_ge
      intro e; exact m3 (k4 e)
    refine ⟨m1, e1, m3, ?_⟩
    by_cases hs : now ≤ s
    · rw [show max s now = s by omega]
    · rw [show max s now = now by omega]
      have h5 := fun e => m3 ((k5 (by omega) e1).2 e)
      have h6 := hw_slot (c := c) (m := m) k7 k8 (show s ≤ now by omega) e1
      have h7 : ¬ lv c now x.a < m := by
        intro e7
        apply h5
        unfold fall
        rw [k8]
        simp
        omega
      have h8 := lv_later c s now x.a (by omega)
      have h9 : lv c now x.a = m := by omega
      unfold lw
      have h10 : sv c now x.a = sv c s x.a := by rw [sv_at c now x.a m k7 h9, sv_at c s x.a m k7 k8]
      rw [h9, k8, h10]
theorem due_false (h : Vis c s now l V) {cV fs m : List T} (hm : m = fL c s now (vL (lw c s) V (leftL (lw c s) now 0 l))) (h1 : cV.Perm (vC (lw c s) now V (leftL (lw c s) now 0 l))) (h2 : fs.Perm (fS c s now (vL (lw c s) V (leftL (lw c s) now 0 l)))) : ((m ++ cV) ++ fs).Perm (due l now false) := by
  subst hm
  unfold vC leftL at h1
  rw [List.filter_filter] at h1
  unfold fS at h2
  unfold fL due
  by_cases hh : now ≤ hz c s
  · rw [if_pos hh] at h2 ⊢
    rw [h2.eq_nil, List.append_nil]
    unfold vL leftL
    rw [List.filter_filter]
    refine perm_two (fun x hx => ?_) (fun x hx => ?_) (List.Perm.refl _) h1
    · rw [Bool.eq_iff_iff]
      rcases h.cases hx with ⟨k1, k2, k3, k4⟩ | ⟨k1, k2, k3, k4, k5, k6⟩ | ⟨k1, k2, k3, k4, k5, k6, k7⟩
      · rw [k1] at k3; by_cases e : x.a ≤ now <;> simp [k1, k3, e]
      · rw [k1] at k4
        have : ¬ x.a ≤ now := by omega
        simp [k1, k4, this]
      · by_cases e : x.a ≤ now
        · simp [k1, e, k4 e]
        · by_cases e2 : lw c s x ∈ V <;> simp [k1, e, e2]
    · rintro ⟨e1, e2⟩
      simp at e1 e2
      exact e1.1 e2.1.1
  · rw [if_neg hh] at h2 ⊢
    unfold dueL vL leftL at h2
    unfold vL leftL
    rw [List.filter_filter, List.filter_filter, List.filter_filter] at h2 ⊢
    refine perm_two (l := l) (p := fun y => ((!(decide (lw c s y = 1) && decide (y.a ≤ hz c now)) && !(decide (lw c s y = 1) && decide (y.a ≤ now)) && !V.contains (lw c s y) && !(decide (lw c s y = 0) && decide (y.a ≤ now))) || ((V.contains (lw c s y) && !decide (y.a ≤ now)) && !(decide (lw c s y = 0) && decide (y.a ≤ now))))) (fun x hx => ?_) (fun x hx => ?_) (perm_two (fun y hy => rfl) (fun y hy => ?_) (List.Perm.refl _) h1) h2
    · rw [Bool.eq_iff_iff]
      rcases h.cases hx with ⟨k1, k2, k3, k4⟩ | ⟨k1, k2, k3, k4, k5, k6⟩ | ⟨k1, k2, k3, k4, k5, k6, k7⟩
      · rw [k1] at k3; by_cases e : x.a ≤ now <;> simp [k1, k3, e]
      · rw [k1] at k4
        by_cases e : x.a ≤ now <;> by_cases e2 : x.a ≤ hz c now <;> simp [k1, k4, e, e2]
      · by_cases e : x.a ≤ now
        · simp [k1, k2, e, k4 e]
        · by_cases e2 : lw c s x ∈ V <;> simp [k1, k2, e, e2]
    · rintro ⟨e1, e2⟩
      simp only [Bool.and_eq_true, Bool.or_eq_true, Bool.not_eq_true', Bool.and_eq_false_imp, decide_eq_true_eq, decide_eq_false_iff_not, List.contains_eq_mem] at e1 e2
      rcases e1 with e1 | e1
      · exact e1.1.1.1 e2.1.1.1.1 e2.1.1.1.2
      · exact e2.1.2 e1.1.1
    · rintro ⟨e1, e2⟩
      simp only [Bool.and_eq_true, Bool.or_eq_true, Bool.not_eq_true', Bool.and_eq_false_imp, decide_eq_true_eq, decide_eq_false_iff_not, List.contains_eq_mem] at e1 e2
      exact e1.1.2 e2.1.1
theorem due_count (h : Vis c s now l V) {cV : List T} (h1 : cV.Perm (vC (lw c s) now V (leftL (lw c s) now 0 l))) : cV.length = csc c s now l := by
  rw [h1.length_eq]
  unfold vC leftL csc
  rw [List.filter_filter]
  split
  · rename_i e
    rw [List.length_eq_zero_iff, List.filter_eq_nil_iff]
    intro x hx
    rcases h.cases hx with ⟨k1, k2, k3, k4⟩ | ⟨k1, k2, k3, k4, k5, k6⟩ | ⟨k1, k2, k3, k4, k5, k6, k7⟩
    · simp [k3]
    · simp [k4]
    · simp [k6 e]
  · rename_i e
    unfold due
    rw [List.countP_eq_length_filter, List.filter_filter]
    congr 1
    refine List.filter_congr fun x hx => ?_
    rw [Bool.eq_iff_iff]
    rcases h.cases hx with ⟨k1, k2, k3, k4⟩ | ⟨k1, k2, k3, k4, k5, k6⟩ | ⟨k1, k2, k3, k4, k5, k6, k7⟩
    · simp [k3, k4]
    · simp [k4, k5]
    · by_cases e2 : x.a ≤ now
      · simp [e2]
      · have := k5 (by omega) (by omega)
        simp [k1, e2, this]
end
/-- In the list of those that are ready lie those ahead of all others. -/
theorem ahead_ready {c : Nat} {s : Int} {l : List T} {x y : T} (hx : lw c s x = 0) (hy : lw c s y ≠ 0) : lt y x = false := by
  have h1 := lw_zero.1 hx
  have h2 : ¬ y.a ≤ s := fun e => hy (lw_zero.2 e)
  exact lt_less (by omega)
/-- In the first slot that has something lie those ahead of all others, if none is ready. -/
theorem ahead_slot {c : Nat} {s : Int} {l : List T} {p : Nat × Nat} {rest : List (Nat × Nat)} (h : Sls c s l (p :: rest)) (hn : ∀ x ∈ l, lw c s x ≠ 0) {x y : T} (hx : x ∈ l) (hy : y ∈ l) (ex : lw c s x = cod c p) (ey : lw c s y ≠ cod c p) : lt y x = false := by
  obtain ⟨m, i⟩ := p
  obtain ⟨h1, h2, z, hz1, hz2, hz3⟩ := (h.me m i).1 (by simp)
  obtain ⟨k1, k2, k3⟩ := (lw_slot (m := m) (i := i) h2).1 ex
  rcases lw_cases c s y with ⟨e1, e2⟩ | ⟨e1, e2⟩ | ⟨n, j, e1, e2, e3, e4, e5⟩
  · exact absurd e1 (hn y hy)
  · have h3 := hz_over c s y.a e2
    have h4 := hz_under c s x.a (by omega) (by omega)
    exact lt_less (by omega)
  · have hin : (n, j) ∈ (m, i) :: rest := (h.me n j).2 ⟨e1, e2, y, hy, e3, e4⟩
    rcases List.mem_cons.1 hin with h3 | h3
    · exfalso
      have h5 : n = m := congrArg Prod.fst h3
      have h6 : j = i := congrArg Prod.snd h3
      exact ey (by rw [e5, h5, h6]; rfl)
    · have h4 := (List.pairwise_cons.1 h.or).1 _ h3
      have h5 := bg_order (i := (i : Int)) (j := (j : Int)) k1 e1 k2 k3 e3 e4 (by rcases h4 with h4 | h4; exact .inl h4; exact .inr ⟨h4.1, by have := h4.2; omega⟩)
      have h6 := bg_between c s y.a n e1 e3
      rw [e4] at h6
      exact lt_less (by omega)
/-- If no slot has anything, and none is ready, all are far. -/
theorem all_far {c : Nat} {s : Int} {l : List T} (h : Sls c s l []) (hn : ∀ x ∈ l, lw c s x ≠ 0) {y : T} (hy : y ∈ l) : lw c s y = 1 := by
  rcases lw_cases c s y with ⟨e1, e2⟩ | ⟨e1, e2⟩ | ⟨n, j, e1, e2, e3, e4, e5⟩
  · exact absurd e1 (hn y hy)
  · exact e1
  · have := (h.me n j).2 ⟨e1, e2, y, hy, e3, e4⟩
    simp at this
end Go.Proofs.YtdoceldofkaapaaGreatDoor
