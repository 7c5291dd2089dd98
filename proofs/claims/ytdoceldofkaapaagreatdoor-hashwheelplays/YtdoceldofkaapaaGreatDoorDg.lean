/-
  Plain arithmetic for layer 3: powers of two of a wheel, what stands above a digit, the level, the slot, where a slot begins, the horizon. Nothing of the program stands here.
-/
import Derived.WalkKit
import Derived.Laws.BitsAllLaws
set_option linter.unusedVariables false
set_option linter.unusedSimpArgs false
namespace Go.Proofs.YtdoceldofkaapaaGreatDoor

/-- What is nearest to x of what is from a to b. -/
def wi (x a b : Int) : Int := min (max x a) b
/-- 2^(c * n). -/
def q (c n : Nat) : Int := ((2 ^ (c * n) : Nat) : Int)
theorem q_nat (c n : Nat) : q c n = ((2 ^ (c * n) : Nat) : Int) := rfl
theorem q_pos (c n : Nat) : 1 ≤ q c n := by
  have := Nat.two_pow_pos (c * n)
  rw [q_nat]; omega
theorem q_zero (c : Nat) : q c 0 = 1 := by simp [q]
theorem q_add (c m n : Nat) : q c (m + n) = q c m * q c n := by
  rw [q_nat, q_nat, q_nat, Nat.mul_add, Nat.pow_add, Int.natCast_mul]
theorem q_succ (c n : Nat) : q c (n + 1) = q c n * q c 1 := q_add c n 1
theorem q_le (c n : Nat) (hc : c ≤ 6) (hn : n ≤ 4) : q c n ≤ 16777216 := by
  have h : c * n ≤ 24 := Nat.mul_le_mul hc hn
  have := Nat.pow_le_pow_right (show 0 < 2 by decide) h
  simp only [Nat.reducePow] at this
  rw [q_nat]; omega
theorem q_one (c : Nat) (hc : c ≤ 6) : q c 1 ≤ 64 := by
  have h : c * 1 ≤ 6 := by omega
  have := Nat.pow_le_pow_right (show 0 < 2 by decide) h
  simp only [Nat.reducePow] at this
  rw [q_nat]; omega
theorem q_three (c n : Nat) (hc : c ≤ 6) (hn : n ≤ 3) : q c n ≤ 262144 := by
  have h : c * n ≤ 18 := Nat.mul_le_mul hc hn
  have := Nat.pow_le_pow_right (show 0 < 2 by decide) h
  simp only [Nat.reducePow] at this
  rw [q_nat]; omega
theorem q_two (c : Nat) (h : 1 ≤ c) : 2 ≤ q c 1 := by
  have := Nat.pow_le_pow_right (show 0 < 2 by decide) (show 1 ≤ c * 1 by omega)
  rw [q_nat]; omega
/-- 2^64 is a multiple. -/
theorem q_top (c n : Nat) (hc : c ≤ 6) (hn : n ≤ 4) : ∃ k, (18446744073709551616 : Int) = k * q c n := by
  have h : c * n ≤ 24 := Nat.mul_le_mul hc hn
  refine ⟨((2 ^ (64 - c * n) : Nat) : Int), ?_⟩
  rw [q_nat, ← Int.natCast_mul, ← Nat.pow_add, Nat.sub_add_cancel (by omega)]
  rfl
theorem div_div (t : Int) (c n : Nat) : t / q c n / q c 1 = t / q c (n + 1) := by
  rw [q_succ c n, Int.ediv_ediv_of_nonneg (by have := q_pos c n; omega)]

/-! Floors. -/
theorem fl (a p : Int) (hp : 1 ≤ p) : a / p * p ≤ a ∧ a < a / p * p + p := by
  have h1 := Int.emod_add_mul_ediv a p
  have h2 := Int.emod_nonneg a (b := p) (by omega)
  have h3 := Int.emod_lt_of_pos a (b := p) (by omega)
  have h4 : p * (a / p) = a / p * p := Int.mul_comm _ _
  omega
theorem fl_mono (a b p : Int) (hp : 1 ≤ p) (h : a ≤ b) : a / p ≤ b / p := Int.ediv_le_ediv (by omega) h
theorem fl_below (b p t k : Int) (hp : 1 ≤ p) (hb : b < t) (ht : t = k * p) : b / p * p + p ≤ t := by
  have h1 : b / p < k := by
    apply Int.ediv_lt_of_lt_mul (by omega)
    rw [← ht]; exact hb
  have h2 : (b / p + 1) * p ≤ k * p := Int.mul_le_mul_of_nonneg_right (by omega) (by omega)
  rw [Int.add_mul] at h2
  omega
theorem fl_lt (a b p : Int) (hp : 1 ≤ p) (h : b / p < a / p) : b / p * p + p ≤ a / p * p := by
  have h2 : (b / p + 1) * p ≤ a / p * p := Int.mul_le_mul_of_nonneg_right (by omega) (by omega)
  rw [Int.add_mul] at h2
  omega
theorem fl_own (a p : Int) (hp : 1 ≤ p) : (a / p * p) / p = a / p := Int.mul_ediv_cancel _ (by omega)

/-- The digit of level l. -/
def dg (c : Nat) (t : Int) (l : Nat) : Int := t / q c l % q c 1
theorem dg_in (c : Nat) (t : Int) (l : Nat) : 0 ≤ dg c t l ∧ dg c t l < q c 1 := by
  have := q_pos c 1
  exact ⟨Int.emod_nonneg _ (by omega), Int.emod_lt_of_pos _ (by omega)⟩
theorem dg_split (c : Nat) (t : Int) (l : Nat) : t / q c l = t / q c (l + 1) * q c 1 + dg c t l := by
  have h := Int.emod_add_mul_ediv (t / q c l) (q c 1)
  rw [div_div] at h
  unfold dg
  rw [Int.mul_comm]
  omega
/-- The level. -/
def lv (c : Nat) (b a : Int) : Int :=
  if a ≤ b then -1 else if b / q c 1 = a / q c 1 then 0 else if b / q c 2 = a / q c 2 then 1 else if b / q c 3 = a / q c 3 then 2 else if b / q c 4 = a / q c 4 then 3 else 4
/-- The slot. -/
def sv (c : Nat) (b a : Int) : Int := if lv c b a < 0 ∨ 3 < lv c b a then 0 else dg c a (lv c b a).toNat
/-- Where slot s of level l begins. -/
def bg (c : Nat) (b : Int) (l : Nat) (s : Int) : Int := b / q c (l + 1) * q c (l + 1) + s * q c l
/-- The horizon. -/
def hz (c : Nat) (b : Int) : Int := b / q c 4 * q c 4 + (q c 4 - 1)

theorem hz_in (c : Nat) (hc : c ≤ 6) (b : Int) (h1 : b < 18446744073709551616) : b ≤ hz c b ∧ hz c b < 18446744073709551616 := by
  obtain ⟨k, hk⟩ := q_top c 4 hc (by omega)
  have hp := q_pos c 4
  have h2 := fl b (q c 4) hp
  have h3 := fl_below b (q c 4) _ k hp h1 hk
  unfold hz
  omega
/-- No sum on the way to a slot's beginning leaves 64 bits. -/
theorem bg_in (c : Nat) (hc : c ≤ 6) (b : Int) (h0 : 0 ≤ b) (h1 : b < 18446744073709551616) (l : Nat) (hl : l ≤ 3) (s : Int) (s0 : 0 ≤ s) (s1 : s ≤ q c 1 - 1) :
    0 ≤ b / q c (l + 1) ∧ 0 ≤ b / q c (l + 1) * q c (l + 1) ∧ 0 ≤ s * q c l ∧ bg c b l s ≤ b / q c (l + 1) * q c (l + 1) + q c (l + 1) - 1 ∧ bg c b l s < 18446744073709551616 := by
  obtain ⟨k, hk⟩ := q_top c (l + 1) hc (by omega)
  have hp := q_pos c (l + 1)
  have hp' := q_pos c l
  have h2 := fl b (q c (l + 1)) hp
  have h3 := fl_below b (q c (l + 1)) _ k hp h1 hk
  have h4 : (s + 1) * q c l ≤ q c 1 * q c l := Int.mul_le_mul_of_nonneg_right (by omega) (by omega)
  have h5 : q c 1 * q c l = q c (l + 1) := by rw [q_succ c l, Int.mul_comm]
  have h6 : 0 ≤ s * q c l := Int.mul_nonneg s0 (by omega)
  have h7 : 0 ≤ b / q c (l + 1) := Int.ediv_nonneg h0 (by omega)
  have h8 : 0 ≤ b / q c (l + 1) * q c (l + 1) := Int.mul_nonneg h7 (by omega)
  rw [Int.add_mul, h5] at h4
  unfold bg
  omega
theorem bg_other (c : Nat) (b : Int) (l : Nat) (s : Int) : (b / q c (l + 1) * q c 1 + s) * q c l = bg c b l s := by
  unfold bg
  rw [Int.add_mul, Int.mul_assoc, q_succ c l, Int.mul_comm (q c 1)]

/-! Levels. -/
theorem up1 (c n : Nat) (a b : Int) (h : b / q c n = a / q c n) : b / q c (n + 1) = a / q c (n + 1) := by
  rw [← div_div b c n, ← div_div a c n, h]
theorem lv_in (c : Nat) (b a : Int) : -1 ≤ lv c b a ∧ lv c b a ≤ 4 := by
  unfold lv; repeat' split
  all_goals omega
theorem lv_neg (c : Nat) (b a : Int) : lv c b a < 0 ↔ a ≤ b := by
  unfold lv; repeat' split
  all_goals omega
/-- It is at most m where the two are the same above. -/
theorem lv_le (c : Nat) (b a : Int) (m : Nat) (hm : m ≤ 3) (h : b / q c (m + 1) = a / q c (m + 1)) : lv c b a ≤ m := by
  unfold lv
  obtain rfl | rfl | rfl | rfl : m = 0 ∨ m = 1 ∨ m = 2 ∨ m = 3 := by omega
  · rw [if_pos h]; split <;> omega
  · rw [if_pos h]; repeat' split
    all_goals omega
  · rw [if_pos h]; repeat' split
    all_goals omega
  · rw [if_pos h]; repeat' split
    all_goals omega
theorem lv_same (c : Nat) (b a : Int) (m : Nat) (hm : m ≤ 3) (h0 : 0 ≤ lv c b a) (h : lv c b a ≤ m) : b / q c (m + 1) = a / q c (m + 1) := by
  have e0 : b < a := by have := lv_neg c b a; omega
  by_cases h1 : b / q c 1 = a / q c 1
  · have h2 := up1 c 1 a b h1
    have h3 := up1 c 2 a b h2
    have h4 := up1 c 3 a b h3
    obtain rfl | rfl | rfl | rfl : m = 0 ∨ m = 1 ∨ m = 2 ∨ m = 3 := by omega
    all_goals assumption
  · by_cases h2 : b / q c 2 = a / q c 2
    · have h3 := up1 c 2 a b h2
      have h4 := up1 c 3 a b h3
      have e : lv c b a = 1 := by unfold lv; rw [if_neg (by omega), if_neg h1, if_pos h2]
      obtain rfl | rfl | rfl : m = 1 ∨ m = 2 ∨ m = 3 := by omega
      all_goals assumption
    · by_cases h3 : b / q c 3 = a / q c 3
      · have h4 := up1 c 3 a b h3
        have e : lv c b a = 2 := by unfold lv; rw [if_neg (by omega), if_neg h1, if_neg h2, if_pos h3]
        obtain rfl | rfl : m = 2 ∨ m = 3 := by omega
        all_goals assumption
      · by_cases h4 : b / q c 4 = a / q c 4
        · have e : lv c b a = 3 := by unfold lv; rw [if_neg (by omega), if_neg h1, if_neg h2, if_neg h3, if_pos h4]
          obtain rfl : m = 3 := by omega
          assumption
        · have e : lv c b a = 4 := by unfold lv; rw [if_neg (by omega), if_neg h1, if_neg h2, if_neg h3, if_neg h4]
          omega
/-- Below the level the two part. -/
theorem lv_part (c : Nat) (b a : Int) (l : Nat) (hl : l ≤ 4) (h : lv c b a = l) : b / q c l < a / q c l := by
  have e0 : b < a := by have := lv_neg c b a; omega
  have h1 := fl_mono b a (q c l) (q_pos c l) (by omega)
  by_cases hz : l = 0
  · subst hz
    rw [q_zero, Int.ediv_one, Int.ediv_one]; exact e0
  · have h2 : b / q c l ≠ a / q c l := by
      intro h3
      obtain ⟨m, rfl⟩ : ∃ m, l = m + 1 := ⟨l - 1, by omega⟩
      have := lv_le c b a m (by omega) h3
      omega
    omega
/-- The slot of the level. -/
theorem sv_at (c : Nat) (b a : Int) (l : Nat) (hl : l ≤ 3) (h : lv c b a = l) : sv c b a = dg c a l := by
  unfold sv
  rw [if_neg (by omega), h, Int.toNat_natCast]
/-- A slot begins at the multiple below the tick. -/
theorem bg_own (c : Nat) (b a : Int) (l : Nat) (hl : l ≤ 3) (h : lv c b a = l) : bg c b l (sv c b a) = a / q c l * q c l := by
  have h1 := lv_same c b a l hl (by omega) (by omega)
  rw [sv_at c b a l hl h, ← bg_other, h1, ← dg_split]
theorem bg_between (c : Nat) (b a : Int) (l : Nat) (hl : l ≤ 3) (h : lv c b a = l) :
    b < bg c b l (sv c b a) ∧ bg c b l (sv c b a) ≤ a ∧ a - bg c b l (sv c b a) < q c l := by
  rw [bg_own c b a l hl h]
  have hp := q_pos c l
  have h1 := fl_lt a b (q c l) hp (lv_part c b a l (by omega) h)
  have h2 := fl b (q c l) hp
  have h3 := fl a (q c l) hp
  omega
/-- From there the tick is at a lower level. -/
theorem bg_falls (c : Nat) (b a : Int) (l : Nat) (hl : l ≤ 3) (h : lv c b a = l) : lv c (bg c b l (sv c b a)) a < l := by
  rw [bg_own c b a l hl h]
  by_cases hz : l = 0
  · subst hz
    rw [q_zero, Int.ediv_one, Int.mul_one]
    exact (lv_neg c a a).2 (by omega)
  · obtain ⟨m, rfl⟩ : ∃ m, l = m + 1 := ⟨l - 1, by omega⟩
    have := lv_le c (a / q c (m + 1) * q c (m + 1)) a m (by omega) (fl_own a _ (q_pos c (m + 1)))
    omega
theorem hz_over (c : Nat) (b a : Int) (h : lv c b a = 4) : hz c b < a := by
  have hp := q_pos c 4
  have h1 := fl_lt a b (q c 4) hp (lv_part c b a 4 (by omega) h)
  have h3 := fl a (q c 4) hp
  unfold hz; omega
theorem hz_under (c : Nat) (b a : Int) (h0 : 0 ≤ lv c b a) (h : lv c b a ≤ 3) : a ≤ hz c b := by
  have hp := q_pos c 4
  have h1 : b / q c 4 = a / q c 4 := lv_same c b a 3 (by omega) h0 h
  have h3 := fl a (q c 4) hp
  unfold hz; rw [h1]; omega
theorem hz_level (c : Nat) (b a : Int) (h : a ≤ hz c b) : lv c b a ≤ 3 := by
  have h1 := lv_in c b a
  by_cases h4 : lv c b a = 4
  · have := hz_over c b a h4; omega
  · omega
theorem lv_rises (c : Nat) (o a b : Int) (h : a ≤ b) : lv c o a ≤ lv c o b := by
  have h1 := lv_in c o a
  have h2 := lv_in c o b
  have h3 := lv_neg c o a
  have h4 := lv_neg c o b
  by_cases h5 : lv c o a < 0
  · omega
  · by_cases h6 : lv c o b = 4
    · omega
    · obtain ⟨m, hm⟩ : ∃ m : Nat, lv c o b = m := ⟨(lv c o b).toNat, by omega⟩
      have e1 := lv_same c o b m (by omega) (by omega) (by omega)
      have e2 := fl_mono o a (q c (m + 1)) (q_pos c _) (by omega)
      have e3 := fl_mono a b (q c (m + 1)) (q_pos c _) h
      have := lv_le c o a m (by omega) (by omega)
      omega
theorem sv_rises (c : Nat) (o a b : Int) (h : a ≤ b) (he : lv c o a = lv c o b) : sv c o a ≤ sv c o b := by
  by_cases h1 : lv c o a < 0 ∨ 3 < lv c o a
  · unfold sv; rw [if_pos h1, if_pos (he ▸ h1)]; omega
  · have h2 := lv_in c o a
    obtain ⟨m, hm⟩ : ∃ m : Nat, lv c o a = m := ⟨(lv c o a).toNat, by omega⟩
    rw [sv_at c o a m (by omega) hm, sv_at c o b m (by omega) (he ▸ hm)]
    have e1 := lv_same c o a m (by omega) (by omega) (by omega)
    have e2 := lv_same c o b m (by omega) (by omega) (by omega)
    have s1 := dg_split c a m
    have s2 := dg_split c b m
    have e3 := fl_mono a b (q c m) (q_pos c m) h
    rw [← e1] at s1
    rw [← e2] at s2
    omega
theorem lv_later (c : Nat) (b l a : Int) (h : b ≤ l) : lv c l a ≤ lv c b a := by
  have h1 := lv_in c l a
  have h2 := lv_in c b a
  have h3 := lv_neg c l a
  have h4 := lv_neg c b a
  by_cases h5 : lv c l a < 0
  · omega
  · by_cases h6 : lv c b a = 4
    · omega
    · obtain ⟨m, hm⟩ : ∃ m : Nat, lv c b a = m := ⟨(lv c b a).toNat, by omega⟩
      have e1 := lv_same c b a m (by omega) (by omega) (by omega)
      have e2 := fl_mono b l (q c (m + 1)) (q_pos c _) h
      have e3 := fl_mono l a (q c (m + 1)) (q_pos c _) (by omega)
      have := lv_le c l a m (by omega) (by omega)
      omega

/-! Masks. -/
theorem and_low (x n : Nat) : x &&& (2 ^ n - 1) = x % 2 ^ n := Nat.and_two_pow_sub_one_eq_mod x n
theorem or_low (x n : Nat) : x ||| (2 ^ n - 1) = x - x % 2 ^ n + (2 ^ n - 1) := by
  have hp := Nat.two_pow_pos n
  have hm : (x - x % 2 ^ n) % 2 ^ n = 0 := by
    have h : x - x % 2 ^ n = 2 ^ n * (x / 2 ^ n) := by have := Nat.div_add_mod x (2 ^ n); omega
    rw [h, Nat.mul_mod_right]
  have h1 := nat_join n (x - x % 2 ^ n) (2 ^ n - 1) hm (by omega)
  have h2 := nat_join n (x - x % 2 ^ n) (x % 2 ^ n) hm (Nat.mod_lt _ hp)
  have h3 : x - x % 2 ^ n + x % 2 ^ n = x := by have := Nat.mod_le x (2 ^ n); omega
  rw [h3] at h2
  have h4 : x % 2 ^ n ||| (2 ^ n - 1) = 2 ^ n - 1 := by
    rw [← and_low]
    apply Nat.eq_of_testBit_eq
    intro i
    rw [Nat.testBit_or, Nat.testBit_and]
    cases x.testBit i <;> cases (2 ^ n - 1).testBit i <;> rfl
  rw [← h1]
  conv => lhs; rw [← h2]
  rw [Nat.or_assoc, h4]
theorem or_q (c : Nat) (hc : c ≤ 6) (b : Int) (h0 : 0 ≤ b) (h1 : b < 18446744073709551616) : bits .or .u64 b (q c 4 - 1) = hz c b := by
  have hp := q_pos c 4
  have hq := q_le c 4 hc (by omega)
  have e : (q c 4 - 1).toNat = 2 ^ (c * 4) - 1 := by
    rw [q_nat]; have := Nat.two_pow_pos (c * 4); omega
  rw [u64_or b (q c 4 - 1) h0 h1 (by omega) (by omega), e, or_low]
  obtain ⟨n, rfl⟩ := Int.eq_ofNat_of_zero_le h0
  have h2 : (n : Int) / q c 4 * q c 4 = ((n - n % 2 ^ (c * 4) : Nat) : Int) := by
    have h3 : n - n % 2 ^ (c * 4) = n / 2 ^ (c * 4) * 2 ^ (c * 4) := by
      generalize 2 ^ (c * 4) = P
      have h4 := Nat.div_add_mod n P
      have h5 := Nat.mul_comm (n / P) P
      omega
    rw [h3, Int.natCast_mul, Int.natCast_ediv, ← q_nat]
  unfold hz
  rw [h2, Int.toNat_natCast, q_nat]
  have := Nat.two_pow_pos (c * 4)
  omega
end Go.Proofs.YtdoceldofkaapaaGreatDoor
