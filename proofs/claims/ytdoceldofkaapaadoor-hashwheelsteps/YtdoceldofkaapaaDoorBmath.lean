/-
  Plain arithmetic for layer 2: words of 64 bits, which bits are in them, and how many. Nothing of the program stands here.
-/
import Derived.WalkKit
import Derived.Laws.BitsAllLaws
import Derived.Lib.TrailingZeros
set_option linter.unusedVariables false
set_option linter.unusedSimpArgs false
namespace Go.Proofs.YtdoceldofkaapaaDoor.Bm

/-- Is bit i in the words? -/
def tb (B : Nat → Nat) (i : Nat) : Bool := (B (i / 64)).testBit (i % 64)
/-- Each of them is a word of 64 bits. -/
def Wd (B : Nat → Nat) : Prop := ∀ k, B k < 18446744073709551616

theorem tb_ext {A B : Nat → Nat} (hA : Wd A) (hB : Wd B) (h : ∀ i, i < 256 → tb A i = tb B i) (k : Nat) (hk : k < 4) : A k = B k := by
  apply Nat.eq_of_testBit_eq
  intro j
  by_cases hj : j < 64
  · have := h (64 * k + j) (by omega)
    have e1 : (64 * k + j) / 64 = k := by omega
    have e2 : (64 * k + j) % 64 = j := by omega
    unfold tb at this
    rwa [e1, e2] at this
  · have hp : 2 ^ 64 ≤ 2 ^ j := Nat.pow_le_pow_right (by decide) (by omega)
    simp only [Nat.reducePow] at hp
    rw [Nat.testBit_lt_two_pow (Nat.lt_of_lt_of_le (hA k) hp), Nat.testBit_lt_two_pow (Nat.lt_of_lt_of_le (hB k) hp)]

/-! One bit put in, one taken out. -/
theorem pow64 {m : Nat} (h : m < 64) : 2 ^ m < 18446744073709551616 := by
  have := Nat.pow_lt_pow_right (show 1 < 2 by decide) h
  simpa using this
theorem or_add (x m : Nat) (h : x.testBit m = false) : x ||| 2 ^ m = x + 2 ^ m := by
  have hp := Nat.two_pow_pos m
  rw [Nat.testBit_eq_decide_div_mod_eq] at h
  have h0 : x / 2 ^ m % 2 = 0 := by
    have : ¬ x / 2 ^ m % 2 = 1 := by simpa using h
    omega
  have hx := Nat.div_add_mod x (2 ^ m)
  have hr := Nat.mod_lt x hp
  have h1 : (2 ^ m * (x / 2 ^ m)) % 2 ^ (m + 1) = 0 := by
    have e : x / 2 ^ m = 2 * (x / 2 ^ m / 2) := by omega
    rw [e, ← Nat.mul_assoc, ← Nat.pow_succ, Nat.mul_mod_right]
  have h2 := nat_join (m + 1) _ (x % 2 ^ m) h1 (by rw [Nat.pow_succ]; omega)
  have h3 := nat_join (m + 1) _ (2 ^ m + x % 2 ^ m) h1 (by rw [Nat.pow_succ]; omega)
  have h4 := nat_join m (2 ^ m) (x % 2 ^ m) (Nat.mod_self _) hr
  rw [← h4, ← Nat.or_assoc, Nat.or_comm _ (2 ^ m), Nat.or_assoc, h2, hx, Nat.or_comm] at h3
  rw [h3, h4]
  omega
theorem sub_bit (x m : Nat) (h : x.testBit m = true) : 2 ^ m ≤ x ∧ (x - 2 ^ m).testBit m = false := by
  have hp := Nat.two_pow_pos m
  rw [Nat.testBit_eq_decide_div_mod_eq] at h ⊢
  have h1 : x / 2 ^ m % 2 = 1 := by simpa using h
  have hle : 2 ^ m ≤ x := by
    apply Nat.le_of_not_lt
    intro hlt
    rw [Nat.div_eq_of_lt hlt] at h1
    omega
  refine ⟨hle, ?_⟩
  have e : (x - 2 ^ m) / 2 ^ m = x / 2 ^ m - 1 := by
    have := Nat.sub_mul_div x (2 ^ m) 1
    simpa using this
  rw [e]
  simp only [decide_eq_false_iff_not]
  omega
theorem bit_mask {m j : Nat} (hm : m < 64) : (18446744073709551615 - 2 ^ m).testBit j = (decide (j < 64) && !decide (m = j)) := by
  have := Nat.testBit_two_pow_sub_succ (n := 64) (x := 2 ^ m) (by simpa using pow64 hm) j
  have e : 2 ^ 64 - (2 ^ m + 1) = 18446744073709551615 - 2 ^ m := by simp only [Nat.reducePow]; omega
  rw [e, Nat.testBit_two_pow] at this
  exact this
theorem high_bit {x j : Nat} (hx : x < 18446744073709551616) (hj : ¬ j < 64) : x.testBit j = false := by
  have hp : 2 ^ 64 ≤ 2 ^ j := Nat.pow_le_pow_right (by decide) (by omega)
  simp only [Nat.reducePow] at hp
  exact Nat.testBit_lt_two_pow (by omega)
theorem andNot_sub (x m : Nat) (hx : x < 18446744073709551616) (hm : m < 64) (h : x.testBit m = true) : x &&& (18446744073709551615 - 2 ^ m) = x - 2 ^ m := by
  obtain ⟨hle, hb⟩ := sub_bit x m h
  have hj := or_add _ _ hb
  have e : x - 2 ^ m + 2 ^ m = x := by omega
  rw [e] at hj
  apply Nat.eq_of_testBit_eq
  intro j
  rw [Nat.testBit_and, bit_mask hm]
  have h2 : x.testBit j = ((x - 2 ^ m).testBit j || decide (m = j)) := by
    conv => lhs; rw [← hj]
    rw [Nat.testBit_or, Nat.testBit_two_pow]
  by_cases hmj : m = j
  · subst hmj; simp [hb]
  · by_cases h64 : j < 64
    · simp [h2, hmj, h64]
    · rw [high_bit hx h64, high_bit (Nat.lt_of_le_of_lt (Nat.sub_le x (2 ^ m)) hx) h64]; simp
theorem andNot_same (x m : Nat) (hx : x < 18446744073709551616) (hm : m < 64) (h : x.testBit m = false) : x &&& (18446744073709551615 - 2 ^ m) = x := by
  apply Nat.eq_of_testBit_eq
  intro j
  rw [Nat.testBit_and, bit_mask hm]
  by_cases hmj : m = j
  · subst hmj; simp [h]
  · by_cases h64 : j < 64
    · simp [hmj, h64]
    · rw [high_bit hx h64]; simp
theorem or_same (x m : Nat) (h : x.testBit m = true) : x ||| 2 ^ m = x := by
  apply Nat.eq_of_testBit_eq
  intro j
  rw [Nat.testBit_or, Nat.testBit_two_pow]
  by_cases hmj : m = j
  · subst hmj; simp [h]
  · simp [hmj]

/-- With i in them. -/
def pt (B : Nat → Nat) (i : Nat) : Nat → Nat := fun k => if k = i / 64 then B k ||| 2 ^ (i % 64) else B k
/-- Without i in them. -/
def dp (B : Nat → Nat) (i : Nat) : Nat → Nat := fun k => if k = i / 64 then B k &&& (18446744073709551615 - 2 ^ (i % 64)) else B k
theorem or_wd {x y : Nat} (hx : x < 18446744073709551616) (hy : y < 18446744073709551616) : x ||| y < 18446744073709551616 := by
  have := Nat.or_lt_two_pow (n := 64) (x := x) (y := y) (by simpa using hx) (by simpa using hy)
  simpa using this
theorem and_wd {x y : Nat} (hx : x < 18446744073709551616) : x &&& y < 18446744073709551616 := Nat.lt_of_le_of_lt Nat.and_le_left hx
theorem pt_wd {B : Nat → Nat} (h : Wd B) (i : Nat) : Wd (pt B i) := by
  intro k
  unfold pt
  split
  · exact or_wd (h k) (pow64 (Nat.mod_lt _ (by decide)))
  · exact h k
theorem dp_wd {B : Nat → Nat} (h : Wd B) (i : Nat) : Wd (dp B i) := by
  intro k
  unfold dp
  split
  · exact and_wd (h k)
  · exact h k
theorem tb_pt (B : Nat → Nat) (i j : Nat) : tb (pt B i) j = (tb B j || decide (i = j)) := by
  unfold tb pt
  by_cases h : j / 64 = i / 64
  · rw [if_pos h, Nat.testBit_or, Nat.testBit_two_pow]
    congr 1
    rw [decide_eq_decide]
    omega
  · rw [if_neg h]
    have : ¬ i = j := fun e => h (by rw [e])
    simp [this]

/-! Both, either, without. -/
def bth (A B : Nat → Nat) : Nat → Nat := fun k => A k &&& B k
def eth (A B : Nat → Nat) : Nat → Nat := fun k => A k ||| B k
def wth (A B : Nat → Nat) : Nat → Nat := fun k => A k &&& (18446744073709551615 - B k)
theorem bth_wd {A : Nat → Nat} (h : Wd A) (B : Nat → Nat) : Wd (bth A B) := fun k => and_wd (h k)
theorem eth_wd {A B : Nat → Nat} (h : Wd A) (h2 : Wd B) : Wd (eth A B) := fun k => or_wd (h k) (h2 k)
theorem wth_wd {A : Nat → Nat} (h : Wd A) (B : Nat → Nat) : Wd (wth A B) := fun k => and_wd (h k)
theorem tb_bth (A B : Nat → Nat) (i : Nat) : tb (bth A B) i = (tb A i && tb B i) := Nat.testBit_and _ _ _
theorem tb_eth (A B : Nat → Nat) (i : Nat) : tb (eth A B) i = (tb A i || tb B i) := Nat.testBit_or _ _ _
theorem tb_wth (A B : Nat → Nat) (hB : Wd B) (i : Nat) : tb (wth A B) i = (tb A i && !tb B i) := by
  unfold tb wth
  rw [Nat.testBit_and]
  have := Nat.testBit_two_pow_sub_succ (n := 64) (x := B (i / 64)) (by simpa using hB (i / 64)) (i % 64)
  have e : 2 ^ 64 - (B (i / 64) + 1) = 18446744073709551615 - B (i / 64) := by simp only [Nat.reducePow]; omega
  rw [e] at this
  rw [this, decide_eq_true (Nat.mod_lt _ (by decide)), Bool.true_and]
theorem bth_comm (A B : Nat → Nat) : bth A B = bth B A := funext fun _ => Nat.and_comm _ _
theorem eth_comm (A B : Nat → Nat) : eth A B = eth B A := funext fun _ => Nat.or_comm _ _

/-- Just those less than m. -/
def bl (m : Nat) : Nat → Nat := fun k => 2 ^ (min (m - 64 * k) 64) - 1
theorem bl_wd (m : Nat) : Wd (bl m) := by
  intro k
  have := Nat.pow_le_pow_right (show 0 < 2 by decide) (Nat.min_le_right (m - 64 * k) 64)
  have := Nat.two_pow_pos (min (m - 64 * k) 64)
  unfold bl
  simp only [Nat.reducePow] at *
  omega
theorem tb_bl (m i : Nat) : tb (bl m) i = decide (i < m) := by
  unfold tb bl
  rw [Nat.testBit_two_pow_sub_one, decide_eq_decide]
  omega

/-! How many. -/
/-- Of the first n, of how many f is true. -/
def cnt (f : Nat → Bool) : Nat → Nat
  | 0 => 0
  | n + 1 => cnt f n + (f n).toNat
theorem cnt_add (f : Nat → Bool) (m : Nat) : ∀ n, cnt f (m + n) = cnt f m + cnt (fun i => f (m + i)) n
  | 0 => rfl
  | n + 1 => by
    show cnt f (m + n) + (f (m + n)).toNat = _
    rw [cnt_add f m n, cnt]
    omega
theorem cnt_congr {f g : Nat → Bool} : ∀ {n : Nat}, (∀ i, i < n → f i = g i) → cnt f n = cnt g n
  | 0, _ => rfl
  | n + 1, h => by rw [cnt, cnt, cnt_congr (fun i hi => h i (by omega)), h n (by omega)]
theorem cnt_le (f : Nat → Bool) : ∀ n, cnt f n ≤ n
  | 0 => Nat.le_refl _
  | n + 1 => by
    have := cnt_le f n
    have : (f n).toNat ≤ 1 := Bool.toNat_le _
    rw [cnt]; omega
theorem cnt_two (f g : Nat → Bool) : ∀ n, cnt f n + cnt g n = cnt (fun i => f i && g i) n + cnt (fun i => f i || g i) n
  | 0 => rfl
  | n + 1 => by
    have := cnt_two f g n
    simp only [cnt]
    cases f n <;> cases g n <;> simp <;> omega
theorem cnt_len (f : Nat → Bool) : ∀ n, ((List.range n).filter f).length = cnt f n
  | 0 => rfl
  | n + 1 => by
    rw [List.range_succ, List.filter_append, List.length_append, cnt_len f n, cnt]
    cases h : f n <;> simp [h]
/-- How many bits are in a word. -/
def pc (x : Nat) : Nat := cnt x.testBit 64
theorem pc_le (x : Nat) : pc x ≤ 64 := cnt_le _ _
theorem cnt_tb (B : Nat → Nat) : cnt (tb B) 256 = pc (B 0) + pc (B 1) + pc (B 2) + pc (B 3) := by
  have h : ∀ k, cnt (fun i => tb B (64 * k + i)) 64 = pc (B k) := by
    intro k
    apply cnt_congr
    intro i hi
    have e1 : (64 * k + i) / 64 = k := by omega
    have e2 : (64 * k + i) % 64 = i := by omega
    unfold tb
    rw [e1, e2]
  have e1 := cnt_add (tb B) 192 64
  have e2 := cnt_add (tb B) 128 64
  have e3 := cnt_add (tb B) 64 64
  have h0 := h 0
  have h1 := h 1
  have h2 := h 2
  have h3 := h 3
  simp only [Nat.mul_zero, Nat.zero_add, Nat.reduceMul, Nat.reduceAdd] at *
  have h0' : cnt (tb B) 64 = pc (B 0) := h0
  omega

/-! The sum of a word's bits, as the library reckons it: byte by byte. -/
theorem and256 (a b : Nat) : a &&& b = 256 * (a / 256 &&& b / 256) + (a % 256 &&& b % 256) := by
  have h1 := Nat.div_add_mod (a &&& b) 256
  have h2 : (a &&& b) / 2 ^ 8 = a / 2 ^ 8 &&& b / 2 ^ 8 := Nat.and_div_two_pow
  have h3 : (a &&& b) % 2 ^ 8 = a % 2 ^ 8 &&& b % 2 ^ 8 := Nat.and_mod_two_pow
  simp only [Nat.reducePow] at h2 h3
  rw [← h2, ← h3]
  exact h1.symm
/-- The byte c, n times. -/
def mk (c : Nat) : Nat → Nat
  | 0 => 0
  | n + 1 => 256 * mk c n + c
theorem mk_div (c n : Nat) (h : c < 256) : mk c (n + 1) / 256 = mk c n := by rw [mk]; omega
theorem mk_mod (c n : Nat) (h : c < 256) : mk c (n + 1) % 256 = c := by rw [mk]; omega
def st1 (n x : Nat) : Nat := (x / 2 &&& mk 85 n) + (x &&& mk 85 n)
def st2 (n x : Nat) : Nat := (x / 4 &&& mk 51 n) + (x &&& mk 51 n)
def st3 (n x : Nat) : Nat := (x / 16 + x) &&& mk 15 n
def by1 (b : Nat) : Nat := (b / 2 &&& 85) + (b &&& 85)
def by2 (b : Nat) : Nat := (b / 4 &&& 51) + (b &&& 51)
theorem dec1 : ∀ e, e < 2 → ∀ b, b < 256 → (128 * e + b / 2) &&& 85 = b / 2 &&& 85 := by decide +kernel
theorem dec2 : ∀ e, e < 4 → ∀ b, b < 256 → (64 * e + b / 4) &&& 51 = b / 4 &&& 51 := by decide +kernel
theorem dec3 : ∀ b, b < 256 → by1 b < 256 ∧ by2 (by1 b) ≤ 68 ∧ by2 (by1 b) % 16 ≤ 4 ∧ (by2 (by1 b) / 16 + by2 (by1 b)) % 16 = cnt b.testBit 8 := by decide +kernel
theorem st1_succ (n x : Nat) : st1 (n + 1) x = 256 * st1 n (x / 256) + by1 (x % 256) := by
  unfold st1 by1
  rw [and256 (x / 2), and256 x (mk 85 (n + 1)), mk_div _ _ (by decide), mk_mod _ _ (by decide)]
  have e1 : x / 2 / 256 = x / 256 / 2 := by omega
  have e2 : x / 2 % 256 = 128 * (x / 256 % 2) + x % 256 / 2 := by omega
  rw [e1, e2, dec1 _ (Nat.mod_lt _ (by decide)) _ (Nat.mod_lt _ (by decide))]
  omega
theorem st2_succ (n x : Nat) : st2 (n + 1) x = 256 * st2 n (x / 256) + by2 (x % 256) := by
  unfold st2 by2
  rw [and256 (x / 4), and256 x (mk 51 (n + 1)), mk_div _ _ (by decide), mk_mod _ _ (by decide)]
  have e1 : x / 4 / 256 = x / 256 / 4 := by omega
  have e2 : x / 4 % 256 = 64 * (x / 256 % 4) + x % 256 / 4 := by omega
  rw [e1, e2, dec2 _ (Nat.mod_lt _ (by decide)) _ (Nat.mod_lt _ (by decide))]
  omega
theorem st3_succ (n x : Nat) (h1 : x % 256 ≤ 68) (h2 : x / 256 % 16 ≤ 4) : st3 (n + 1) x = 256 * st3 n (x / 256) + (x % 256 / 16 + x % 256) % 16 := by
  unfold st3
  rw [and256, mk_div _ _ (by decide), mk_mod _ _ (by decide), nat_mask4]
  have e1 : (x / 16 + x) / 256 = x / 256 / 16 + x / 256 := by omega
  have e2 : (x / 16 + x) % 256 % 16 = (x % 256 / 16 + x % 256) % 16 := by omega
  rw [e1, e2]
def swar (n x : Nat) : Nat := st3 n (st2 n (st1 n x))
theorem low4 (n x : Nat) : st2 n (st1 n x) % 16 ≤ 4 := by
  cases n with
  | zero => simp [st2, mk]
  | succ n =>
    have d := dec3 (x % 256) (Nat.mod_lt _ (by decide))
    have e1 : st1 (n + 1) x % 256 = by1 (x % 256) := by rw [st1_succ]; omega
    rw [st2_succ, e1]
    omega
theorem split256 {y q r : Nat} (h : y = 256 * q + r) (hr : r < 256) : y / 256 = q ∧ y % 256 = r := by omega
theorem swar_succ (n x : Nat) : swar (n + 1) x = 256 * swar n (x / 256) + cnt (x % 256).testBit 8 := by
  obtain ⟨d1, d2, d3, d4⟩ := dec3 (x % 256) (Nat.mod_lt _ (by decide))
  obtain ⟨e2, e1⟩ := split256 (st1_succ n x) d1
  have s2 := st2_succ n (st1 (n + 1) x)
  rw [e1, e2] at s2
  obtain ⟨f2, f1⟩ := split256 s2 (Nat.lt_of_le_of_lt d2 (by decide))
  have l := low4 n (x / 256)
  have s3 := st3_succ n (st2 (n + 1) (st1 (n + 1) x)) (by rw [f1]; exact d2) (by rw [f2]; exact l)
  rw [f1, f2, d4] at s3
  exact s3
theorem pc_bytes (x : Nat) : pc x = cnt (x % 256).testBit 8 + cnt (x / 256 % 256).testBit 8 + cnt (x / 256 / 256 % 256).testBit 8 + cnt (x / 256 / 256 / 256 % 256).testBit 8 +
    cnt (x / 256 / 256 / 256 / 256 % 256).testBit 8 + cnt (x / 256 / 256 / 256 / 256 / 256 % 256).testBit 8 + cnt (x / 256 / 256 / 256 / 256 / 256 / 256 % 256).testBit 8 + cnt (x / 256 / 256 / 256 / 256 / 256 / 256 / 256 % 256).testBit 8 := by
  have s : ∀ (y m : Nat), cnt y.testBit (8 + m) = cnt (y % 256).testBit 8 + cnt (y / 256).testBit m := by
    intro y m
    rw [cnt_add]
    congr 1
    · apply cnt_congr
      intro i hi
      have := Nat.testBit_mod_two_pow y 8 i
      simp only [Nat.reducePow] at this
      rw [this, decide_eq_true hi, Bool.true_and]
    · apply cnt_congr
      intro i _
      have := Nat.testBit_div_two_pow (n := 8) y i
      simp only [Nat.reducePow] at this
      rw [this, Nat.add_comm]
  have z : ∀ y : Nat, cnt y.testBit 0 = 0 := fun _ => rfl
  unfold pc
  have e1 := s x 56
  have e2 := s (x / 256) 48
  have e3 := s (x / 256 / 256) 40
  have e4 := s (x / 256 / 256 / 256) 32
  have e5 := s (x / 256 / 256 / 256 / 256) 24
  have e6 := s (x / 256 / 256 / 256 / 256 / 256) 16
  have e7 := s (x / 256 / 256 / 256 / 256 / 256 / 256) 8
  have e8 := s (x / 256 / 256 / 256 / 256 / 256 / 256 / 256) 0
  simp only [Nat.reduceAdd] at *
  rw [e1, e2, e3, e4, e5, e6, e7, e8, z]
  omega
theorem div_low (n q r : Nat) (h : r < n) : (n * q + r) / n = q := by
  rw [Nat.mul_add_div (by omega), Nat.div_eq_of_lt h, Nat.add_zero]
theorem fold8 (c0 c1 c2 c3 c4 c5 c6 c7 y : Nat) (h0 : c0 ≤ 8) (h1 : c1 ≤ 8) (h2 : c2 ≤ 8) (h3 : c3 ≤ 8) (h4 : c4 ≤ 8) (h5 : c5 ≤ 8) (h6 : c6 ≤ 8) (h7 : c7 ≤ 8)
    (hy : y = (256 * (256 * (256 * (256 * (256 * (256 * (256 * c7 + c6) + c5) + c4) + c3) + c2) + c1) + c0)) :
    y < 2 ^ 60 ∧ y + y / 256 < 2 ^ 60 ∧ y + y / 256 + (y + y / 256) / 65536 < 2 ^ 60 ∧
      y + y / 256 + (y + y / 256) / 65536 + (y + y / 256 + (y + y / 256) / 65536) / 4294967296 < 2 ^ 60 ∧
      (y + y / 256 + (y + y / 256) / 65536 + (y + y / 256 + (y + y / 256) / 65536) / 4294967296) % 128 = c0 + c1 + c2 + c3 + c4 + c5 + c6 + c7 := by
  subst hy
  have e1 : (256 * (256 * (256 * (256 * (256 * (256 * (256 * c7 + c6) + c5) + c4) + c3) + c2) + c1) + c0) + (256 * (256 * (256 * (256 * (256 * (256 * c7 + c6) + c5) + c4) + c3) + c2) + c1) = 65536 * (256 * (256 * (256 * (256 * (256 * c7 + (c6 + c7)) + (c5 + c6)) + (c4 + c5)) + (c3 + c4)) + (c2 + c3)) + (256 * (c1 + c2) + (c0 + c1)) := by clear h0 h1 h2 h3 h4 h5 h6 h7; omega
  have e2 : 65536 * (256 * (256 * (256 * (256 * (256 * c7 + (c6 + c7)) + (c5 + c6)) + (c4 + c5)) + (c3 + c4)) + (c2 + c3)) + (256 * (c1 + c2) + (c0 + c1)) + (256 * (256 * (256 * (256 * (256 * c7 + (c6 + c7)) + (c5 + c6)) + (c4 + c5)) + (c3 + c4)) + (c2 + c3)) = 4294967296 * (256 * (256 * (256 * c7 + (c6 + c7)) + (c5 + c6 + c7)) + (c4 + c5 + c6 + c7)) + (16777216 * (c3 + c4 + c5 + c6) + 65536 * (c2 + c3 + c4 + c5) + 256 * (c1 + c2 + c3 + c4) + (c0 + c1 + c2 + c3)) := by clear e1 h0 h1 h2 h3 h4 h5 h6 h7; omega
  have e3 : 4294967296 * (256 * (256 * (256 * c7 + (c6 + c7)) + (c5 + c6 + c7)) + (c4 + c5 + c6 + c7)) + (16777216 * (c3 + c4 + c5 + c6) + 65536 * (c2 + c3 + c4 + c5) + 256 * (c1 + c2 + c3 + c4) + (c0 + c1 + c2 + c3)) + (256 * (256 * (256 * c7 + (c6 + c7)) + (c5 + c6 + c7)) + (c4 + c5 + c6 + c7)) = 128 * (33554432 * (256 * (256 * (256 * c7 + (c6 + c7)) + (c5 + c6 + c7)) + (c4 + c5 + c6 + c7)) + 131072 * (c3 + c4 + c5 + c6) + 512 * (c2 + c3 + c4 + c5) + 2 * (c1 + c2 + c3 + c4) + 2 * (256 * (256 * c7 + (c6 + c7)) + (c5 + c6 + c7))) + (c0 + c1 + c2 + c3 + c4 + c5 + c6 + c7) := by clear e1 e2 h0 h1 h2 h3 h4 h5 h6 h7; omega
  rw [div_low 256 (256 * (256 * (256 * (256 * (256 * (256 * c7 + c6) + c5) + c4) + c3) + c2) + c1) c0 (by clear e1 e2 e3; omega), e1, div_low 65536 (256 * (256 * (256 * (256 * (256 * c7 + (c6 + c7)) + (c5 + c6)) + (c4 + c5)) + (c3 + c4)) + (c2 + c3)) (256 * (c1 + c2) + (c0 + c1)) (by clear e1 e2 e3; omega), e2, div_low 4294967296 (256 * (256 * (256 * c7 + (c6 + c7)) + (c5 + c6 + c7)) + (c4 + c5 + c6 + c7)) (16777216 * (c3 + c4 + c5 + c6) + 65536 * (c2 + c3 + c4 + c5) + 256 * (c1 + c2 + c3 + c4) + (c0 + c1 + c2 + c3)) (by clear e1 e2 e3; omega), e3, Nat.mul_add_mod, Nat.mod_eq_of_lt (by clear e1 e2 e3; omega)]
  clear e1 e2 e3
  simp only [Nat.reducePow]
  exact ⟨by omega, by omega, by omega, by omega, trivial⟩
theorem swar_pc (x : Nat) : swar 8 x < 2 ^ 60 ∧ swar 8 x + swar 8 x / 256 < 2 ^ 60 ∧ swar 8 x + swar 8 x / 256 + (swar 8 x + swar 8 x / 256) / 65536 < 2 ^ 60 ∧
      swar 8 x + swar 8 x / 256 + (swar 8 x + swar 8 x / 256) / 65536 + (swar 8 x + swar 8 x / 256 + (swar 8 x + swar 8 x / 256) / 65536) / 4294967296 < 2 ^ 60 ∧
      (swar 8 x + swar 8 x / 256 + (swar 8 x + swar 8 x / 256) / 65536 + (swar 8 x + swar 8 x / 256 + (swar 8 x + swar 8 x / 256) / 65536) / 4294967296) % 128 = pc x := by
  have z : ∀ y, swar 0 y = 0 := fun y => by simp [swar, st3, mk]
  rw [pc_bytes]
  refine fold8 _ _ _ _ _ _ _ _ _ (cnt_le _ _) (cnt_le _ _) (cnt_le _ _) (cnt_le _ _) (cnt_le _ _) (cnt_le _ _) (cnt_le _ _) (cnt_le _ _) ?_
  rw [swar_succ, swar_succ, swar_succ, swar_succ, swar_succ, swar_succ, swar_succ, swar_succ, z, Nat.mul_zero, Nat.zero_add]
end Go.Proofs.YtdoceldofkaapaaDoor.Bm
