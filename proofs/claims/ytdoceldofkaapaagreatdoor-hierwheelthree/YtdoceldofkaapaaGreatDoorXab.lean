/-
  A wheel of slots as plain mathematics: which slot a tick lies in, and which slots a Due looks into.
  How many slots a Due looks into, against how many ticks it goes on; what is due up to a tick, and then up to a later one.
  A wheel of four levels as plain mathematics: which timers cascade, and how often at most.
  Rings of places, as plain functions: paths, what one meets on them, and how they turn.
-/
import Derived.Test.YtdoceldofkaapaaGreatDoorXaa
import Derived.Test.YtdoceldofkaapaaGreatDoorDg
import Derived.Below
set_option linter.unusedVariables false
set_option linter.unusedSimpArgs false
namespace Go.Proofs.YtdoceldofkaapaaGreatDoor
/-- How many slots there are. -/
def slo (b : Nat) : Nat := 4 * 2 ^ b
theorem slo_le {b : Nat} (h : b ≤ 6) : 4 ≤ slo b ∧ slo b ≤ 256 := by
  unfold slo
  have : b = 0 ∨ b = 1 ∨ b = 2 ∨ b = 3 ∨ b = 4 ∨ b = 5 ∨ b = 6 := by omega
  rcases this with rfl | rfl | rfl | rfl | rfl | rfl | rfl <;> decide
theorem slo_step (b : Nat) : slo (b + 1) = 2 * slo b := by unfold slo; rw [Nat.pow_succ]; omega
/-- Is a timer's slot one of a tick behind s and up to now, and is it of a tick behind s? -/
def hit (S : Nat) (s now : Int) (t : T) : Bool := decide (s < t.a) && decide ((t.a - s - 1) % (S : Int) < now - s)
def slt (S : Nat) (t : T) : Nat := (t.a % (S : Int)).toNat
theorem slt_lt {S : Nat} (h : 0 < S) (t : T) : slt S t < S := by
  unfold slt
  have h1 := Int.emod_nonneg t.a (b := (S : Int)) (by omega)
  have h2 := Int.emod_lt_of_pos t.a (b := (S : Int)) (by omega)
  omega
/-- The slots, each with whether it is looked into. -/
def mks (S : Nat) (s now : Int) (l : List T) : List Bool := (List.range S).map fun i => l.any fun t => hit S s now t && decide (slt S t = i)
theorem mks_len (S : Nat) (s now : Int) (l : List T) : (mks S s now l).length = S := by unfold mks; simp
theorem mks_nil (S : Nat) (s now : Int) : mks S s now [] = List.replicate S false := by
  unfold mks
  apply List.ext_getElem
  · simp
  · intro i h1 h2; simp
theorem mks_snoc (S : Nat) (s now : Int) (l : List T) (x : T) : mks S s now (l ++ [x]) = if hit S s now x = true then (mks S s now l).set (slt S x) true else mks S s now l := by
  unfold mks
  split
  · rename_i e
    apply List.ext_getElem
    · simp
    · intro i h1 h2
      rw [List.getElem_set]
      simp only [List.getElem_map, List.getElem_range, List.any_append, List.any_cons, List.any_nil, e, Bool.true_and, Bool.or_false]
      by_cases h : slt S x = i
      · rw [if_pos h]; simp [h]
      · rw [if_neg h]; simp [h]
  · rename_i e
    have e : hit S s now x = false := by simpa using e
    apply List.ext_getElem
    · simp
    · intro i h1 h2
      simp [e]
/-- How many slots a Due looks into. -/
def lks (S : Nat) (s now : Int) (l : List T) : Nat := if now ≤ s then 0 else (mks S s now l).countP fun b => b
theorem lks_past {S : Nat} {s now : Int} {l : List T} (h : now ≤ s) : lks S s now l = 0 := by unfold lks; rw [if_pos h]
theorem lks_slots (S : Nat) (s now : Int) (l : List T) : lks S s now l ≤ S := by
  unfold lks
  split
  · omega
  · have := List.countP_le_length (p := fun b : Bool => b) (l := mks S s now l)
    rw [mks_len] at this
    exact this
theorem cnt_set (bs : List Bool) (i : Nat) : (bs.set i true).countP (fun b => b) ≤ bs.countP (fun b => b) + 1 := by
  induction bs generalizing i with
  | nil => simp
  | cons b r ih =>
    cases i with
    | zero => simp [List.countP_cons]
    | succ i => simp only [List.set_cons_succ, List.countP_cons]; have := ih i; omega
theorem mks_cnt (S : Nat) (s now : Int) : ∀ l : List T, (mks S s now l).countP (fun b => b) ≤ l.length := by
  have key : ∀ (n : Nat) (l : List T), l.length = n → (mks S s now l).countP (fun b => b) ≤ n := by
    intro n
    induction n with
    | zero => intro l h; have : l = [] := List.length_eq_zero_iff.1 h; subst this; rw [mks_nil]; simp [List.countP_replicate]
    | succ n ih =>
      intro l h
      have hne : l ≠ [] := fun e => by subst e; simp at h
      obtain ⟨m, x, rfl⟩ : ∃ m x, l = m ++ [x] := ⟨l.dropLast, l.getLast hne, (List.dropLast_concat_getLast hne).symm⟩
      have hm : m.length = n := by simp at h; exact h
      rw [mks_snoc]
      split
      · exact Nat.le_trans (cnt_set _ _) (Nat.succ_le_succ (ih m hm))
      · exact Nat.le_succ_of_le (ih m hm)
  exact fun l => key l.length l rfl
theorem lks_len (S : Nat) (s now : Int) (l : List T) : lks S s now l ≤ l.length := by
  unfold lks
  split
  · omega
  · exact mks_cnt S s now l
end Go.Proofs.YtdoceldofkaapaaGreatDoor
namespace Go.Proofs.YtdoceldofkaapaaGreatDoor
theorem cnt_int (a b n : Nat) : (List.range n).countP (fun i => decide (a ≤ i) && decide (i < b)) ≤ min n b - a := by
  induction n with
  | zero => simp
  | succ n ih =>
    rw [List.range_succ, List.countP_append]
    by_cases h : a ≤ n ∧ n < b
    · simp [h.1, h.2]; omega
    · have e : (decide (a ≤ n) && decide (n < b)) = false := by simp; omega
      simp [e]; omega
theorem cnt_or {α : Type} (p q r : α → Bool) (h : ∀ x, p x = true → q x = true ∨ r x = true) (l : List α) : l.countP p ≤ l.countP q + l.countP r := by
  induction l with
  | nil => simp
  | cons x l ih =>
    simp only [List.countP_cons]
    by_cases hp : p x = true
    · rcases h x hp with e | e
      · simp only [hp, e, if_true]; omega
      · simp only [hp, e, if_true]; omega
    · simp only [hp]; simp; omega
theorem cnt_mono {l : List Nat} {p q : Nat → Bool} (h : ∀ i, i ∈ l → p i = true → q i = true) : l.countP p ≤ l.countP q := List.countP_mono_left h
theorem emod_rot {S : Nat} (hS : 0 < S) (s : Int) (i : Nat) (hi : i < S) : ((i : Int) - s - 1) % (S : Int) = if ((s + 1) % (S : Int)).toNat ≤ i then (i : Int) - (s + 1) % (S : Int) else (i : Int) - (s + 1) % (S : Int) + S := by
  have h1 := Int.emod_nonneg (s + 1) (b := (S : Int)) (by omega)
  have h2 := Int.emod_lt_of_pos (s + 1) (b := (S : Int)) (by omega)
  have e : ((i : Int) - s - 1) % (S : Int) = ((i : Int) - (s + 1) % (S : Int)) % (S : Int) := by
    rw [show (i : Int) - s - 1 = i - (s + 1) from by omega, Int.sub_emod, Int.sub_emod (i : Int) ((s + 1) % (S : Int)), Int.emod_emod]
  rw [e]
  generalize (s + 1) % (S : Int) = c at *
  split
  · exact Int.emod_eq_of_lt (by omega) (by omega)
  · rw [← Int.add_emod_right]
    exact Int.emod_eq_of_lt (by omega) (by omega)
theorem lks_ticks {S : Nat} (hS : 0 < S) (s now : Int) (l : List T) (h : s < now) : (lks S s now l : Int) ≤ now - s := by
  unfold lks
  rw [if_neg (by omega)]
  by_cases hbig : (S : Int) ≤ now - s
  · have := List.countP_le_length (p := fun b : Bool => b) (l := mks S s now l)
    rw [mks_len] at this
    omega
  · obtain ⟨m, hm⟩ : ∃ m : Nat, now - s = m := ⟨(now - s).toNat, by omega⟩
    have h1 := Int.emod_nonneg (s + 1) (b := (S : Int)) (by omega)
    have h2 := Int.emod_lt_of_pos (s + 1) (b := (S : Int)) (by omega)
    obtain ⟨c, hc⟩ : ∃ c : Nat, (s + 1) % (S : Int) = c := ⟨((s + 1) % (S : Int)).toNat, by omega⟩
    have key : ∀ i, i ∈ List.range S → (l.any fun t => hit S s now t && decide (slt S t = i)) = true → ((decide (c ≤ i) && decide (i < c + m)) || (decide (0 ≤ i) && decide (i < c + m - S))) = true := by
      intro i hi hany
      have hi : i < S := by simpa using hi
      obtain ⟨t, _, ht⟩ := List.any_eq_true.1 hany
      simp only [Bool.and_eq_true, decide_eq_true_eq, hit] at ht
      obtain ⟨⟨ht1, ht2⟩, ht3⟩ := ht
      have e : (t.a - s - 1) % (S : Int) = ((i : Int) - s - 1) % (S : Int) := by
        have : t.a % (S : Int) = (i : Int) := by
          unfold slt at ht3
          have := Int.emod_nonneg t.a (b := (S : Int)) (by omega)
          omega
        rw [show t.a - s - 1 = t.a - (s + 1) from by omega, Int.sub_emod, this, show (i : Int) - s - 1 = i - (s + 1) from by omega, Int.sub_emod (i : Int) (s + 1), Int.emod_eq_of_lt (a := (i : Int)) (by omega) (by omega)]
      rw [e, emod_rot hS s i hi, hc, hm] at ht2
      simp only [Int.toNat_natCast] at ht2
      simp only [Bool.or_eq_true, Bool.and_eq_true, decide_eq_true_eq]
      split at ht2 <;> omega
    have a1 : (mks S s now l).countP (fun b => b) = (List.range S).countP (fun i => l.any fun t => hit S s now t && decide (slt S t = i)) := by
      unfold mks
      rw [List.countP_map]
      rfl
    have a2 := cnt_mono key
    have a3 := cnt_or (fun i => (decide (c ≤ i) && decide (i < c + m)) || (decide (0 ≤ i) && decide (i < c + m - S))) (fun i => decide (c ≤ i) && decide (i < c + m)) (fun i => decide (0 ≤ i) && decide (i < c + m - S)) (fun x hx => by simpa using hx) (List.range S)
    have a4 := cnt_int c (c + m) S
    have a5 := cnt_int 0 (c + m - S) S
    omega
theorem due_len2 (l : List T) (now : Int) : (due l now true).length + (due l now false).length = l.length := by
  unfold due
  induction l with
  | nil => rfl
  | cons x r ih => by_cases h : x.a ≤ now <;> simp [h] <;> simp at ih <;> omega
theorem due_far {l : List T} {a b : Int} (h : a ≤ b) : due (due l a false) b false = due l b false := by
  unfold due
  rw [List.filter_filter]
  congr 1
  funext x
  by_cases h1 : x.a ≤ a
  · have : x.a ≤ b := by omega
    simp [h1, this]
  · simp [h1]
theorem due_more {l : List T} (hs : So l) {a b : Int} (h : a ≤ b) : due l a true ++ due (due l a false) b true = due l b true := by
  induction l with
  | nil => rfl
  | cons x r ih =>
    have hs2 : So r := (List.pairwise_cons.1 hs).2
    have hx := (List.pairwise_cons.1 hs).1
    have ih := ih hs2
    unfold due at ih ⊢
    by_cases h1 : x.a ≤ a
    · have h2 : x.a ≤ b := by omega
      simp only [List.filter_cons, h1, h2, decide_true, beq_self_eq_true, if_true, List.cons_append]
      simp
      simpa using ih
    · have hnone : r.filter (fun y => decide (y.a ≤ a) == true) = [] := by
        rw [List.filter_eq_nil_iff]
        intro y hy
        have := hx y hy
        rw [lt_no] at this
        unfold Lt at this
        simp
        omega
      rw [hnone] at ih
      by_cases h2 : x.a ≤ b
      · have e1 : (decide (x.a ≤ a) == true) = false := by simp [h1]
        have e2 : (decide (x.a ≤ a) == false) = true := by simp [h1]
        have e3 : (decide (x.a ≤ b) == true) = true := by simp [h2]
        rw [List.filter_cons, List.filter_cons, List.filter_cons, e1, e2, e3, hnone, if_neg (by decide), if_pos rfl, if_pos rfl, List.filter_cons, e3, if_pos rfl, List.nil_append]
        rw [List.nil_append] at ih
        rw [ih]
      · have e1 : (decide (x.a ≤ a) == true) = false := by simp [h1]
        have e2 : (decide (x.a ≤ a) == false) = true := by simp [h1]
        have e3 : (decide (x.a ≤ b) == true) = false := by simp [h2]
        rw [List.filter_cons, List.filter_cons, List.filter_cons, e1, e2, e3, hnone, if_neg (by decide), if_pos rfl, if_neg (by decide), List.filter_cons, e3, if_neg (by decide), List.nil_append]
        rw [List.nil_append] at ih
        rw [ih]
end Go.Proofs.YtdoceldofkaapaaGreatDoor
namespace Go.Proofs.YtdoceldofkaapaaGreatDoor
/-- Does a timer cascade where the base goes from s to now? -/
def fall (c : Nat) (s now : Int) (t : T) : Bool := decide (0 ≤ lv c s t.a) && decide (lv c s t.a ≤ 3) && decide (lv c now t.a < lv c s t.a)
/-- How many cascade. -/
def csc (c : Nat) (s now : Int) (l : List T) : Nat := if now ≤ s then 0 else (due l now false).countP (fall c s now)
/-- How often one at a level can cascade yet. -/
def pot (x : Int) : Nat := if x < 0 then 0 else (min x 3).toNat
theorem pot_le (x : Int) : pot x ≤ 3 := by unfold pot; split <;> omega
def pots (c : Nat) (s : Int) (l : List T) : Nat := (l.map fun t => pot (lv c s t.a)).sum
theorem pots_cons (c : Nat) (s : Int) (t : T) (l : List T) : pots c s (t :: l) = pot (lv c s t.a) + pots c s l := by unfold pots; simp
theorem pots_perm {c : Nat} {s : Int} {l m : List T} (h : l.Perm m) : pots c s l = pots c s m := by
  unfold pots
  induction h with
  | nil => rfl
  | cons x _ ih => simp only [List.map_cons, List.sum_cons]; omega
  | swap x y l => simp only [List.map_cons, List.sum_cons]; omega
  | trans _ _ h1 h2 => omega
theorem pots_filter (c : Nat) (s : Int) (p : T → Bool) : ∀ l : List T, pots c s (l.filter p) ≤ pots c s l
  | [] => Nat.le_refl _
  | x :: r => by
    have := pots_filter c s p r
    by_cases h : p x = true
    · rw [List.filter_cons_of_pos h, pots_cons, pots_cons]; omega
    · rw [List.filter_cons_of_neg h, pots_cons]; omega
theorem pot_falls {c : Nat} {s now : Int} (h : s ≤ now) (t : T) (hx : now < t.a) : (if fall c s now t = true then 1 else 0) + pot (lv c now t.a) ≤ pot (lv c s t.a) := by
  have h1 := lv_later c s now t.a h
  have h2 := lv_in c now t.a
  have h3 := lv_in c s t.a
  have h9 : ¬ lv c now t.a < 0 := by rw [lv_neg]; omega
  unfold fall pot
  generalize lv c now t.a = u at *
  generalize lv c s t.a = v at *
  by_cases h4 : 0 ≤ v ∧ v ≤ 3 ∧ u < v
  · have e : (decide (0 ≤ v) && decide (v ≤ 3) && decide (u < v)) = true := by simp [h4.1, h4.2.1, h4.2.2]
    rw [if_pos e, if_neg (show ¬ v < 0 by omega)]
    rw [if_neg h9]
    omega
  · have e : ¬ (decide (0 ≤ v) && decide (v ≤ 3) && decide (u < v)) = true := by
      intro h
      simp only [Bool.and_eq_true, decide_eq_true_eq] at h
      exact h4 ⟨h.1.1, h.1.2, h.2⟩
    rw [if_neg e]
    rw [if_neg h9, if_neg (show ¬ v < 0 by omega)]
    have : (min u 3).toNat ≤ (min v 3).toNat := by omega
    omega
theorem pots_falls {c : Nat} {s now : Int} (h : s ≤ now) : ∀ l : List T, (∀ t ∈ l, now < t.a) → l.countP (fall c s now) + pots c now l ≤ pots c s l
  | [], _ => Nat.le_refl _
  | x :: r, hl => by
    have h1 := pots_falls (c := c) h r (fun t ht => hl t (List.mem_cons_of_mem _ ht))
    have h2 := pot_falls (c := c) h x (hl x (List.mem_cons_self ..))
    rw [pots_cons, pots_cons, List.countP_cons]
    omega
/-- Behind a Due. -/
theorem csc_pots (c : Nat) (s now : Int) (l : List T) : csc c s now l + pots c (max s now) (due l now false) ≤ pots c s l := by
  unfold csc
  split
  · rename_i h
    rw [show max s now = s from by omega]
    have := pots_filter c s (fun x => decide (x.a ≤ now) == false) l
    unfold due
    omega
  · rename_i h
    rw [show max s now = now from by omega]
    have h1 := pots_falls (c := c) (s := s) (now := now) (by omega) (due l now false) (fun t ht => by
      unfold due at ht
      have := (List.mem_filter.1 ht).2
      simp at this
      exact this)
    have h2 := pots_filter c s (fun x => decide (x.a ≤ now) == false) l
    unfold due at *
    omega
theorem pots_put (c : Nat) (s : Int) (l : List T) (t : T) : pots c s (put l t) ≤ pots c s l + 3 := by
  rw [pots_perm (put_perm l t), pots_cons]
  have := pot_le (lv c s t.a)
  omega
end Go.Proofs.YtdoceldofkaapaaGreatDoor
namespace Go.Proofs.YtdoceldofkaapaaGreatDoor

/-- A place of the ring: what stands ahead, what behind, in which list. -/
structure Plc where
  ah : Int
  bh : Int
  li : Int
deriving DecidableEq, Inhabited
/-- A ring. -/
abbrev Rg := Nat → Plc
def upA (g : Rg) (i : Nat) (x : Int) : Rg := fun k => if k = i then { g k with ah := x } else g k
def upB (g : Rg) (i : Nat) (x : Int) : Rg := fun k => if k = i then { g k with bh := x } else g k
def upL (g : Rg) (i : Nat) (x : Int) : Rg := fun k => if k = i then { g k with li := x } else g k
/-- In no list. -/
abbrev al0 : Plc := ⟨-1, -1, -1⟩
def upZ (g : Rg) (i : Nat) : Rg := fun k => if k = i then al0 else g k
/-- One stands just behind the other. -/
def joinG (g : Rg) (a b : Nat) : Rg := upA (upB g a b) b a

/-- Each one leads to the next one. -/
def Path (d : Nat → Int) : List Nat → Prop
  | a :: b :: r => d a = b ∧ Path d (b :: r)
  | _ => True
theorem path_one (d : Nat → Int) (a : Nat) : Path d [a] := trivial
theorem path_cons2 (d : Nat → Int) (a b : Nat) (r : List Nat) : Path d (a :: b :: r) ↔ d a = b ∧ Path d (b :: r) := Iff.rfl
theorem path_append (d : Nat → Int) (a : Nat) (y : List Nat) : ∀ x : List Nat, Path d (x ++ a :: y) ↔ Path d (x ++ [a]) ∧ Path d (a :: y)
  | [] => by simp [path_one]
  | [b] => by
    show d b = a ∧ Path d (a :: y) ↔ (d b = a ∧ Path d [a]) ∧ Path d (a :: y)
    simp [path_one]
  | b :: c :: r => by
    have ih := path_append d a y (c :: r)
    show d b = c ∧ Path d (c :: r ++ a :: y) ↔ (d b = c ∧ Path d (c :: r ++ [a])) ∧ Path d (a :: y)
    rw [ih, and_assoc]
theorem path_tail {d : Nat → Int} {a : Nat} : ∀ {r : List Nat}, Path d (a :: r) → Path d r
  | [], _ => trivial
  | _ :: _, h => h.2
theorem path_congr {d e : Nat → Int} : ∀ {l : List Nat}, Path d l → (∀ a ∈ l.dropLast, d a = e a) → Path e l
  | [], _, _ => trivial
  | [_], _, _ => trivial
  | a :: b :: r, h, k => ⟨(k a (by simp)).symm.trans h.1, path_congr h.2 (fun c hc => k c (by rw [List.dropLast_cons_of_ne_nil (by simp)]; exact List.mem_cons_of_mem _ hc))⟩

/-- The last one of a list with one ahead. -/
def lst (E : Nat) (x : List Nat) : Nat := x.getLast?.getD E
/-- The first one of a list with one behind. -/
def fst (E : Nat) (y : List Nat) : Nat := y.head?.getD E
theorem lst_split (E : Nat) (x : List Nat) : ∃ u, E :: x = u ++ [lst E x] := by
  rcases List.eq_nil_or_concat x with rfl | ⟨r, a, rfl⟩
  · exact ⟨[], rfl⟩
  · refine ⟨E :: r, ?_⟩
    simp [lst]
theorem fst_split (E : Nat) (y : List Nat) : ∃ v, y ++ [E] = fst E y :: v := by
  cases y with
  | nil => exact ⟨[], rfl⟩
  | cons a r => exact ⟨r ++ [E], rfl⟩
theorem lst_mem (E : Nat) (x : List Nat) : lst E x = E ∨ lst E x ∈ x := by
  rcases List.eq_nil_or_concat x with rfl | ⟨r, a, rfl⟩
  · exact .inl rfl
  · exact .inr (by simp [lst])
theorem fst_mem (E : Nat) (y : List Nat) : fst E y = E ∨ fst E y ∈ y := by
  cases y with
  | nil => exact .inl rfl
  | cons a r => exact .inr (by simp [fst])
theorem lst_reverse (E : Nat) (x : List Nat) : lst E x.reverse = fst E x := by simp [lst, fst]
theorem fst_reverse (E : Nat) (x : List Nat) : fst E x.reverse = lst E x := by simp [lst, fst]
theorem path_first {d : Nat → Int} {E : Nat} {y : List Nat} {s : Nat} (h : Path d (s :: y ++ [E])) : d s = fst E y := by
  obtain ⟨v, hv⟩ := fst_split E y
  rw [List.cons_append, hv] at h
  exact h.1
/-- Some are put in. -/
theorem path_in {d e : Nat → Int} {E : Nat} {x y m : List Nat} (h : Path d (E :: (x ++ y) ++ [E])) (hm : Path d m) (h0 : m ≠ []) (hn : (E :: (x ++ m ++ y)).Nodup)
    (ha : e (lst E x) = fst E m) (hb : e (lst E m) = fst E y)
    (hs : ∀ i ∈ E :: (x ++ m ++ y), i ≠ lst E x → i ≠ lst E m → e i = d i) : Path e (E :: (x ++ m ++ y) ++ [E]) := by
  obtain ⟨u, hu⟩ := lst_split E x
  obtain ⟨v, hv⟩ := fst_split E y
  obtain ⟨m0, hm0⟩ : ∃ m0, m = m0 ++ [lst E m] := by
    rcases List.eq_nil_or_concat m with rfl | ⟨r, a, rfl⟩
    · exact absurd rfl h0
    · exact ⟨r, by simp [lst]⟩
  obtain ⟨m1, hm1⟩ : ∃ m1, m = fst E m :: m1 := by
    cases m with
    | nil => exact absurd rfl h0
    | cons a r => exact ⟨r, rfl⟩
  have e1 : E :: (x ++ y) ++ [E] = u ++ lst E x :: (fst E y :: v) := by rw [← hv]; simp; rw [← List.cons_append, hu]; simp
  have e2 : E :: (x ++ m ++ y) ++ [E] = u ++ lst E x :: (m ++ fst E y :: v) := by rw [← hv]; simp; rw [← List.cons_append, hu]; simp
  have e3 : E :: (x ++ m ++ y) = u ++ lst E x :: (m ++ y) := by simp; rw [← List.cons_append, hu]; simp
  rw [e1, path_append] at h
  rw [e3] at hn hs
  have hn2 := List.nodup_append.1 hn
  have hn3 := List.nodup_cons.1 hn2.2.1
  have hn4 := List.nodup_append.1 hn3.2
  have hxa : ∀ i ∈ u, i ≠ lst E x := fun i hi => hn2.2.2 i hi _ (by simp)
  have hlm : lst E m ∈ m := by rw [hm0]; simp [lst]
  have hxm : ∀ i ∈ u, i ≠ lst E m := fun i hi => hn2.2.2 i hi _ (by simp [hlm])
  have hya : ∀ i ∈ y, i ≠ lst E x := fun i hi e => hn3.1 (by rw [← e]; simp [hi])
  have hym : ∀ i ∈ y, i ≠ lst E m := fun i hi e => hn4.2.2 _ hlm i hi e.symm
  have hdy : (fst E y :: v).dropLast = y := by rw [← hv]; simp
  rw [e2, path_append]
  refine ⟨path_congr h.1 (fun i hi => ?_), ?_⟩
  · have hi : i ∈ u := by simpa using hi
    exact (hs i (by simp [hi]) (hxa i hi) (hxm i hi)).symm
  · rw [hm1, List.cons_append]
    refine ⟨ha, ?_⟩
    rw [← List.cons_append, ← hm1]
    have e4 : m ++ fst E y :: v = m0 ++ lst E m :: (fst E y :: v) := by
      conv => lhs; rw [hm0]
      simp
    rw [e4, path_append]
    refine ⟨?_, hb, ?_⟩
    · rw [← hm0]
      refine path_congr hm (fun i hi => ?_)
      have hi2 : i ∈ m0 := by rw [hm0] at hi; simpa using hi
      have him : i ∈ m := by rw [hm0]; simp [hi2]
      refine (hs i (by simp [him]) (fun e => hn3.1 (by rw [← e]; simp [him])) (fun e => ?_)).symm
      have h5 := hn4.1
      rw [hm0] at h5
      exact (List.nodup_append.1 h5).2.2 i hi2 _ (by simp) e
    · refine path_congr h.2.2 (fun i hi => ?_)
      have hi : i ∈ y := by rw [← hdy]; exact hi
      exact (hs i (by simp [hi]) (hya i hi) (hym i hi)).symm
/-- One is taken out. -/
theorem path_out {d e : Nat → Int} {E p : Nat} {x y : List Nat} (h : Path d (E :: (x ++ p :: y) ++ [E])) (hn : (E :: (x ++ p :: y)).Nodup) (ha : e (lst E x) = fst E y)
    (hs : ∀ i ∈ E :: (x ++ y), i ≠ lst E x → e i = d i) : Path e (E :: (x ++ y) ++ [E]) := by
  obtain ⟨u, hu⟩ := lst_split E x
  obtain ⟨v, hv⟩ := fst_split E y
  have e1 : E :: (x ++ p :: y) ++ [E] = u ++ lst E x :: (p :: fst E y :: v) := by rw [← hv]; simp; rw [← List.cons_append, hu]; simp
  have e2 : E :: (x ++ y) ++ [E] = u ++ lst E x :: (fst E y :: v) := by rw [← hv]; simp; rw [← List.cons_append, hu]; simp
  have e3 : E :: (x ++ p :: y) = u ++ lst E x :: (p :: y) := by rw [← List.cons_append, hu]; simp
  have e4 : E :: (x ++ y) = u ++ lst E x :: y := by rw [← List.cons_append, hu]; simp
  rw [e1, path_append] at h
  rw [e3] at hn
  rw [e4] at hs
  have hn2 := List.nodup_append.1 hn
  have hn3 := List.nodup_cons.1 hn2.2.1
  have hdy : (fst E y :: v).dropLast = y := by rw [← hv]; simp
  rw [e2, path_append]
  refine ⟨path_congr h.1 (fun i hi => ?_), ha, path_congr h.2.2.2 (fun i hi => ?_)⟩
  · have hi : i ∈ u := by simpa using hi
    exact (hs i (by simp [hi]) (hn2.2.2 i hi _ (by simp))).symm
  · have hi : i ∈ y := by rw [← hdy]; exact hi
    exact (hs i (by simp [hi]) (fun e => hn3.1 (by rw [← e]; simp [hi]))).symm

/-- What one meets. -/
def Met (d : Nat → Int) (P s : Nat) : List Nat → Prop
  | [] => ¬ (0 ≤ d s ∧ d s < P)
  | y :: r => d s = y ∧ y < P ∧ Met d P y r
theorem met_of_path {d : Nat → Int} {P e : Nat} (he : P ≤ e) : ∀ {ys : List Nat} {s : Nat}, Path d (s :: ys ++ [e]) → (∀ y ∈ ys, y < P) → Met d P s ys
  | [], s, h, _ => by
    have h1 : d s = e := h.1
    show ¬ (0 ≤ d s ∧ d s < P)
    rw [h1]
    omega
  | y :: r, s, h, k => ⟨h.1, k y (by simp), met_of_path he h.2 (fun z hz => k z (by simp [hz]))⟩
theorem met_from {d : Nat → Int} {P E p : Nat} {x y : List Nat} (h : Path d (E :: (x ++ p :: y) ++ [E])) (hE : P ≤ E) (hp : ∀ i ∈ y, i < P) : Met d P p y := by
  have e1 : E :: (x ++ p :: y) ++ [E] = (E :: x) ++ p :: (y ++ [E]) := by simp
  rw [e1, path_append] at h
  exact met_of_path hE h.2 hp

theorem nodup_len : ∀ (P : Nat) (l : List Nat), l.Nodup → (∀ i ∈ l, i < P) → l.length ≤ P
  | 0, l, _, h => by
    cases l with
    | nil => simp
    | cons a r => have := h a (by simp); omega
  | P + 1, l, hn, h => by
    have h1 := nodup_len P (l.erase P) (hn.erase P) (fun i hi => by
      have h2 := h i (List.mem_of_mem_erase hi)
      have h3 : i ≠ P := fun e => by
        subst e
        exact absurd hi (List.Nodup.not_mem_erase hn)
      omega)
    have h2 := List.length_erase (a := P) (l := l)
    rw [h2] at h1
    split at h1 <;> omega
end Go.Proofs.YtdoceldofkaapaaGreatDoor
