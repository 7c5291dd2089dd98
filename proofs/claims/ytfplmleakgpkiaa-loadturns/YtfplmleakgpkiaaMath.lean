/-
  Notes, and what of them is good, in plain words: sums, the greatest length, windows of 32.
-/
set_option linter.unusedVariables false
set_option linter.unusedSimpArgs false
namespace Go.Proofs.Ytfplmleakgpkiaa
/-- A note: what is done, how many, how many pend. -/
structure T where
  a : Int
  b : Int
  c : Int
deriving Inhabited, DecidableEq
/-- What is wrong with a note: 7, 1, or 0. -/
def T.bad (t : T) : Int := if t.a < 0 ∨ 3 < t.a then 7 else if t.b < 0 ∨ 1024 < t.b ∨ t.c < 0 ∨ 1024 < t.c then 1 else 0
def T.ok (t : T) : Bool := decide (t.bad = 0)
theorem T.ok_iff (t : T) : t.ok = true ↔ 0 ≤ t.a ∧ t.a ≤ 3 ∧ 0 ≤ t.b ∧ t.b ≤ 1024 ∧ 0 ≤ t.c ∧ t.c ≤ 1024 := by
  unfold T.ok T.bad
  split
  · simp; omega
  · split
    · simp; omega
    · simp; omega
theorem T.bad_of_ok {t : T} (h : t.ok = true) : t.bad = 0 := by simpa [T.ok] using h
theorem T.ok_no {t : T} (h : ¬ t.ok = true) : ¬ t.bad = 0 := by simpa [T.ok] using h
theorem T.bad_range (t : T) : t.bad = 0 ∨ t.bad = 1 ∨ t.bad = 7 := by
  unfold T.bad
  split
  · exact .inr (.inr rfl)
  · split
    · exact .inr (.inl rfl)
    · exact .inl rfl
def AllOk (l : List T) : Prop := ∀ t ∈ l, t.ok = true
theorem AllOk.snoc {l : List T} {t : T} (h : AllOk l) (ht : t.ok = true) : AllOk (l ++ [t]) := by
  intro x hx
  rcases List.mem_append.1 hx with hx | hx
  · exact h x hx
  · rw [List.mem_singleton.1 hx]; exact ht
theorem AllOk.nil : AllOk [] := fun _ h => by simp at h
theorem AllOk.sub {l m : List T} (h : AllOk l) (k : ∀ x ∈ m, x ∈ l) : AllOk m := fun x hx => h x (k x hx)
theorem AllOk.take {l : List T} (h : AllOk l) (n : Nat) : AllOk (l.take n) := h.sub fun _ hx => List.mem_of_mem_take hx
theorem AllOk.drop {l : List T} (h : AllOk l) (n : Nat) : AllOk (l.drop n) := h.sub fun _ hx => List.mem_of_mem_drop hx
theorem getD_mem' {l : List T} {i : Nat} (h : i < l.length) : l.getD i default ∈ l := by
  have e : l.getD i default = l[i] := by simp [List.getD_eq_getElem?_getD, List.getElem?_eq_getElem h]
  rw [e]; exact List.getElem_mem h
theorem AllOk.get {l : List T} (h : AllOk l) {i : Nat} (hi : i < l.length) : (l.getD i default).ok = true := h _ (getD_mem' hi)
theorem take_step (l : List T) {k : Nat} (h : k < l.length) : l.take (k + 1) = l.take k ++ [l.getD k default] := by
  rw [List.take_succ_eq_append_getElem h]
  simp [List.getD_eq_getElem?_getD, List.getElem?_eq_getElem h]
/-- Those that nothing is wrong with. -/
def good (l : List T) : List T := l.filter T.ok
theorem good_ok (l : List T) : AllOk (good l) := fun t ht => (List.mem_filter.1 ht).2
theorem good_len (l : List T) : (good l).length ≤ l.length := List.length_filter_le _ _
theorem good_step (l : List T) {k : Nat} (h : k < l.length) : good (l.take (k + 1)) = good (l.take k) ++ (if (l.getD k default).ok = true then [l.getD k default] else []) := by
  rw [take_step l h]
  unfold good
  rw [List.filter_append]
  congr 1
  by_cases e : (l.getD k default).ok = true
  · rw [if_pos e, List.filter_cons_of_pos e]; rfl
  · rw [if_neg e, List.filter_cons_of_neg e]; rfl
/-- How many there were of a kind. -/
def tot (k : Int) : List T → Int
  | [] => 0
  | t :: r => (if t.a = k then t.b else 0) + tot k r
theorem tot_append (k : Int) : ∀ l m : List T, tot k (l ++ m) = tot k l + tot k m
  | [], m => by simp [tot]
  | t :: r, m => by
    have := tot_append k r m
    show (if t.a = k then t.b else 0) + tot k (r ++ m) = (if t.a = k then t.b else 0) + tot k r + tot k m
    rw [this]; omega
theorem tot_one (k : Int) (t : T) : tot k [t] = if t.a = k then t.b else 0 := by simp [tot]
theorem tot_snoc (k : Int) (l : List T) (t : T) : tot k (l ++ [t]) = tot k l + if t.a = k then t.b else 0 := by rw [tot_append, tot_one]
theorem tot_perm (k : Int) {l m : List T} (h : l.Perm m) : tot k l = tot k m := by
  induction h with
  | nil => rfl
  | cons x _ ih => show (if x.a = k then x.b else 0) + _ = (if x.a = k then x.b else 0) + _; rw [ih]
  | swap x y l => show (if y.a = k then y.b else 0) + ((if x.a = k then x.b else 0) + _) = (if x.a = k then x.b else 0) + ((if y.a = k then y.b else 0) + _); omega
  | trans _ _ h1 h2 => exact h1.trans h2
theorem tot_bound (k : Int) : ∀ l : List T, AllOk l → 0 ≤ tot k l ∧ tot k l ≤ 1024 * l.length
  | [], _ => by simp [tot]
  | t :: r, h => by
    have ih := tot_bound k r (h.sub fun x hx => List.mem_cons_of_mem _ hx)
    have ht := (T.ok_iff t).1 (h t (List.mem_cons_self ..))
    show 0 ≤ (if t.a = k then t.b else 0) + tot k r ∧ (if t.a = k then t.b else 0) + tot k r ≤ 1024 * ((r.length + 1 : Nat) : Int)
    split <;> omega
/-- The greatest length. -/
def mx : List T → Int
  | [] => 0
  | t :: r => max t.c (mx r)
theorem mx_snoc : ∀ (l : List T) (t : T), mx (l ++ [t]) = max (mx l) t.c
  | [], t => by show max t.c 0 = max 0 t.c; omega
  | x :: r, t => by
    have := mx_snoc r t
    show max x.c (mx (r ++ [t])) = max (max x.c (mx r)) t.c
    rw [this]; omega
theorem mx_perm {l m : List T} (h : l.Perm m) : mx l = mx m := by
  induction h with
  | nil => rfl
  | cons x _ ih => show max x.c _ = max x.c _; rw [ih]
  | swap x y l => show max y.c (max x.c _) = max x.c (max y.c _); omega
  | trans _ _ h1 h2 => exact h1.trans h2
theorem mx_bound : ∀ l : List T, AllOk l → 0 ≤ mx l ∧ mx l ≤ 1024
  | [], _ => by simp [mx]
  | t :: r, h => by
    have ih := mx_bound r (h.sub fun x hx => List.mem_cons_of_mem _ hx)
    have ht := (T.ok_iff t).1 (h t (List.mem_cons_self ..))
    show 0 ≤ max t.c (mx r) ∧ max t.c (mx r) ≤ 1024
    omega
/-- Those of the windows that were closed. -/
def clo (l : List T) : List T := l.take (l.length / 32 * 32)
/-- Those of the open window. -/
def opn (l : List T) : List T := l.drop (l.length / 32 * 32)
/-- Those of the window that was closed last. -/
def lst (l : List T) : List T := (clo l).drop (l.length / 32 * 32 - 32)
theorem clo_opn (l : List T) : clo l ++ opn l = l := List.take_append_drop _ _
theorem opn_len (l : List T) : (opn l).length = l.length % 32 := by unfold opn; rw [List.length_drop]; omega
theorem AllOk.opn {l : List T} (h : AllOk l) : AllOk (opn l) := h.drop _
theorem AllOk.clo {l : List T} (h : AllOk l) : AllOk (clo l) := h.take _
theorem AllOk.lst {l : List T} (h : AllOk l) : AllOk (lst l) := (h.clo).drop _
theorem lst_len (l : List T) : (lst l).length ≤ 32 := by
  unfold Proofs.Ytfplmleakgpkiaa.lst Proofs.Ytfplmleakgpkiaa.clo
  rw [List.length_drop, List.length_take]; omega
theorem opn_stay {l : List T} (t : T) (h : (l.length + 1) % 32 ≠ 0) : opn (l ++ [t]) = opn l ++ [t] := by
  have e : (l.length + 1) / 32 = l.length / 32 := by omega
  unfold opn
  rw [List.length_append, List.length_singleton, e, List.drop_append_of_le_length (by omega)]
theorem clo_stay {l : List T} (t : T) (h : (l.length + 1) % 32 ≠ 0) : clo (l ++ [t]) = clo l := by
  have e : (l.length + 1) / 32 = l.length / 32 := by omega
  unfold clo
  rw [List.length_append, List.length_singleton, e, List.take_append_of_le_length (by omega)]
theorem lst_stay {l : List T} (t : T) (h : (l.length + 1) % 32 ≠ 0) : lst (l ++ [t]) = lst l := by
  have e : (l.length + 1) / 32 = l.length / 32 := by omega
  unfold lst
  rw [clo_stay t h, List.length_append, List.length_singleton, e]
theorem opn_shut {l : List T} (t : T) (h : (l.length + 1) % 32 = 0) : opn (l ++ [t]) = [] := by
  unfold opn
  rw [List.length_append, List.length_singleton]
  exact List.drop_eq_nil_of_le (by rw [List.length_append, List.length_singleton]; omega)
theorem clo_shut {l : List T} (t : T) (h : (l.length + 1) % 32 = 0) : clo (l ++ [t]) = l ++ [t] := by
  unfold clo
  exact List.take_of_length_le (by rw [List.length_append, List.length_singleton]; omega)
theorem lst_shut {l : List T} (t : T) (h : (l.length + 1) % 32 = 0) : lst (l ++ [t]) = opn l ++ [t] := by
  unfold lst
  rw [clo_shut t h, List.length_append, List.length_singleton, show (l.length + 1) / 32 * 32 - 32 = l.length / 32 * 32 by omega]
  unfold opn
  rw [List.drop_append_of_le_length (by omega)]
theorem clo_grow {l : List T} (t : T) (k : Int) (h : (l.length + 1) % 32 = 0) : tot k (clo (l ++ [t])) = tot k (clo l) + tot k (lst (l ++ [t])) := by
  rw [clo_shut t h, lst_shut t h, ← tot_append, ← List.append_assoc, clo_opn]
theorem lst_32 {l : List T} (h : l.length = 32) : lst l = l := by
  unfold lst clo
  rw [h]
  show (l.take 32).drop 0 = l
  rw [List.drop_zero, List.take_of_length_le (by omega)]
theorem tot_clo (l : List T) (k : Int) : tot k (clo l) + tot k (opn l) = tot k l := by rw [← tot_append, clo_opn]
theorem lst_nil {l : List T} (h : l.length < 32) : lst l = [] := by
  unfold lst clo
  rw [show l.length / 32 * 32 = 0 by omega]
  rfl
theorem lst_take {l : List T} : lst l = (l.take (l.length / 32 * 32)).drop (l.length / 32 * 32 - 32) := rfl
end Go.Proofs.Ytfplmleakgpkiaa
