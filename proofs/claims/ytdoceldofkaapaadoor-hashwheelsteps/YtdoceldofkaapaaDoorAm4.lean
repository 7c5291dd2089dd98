/-
  Which slots a Due visits, how many, and what is left behind each; as plain mathematics.
-/
import Derived.Test.YtdoceldofkaapaaDoorXaj
import Derived.Test.YtdoceldofkaapaaDoorXan
import Derived.Test.YtdoceldofkaapaaDoorXap
set_option linter.unusedVariables false
set_option linter.unusedSimpArgs false
namespace Go.Proofs.YtdoceldofkaapaaDoor.Ha
/-- How far behind the base's next slot a slot stands. -/
def pos (S f i : Nat) : Nat := (i + (S - f)) % S
theorem pos_hi {S f i : Nat} (h : f ≤ i) (hi : i < S) : pos S f i = i - f := by
  unfold pos
  have e : i + (S - f) = (i - f) + S := by omega
  rw [e, Nat.add_mod_right, Nat.mod_eq_of_lt (by omega)]
theorem pos_lo {S f i : Nat} (h : i < f) (hf : f < S) : pos S f i = i + S - f := by
  unfold pos
  rw [Nat.mod_eq_of_lt (by omega)]
  omega
section
variable {F : Nat → Nat} {S f n : Nat}
theorem cur_zero : cur F S f n 0 = sg F f (f + n) := by unfold cur; congr 1 <;> simp <;> omega
theorem cur_one (hf : f < S) : cur F S f n 1 = sg F 0 (f + n - S) := by
  unfold cur
  congr 1
  · simp; omega
  · simp; omega
theorem mem_yss (hz : ∀ i, Bm.tb F i = true → i < S) (hf : f < S) (hn : n ≤ S) {i : Nat} : i ∈ yss F S f n ↔ Bm.tb F i = true ∧ pos S f i < n := by
  unfold yss
  rw [List.mem_append, cur_zero, cur_one hf, sg_mem, sg_mem]
  constructor
  · rintro (⟨h1, h2, h3⟩ | ⟨h1, _, h3⟩)
    · exact ⟨h3, by rw [pos_hi h2 (hz i h3)]; omega⟩
    · exact ⟨h3, by rw [pos_lo (by omega) hf]; omega⟩
  · rintro ⟨h3, h4⟩
    have hi := hz i h3
    by_cases h : f ≤ i
    · rw [pos_hi h hi] at h4
      exact .inl ⟨by omega, h, h3⟩
    · rw [pos_lo (by omega) hf] at h4
      exact .inr ⟨by omega, Nat.zero_le _, h3⟩
theorem yss_nodup (hf : f < S) (hn : n ≤ S) : (yss F S f n).Nodup := by
  unfold yss
  rw [cur_zero, cur_one hf, List.nodup_append]
  refine ⟨sg_nodup _ _ _, sg_nodup _ _ _, fun a ha b hb e => ?_⟩
  have h1 := sg_mem.1 ha
  have h2 := sg_mem.1 hb
  omega
theorem yss_order (hz : ∀ i, Bm.tb F i = true → i < S) (hf : f < S) (hn : n ≤ S) : (yss F S f n).Pairwise fun i j => pos S f i < pos S f j := by
  unfold yss
  rw [cur_zero, cur_one hf, List.pairwise_append]
  refine ⟨(sg_lt _ _ _).imp_of_mem ?_, (sg_lt _ _ _).imp_of_mem ?_, ?_⟩
  · intro a b ha hb hab
    have h1 := sg_mem.1 ha
    have h2 := sg_mem.1 hb
    rw [pos_hi h1.2.1 (hz _ h1.2.2), pos_hi h2.2.1 (hz _ h2.2.2)]
    omega
  · intro a b ha hb hab
    have h1 := sg_mem.1 ha
    have h2 := sg_mem.1 hb
    rw [pos_lo (by omega) hf, pos_lo (by omega) hf]
    omega
  · intro a ha b hb
    have h1 := sg_mem.1 ha
    have h2 := sg_mem.1 hb
    have := hz _ h1.2.2
    rw [pos_hi h1.2.1 this, pos_lo (by omega) hf]
    omega
end
/-- How far a timer's slot stands. -/
theorem pos_slt {S : Nat} {s : Int} {x : T} (h0 : 4 ≤ S) (hs : Tk s) (hx : Tk x.a) (h : s < x.a) : pos S (fs S s) (slt S x) = ((x.a - s - 1) % (S : Int)).toNat := by
  have hf := fs_lt (S := S) (by omega) s
  have e : ((fs S s : Nat) : Int) = (s + 1) % (S : Int) := by
    unfold fs
    obtain ⟨h1, h2⟩ := hx
    rw [if_neg (by omega)]
    have := Int.emod_nonneg (s + 1) (b := (S : Int)) (by omega)
    omega
  have e2 : ((slt S x : Nat) : Int) = x.a % (S : Int) := by
    unfold slt
    have := Int.emod_nonneg x.a (b := (S : Int)) (by omega)
    omega
  have e3 : ((pos S (fs S s) (slt S x) : Nat) : Int) = (x.a - s - 1) % (S : Int) := by
    unfold pos
    rw [Int.natCast_emod, Int.natCast_add, Int.natCast_sub (Nat.le_of_lt hf), e, e2]
    have q : x.a % (S : Int) + ((S : Int) - (s + 1) % (S : Int)) = (x.a % (S : Int) - (s + 1) % (S : Int)) + (S : Int) := by omega
    rw [q, Int.add_emod_right, ← Int.sub_emod]
    congr 1
    omega
  omega
/-- Which slots have something. -/
theorem Fl.iff {P S : Nat} {s : Int} {ls : Ls} {r : Nat → T} {F : Nat → Nat} {l : List T} (h : Fl S ls F) (hi : Is P (S + 1) (lof S s) ls r l) (i : Nat) : Bm.tb F i = true ↔ i < S ∧ ∃ x ∈ l, lof S s x = i := by
  rw [h.on i]
  constructor
  · rintro ⟨h1, h2⟩
    obtain ⟨y, hy⟩ := List.exists_mem_of_ne_nil _ h2
    obtain ⟨x, hx, _, e⟩ := hi.al i (by omega) y hy
    exact ⟨h1, x, hx, e⟩
  · rintro ⟨h1, x, hx, e⟩
    obtain ⟨_, _, _, _, h5⟩ := hi.tm x hx
    rw [e] at h5
    exact ⟨h1, List.ne_nil_of_mem h5⟩
theorem lof_slot {S : Nat} {s : Int} {x : T} {i : Nat} (h : lof S s x = i) (hi : i < S) : s < x.a ∧ slt S x = i := by
  unfold lof at h
  split at h
  · omega
  · exact ⟨by omega, h⟩
theorem lof_of {S : Nat} {s : Int} {x : T} (h : s < x.a) : lof S s x = slt S x := by unfold lof; rw [if_neg (by omega)]
/-- What is left behind the lists V, and what was taken. -/
def vsL (S : Nat) (s now : Int) (V : List Nat) (l : List T) : List T := l.filter fun y => !(V.contains (lof S s y) && decide (y.a ≤ now))
def vsA (S : Nat) (s now : Int) (V : List Nat) (l : List T) : List T := l.filter fun y => V.contains (lof S s y) && decide (y.a ≤ now)
section
variable {S : Nat} {s now : Int} {V : List Nat} {l : List T} {t : Nat}
theorem vsL_nil : vsL S s now [] l = l := by
  unfold vsL
  rw [List.filter_eq_self]
  intro y _
  simp
theorem vsL_next : leftIn S s now t (vsL S s now V l) = vsL S s now (V ++ [t]) l := by
  unfold leftIn vsL
  rw [List.filter_filter]
  congr 1
  funext y
  simp only [List.contains_append, List.contains_cons, List.contains_nil, Bool.or_false]
  have e : (lof S s y == t) = decide (lof S s y = t) := rfl
  rw [e]
  cases V.contains (lof S s y) <;> cases decide (y.a ≤ now) <;> simp
theorem vsL_mem {y : T} : y ∈ vsL S s now V l ↔ y ∈ l ∧ ¬ (lof S s y ∈ V ∧ y.a ≤ now) := by
  unfold vsL
  rw [List.mem_filter]
  simp only [Bool.not_eq_true', Bool.and_eq_false_imp, List.contains_iff_mem, decide_eq_false_iff_not, not_and]
theorem vsA_next (hl : l.Nodup) (ht : t ∉ V) {acc d : List T} (ha : acc.Perm (vsA S s now V l)) (hd : d.Perm (dueIn S s now t (vsL S s now V l))) : (acc ++ d).Perm (vsA S s now (V ++ [t]) l) := by
  refine (ha.append hd).trans ?_
  have hn1 : (vsA S s now V l).Nodup := hl.filter _
  have hn2 : (dueIn S s now t (vsL S s now V l)).Nodup := (hl.filter _).filter _
  refine (List.perm_ext_iff_of_nodup (List.nodup_append.2 ⟨hn1, hn2, ?_⟩) (hl.filter _)).2 fun y => ?_
  · intro a ha b hb e
    subst e
    unfold vsA at ha
    unfold dueIn at hb
    rw [List.mem_filter] at ha hb
    simp at ha hb
    rw [hb.2.1] at ha
    exact ht ha.2.1
  · unfold vsA dueIn
    rw [List.mem_append, List.mem_filter, List.mem_filter, List.mem_filter, vsL_mem]
    simp only [List.contains_append, List.contains_cons, List.contains_nil, Bool.or_false, Bool.and_eq_true, Bool.or_eq_true, decide_eq_true_eq, List.contains_iff_mem, beq_iff_eq]
    constructor
    · rintro (⟨h1, h2, h3⟩ | ⟨⟨h1, _⟩, h2, h3⟩)
      · exact ⟨h1, .inl h2, h3⟩
      · exact ⟨h1, .inr h2, h3⟩
    · rintro ⟨h1, h2 | h2, h3⟩
      · exact .inl ⟨h1, h2, h3⟩
      · exact .inr ⟨⟨h1, fun e => ht (by rw [← h2]; exact e.1)⟩, h2, h3⟩
end
/-- How many ticks a Due goes through, as slots. -/
def nTk (S : Nat) (s now : Int) : Nat := (min (gap now s) (S : Int)).toNat
theorem nTk_le {S : Nat} {s now : Int} : nTk S s now ≤ S := by unfold nTk; omega
section
variable {P S : Nat} {s now : Int} {ls : Ls} {r : Nat → T} {F : Nat → Nat} {l : List T}
theorem Fl.hz (h : Fl S ls F) : ∀ i, Bm.tb F i = true → i < S := fun i e => ((h.on i).1 e).1
theorem mem_visited (h : Fl S ls F) (hi : Is P (S + 1) (lof S s) ls r l) (h0 : 4 ≤ S) (hs : Tk s) (hl : ∀ t ∈ l, Tk t.a) {i : Nat} : i ∈ yss F S (fs S s) (nTk S s now) ↔ ∃ x ∈ l, s < x.a ∧ slt S x = i ∧ (x.a - s - 1) % (S : Int) < now - s := by
  have hf := fs_lt (S := S) (by omega) s
  rw [mem_yss h.hz hf nTk_le, h.iff hi]
  have key : ∀ x ∈ l, s < x.a → slt S x = i → (pos S (fs S s) i < nTk S s now ↔ (x.a - s - 1) % (S : Int) < now - s) := by
    intro x hx h1 h2
    rw [← h2, pos_slt h0 hs (hl x hx) h1]
    have a1 := Int.emod_nonneg (x.a - s - 1) (b := (S : Int)) (by omega)
    have a2 := Int.emod_lt_of_pos (x.a - s - 1) (b := (S : Int)) (by omega)
    generalize (x.a - s - 1) % (S : Int) = z at *
    unfold nTk gap
    split <;> omega
  constructor
  · rintro ⟨⟨h1, x, hx, e⟩, h2⟩
    obtain ⟨h3, h4⟩ := lof_slot e h1
    exact ⟨x, hx, h3, h4, (key x hx h3 h4).1 h2⟩
  · rintro ⟨x, hx, h3, h4, h5⟩
    exact ⟨⟨by rw [← h4]; exact slt_lt (by omega) x, x, hx, by rw [lof_of h3]; exact h4⟩, (key x hx h3 h4).2 h5⟩
theorem visited_len (h : Fl S ls F) (hi : Is P (S + 1) (lof S s) ls r l) (h0 : 4 ≤ S) (hs : Tk s) (hl : ∀ t ∈ l, Tk t.a) : (yss F S (fs S s) (nTk S s now)).length = lks S s now l := by
  have hf := fs_lt (S := S) (by omega) s
  unfold lks
  by_cases hle : now ≤ s
  · rw [if_pos hle]
    apply Nat.eq_zero_of_le_zero
    apply Nat.le_of_not_lt
    intro hp
    obtain ⟨i, hi2⟩ := List.exists_mem_of_length_pos hp
    obtain ⟨x, _, _, _, h5⟩ := (mem_visited h hi h0 hs hl).1 hi2
    have a1 := Int.emod_nonneg (x.a - s - 1) (b := (S : Int)) (by omega)
    omega
  · rw [if_neg hle]
    unfold mks
    rw [List.countP_map, List.countP_eq_length_filter]
    refine List.Perm.length_eq ((List.perm_ext_iff_of_nodup (yss_nodup hf nTk_le) ((List.nodup_range (n := S)).filter _)).2 fun i => ?_)
    rw [mem_visited h hi h0 hs hl, List.mem_filter, List.mem_range]
    simp only [Function.comp, List.any_eq_true, Bool.and_eq_true, decide_eq_true_eq]
    unfold hit
    simp only [Bool.and_eq_true, decide_eq_true_eq]
    constructor
    · rintro ⟨x, hx, h3, h4, h5⟩
      exact ⟨by rw [← h4]; exact slt_lt (by omega) x, x, hx, ⟨h3, h5⟩, h4⟩
    · rintro ⟨_, x, hx, ⟨h3, h5⟩, h4⟩
      exact ⟨x, hx, h3, h4, h5⟩
/-- Behind all slots that are visited, and the list of those that are ready, no one is due. -/
theorem all_visited (h : Fl S ls F) (hi : Is P (S + 1) (lof S s) ls r l) (h0 : 4 ≤ S) (hs : Tk s) (hl : ∀ t ∈ l, Tk t.a) {y : T} (hy : y ∈ l) (hd : y.a ≤ now) : lof S s y ∈ S :: yss F S (fs S s) (nTk S s now) := by
  by_cases e : y.a ≤ s
  · have : lof S s y = S := by unfold lof; rw [if_pos e]
    rw [this]; simp
  · refine List.mem_cons_of_mem _ ((mem_visited h hi h0 hs hl).2 ⟨y, hy, by omega, by rw [lof_of (by omega)], ?_⟩)
    have a1 : (y.a - s - 1) % (S : Int) ≤ y.a - s - 1 := by
      have := Int.emod_add_mul_ediv (y.a - s - 1) (S : Int)
      have q : 0 ≤ (S : Int) * ((y.a - s - 1) / (S : Int)) := Int.mul_nonneg (by omega) (Int.ediv_nonneg (by omega) (by omega))
      omega
    omega
theorem due_end (h : Fl S ls F) (hi : Is P (S + 1) (lof S s) ls r l) (h0 : 4 ≤ S) (hs : Tk s) (hl : ∀ t ∈ l, Tk t.a) : vsL S s now (S :: yss F S (fs S s) (nTk S s now)) l = due l now false ∧ vsA S s now (S :: yss F S (fs S s) (nTk S s now)) l = due l now true := by
  constructor
  · unfold vsL due
    apply List.filter_congr
    intro y hy
    by_cases e : y.a ≤ now
    · have := all_visited h hi h0 hs hl hy e
      rw [List.contains_iff_mem.2 this]
      simp [e]
    · simp [e]
  · unfold vsA due
    apply List.filter_congr
    intro y hy
    by_cases e : y.a ≤ now
    · have := all_visited h hi h0 hs hl hy e
      rw [List.contains_iff_mem.2 this]
      simp [e]
    · simp [e]
end
end Go.Proofs.YtdoceldofkaapaaDoor.Ha
