/-
  A law for a statement that draws its order, within a round: what holds while its operations come up, one by one, whatever the order.
  How many slots a Due looks into, against how many ticks it goes on; what is due up to a tick, and then up to a later one.
-/
import Derived.Test.YtdoceldofkaapaaDoorRng
import Derived.Orders
import Derived.OrdersIn
import Derived.Test.YtdoceldofkaapaaDoorXaa
set_option linter.unusedVariables false
set_option linter.unusedSimpArgs false
namespace Go.Proofs.YtdoceldofkaapaaDoor
open Go.RowKit
/-- How many are still to come. -/
def toCome (n : Nat) (listed : Array Bool) : Nat := ((List.range n).filter fun i => !listed.getD i true).length
theorem toCome_set (n : Nat) (listed : Array Bool) (i : Nat) (hi : i < n) (hl : listed.getD i true = false) (hs : i < listed.size) : toCome n (listed.setIfInBounds i true) < toCome n listed := by
  unfold toCome
  rw [← List.countP_eq_length_filter, ← List.countP_eq_length_filter]
  have hp : ∀ j, (!(listed.setIfInBounds i true).getD j true) = true → (!listed.getD j true) = true := by
    intro j hj
    by_cases hij : i = j
    · subst hij
      simp [hs] at hj
    · rw [getD_set_ne true hij] at hj
      exact hj
  obtain ⟨s, t, hst⟩ := List.append_of_mem (List.mem_range.2 hi)
  rw [hst, List.countP_append, List.countP_append, List.countP_cons, List.countP_cons]
  have h1 := List.countP_mono_left (l := s) (p := fun j => !(listed.setIfInBounds i true).getD j true) (q := fun j => !listed.getD j true) (fun j _ => hp j)
  have h2 := List.countP_mono_left (l := t) (p := fun j => !(listed.setIfInBounds i true).getD j true) (q := fun j => !listed.getD j true) (fun j _ => hp j)
  have h3 : (!(listed.setIfInBounds i true).getD i true) = false := by simp [hs]
  rw [h3, hl]
  simp only [Bool.false_eq_true, if_false, Bool.not_false, if_true]
  omega
theorem toCome_none {ops : Array Oper} {listed : Array Bool} (h : toCome ops.size listed = 0) : Region.ready .any ops listed = [] := by
  unfold toCome at h
  have h0 := List.eq_nil_of_length_eq_zero h
  rw [List.filter_eq_nil_iff] at h0
  unfold Region.ready
  rw [List.filter_eq_nil_iff]
  intro i hi
  have := h0 i hi
  simp only [Bool.not_eq_true', Bool.not_eq_false] at this
  rw [this]
  simp
theorem wpAnyIn_inv {F : Fence} {n : Nat} {P : Program} {ops : Array Oper} {Q : Exit → Act → World → Prop} (J : Array Bool → Act → World → Prop) (hsz : ∀ listed a w, J listed a w → listed.size = ops.size)
    (hstep : ∀ listed a w i o, J listed a w → listed.getD i true = false → ops[i]? = some o → (∀ e ∈ o.after, Region.binds .any e = true → listed.getD e.on false = true) → ∀ K : Act → World → Prop, (∀ a' w', J (listed.setIfInBounds i true) a' w' → K a' w') →
      if Region.wanted o (yielded ops a.tmps) = true then Oper.wpIn F n P o a w K Q else (∀ f, o.about P w a.eval = some f → F.fn f) ∧ K (a.put o.dst undef) w)
    (hend : ∀ listed a w, J listed a w → Region.ready .any ops listed = [] → Q .normal a w) :
    ∀ (fuel : Nat) (listed : Array Bool) (a : Act) (w : World), toCome ops.size listed ≤ fuel → J listed a w → wpAnyIn F n P .any ops Q fuel listed a w := by
  intro fuel
  induction fuel with
  | zero =>
    intro listed a w hc hJ
    have hr := toCome_none (ops := ops) (listed := listed) (by omega)
    exact ⟨hr, hend listed a w hJ hr⟩
  | succ fuel ih =>
    intro listed a w hc hJ
    refine ⟨fun h0 => hend listed a w hJ h0, fun i hi => ?_⟩
    obtain ⟨hl, o, ho, hafter⟩ := mem_ready.1 hi
    have hi2 : i < ops.size := by
      rcases Nat.lt_or_ge i ops.size with h | h
      · exact h
      · rw [Array.getElem?_eq_none h] at ho; cases ho
    refine wpOpIn_step ho (fun K hK => hstep listed a w i o hJ hl ho (fun e he hb => ?_) K (fun a' w' hJ' => hK a' w' (ih _ a' w' ?_ hJ')))
    · exact hafter e he hb
    · have := toCome_set ops.size listed i hi2 hl (by rw [hsz listed a w hJ]; exact hi2)
      omega
theorem ready_not {ops : Array Oper} {listed : Array Bool} {j : Nat} {o : Oper} (hr : Region.ready .any ops listed = []) (ho : ops[j]? = some o) (ha : ∀ e ∈ o.after, Region.binds .any e = true → listed.getD e.on false = true) : listed.getD j true ≠ false := by
  intro h
  have : j ∈ Region.ready .any ops listed := mem_ready.2 ⟨h, o, ho, ha⟩
  rw [hr] at this
  cases this
theorem put_ne {a : Act} {d t : Nat} {v : Value} (h : t ≠ d) : (a.put (some d) v).eval (.tmp t) = a.eval (.tmp t) := by
  unfold Act.put Act.eval
  simp only
  rw [Array.getD_eq_getD_getElem?, Array.getD_eq_getD_getElem?, Array.getElem?_setIfInBounds_ne (by omega)]
theorem put_eq {a : Act} {d : Nat} {v : Value} (h : d < a.tmps.size) : (a.put (some d) v).eval (.tmp d) = v := by
  unfold Act.put Act.eval
  simp [h]
theorem put_size {a : Act} {d : Nat} {v : Value} : (a.put (some d) v).tmps.size = a.tmps.size := by
  unfold Act.put
  simp
end Go.Proofs.YtdoceldofkaapaaDoor
namespace Go.Proofs.YtdoceldofkaapaaDoor
theorem cnt_int (a b n : Nat) : (List.range n).countP (fun i => decide (a ≤ i) && decide (i < b)) ≤ min n b - a := by
  induction n with
  | zero => simp
  | succ n ih =>
    rw [List.range_succ, List.countP_append]
    by_cases h : a ≤ n ∧ n < b
    · simp [h.1, h.2]; omega
    · have e : (decide (a ≤ n) && decide (n < b)) = false := by simp; omega
      simp [e]; omega
theorem cnt_or {α : Type} (p q r : α → Bool) (h : ∀ x, p x = true → q x = true ∨ r x = true) (l : List α) : l.countP p ≤ l.countP q + l.countP r := by
  induction l with
  | nil => simp
  | cons x l ih =>
    simp only [List.countP_cons]
    by_cases hp : p x = true
    · rcases h x hp with e | e
      · simp only [hp, e, if_true]; omega
      · simp only [hp, e, if_true]; omega
    · simp only [hp]; simp; omega
theorem cnt_mono {l : List Nat} {p q : Nat → Bool} (h : ∀ i, i ∈ l → p i = true → q i = true) : l.countP p ≤ l.countP q := List.countP_mono_left h
theorem emod_rot {S : Nat} (hS : 0 < S) (s : Int) (i : Nat) (hi : i < S) : ((i : Int) - s - 1) % (S : Int) = if ((s + 1) % (S : Int)).toNat ≤ i then (i : Int) - (s + 1) % (S : Int) else (i : Int) - (s + 1) % (S : Int) + S := by
  have h1 := Int.emod_nonneg (s + 1) (b := (S : Int)) (by omega)
  have h2 := Int.emod_lt_of_pos (s + 1) (b := (S : Int)) (by omega)
  have e : ((i : Int) - s - 1) % (S : Int) = ((i : Int) - (s + 1) % (S : Int)) % (S : Int) := by
    rw [show (i : Int) - s - 1 = i - (s + 1) from by omega, Int.sub_emod, Int.sub_emod (i : Int) ((s + 1) % (S : Int)), Int.emod_emod]
  rw [e]
  generalize (s + 1) % (S : Int) = c at *
  split
  · exact Int.emod_eq_of_lt (by omega) (by omega)
  · rw [← Int.add_emod_right]
    exact Int.emod_eq_of_lt (by omega) (by omega)
theorem lks_ticks {S : Nat} (hS : 0 < S) (s now : Int) (l : List T) (h : s < now) : (lks S s now l : Int) ≤ now - s := by
  unfold lks
  rw [if_neg (by omega)]
  by_cases hbig : (S : Int) ≤ now - s
  · have := List.countP_le_length (p := fun b : Bool => b) (l := mks S s now l)
    rw [mks_len] at this
    omega
  · obtain ⟨m, hm⟩ : ∃ m : Nat, now - s = m := ⟨(now - s).toNat, by omega⟩
    have h1 := Int.emod_nonneg (s + 1) (b := (S : Int)) (by omega)
    have h2 := Int.emod_lt_of_pos (s + 1) (b := (S : Int)) (by omega)
    obtain ⟨c, hc⟩ : ∃ c : Nat, (s + 1) % (S : Int) = c := ⟨((s + 1) % (S : Int)).toNat, by omega⟩
    have key : ∀ i, i ∈ List.range S → (l.any fun t => hit S s now t && decide (slt S t = i)) = true → ((decide (c ≤ i) && decide (i < c + m)) || (decide (0 ≤ i) && decide (i < c + m - S))) = true := by
      intro i hi hany
      have hi : i < S := by simpa using hi
      obtain ⟨t, _, ht⟩ := List.any_eq_true.1 hany
      simp only [Bool.and_eq_true, decide_eq_true_eq, hit] at ht
      obtain ⟨⟨ht1, ht2⟩, ht3⟩ := ht
      have e : (t.a - s - 1) % (S : Int) = ((i : Int) - s - 1) % (S : Int) := by
        have : t.a % (S : Int) = (i : Int) := by
          unfold slt at ht3
          have := Int.emod_nonneg t.a (b := (S : Int)) (by omega)
          omega
        rw [show t.a - s - 1 = t.a - (s + 1) from by omega, Int.sub_emod, this, show (i : Int) - s - 1 = i - (s + 1) from by omega, Int.sub_emod (i : Int) (s + 1), Int.emod_eq_of_lt (a := (i : Int)) (by omega) (by omega)]
      rw [e, emod_rot hS s i hi, hc, hm] at ht2
      simp only [Int.toNat_natCast] at ht2
      simp only [Bool.or_eq_true, Bool.and_eq_true, decide_eq_true_eq]
      split at ht2 <;> omega
    have a1 : (mks S s now l).countP (fun b => b) = (List.range S).countP (fun i => l.any fun t => hit S s now t && decide (slt S t = i)) := by
      unfold mks
      rw [List.countP_map]
      rfl
    have a2 := cnt_mono key
    have a3 := cnt_or (fun i => (decide (c ≤ i) && decide (i < c + m)) || (decide (0 ≤ i) && decide (i < c + m - S))) (fun i => decide (c ≤ i) && decide (i < c + m)) (fun i => decide (0 ≤ i) && decide (i < c + m - S)) (fun x hx => by simpa using hx) (List.range S)
    have a4 := cnt_int c (c + m) S
    have a5 := cnt_int 0 (c + m - S) S
    omega
theorem due_len2 (l : List T) (now : Int) : (due l now true).length + (due l now false).length = l.length := by
  unfold due
  induction l with
  | nil => rfl
  | cons x r ih => by_cases h : x.a ≤ now <;> simp [h] <;> simp at ih <;> omega
theorem due_far {l : List T} {a b : Int} (h : a ≤ b) : due (due l a false) b false = due l b false := by
  unfold due
  rw [List.filter_filter]
  congr 1
  funext x
  by_cases h1 : x.a ≤ a
  · have : x.a ≤ b := by omega
    simp [h1, this]
  · simp [h1]
theorem due_more {l : List T} (hs : So l) {a b : Int} (h : a ≤ b) : due l a true ++ due (due l a false) b true = due l b true := by
  induction l with
  | nil => rfl
  | cons x r ih =>
    have hs2 : So r := (List.pairwise_cons.1 hs).2
    have hx := (List.pairwise_cons.1 hs).1
    have ih := ih hs2
    unfold due at ih ⊢
    by_cases h1 : x.a ≤ a
    · have h2 : x.a ≤ b := by omega
      simp only [List.filter_cons, h1, h2, decide_true, beq_self_eq_true, if_true, List.cons_append]
      simp
      simpa using ih
    · have hnone : r.filter (fun y => decide (y.a ≤ a) == true) = [] := by
        rw [List.filter_eq_nil_iff]
        intro y hy
        have := hx y hy
        rw [lt_no] at this
        unfold Lt at this
        simp
        omega
      rw [hnone] at ih
      by_cases h2 : x.a ≤ b
      · have e1 : (decide (x.a ≤ a) == true) = false := by simp [h1]
        have e2 : (decide (x.a ≤ a) == false) = true := by simp [h1]
        have e3 : (decide (x.a ≤ b) == true) = true := by simp [h2]
        rw [List.filter_cons, List.filter_cons, List.filter_cons, e1, e2, e3, hnone, if_neg (by decide), if_pos rfl, if_pos rfl, List.filter_cons, e3, if_pos rfl, List.nil_append]
        rw [List.nil_append] at ih
        rw [ih]
      · have e1 : (decide (x.a ≤ a) == true) = false := by simp [h1]
        have e2 : (decide (x.a ≤ a) == false) = true := by simp [h1]
        have e3 : (decide (x.a ≤ b) == true) = false := by simp [h2]
        rw [List.filter_cons, List.filter_cons, List.filter_cons, e1, e2, e3, hnone, if_neg (by decide), if_pos rfl, if_neg (by decide), List.filter_cons, e3, if_neg (by decide), List.nil_append]
        rw [List.nil_append] at ih
        rw [ih]
end Go.Proofs.YtdoceldofkaapaaDoor
