/-
  A law for a statement that draws its order, whose operations each give a value of a known kind and leave what was there as it was (they may make memory), and that ends in operations that wait for all ahead of them: one look at each operation serves every order.
-/
import Derived.Test.YtdeiknfaehpheaaFrame
import Derived.Orders
namespace Go.Proofs.Ytdeiknfaehpheaa
open Go.RowKit

/-- Where an operation's value goes. -/
def dstOf (ops : Array Oper) (j : Nat) : Tmp := ((ops[j]?).bind (·.dst)).getD 0
/-- Is it where some operation's value goes? -/
def isDst (ops : Array Oper) (t : Tmp) : Bool := ops.toList.any fun o => o.dst == some t
/-- Must operation j come ahead of o? -/
def dep (o : Oper) (j : Nat) : Bool := o.after.toList.any fun e => Region.binds .any e && e.on == j
/-- Operation j's value is there, and it is of its kind. -/
def Has (ops : Array Oper) (R : Nat → Value → World → Prop) (a : Act) (w : World) (j : Nat) : Prop := ∃ v, a.tmps[dstOf ops j]? = some v ∧ R j v w
/-- Each operation has a place of its own. -/
def eachOk (ops : Array Oper) (n : Nat) : Bool := ops.toList.all (fun o => match o.dst with | some d => decide (d < n) | none => false) && decide (ops.toList.map (·.dst)).Nodup
/-- Each waits for earlier ones alone. -/
def acyc : Nat → List Oper → Bool
  | _, [] => true
  | i, o :: l => (o.after.toList.all fun e => !Region.binds .any e || decide (e.on < i)) && acyc (i + 1) l
theorem acyc_at : ∀ {l : List Oper} {k : Nat}, acyc k l = true → ∀ i o, l[i]? = some o → ∀ e ∈ o.after, Region.binds .any e = true → e.on < k + i
  | [], _, _, i, o, h => by simp at h
  | x :: l, k, ha, i, o, h => by
    rw [acyc, Bool.and_eq_true] at ha
    cases i with
    | zero =>
      have : x = o := by simpa using h
      subst this
      intro e he hb
      have := List.all_eq_true.1 ha.1 e (Array.mem_toList_iff.2 he)
      rw [hb] at this
      simpa using this
    | succ i =>
      intro e he hb
      have := acyc_at ha.2 i o (by simpa using h) e he hb
      omega
/-- What an operation owes. -/
def Owes (P : Program) (ops : Array Oper) (Q : Exit → Act → World → Prop) (R : Nat → Value → World → Prop) (a : Act) (W : World) (i : Nat) (o : Oper) : Prop :=
  ∀ a' w', Bel W w' → (∀ t, isDst ops t = false → a'.tmps[t]? = a.tmps[t]?) → (∀ j, dep o j = true → Has ops R a' w' j) →
    Region.wanted o (yielded ops a'.tmps) = true ∧ o.wp P a' w' (fun a'' w'' => ∃ v, a'' = a'.put o.dst v ∧ R i v w'' ∧ Bel w' w'') Q
/-- Each of them pays. -/
def Each (P : Program) (ops : Array Oper) (Q : Exit → Act → World → Prop) (R : Nat → Value → World → Prop) (a : Act) (W : World) : Nat → List Oper → Prop
  | _, [] => True
  | i, o :: l => Owes P ops Q R a W i o ∧ Each P ops Q R a W (i + 1) l
theorem Each.at {P : Program} {ops : Array Oper} {Q : Exit → Act → World → Prop} {R : Nat → Value → World → Prop} {a : Act} {W : World} : ∀ {l : List Oper} {k : Nat}, Each P ops Q R a W k l → ∀ i o, l[i]? = some o → Owes P ops Q R a W (k + i) o
  | [], _, _, i, o, h => by simp at h
  | x :: l, k, he, i, o, h => by
    cases i with
    | zero =>
      have : x = o := by simpa using h
      subst this
      exact he.1
    | succ i =>
      have := he.2.at i o (by simpa using h)
      rw [Nat.add_right_comm] at this
      exact this
/-- How many are still to come. -/
def left (n : Nat) (listed : Array Bool) : Nat := ((List.range n).filter fun i => !listed.getD i true).length
theorem left_set (n : Nat) (listed : Array Bool) (i : Nat) (hi : i < n) (hl : listed.getD i true = false) (hs : i < listed.size) : left n (listed.setIfInBounds i true) < left n listed := by
  unfold left
  rw [← List.countP_eq_length_filter, ← List.countP_eq_length_filter]
  have hp : ∀ j, (!(listed.setIfInBounds i true).getD j true) = true → (!listed.getD j true) = true := by
    intro j hj
    by_cases hij : i = j
    · subst hij
      simp [hs] at hj
    · rw [getD_set_ne true hij] at hj
      exact hj
  obtain ⟨s, t, hst⟩ := List.append_of_mem (List.mem_range.2 hi)
  rw [hst, List.countP_append, List.countP_append, List.countP_cons, List.countP_cons]
  have h1 := List.countP_mono_left (l := s) (p := fun j => !(listed.setIfInBounds i true).getD j true) (q := fun j => !listed.getD j true) (fun j _ => hp j)
  have h2 := List.countP_mono_left (l := t) (p := fun j => !(listed.setIfInBounds i true).getD j true) (q := fun j => !listed.getD j true) (fun j _ => hp j)
  have h3 : (!(listed.setIfInBounds i true).getD i true) = false := by simp [hs]
  rw [h3, hl]
  simp only [Bool.false_eq_true, if_false, Bool.not_false, if_true]
  omega
theorem ready_none {ops : Array Oper} {listed : Array Bool} (h : left ops.size listed = 0) : Region.ready .any ops listed = [] := by
  unfold left at h
  have h0 := List.eq_nil_of_length_eq_zero h
  rw [List.filter_eq_nil_iff] at h0
  unfold Region.ready
  rw [List.filter_eq_nil_iff]
  intro i hi
  have := h0 i hi
  simp only [Bool.not_eq_true', Bool.not_eq_false] at this
  rw [this]
  simp
theorem all_listed {ops : Array Oper} {listed : Array Bool} (ha : acyc 0 ops.toList = true) (hs : listed.size = ops.size) (h : Region.ready .any ops listed = []) : ∀ j, j < ops.size → listed.getD j false = true := by
  intro j
  induction j using Nat.strongRecOn with
  | ind j ih =>
    intro hj
    cases hl : listed.getD j true with
    | true =>
      have hj' : j < listed.size := by omega
      simp [Array.getD, hj'] at hl ⊢
      exact hl
    | false =>
      exfalso
      obtain ⟨o, ho⟩ : ∃ o, ops[j]? = some o := ⟨ops[j], by simp [hj]⟩
      have : j ∈ Region.ready .any ops listed := mem_ready.2 ⟨hl, o, ho, fun e he hb => by
        have hlt := acyc_at ha j o (by simpa using ho) e he hb
        exact ih e.on (by omega) (by omega)⟩
      rw [h] at this
      cases this
theorem dst_spec {ops : Array Oper} {n : Nat} (hs : eachOk ops n = true) {i : Nat} {o : Oper} (hi : ops[i]? = some o) : ∃ d, o.dst = some d ∧ d < n ∧ dstOf ops i = d ∧ ∀ j, j ≠ i → j < ops.size → dstOf ops j ≠ d := by
  unfold eachOk at hs
  rw [Bool.and_eq_true, decide_eq_true_eq] at hs
  have h1 := List.all_eq_true.1 hs.1 o (Array.mem_toList_iff.2 (Array.mem_of_getElem? hi))
  cases hd : o.dst with
  | none => rw [hd] at h1; cases h1
  | some d =>
    rw [hd] at h1
    have hd' : dstOf ops i = d := by unfold dstOf; rw [hi]; simp [hd]
    refine ⟨d, rfl, by simpa using h1, hd', fun j hji hj e => ?_⟩
    have hjo : ops[j]? = some ops[j] := by simp [hj]
    have h2 := List.all_eq_true.1 hs.1 ops[j] (Array.mem_toList_iff.2 (Array.mem_of_getElem? hjo))
    cases hdj : ops[j].dst with
    | none => rw [hdj] at h2; cases h2
    | some d2 =>
      have e2 : dstOf ops j = d2 := by unfold dstOf; rw [hjo]; simp [hdj]
      rw [e2] at e
      subst e
      have hi' : i < ops.size := (Array.getElem?_eq_some_iff.1 hi).1
      have hio : ops[i] = o := (Array.getElem?_eq_some_iff.1 hi).2
      have hpw := List.pairwise_iff_getElem.1 hs.2
      rcases Nat.lt_or_gt_of_ne hji with hlt | hgt
      · exact hpw j i (by simpa using hj) (by simpa using hi') hlt (by simp [hdj, hio, hd])
      · exact hpw i j (by simpa using hi') (by simpa using hj) hgt (by simp [hdj, hio, hd])
/-! How an operation pays. -/
theorem ev {a : Act} {t : Tmp} {v : Value} (h : a.tmps[t]? = some v) : a.eval (.tmp t) = v := by
  show a.tmps.getD t undef = v
  obtain ⟨h1, h2⟩ := Array.getElem?_eq_some_iff.1 h
  simp [Array.getD, h1, h2]
theorem pay_same {P : Program} {ops : Array Oper} {Q : Exit → Act → World → Prop} {R : Nat → Value → World → Prop} {i : Nat} {o : Oper} {a' : Act} {w' : World} {v : Value}
    (hw : Region.wanted o (yielded ops a'.tmps) = true) (h : (execOp a'.eval o).run P w' = .ok (.value v) w') (hr : R i v w') :
    Region.wanted o (yielded ops a'.tmps) = true ∧ o.wp P a' w' (fun a'' w'' => ∃ v, a'' = a'.put o.dst v ∧ R i v w'' ∧ Bel w' w'') Q := by
  refine ⟨hw, ?_⟩
  unfold Oper.wp
  rw [h]
  exact ⟨v, rfl, hr, Bel.refl _⟩
theorem pay_new {P : Program} {ops : Array Oper} {Q : Exit → Act → World → Prop} {R : Nat → Value → World → Prop} {i : Nat} {o : Oper} {a' : Act} {w' w2 : World} {v : Value}
    (hw : Region.wanted o (yielded ops a'.tmps) = true) (h : (execOp a'.eval o).run P w' = .ok (.value v) w2) (hr : R i v w2) (hb : Bel w' w2) :
    Region.wanted o (yielded ops a'.tmps) = true ∧ o.wp P a' w' (fun a'' w'' => ∃ v, a'' = a'.put o.dst v ∧ R i v w'' ∧ Bel w' w'') Q := by
  refine ⟨hw, ?_⟩
  unfold Oper.wp
  rw [h]
  exact ⟨v, rfl, hr, hb⟩
theorem pay_call {P : Program} {ops : Array Oper} {Q : Exit → Act → World → Prop} {R : Nat → Value → World → Prop} {i : Nat} {o : Oper} {a' : Act} {w' : World} {f : FuncId} {args : Array Value}
    (hw : Region.wanted o (yielded ops a'.tmps) = true) (h : (execOp a'.eval o).run P w' = .ok (.enter f args) w') (hc : Calls P f args w' fun e w2 => ∃ v, e = .returned v ∧ R i v w2 ∧ Bel w' w2) :
    Region.wanted o (yielded ops a'.tmps) = true ∧ o.wp P a' w' (fun a'' w'' => ∃ v, a'' = a'.put o.dst v ∧ R i v w'' ∧ Bel w' w'') Q := by
  refine ⟨hw, ?_⟩
  unfold Oper.wp
  rw [h]
  refine hc.mono ?_
  rintro e w2 ⟨v, rfl, hr, hb⟩
  exact ⟨v, rfl, hr, hb⟩
theorem wants {ops : Array Oper} {o : Oper} {tmps : Array Value} {g : Nat} {d : Tmp} {b : Bool} (hg : o.guard = some (g, b)) (hd : (ops[g]?).bind (·.dst) = some d) (h : tmps[d]? = some (.bool b)) : Region.wanted o (yielded ops tmps) = true := by
  unfold Region.wanted yielded
  rw [hg]
  simp [hd, h]
/-- The end of a function whose one result lies in a slot. -/
theorem ret_slot {P : Program} {fn : Func} {R : Ending → World → Prop} {a : Act} {w : World} {t : Tmp} {v : Value} (hf : fn.results = #[.tmp t]) (h : a.tmps[t]? = some v) (hd : a.defers = []) (hR : R (.returned v) w) : bodyPost P fn R .ret a w := by
  have e : a.tmps.getD t undef = v := ev h
  refine bodyPost_ret (v := v) ?_ hd hR
  rw [results_tmp hf, e]
/-- The operations from i on, one behind the other. -/
def rowWp (P : Program) (ops : Array Oper) (Q : Exit → Act → World → Prop) : Nat → Nat → Act → World → Prop
  | 0, _, a, w => Q .normal a w
  | r + 1, i, a, w => wpOp P ops Q i (rowWp P ops Q r (i + 1)) a w
/-- From n on each waits for those from n on that stand ahead of it. -/
def waits (ops : Array Oper) (n : Nat) : Bool := (List.range ops.size).all fun i => (List.range i).all fun j => decide (j < n) || match ops[i]? with | some o => dep o j | none => false
theorem waits_at {ops : Array Oper} {n i j : Nat} {o : Oper} (h : waits ops n = true) (hi : ops[i]? = some o) (hn : n ≤ j) (hj : j < i) : dep o j = true := by
  unfold waits at h
  have h1 := List.all_eq_true.1 h i (List.mem_range.2 (Array.getElem?_eq_some_iff.1 hi).1)
  have h2 := List.all_eq_true.1 h1 j (List.mem_range.2 hj)
  rw [Bool.or_eq_true, decide_eq_true_eq, hi] at h2
  rcases h2 with h2 | h2
  · omega
  · exact h2
/-- Operation n waits for all ahead of it, or for one that waits for it. -/
def covers (ops : Array Oper) (n : Nat) : Bool := match ops[n]? with
  | some o => (List.range n).all fun j => dep o j || (List.range n).any fun k => dep o k && match ops[k]? with | some p => dep p j | none => false
  | none => false
theorem dep_listed {ops : Array Oper} {listed : Array Bool} {i j : Nat} {o : Oper} (hr : i ∈ Region.ready .any ops listed) (hi : ops[i]? = some o) (hd : dep o j = true) : listed.getD j false = true := by
  obtain ⟨_, o', ho', hall⟩ := mem_ready.1 hr
  obtain rfl := Option.some.inj (hi.symm.trans ho')
  unfold dep at hd
  obtain ⟨e, he1, he2⟩ := List.any_eq_true.1 hd
  rw [Bool.and_eq_true, beq_iff_eq] at he2
  have := hall e (Array.mem_toList_iff.1 he1) he2.1
  rw [he2.2] at this
  exact this
theorem unlisted {ops : Array Oper} {listed : Array Bool} {j : Nat} (hl : listed.size = ops.size) (hj : j < ops.size) : listed.getD j true = listed.getD j false := by
  simp [Array.getD, show j < listed.size by omega]
theorem wpAny_row {P : Program} {ops : Array Oper} {Q : Exit → Act → World → Prop} {n : Nat} (hw : waits ops n = true) (ha : acyc 0 ops.toList = true) : ∀ (fuel r i : Nat) (listed : Array Bool) (a : Act) (w : World), r ≤ fuel → n ≤ i → i + r = ops.size → listed.size = ops.size →
    (∀ j, j < ops.size → (listed.getD j false = true ↔ j < i)) → rowWp P ops Q r i a w → wpAny P .any ops Q fuel listed a w := by
  intro fuel
  have hnil : ∀ (i : Nat) (listed : Array Bool), i = ops.size → listed.size = ops.size → (∀ j, j < ops.size → (listed.getD j false = true ↔ j < i)) → Region.ready .any ops listed = [] := by
    intro i listed hs hl hj
    rw [List.eq_nil_iff_forall_not_mem]
    intro k hk
    obtain ⟨h1, o, ho, _⟩ := mem_ready.1 hk
    have hk' : k < ops.size := (Array.getElem?_eq_some_iff.1 ho).1
    rw [unlisted hl hk', (hj k hk').2 (by omega)] at h1
    cases h1
  induction fuel with
  | zero =>
    intro r i listed a w hf hn hs hl hj h
    obtain rfl : r = 0 := by omega
    exact ⟨hnil i listed (by omega) hl hj, h⟩
  | succ fuel ih =>
    intro r i listed a w hf hn hs hl hj h
    cases r with
    | zero =>
      have hr := hnil i listed (by omega) hl hj
      exact ⟨fun _ => h, fun k hk => by rw [hr] at hk; cases hk⟩
    | succ r =>
      have hin : ∀ k, k ∈ Region.ready .any ops listed → k = i := by
        intro k hk
        obtain ⟨h1, o, ho, _⟩ := mem_ready.1 hk
        have hk' : k < ops.size := (Array.getElem?_eq_some_iff.1 ho).1
        have hge : i ≤ k := by
          apply Nat.le_of_not_lt
          intro hlt
          rw [unlisted hl hk', (hj k hk').2 hlt] at h1
          cases h1
        by_cases hki : k = i
        · exact hki
        · have := dep_listed hk ho (waits_at hw ho (by omega) (show i < k by omega))
          have := (hj i (by omega)).1 this
          omega
      refine ⟨fun hr => ?_, fun k hk => ?_⟩
      · exfalso
        have := (hj i (by omega)).1 (all_listed ha hl hr i (by omega))
        omega
      · obtain rfl := hin k hk
        refine wpOp_mono (fun a' w' h' => ih r (k + 1) _ a' w' (by omega) (by omega) (by omega) (by simp [hl]) (fun j hjs => ?_) h') h
        by_cases hjk : k = j
        · subst hjk
          simp [Array.getD, show k < listed.size by omega]
        · rw [getD_set_ne false hjk, hj j hjs]
          omega
/-- What holds while the operations ahead of the stores come up. -/
def EndInv (ops : Array Oper) (R : Nat → Value → World → Prop) (a : Act) (W : World) (n : Nat) (listed : Array Bool) (a' : Act) (w' : World) : Prop :=
  listed.size = ops.size ∧ a'.tmps.size = a.tmps.size ∧ a'.defers = a.defers ∧ Bel W w' ∧ (∀ t, isDst ops t = false → a'.tmps[t]? = a.tmps[t]?) ∧ (∀ j, j < n → listed.getD j false = true → Has ops R a' w' j) ∧
    (∀ j, n ≤ j → j < ops.size → listed.getD j false = false) ∧ ∀ k o, k < n → listed.getD k false = true → ops[k]? = some o → ∀ j, dep o j = true → listed.getD j false = true
theorem dst_pre {ops : Array Oper} {n m : Nat} (hs : eachOk (ops.toList.take n).toArray m = true) {i : Nat} {o : Oper} (hi : ops[i]? = some o) (hin : i < n) : ∃ d, o.dst = some d ∧ d < m ∧ dstOf ops i = d ∧ ∀ j, j ≠ i → j < n → j < ops.size → dstOf ops j ≠ d := by
  have hsame : ∀ j, j < n → (ops.toList.take n).toArray[j]? = ops[j]? := by
    intro j hj
    simp [hj]
  have hds : ∀ j, j < n → dstOf (ops.toList.take n).toArray j = dstOf ops j := by
    intro j hj
    unfold dstOf
    rw [hsame j hj]
  obtain ⟨d, h1, h2, h3, h4⟩ := dst_spec hs (i := i) (o := o) ((hsame i hin).trans hi)
  refine ⟨d, h1, h2, by rw [← hds i hin]; exact h3, fun j hji hj hjs => ?_⟩
  rw [← hds j hj]
  exact h4 j hji (by simp; omega)
theorem wpAny_end {P : Program} {ops : Array Oper} {Q : Exit → Act → World → Prop} {R : Nat → Value → World → Prop} {a : Act} {W : World} {n : Nat}
    (hR : ∀ i v w w', R i v w → Bel w w' → R i v w')
    (hn : n < ops.size) (hs : eachOk (ops.toList.take n).toArray a.tmps.size = true) (ha : acyc 0 ops.toList = true) (hw : waits ops n = true) (hc : covers ops n = true) (he : Each P ops Q R a W 0 (ops.toList.take n))
    (hend : ∀ a' w', Bel W w' → a'.defers = a.defers → a'.tmps.size = a.tmps.size → (∀ t, isDst ops t = false → a'.tmps[t]? = a.tmps[t]?) → (∀ j, j < n → Has ops R a' w' j) → rowWp P ops Q (ops.size - n) n a' w') :
    ∀ (fuel : Nat) (listed : Array Bool) (a' : Act) (w' : World), left ops.size listed ≤ fuel → EndInv ops R a W n listed a' w' → wpAny P .any ops Q fuel listed a' w' := by
  have hlast : ∀ (listed : Array Bool) (a' : Act) (w' : World), EndInv ops R a W n listed a' w' → (∀ j, j < n → listed.getD j false = true) → rowWp P ops Q (ops.size - n) n a' w' :=
    fun listed a' w' hi hall => hend a' w' hi.2.2.2.1 hi.2.2.1 hi.2.1 hi.2.2.2.2.1 (fun j hj => hi.2.2.2.2.2.1 j hj (hall j hj))
  intro fuel
  induction fuel with
  | zero =>
    intro listed a' w' hl hi
    exfalso
    have hr := ready_none (Nat.le_zero.1 hl)
    have h1 := all_listed ha hi.1 hr n hn
    rw [hi.2.2.2.2.2.2.1 n (Nat.le_refl _) hn] at h1
    cases h1
  | succ fuel ih =>
    intro listed a' w' hl hi
    refine ⟨fun hr => ?_, fun i hir => ?_⟩
    · exfalso
      have h1 := all_listed ha hi.1 hr n hn
      rw [hi.2.2.2.2.2.2.1 n (Nat.le_refl _) hn] at h1
      cases h1
    obtain ⟨hun, o, ho, hall⟩ := mem_ready.1 hir
    have hilt : i < ops.size := (Array.getElem?_eq_some_iff.1 ho).1
    by_cases hin : i < n
    · have hi0 := hi
      obtain ⟨h1, h2, h3, h4, h5, h6, h7, h9⟩ := hi
      have hdlt : ∀ j, dep o j = true → j < n := by
        intro j hj
        unfold dep at hj
        obtain ⟨e, he1, he2⟩ := List.any_eq_true.1 hj
        rw [Bool.and_eq_true, beq_iff_eq] at he2
        have := acyc_at ha i o (by simpa using ho) e (Array.mem_toList_iff.1 he1) he2.1
        omega
      have how := he.at i o (by simp [hin]; simpa using ho) a' w' h4 h5 (fun j hj => h6 j (hdlt j hj) (dep_listed hir ho hj))
      rw [Nat.zero_add] at how
      unfold wpOp
      simp only [ho, how.1, if_true]
      refine .inl (Oper.wp_mono ?_ how.2)
      rintro a'' w'' ⟨v, rfl, hv, hb⟩
      obtain ⟨d, hd, hdn, hdo, hne⟩ := dst_pre hs ho hin
      have hdlt' : d < a'.tmps.size := by rw [h2]; exact hdn
      have hput : a'.put o.dst v = { a' with tmps := a'.tmps.setIfInBounds d v } := by rw [hd]; rfl
      have hother : ∀ j, j ≠ i → j < n → (a'.tmps.setIfInBounds d v)[dstOf ops j]? = a'.tmps[dstOf ops j]? := fun j hji hj => Array.getElem?_setIfInBounds_ne (Ne.symm (hne j hji hj (by omega)))
      have hmine : (a'.tmps.setIfInBounds d v)[dstOf ops i]? = some v := by rw [hdo]; simp [hdlt']
      refine ih _ _ _ ?_ ?_
      · have := left_set ops.size listed i hilt hun (by omega)
        omega
      · rw [hput]
        refine ⟨by simp [h1], by simp [h2], h3, h4.trans hb, fun t ht => ?_, fun j hjn hj => ?_, fun j hjn hjs => ?_, fun k o' hk hlk hok j hdj => ?_⟩
        · have htd : d ≠ t := by
            intro e
            subst e
            unfold isDst at ht
            have hf := List.any_eq_false.1 ht o (Array.mem_toList_iff.2 (Array.mem_of_getElem? ho))
            rw [hd] at hf
            simp at hf
          show (a'.tmps.setIfInBounds d v)[t]? = _
          rw [Array.getElem?_setIfInBounds_ne htd]
          exact h5 t ht
        · by_cases hji : j = i
          · subst hji
            exact ⟨v, hmine, hv⟩
          · rw [getD_set_ne false (Ne.symm hji)] at hj
            obtain ⟨u, hu, hru⟩ := h6 j hjn hj
            exact ⟨u, (hother j hji hjn).trans hu, hR j u _ _ hru hb⟩
        · rw [getD_set_ne false (show i ≠ j by omega)]
          exact h7 j hjn hjs
        · have hlj : listed.getD j false = true := by
            by_cases hki : k = i
            · subst hki
              obtain rfl := Option.some.inj (ho.symm.trans hok)
              exact dep_listed hir ho hdj
            · rw [getD_set_ne false (Ne.symm hki)] at hlk
              exact h9 k o' hk hlk hok j hdj
          by_cases hij : i = j
          · subst hij
            simp [Array.getD, show i < listed.size by omega]
          · rw [getD_set_ne false hij]
            exact hlj
    · have hni : i = n := by
        by_cases h : i = n
        · exact h
        · have := dep_listed hir ho (waits_at hw ho (Nat.le_refl _) (show n < i by omega))
          rw [hi.2.2.2.2.2.2.1 n (Nat.le_refl _) hn] at this
          cases this
      subst hni
      have hall' : ∀ j, j < i → listed.getD j false = true := by
        intro j hj
        unfold covers at hc
        rw [ho] at hc
        have h1 := List.all_eq_true.1 hc j (List.mem_range.2 hj)
        rw [Bool.or_eq_true] at h1
        rcases h1 with h1 | h1
        · exact dep_listed hir ho h1
        · obtain ⟨k, hk1, hk2⟩ := List.any_eq_true.1 h1
          rw [Bool.and_eq_true] at hk2
          have hki := List.mem_range.1 hk1
          obtain ⟨p, hp⟩ : ∃ p, ops[k]? = some p := ⟨ops[k]'(by omega), by simp [show k < ops.size by omega]⟩
          have hk3 := hk2.2
          rw [hp] at hk3
          exact hi.2.2.2.2.2.2.2 k p hki (dep_listed hir ho hk2.1) hp j hk3
      have hrow := hlast listed a' w' hi hall'
      obtain ⟨m, hm⟩ : ∃ m, ops.size - i = m + 1 := ⟨ops.size - i - 1, by omega⟩
      rw [hm] at hrow
      have hcount : m ≤ fuel := by
        have h1 : m + 1 ≤ left ops.size listed := by
          unfold left
          have hsub : (List.range' i (m + 1)).length ≤ ((List.range ops.size).filter fun j => !listed.getD j true).length := by
            have e : List.range ops.size = List.range' 0 i ++ List.range' i (m + 1) := by
              rw [List.range_eq_range', show ops.size = i + (m + 1) by omega]
              have := List.range'_append_1 (s := 0) (m := i) (n := m + 1)
              simpa using this.symm
            rw [e, List.filter_append, List.length_append]
            have hf : (List.range' i (m + 1)).filter (fun j => !listed.getD j true) = List.range' i (m + 1) := by
              rw [List.filter_eq_self]
              intro j hj
              rw [List.mem_range'_1] at hj
              rw [unlisted hi.1 (by omega), hi.2.2.2.2.2.2.1 j (by omega) (by omega)]
              rfl
            rw [hf]
            omega
          simpa using hsub
        omega
      refine wpOp_mono (fun a2 w2 h' => wpAny_row hw ha fuel m (i + 1) _ a2 w2 hcount (by omega) (by omega) (by simp [hi.1]) (fun j hjs => ?_) h') hrow
      by_cases hji : i = j
      · subst hji
        simp [Array.getD, show i < listed.size by have := hi.1; omega]
      · rw [getD_set_ne false hji]
        by_cases hlt : j < i
        · rw [hall' j hlt]
          simp
          omega
        · rw [hi.2.2.2.2.2.2.1 j (by omega) hjs]
          simp
          omega
theorem wp_region_end {P : Program} {ops : Array Oper} {Q : Exit → Act → World → Prop} {a : Act} {w : World} {id : Nat} (R : Nat → Value → World → Prop) (n : Nat) (hm : P.follows .mixedOrders = true)
    (hR : ∀ i v w w', R i v w → Bel w w' → R i v w')
    (hn : n < ops.size) (hs : eachOk (ops.toList.take n).toArray a.tmps.size = true) (ha : acyc 0 ops.toList = true) (hw : waits ops n = true) (hc : covers ops n = true) (he : Each P ops Q R a w.drew 0 (ops.toList.take n))
    (hend : ∀ a' w', Bel w.drew w' → a'.defers = a.defers → a'.tmps.size = a.tmps.size → (∀ t, isDst ops t = false → a'.tmps[t]? = a.tmps[t]?) → (∀ j, j < n → Has ops R a' w' j) → rowWp P ops Q (ops.size - n) n a' w') :
    (Code.region id ops true).wp P Q a w :=
  wp_region_any hm (wpAny_end hR hn hs ha hw hc he hend ops.size _ a _ (by
    unfold left
    exact Nat.le_trans (List.length_filter_le _ _) (by simp)) ⟨by simp, rfl, rfl, Bel.refl _, fun _ _ => rfl, fun j _ hj => by
      exfalso
      by_cases h : j < ops.size
      · simp [Array.getD, h] at hj
      · simp [Array.getD, h] at hj, fun j _ hj => by simp [Array.getD, hj], fun k _ _ hk => by
      exfalso
      by_cases h : k < ops.size
      · simp [Array.getD, h] at hk
      · simp [Array.getD, h] at hk⟩)
end Go.Proofs.Ytdeiknfaehpheaa
