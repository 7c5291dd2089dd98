/-
  A law for a statement that draws its order and whose operations each give a value of a known kind, and leave what was there as it was (they may make memory, one may panic): one look at each operation serves every order.
-/
import Derived.Test.YtbbhgmdpafhbeaaFrame
import Derived.Orders
namespace Go.Proofs.Ytbbhgmdpafhbeaa
open Go.RowKit

/-- Where an operation's value goes. -/
def dstOf (ops : Array Oper) (j : Nat) : Tmp := ((ops[j]?).bind (·.dst)).getD 0
/-- Is it where some operation's value goes? -/
def isDst (ops : Array Oper) (t : Tmp) : Bool := ops.toList.any fun o => o.dst == some t
/-- Must operation j come ahead of o? -/
def dep (o : Oper) (j : Nat) : Bool := o.after.toList.any fun e => Region.binds .any e && e.on == j
/-- Operation j's value is there, and it is of its kind. -/
def Got (ops : Array Oper) (R : Nat → Value → World → Prop) (a : Act) (w : World) (j : Nat) : Prop := ∃ v, a.tmps[dstOf ops j]? = some v ∧ R j v w
/-- Each operation has a place of its own. -/
def eachOk (ops : Array Oper) (n : Nat) : Bool := ops.toList.all (fun o => match o.dst with | some d => decide (d < n) | none => false) && decide (ops.toList.map (·.dst)).Nodup
/-- Each waits for earlier ones alone. -/
def acyc : Nat → List Oper → Bool
  | _, [] => true
  | i, o :: l => (o.after.toList.all fun e => !Region.binds .any e || decide (e.on < i)) && acyc (i + 1) l
theorem acyc_at : ∀ {l : List Oper} {k : Nat}, acyc k l = true → ∀ i o, l[i]? = some o → ∀ e ∈ o.after, Region.binds .any e = true → e.on < k + i
  | [], _, _, i, o, h => by simp at h
  | x :: l, k, ha, i, o, h => by
    rw [acyc, Bool.and_eq_true] at ha
    cases i with
    | zero =>
      have : x = o := by simpa using h
      subst this
      intro e he hb
      have := List.all_eq_true.1 ha.1 e (Array.mem_toList_iff.2 he)
      rw [hb] at this
      simpa using this
    | succ i =>
      intro e he hb
      have := acyc_at ha.2 i o (by simpa using h) e he hb
      omega
/-- What an operation owes. -/
def Owes (P : Program) (ops : Array Oper) (Q : Exit → Act → World → Prop) (R : Nat → Value → World → Prop) (a : Act) (W : World) (i : Nat) (o : Oper) : Prop :=
  ∀ a' w', Bel W w' → a'.defers = a.defers → (∀ t, isDst ops t = false → a'.tmps[t]? = a.tmps[t]?) → (∀ j, dep o j = true → Got ops R a' w' j) →
    Region.wanted o (yielded ops a'.tmps) = true ∧ o.wp P a' w' (fun a'' w'' => ∃ v, a'' = a'.put o.dst v ∧ R i v w'' ∧ Bel w' w'') Q
/-- Each of them pays. -/
def Each (P : Program) (ops : Array Oper) (Q : Exit → Act → World → Prop) (R : Nat → Value → World → Prop) (a : Act) (W : World) : Nat → List Oper → Prop
  | _, [] => True
  | i, o :: l => Owes P ops Q R a W i o ∧ Each P ops Q R a W (i + 1) l
theorem Each.at {P : Program} {ops : Array Oper} {Q : Exit → Act → World → Prop} {R : Nat → Value → World → Prop} {a : Act} {W : World} : ∀ {l : List Oper} {k : Nat}, Each P ops Q R a W k l → ∀ i o, l[i]? = some o → Owes P ops Q R a W (k + i) o
  | [], _, _, i, o, h => by simp at h
  | x :: l, k, he, i, o, h => by
    cases i with
    | zero =>
      have : x = o := by simpa using h
      subst this
      exact he.1
    | succ i =>
      have := he.2.at i o (by simpa using h)
      rw [Nat.add_right_comm] at this
      exact this
/-- How many are still to come. -/
def left (n : Nat) (listed : Array Bool) : Nat := ((List.range n).filter fun i => !listed.getD i true).length
theorem left_set (n : Nat) (listed : Array Bool) (i : Nat) (hi : i < n) (hl : listed.getD i true = false) (hs : i < listed.size) : left n (listed.setIfInBounds i true) < left n listed := by
  unfold left
  rw [← List.countP_eq_length_filter, ← List.countP_eq_length_filter]
  have hp : ∀ j, (!(listed.setIfInBounds i true).getD j true) = true → (!listed.getD j true) = true := by
    intro j hj
    by_cases hij : i = j
    · subst hij
      simp [hs] at hj
    · rw [getD_set_ne true hij] at hj
      exact hj
  obtain ⟨s, t, hst⟩ := List.append_of_mem (List.mem_range.2 hi)
  rw [hst, List.countP_append, List.countP_append, List.countP_cons, List.countP_cons]
  have h1 := List.countP_mono_left (l := s) (p := fun j => !(listed.setIfInBounds i true).getD j true) (q := fun j => !listed.getD j true) (fun j _ => hp j)
  have h2 := List.countP_mono_left (l := t) (p := fun j => !(listed.setIfInBounds i true).getD j true) (q := fun j => !listed.getD j true) (fun j _ => hp j)
  have h3 : (!(listed.setIfInBounds i true).getD i true) = false := by simp [hs]
  rw [h3, hl]
  simp only [Bool.false_eq_true, if_false, Bool.not_false, if_true]
  omega
theorem ready_none {ops : Array Oper} {listed : Array Bool} (h : left ops.size listed = 0) : Region.ready .any ops listed = [] := by
  unfold left at h
  have h0 := List.eq_nil_of_length_eq_zero h
  rw [List.filter_eq_nil_iff] at h0
  unfold Region.ready
  rw [List.filter_eq_nil_iff]
  intro i hi
  have := h0 i hi
  simp only [Bool.not_eq_true', Bool.not_eq_false] at this
  rw [this]
  simp
/-- What holds while the operations come up. -/
def EachInv (ops : Array Oper) (R : Nat → Value → World → Prop) (a : Act) (W : World) (listed : Array Bool) (a' : Act) (w' : World) : Prop :=
  listed.size = ops.size ∧ a'.tmps.size = a.tmps.size ∧ a'.defers = a.defers ∧ Bel W w' ∧ (∀ t, isDst ops t = false → a'.tmps[t]? = a.tmps[t]?) ∧ ∀ j, listed.getD j false = true → Got ops R a' w' j
theorem all_listed {ops : Array Oper} {listed : Array Bool} (ha : acyc 0 ops.toList = true) (hs : listed.size = ops.size) (h : Region.ready .any ops listed = []) : ∀ j, j < ops.size → listed.getD j false = true := by
  intro j
  induction j using Nat.strongRecOn with
  | ind j ih =>
    intro hj
    cases hl : listed.getD j true with
    | true =>
      have hj' : j < listed.size := by omega
      simp [Array.getD, hj'] at hl ⊢
      exact hl
    | false =>
      exfalso
      obtain ⟨o, ho⟩ : ∃ o, ops[j]? = some o := ⟨ops[j], by simp [hj]⟩
      have : j ∈ Region.ready .any ops listed := mem_ready.2 ⟨hl, o, ho, fun e he hb => by
        have hlt := acyc_at ha j o (by simpa using ho) e he hb
        exact ih e.on (by omega) (by omega)⟩
      rw [h] at this
      cases this
theorem dst_spec {ops : Array Oper} {n : Nat} (hs : eachOk ops n = true) {i : Nat} {o : Oper} (hi : ops[i]? = some o) : ∃ d, o.dst = some d ∧ d < n ∧ dstOf ops i = d ∧ ∀ j, j ≠ i → j < ops.size → dstOf ops j ≠ d := by
  unfold eachOk at hs
  rw [Bool.and_eq_true, decide_eq_true_eq] at hs
  have h1 := List.all_eq_true.1 hs.1 o (Array.mem_toList_iff.2 (Array.mem_of_getElem? hi))
  cases hd : o.dst with
  | none => rw [hd] at h1; cases h1
  | some d =>
    rw [hd] at h1
    have hd' : dstOf ops i = d := by unfold dstOf; rw [hi]; simp [hd]
    refine ⟨d, rfl, by simpa using h1, hd', fun j hji hj e => ?_⟩
    have hjo : ops[j]? = some ops[j] := by simp [hj]
    have h2 := List.all_eq_true.1 hs.1 ops[j] (Array.mem_toList_iff.2 (Array.mem_of_getElem? hjo))
    cases hdj : ops[j].dst with
    | none => rw [hdj] at h2; cases h2
    | some d2 =>
      have e2 : dstOf ops j = d2 := by unfold dstOf; rw [hjo]; simp [hdj]
      rw [e2] at e
      subst e
      have hi' : i < ops.size := (Array.getElem?_eq_some_iff.1 hi).1
      have hio : ops[i] = o := (Array.getElem?_eq_some_iff.1 hi).2
      have hpw := List.pairwise_iff_getElem.1 hs.2
      rcases Nat.lt_or_gt_of_ne hji with hlt | hgt
      · exact hpw j i (by simpa using hj) (by simpa using hi') hlt (by simp [hdj, hio, hd])
      · exact hpw i j (by simpa using hi') (by simpa using hj) hgt (by simp [hdj, hio, hd])
theorem wpAny_each {P : Program} {ops : Array Oper} {Q : Exit → Act → World → Prop} {R : Nat → Value → World → Prop} {a : Act} {W : World}
    (hR : ∀ i v w w', R i v w → Bel w w' → R i v w') (hs : eachOk ops a.tmps.size = true) (ha : acyc 0 ops.toList = true) (he : Each P ops Q R a W 0 ops.toList)
    (hend : ∀ a' w', Bel W w' → a'.defers = a.defers → (∀ t, isDst ops t = false → a'.tmps[t]? = a.tmps[t]?) → (∀ j, j < ops.size → Got ops R a' w' j) → Q .normal a' w') :
    ∀ (fuel : Nat) (listed : Array Bool) (a' : Act) (w' : World), left ops.size listed ≤ fuel → EachInv ops R a W listed a' w' → wpAny P .any ops Q fuel listed a' w' := by
  have hdone : ∀ (listed : Array Bool) (a' : Act) (w' : World), EachInv ops R a W listed a' w' → Region.ready .any ops listed = [] → Q .normal a' w' :=
    fun listed a' w' hi hr => hend a' w' hi.2.2.2.1 hi.2.2.1 hi.2.2.2.2.1 (fun j hj => hi.2.2.2.2.2 j (all_listed ha hi.1 hr j hj))
  intro fuel
  induction fuel with
  | zero =>
    intro listed a' w' hl hi
    have hr := ready_none (Nat.le_zero.1 hl)
    exact ⟨hr, hdone listed a' w' hi hr⟩
  | succ fuel ih =>
    intro listed a' w' hl hi
    refine ⟨hdone listed a' w' hi, fun i hir => ?_⟩
    obtain ⟨hun, o, ho, hall⟩ := mem_ready.1 hir
    have hilt : i < ops.size := (Array.getElem?_eq_some_iff.1 ho).1
    obtain ⟨h1, h2, h3, h4, h5, h6⟩ := hi
    have how := he.at i o (by simpa using ho) a' w' h4 h3 h5 (fun j hj => by
      unfold dep at hj
      obtain ⟨e, he1, he2⟩ := List.any_eq_true.1 hj
      rw [Bool.and_eq_true, beq_iff_eq] at he2
      have := hall e (Array.mem_toList_iff.1 he1) he2.1
      rw [he2.2] at this
      exact h6 j this)
    rw [Nat.zero_add] at how
    unfold wpOp
    simp only [ho, how.1, if_true]
    refine .inl (Oper.wp_mono ?_ how.2)
    rintro a'' w'' ⟨v, rfl, hv, hb⟩
    obtain ⟨d, hd, hdn, hdo, hne⟩ := dst_spec hs ho
    have hdlt : d < a'.tmps.size := by rw [h2]; exact hdn
    have hput : a'.put o.dst v = { a' with tmps := a'.tmps.setIfInBounds d v } := by rw [hd]; rfl
    refine ih _ _ _ ?_ ?_
    · have := left_set ops.size listed i hilt hun (by omega)
      omega
    · rw [hput]
      refine ⟨by simp [h1], by simp [h2], h3, h4.trans hb, fun t ht => ?_, fun j hj => ?_⟩
      · have htd : d ≠ t := by
          intro e
          subst e
          unfold isDst at ht
          have hf := List.any_eq_false.1 ht o (Array.mem_toList_iff.2 (Array.mem_of_getElem? ho))
          rw [hd] at hf
          simp at hf
        show (a'.tmps.setIfInBounds d v)[t]? = _
        rw [Array.getElem?_setIfInBounds_ne htd]
        exact h5 t ht
      · by_cases hji : j = i
        · subst hji
          exact ⟨v, by show (a'.tmps.setIfInBounds d v)[dstOf ops j]? = _; rw [hdo]; simp [hdlt], hv⟩
        · have hjl : listed.getD j false = true := by
            rw [getD_set_ne false (Ne.symm hji)] at hj
            exact hj
          obtain ⟨u, hu, hru⟩ := h6 j hjl
          have hjs : j < ops.size := by
            apply Nat.lt_of_not_le
            intro hle
            have : listed.getD j false = false := by simp [Array.getD, show ¬ j < listed.size by omega]
            rw [this] at hjl
            cases hjl
          refine ⟨u, ?_, hR j u _ _ hru hb⟩
          show (a'.tmps.setIfInBounds d v)[dstOf ops j]? = _
          rw [Array.getElem?_setIfInBounds_ne (Ne.symm (hne j hji hjs))]
          exact hu
theorem wp_region_each {P : Program} {ops : Array Oper} {Q : Exit → Act → World → Prop} {a : Act} {w : World} {id : Nat} (R : Nat → Value → World → Prop) (hm : P.follows .mixedOrders = true)
    (hR : ∀ i v w w', R i v w → Bel w w' → R i v w') (hs : eachOk ops a.tmps.size = true) (ha : acyc 0 ops.toList = true) (he : Each P ops Q R a w.drew 0 ops.toList)
    (hend : ∀ a' w', Bel w.drew w' → a'.defers = a.defers → (∀ t, isDst ops t = false → a'.tmps[t]? = a.tmps[t]?) → (∀ j, j < ops.size → Got ops R a' w' j) → Q .normal a' w') :
    (Code.region id ops true).wp P Q a w :=
  wp_region_any hm (wpAny_each hR hs ha he hend ops.size _ a _ (by
    unfold left
    exact Nat.le_trans (List.length_filter_le _ _) (by simp)) ⟨by simp, rfl, rfl, Bel.refl _, fun _ _ => rfl, fun j hj => by
      exfalso
      by_cases h : j < ops.size
      · simp [Array.getD, h] at hj
      · simp [Array.getD, h] at hj⟩)
/-! How an operation pays. -/
theorem ev {a : Act} {t : Tmp} {v : Value} (h : a.tmps[t]? = some v) : a.eval (.tmp t) = v := by
  show a.tmps.getD t undef = v
  obtain ⟨h1, h2⟩ := Array.getElem?_eq_some_iff.1 h
  simp [Array.getD, h1, h2]
theorem pay_same {P : Program} {ops : Array Oper} {Q : Exit → Act → World → Prop} {R : Nat → Value → World → Prop} {i : Nat} {o : Oper} {a' : Act} {w' : World} {v : Value}
    (hw : Region.wanted o (yielded ops a'.tmps) = true) (h : (execOp a'.eval o).run P w' = .ok (.value v) w') (hr : R i v w') :
    Region.wanted o (yielded ops a'.tmps) = true ∧ o.wp P a' w' (fun a'' w'' => ∃ v, a'' = a'.put o.dst v ∧ R i v w'' ∧ Bel w' w'') Q := by
  refine ⟨hw, ?_⟩
  unfold Oper.wp
  rw [h]
  exact ⟨v, rfl, hr, Bel.refl _⟩
theorem pay_new {P : Program} {ops : Array Oper} {Q : Exit → Act → World → Prop} {R : Nat → Value → World → Prop} {i : Nat} {o : Oper} {a' : Act} {w' w2 : World} {v : Value}
    (hw : Region.wanted o (yielded ops a'.tmps) = true) (h : (execOp a'.eval o).run P w' = .ok (.value v) w2) (hr : R i v w2) (hb : Bel w' w2) :
    Region.wanted o (yielded ops a'.tmps) = true ∧ o.wp P a' w' (fun a'' w'' => ∃ v, a'' = a'.put o.dst v ∧ R i v w'' ∧ Bel w' w'') Q := by
  refine ⟨hw, ?_⟩
  unfold Oper.wp
  rw [h]
  exact ⟨v, rfl, hr, hb⟩
theorem pay_call {P : Program} {ops : Array Oper} {Q : Exit → Act → World → Prop} {R : Nat → Value → World → Prop} {i : Nat} {o : Oper} {a' : Act} {w' : World} {f : FuncId} {args : Array Value}
    (hw : Region.wanted o (yielded ops a'.tmps) = true) (h : (execOp a'.eval o).run P w' = .ok (.enter f args) w') (hc : Calls P f args w' fun e w2 => ∃ v, e = .returned v ∧ R i v w2 ∧ Bel w' w2) :
    Region.wanted o (yielded ops a'.tmps) = true ∧ o.wp P a' w' (fun a'' w'' => ∃ v, a'' = a'.put o.dst v ∧ R i v w'' ∧ Bel w' w'') Q := by
  refine ⟨hw, ?_⟩
  unfold Oper.wp
  rw [h]
  refine hc.mono ?_
  rintro e w2 ⟨v, rfl, hr, hb⟩
  exact ⟨v, rfl, hr, hb⟩
theorem wants {ops : Array Oper} {o : Oper} {tmps : Array Value} {g : Nat} {d : Tmp} {b : Bool} (hg : o.guard = some (g, b)) (hd : (ops[g]?).bind (·.dst) = some d) (h : tmps[d]? = some (.bool b)) : Region.wanted o (yielded ops tmps) = true := by
  unfold Region.wanted yielded
  rw [hg]
  simp [hd, h]
/-- The end of a function whose one result lies in a slot. -/
theorem ret_slot {P : Program} {fn : Func} {R : Ending → World → Prop} {a : Act} {w : World} {t : Tmp} {v : Value} (hf : fn.results = #[.tmp t]) (h : a.tmps[t]? = some v) (hd : a.defers = []) (hR : R (.returned v) w) : bodyPost P fn R .ret a w := by
  have e : a.tmps.getD t undef = v := ev h
  refine bodyPost_ret (v := v) ?_ hd hR
  rw [results_tmp hf, e]
/-- A call that panics. -/
theorem pay_panic {P : Program} {ops : Array Oper} {Q : Exit → Act → World → Prop} {R : Nat → Value → World → Prop} {i : Nat} {o : Oper} {a' : Act} {w' : World} {f : FuncId} {args : Array Value} {ch : List PanicEntry}
    (hw : Region.wanted o (yielded ops a'.tmps) = true) (h : (execOp a'.eval o).run P w' = .ok (.enter f args) w') (hc : Calls P f args w' fun e w2 => e = .panicked ch ∧ Q (.panic ch) a' w2) :
    Region.wanted o (yielded ops a'.tmps) = true ∧ o.wp P a' w' (fun a'' w'' => ∃ v, a'' = a'.put o.dst v ∧ R i v w'' ∧ Bel w' w'') Q := by
  refine ⟨hw, ?_⟩
  unfold Oper.wp
  rw [h]
  refine hc.mono ?_
  rintro e w2 ⟨rfl, hq⟩
  exact hq
/-- What each operation gives: a known value; whatever; nothing, for it never ends. -/
inductive Kind where
  | val (c : Value)
  | some
  | never
def Kind.ok : Kind → Value → Prop
  | .val c, v => v = c
  | .some, _ => True
  | .never, _ => False
def RK (Ks : List Kind) (i : Nat) (v : Value) (_ : World) : Prop := match Ks[i]? with
  | some k => k.ok v
  | none => False
theorem RK_mono (Ks : List Kind) (i : Nat) (v : Value) (w w' : World) (h : RK Ks i v w) (_ : Bel w w') : RK Ks i v w' := h
theorem got {ops : Array Oper} {Ks : List Kind} {a : Act} {w : World} {j : Nat} {d : Tmp} {c : Value} (h : Got ops (RK Ks) a w j) (hd : dstOf ops j = d) (hk : Ks[j]? = some (.val c)) : a.tmps[d]? = some c := by
  obtain ⟨v, hv, hr⟩ := h
  unfold RK at hr
  rw [hk] at hr
  have hr' : v = c := hr
  rw [← hd, hv, hr']
theorem got_never {ops : Array Oper} {Ks : List Kind} {a : Act} {w : World} {j : Nat} (h : Got ops (RK Ks) a w j) (hk : Ks[j]? = some .never) : False := by
  obtain ⟨v, hv, hr⟩ := h
  unfold RK at hr
  rw [hk] at hr
  exact hr
end Go.Proofs.Ytbbhgmdpafhbeaa
