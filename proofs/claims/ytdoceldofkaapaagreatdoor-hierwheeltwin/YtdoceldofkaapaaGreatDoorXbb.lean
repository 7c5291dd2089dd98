/-
  Contract of a wheel's cut: those of a list that are due are taken out.
  Which slots a Due visits, how many, and what is left behind each; as plain mathematics.
  The wheel's slots, told one by one: a labelled loop in a function that is ranged over.
  What holds in memory behind each slot that a Due visits.
  What a Due's rounds keep.
-/
import Derived.Test.YtdoceldofkaapaaGreatDoorXba
import Derived.Test.YtdoceldofkaapaaGreatDoorXab
import Derived.Test.YtdoceldofkaapaaGreatDoorXau
import Derived.Test.YtdoceldofkaapaaGreatDoorXav
import Derived.Test.YtdoceldofkaapaaGreatDoorXam
import Derived.BigRegion
import Derived.BigQuiet
import Derived.Test.YtdoceldofkaapaaGreatDoorXaw
set_option linter.unusedVariables false
set_option linter.unusedSimpArgs false
namespace Go.Proofs.YtdoceldofkaapaaGreatDoor.Ha
open Go.RowKit
section
variable {Q Z B G R P b : Nat} {s k : Int} {l : List T}
set_option maxHeartbeats 2000000 in
theorem cut_any {t : Nat} (now : Int) (w : World) (q : Wh w Q Z B G R P b s k l) (ht : t < slo b + 1) :
    Calls Tryz.prog 76 #[.pointer (some ⟨Q, 0, none⟩), .int .i64 t, .int .u64 now] w fun e w' => (∃ d v, d.Perm (dueIn (slo b) s now t l) ∧ e = .returned v ∧ OwnT w' w.heap.size v d) ∧ Wh w' Q Z B G R P b s k (leftIn (slo b) s now t l) ∧ Off (Fo Q G R) w w' := by
  obtain ⟨⟨ls, r, F, q1, q2⟩, q3⟩ := q
  have K1 : Hid (Calls Tryz.prog 105 #[.pointer (some ⟨Z, 0, none⟩), .int .i64 t, .int .u64 now] w fun e w' => (∃ d v, d.Perm (dueIn (slo b) s now t l) ∧ e = .returned v ∧ OwnT w' w.heap.size v d) ∧ (∃ ls' r', Qp w' Z B G R P (slo b + 1) (lof (slo b) s) ls' r' (leftIn (slo b) s now t l) ∧ Sb (slo b + 1) ls r ls' r' ∧ ∀ u, u ≠ t → ls' u = ls u) ∧ Off (Fo2 G R) w w') := Lib.hid (pcut_any ht now w q1.ql)
  have HQ := Lib.hid q1
  have c0 : w.cell? ⟨Q, 0, none⟩ = some (.pointer (some ⟨Z, 0, none⟩)) := q1.cell rfl
  have HF : Hid (∀ i, Fo Q G R i → i < w.heap.size) := Lib.hid (fun i e => by obtain ⟨a1, a2, a3, a4, a5⟩ := q1.lt; rcases e with e | e | e <;> omega)
  have K2 : Hid (∀ w1 ls' r', Qw w1 Q Z B G R P (slo b + 1) (lof (slo b) s) ls' r' 52 (hcells Z (slo b) s F k) (leftIn (slo b) s now t l) → (∀ u, u ≠ t → ls' u = ls u) → Rest w1 Q Z B G R b s (leftIn (slo b) s now t l) →
      Calls Tryz.prog 74 #[.pointer (some ⟨Q, 0, none⟩), .int .i64 t] w1 fun e w' => e = .returned (.tuple #[]) ∧ Wh w' Q Z B G R P b s k (leftIn (slo b) s now t l) ∧ Off (Fo Q G R) w1 w') :=
    Lib.hid (fun w1 ls' r' h1 h2 h3 => mark_wh w1 h1 q2 ht h2 h3)
  have KR : Hid (∀ w1, Off (Fo2 G R) w w1 → Rest w1 Q Z B G R b s (leftIn (slo b) s now t l)) := Lib.hid (fun w1 ho => (q3.sub leftIn_sub).off ho q3.fo2)
  have lQ := q1.ltQ
  clear q1 q2 q3
  go_enter Tryz.func76, Tryz.ntmps76
  go_wp2_with fail
  with_reducible refine K1.out.mono ?_
  rintro e w1 ⟨⟨d, v, hd, rfl, hv⟩, ⟨ls', r', hq, hsb, hls⟩, ho⟩
  have KX := Lib.hid (K2.out w1 ls' r' (HQ.out.put ho hq) hls (KR.out w1 ho))
  have HD := Lib.hid hd
  have HV := Lib.hid hv
  have HO := Lib.hid ho
  clear hd hv hq hsb hls ho K1
  go_wp2_with fail
  with_reducible refine KX.out.mono ?_
  rintro e w2 ⟨rfl, hq2, ho2⟩
  have HQ2 := Lib.hid hq2
  have HV2 := Lib.hid (HV.out.off ho2 HF.out)
  have HO2 : Hid (Off (Fo Q G R) w w2) := Lib.hid (HO.out.foG.then ho2)
  clear hq2 ho2
  go_wp2
  go_ret
  exact ⟨⟨_, _, HD.out, rfl, HV2.out⟩, HQ2.out, HO2.out⟩
end
end Go.Proofs.YtdoceldofkaapaaGreatDoor.Ha
namespace Go.Proofs.YtdoceldofkaapaaGreatDoor.Ha
/-- How far behind the base's next slot a slot stands. -/
def pos (S f i : Nat) : Nat := (i + (S - f)) % S
theorem pos_hi {S f i : Nat} (h : f ≤ i) (hi : i < S) : pos S f i = i - f := by
  unfold pos
  have e : i + (S - f) = (i - f) + S := by omega
  rw [e, Nat.add_mod_right, Nat.mod_eq_of_lt (by omega)]
theorem pos_lo {S f i : Nat} (h : i < f) (hf : f < S) : pos S f i = i + S - f := by
  unfold pos
  rw [Nat.mod_eq_of_lt (by omega)]
  omega
section
variable {F : Nat → Nat} {S f n : Nat}
theorem cur_zero : cur F S f n 0 = sg F f (f + n) := by unfold cur; congr 1 <;> simp <;> omega
theorem cur_one (hf : f < S) : cur F S f n 1 = sg F 0 (f + n - S) := by
  unfold cur
  congr 1
  · simp; omega
  · simp; omega
theorem mem_yss (hz : ∀ i, Bm.tb F i = true → i < S) (hf : f < S) (hn : n ≤ S) {i : Nat} : i ∈ yss F S f n ↔ Bm.tb F i = true ∧ pos S f i < n := by
  unfold yss
  rw [List.mem_append, cur_zero, cur_one hf, sg_mem, sg_mem]
  constructor
  · rintro (⟨h1, h2, h3⟩ | ⟨h1, _, h3⟩)
    · exact ⟨h3, by rw [pos_hi h2 (hz i h3)]; omega⟩
    · exact ⟨h3, by rw [pos_lo (by omega) hf]; omega⟩
  · rintro ⟨h3, h4⟩
    have hi := hz i h3
    by_cases h : f ≤ i
    · rw [pos_hi h hi] at h4
      exact .inl ⟨by omega, h, h3⟩
    · rw [pos_lo (by omega) hf] at h4
      exact .inr ⟨by omega, Nat.zero_le _, h3⟩
theorem yss_nodup (hf : f < S) (hn : n ≤ S) : (yss F S f n).Nodup := by
  unfold yss
  rw [cur_zero, cur_one hf, List.nodup_append]
  refine ⟨sg_nodup _ _ _, sg_nodup _ _ _, fun a ha b hb e => ?_⟩
  have h1 := sg_mem.1 ha
  have h2 := sg_mem.1 hb
  omega
theorem yss_order (hz : ∀ i, Bm.tb F i = true → i < S) (hf : f < S) (hn : n ≤ S) : (yss F S f n).Pairwise fun i j => pos S f i < pos S f j := by
  unfold yss
  rw [cur_zero, cur_one hf, List.pairwise_append]
  refine ⟨(sg_lt _ _ _).imp_of_mem ?_, (sg_lt _ _ _).imp_of_mem ?_, ?_⟩
  · intro a b ha hb hab
    have h1 := sg_mem.1 ha
    have h2 := sg_mem.1 hb
    rw [pos_hi h1.2.1 (hz _ h1.2.2), pos_hi h2.2.1 (hz _ h2.2.2)]
    omega
  · intro a b ha hb hab
    have h1 := sg_mem.1 ha
    have h2 := sg_mem.1 hb
    rw [pos_lo (by omega) hf, pos_lo (by omega) hf]
    omega
  · intro a ha b hb
    have h1 := sg_mem.1 ha
    have h2 := sg_mem.1 hb
    have := hz _ h1.2.2
    rw [pos_hi h1.2.1 this, pos_lo (by omega) hf]
    omega
end
/-- How far a timer's slot stands. -/
theorem pos_slt {S : Nat} {s : Int} {x : T} (h0 : 4 ≤ S) (hs : Tk s) (hx : Tk x.a) (h : s < x.a) : pos S (fs S s) (slt S x) = ((x.a - s - 1) % (S : Int)).toNat := by
  have hf := fs_lt (S := S) (by omega) s
  have e : ((fs S s : Nat) : Int) = (s + 1) % (S : Int) := by
    unfold fs
    obtain ⟨h1, h2⟩ := hx
    rw [if_neg (by omega)]
    have := Int.emod_nonneg (s + 1) (b := (S : Int)) (by omega)
    omega
  have e2 : ((slt S x : Nat) : Int) = x.a % (S : Int) := by
    unfold slt
    have := Int.emod_nonneg x.a (b := (S : Int)) (by omega)
    omega
  have e3 : ((pos S (fs S s) (slt S x) : Nat) : Int) = (x.a - s - 1) % (S : Int) := by
    unfold pos
    rw [Int.natCast_emod, Int.natCast_add, Int.natCast_sub (Nat.le_of_lt hf), e, e2]
    have q : x.a % (S : Int) + ((S : Int) - (s + 1) % (S : Int)) = (x.a % (S : Int) - (s + 1) % (S : Int)) + (S : Int) := by omega
    rw [q, Int.add_emod_right, ← Int.sub_emod]
    congr 1
    omega
  omega
/-- Which slots have something. -/
theorem Fl.iff {P S : Nat} {s : Int} {ls : Ls} {r : Nat → T} {F : Nat → Nat} {l : List T} (h : Fl S ls F) (hi : Is P (S + 1) (lof S s) ls r l) (i : Nat) : Bm.tb F i = true ↔ i < S ∧ ∃ x ∈ l, lof S s x = i := by
  rw [h.on i]
  constructor
  · rintro ⟨h1, h2⟩
    obtain ⟨y, hy⟩ := List.exists_mem_of_ne_nil _ h2
    obtain ⟨x, hx, _, e⟩ := hi.al i (by omega) y hy
    exact ⟨h1, x, hx, e⟩
  · rintro ⟨h1, x, hx, e⟩
    obtain ⟨_, _, _, _, h5⟩ := hi.tm x hx
    rw [e] at h5
    exact ⟨h1, List.ne_nil_of_mem h5⟩
theorem lof_slot {S : Nat} {s : Int} {x : T} {i : Nat} (h : lof S s x = i) (hi : i < S) : s < x.a ∧ slt S x = i := by
  unfold lof at h
  split at h
  · omega
  · exact ⟨by omega, h⟩
theorem lof_of {S : Nat} {s : Int} {x : T} (h : s < x.a) : lof S s x = slt S x := by unfold lof; rw [if_neg (by omega)]
/-- What is left behind the lists V, and what was taken. -/
def vsL (S : Nat) (s now : Int) (V : List Nat) (l : List T) : List T := l.filter fun y => !(V.contains (lof S s y) && decide (y.a ≤ now))
def vsA (S : Nat) (s now : Int) (V : List Nat) (l : List T) : List T := l.filter fun y => V.contains (lof S s y) && decide (y.a ≤ now)
section
variable {S : Nat} {s now : Int} {V : List Nat} {l : List T} {t : Nat}
theorem vsL_nil : vsL S s now [] l = l := by
  unfold vsL
  rw [List.filter_eq_self]
  intro y _
  simp
theorem vsL_next : leftIn S s now t (vsL S s now V l) = vsL S s now (V ++ [t]) l := by
  unfold leftIn vsL
  rw [List.filter_filter]
  congr 1
  funext y
  simp only [List.contains_append, List.contains_cons, List.contains_nil, Bool.or_false]
  have e : (lof S s y == t) = decide (lof S s y = t) := rfl
  rw [e]
  cases V.contains (lof S s y) <;> cases decide (y.a ≤ now) <;> simp
theorem vsL_mem {y : T} : y ∈ vsL S s now V l ↔ y ∈ l ∧ ¬ (lof S s y ∈ V ∧ y.a ≤ now) := by
  unfold vsL
  rw [List.mem_filter]
  simp only [Bool.not_eq_true', Bool.and_eq_false_imp, List.contains_iff_mem, decide_eq_false_iff_not, not_and]
theorem vsA_next (hl : l.Nodup) (ht : t ∉ V) {acc d : List T} (ha : acc.Perm (vsA S s now V l)) (hd : d.Perm (dueIn S s now t (vsL S s now V l))) : (acc ++ d).Perm (vsA S s now (V ++ [t]) l) := by
  refine (ha.append hd).trans ?_
  have hn1 : (vsA S s now V l).Nodup := hl.filter _
  have hn2 : (dueIn S s now t (vsL S s now V l)).Nodup := (hl.filter _).filter _
  refine (List.perm_ext_iff_of_nodup (List.nodup_append.2 ⟨hn1, hn2, ?_⟩) (hl.filter _)).2 fun y => ?_
  · intro a ha b hb e
    subst e
    unfold vsA at ha
    unfold dueIn at hb
    rw [List.mem_filter] at ha hb
    simp at ha hb
    rw [hb.2.1] at ha
    exact ht ha.2.1
  · unfold vsA dueIn
    rw [List.mem_append, List.mem_filter, List.mem_filter, List.mem_filter, vsL_mem]
    simp only [List.contains_append, List.contains_cons, List.contains_nil, Bool.or_false, Bool.and_eq_true, Bool.or_eq_true, decide_eq_true_eq, List.contains_iff_mem, beq_iff_eq]
    constructor
    · rintro (⟨h1, h2, h3⟩ | ⟨⟨h1, _⟩, h2, h3⟩)
      · exact ⟨h1, .inl h2, h3⟩
      · exact ⟨h1, .inr h2, h3⟩
    · rintro ⟨h1, h2 | h2, h3⟩
      · exact .inl ⟨h1, h2, h3⟩
      · exact .inr ⟨⟨h1, fun e => ht (by rw [← h2]; exact e.1)⟩, h2, h3⟩
end
/-- How many ticks a Due goes through, as slots. -/
def nTk (S : Nat) (s now : Int) : Nat := (min (gap now s) (S : Int)).toNat
theorem nTk_le {S : Nat} {s now : Int} : nTk S s now ≤ S := by unfold nTk; omega
section
variable {P S : Nat} {s now : Int} {ls : Ls} {r : Nat → T} {F : Nat → Nat} {l : List T}
theorem Fl.hz (h : Fl S ls F) : ∀ i, Bm.tb F i = true → i < S := fun i e => ((h.on i).1 e).1
theorem mem_visited (h : Fl S ls F) (hi : Is P (S + 1) (lof S s) ls r l) (h0 : 4 ≤ S) (hs : Tk s) (hl : ∀ t ∈ l, Tk t.a) {i : Nat} : i ∈ yss F S (fs S s) (nTk S s now) ↔ ∃ x ∈ l, s < x.a ∧ slt S x = i ∧ (x.a - s - 1) % (S : Int) < now - s := by
  have hf := fs_lt (S := S) (by omega) s
  rw [mem_yss h.hz hf nTk_le, h.iff hi]
  have key : ∀ x ∈ l, s < x.a → slt S x = i → (pos S (fs S s) i < nTk S s now ↔ (x.a - s - 1) % (S : Int) < now - s) := by
    intro x hx h1 h2
    rw [← h2, pos_slt h0 hs (hl x hx) h1]
    have a1 := Int.emod_nonneg (x.a - s - 1) (b := (S : Int)) (by omega)
    have a2 := Int.emod_lt_of_pos (x.a - s - 1) (b := (S : Int)) (by omega)
    generalize (x.a - s - 1) % (S : Int) = z at *
    unfold nTk gap
    split <;> omega
  constructor
  · rintro ⟨⟨h1, x, hx, e⟩, h2⟩
    obtain ⟨h3, h4⟩ := lof_slot e h1
    exact ⟨x, hx, h3, h4, (key x hx h3 h4).1 h2⟩
  · rintro ⟨x, hx, h3, h4, h5⟩
    exact ⟨⟨by rw [← h4]; exact slt_lt (by omega) x, x, hx, by rw [lof_of h3]; exact h4⟩, (key x hx h3 h4).2 h5⟩
theorem visited_len (h : Fl S ls F) (hi : Is P (S + 1) (lof S s) ls r l) (h0 : 4 ≤ S) (hs : Tk s) (hl : ∀ t ∈ l, Tk t.a) : (yss F S (fs S s) (nTk S s now)).length = lks S s now l := by
  have hf := fs_lt (S := S) (by omega) s
  unfold lks
  by_cases hle : now ≤ s
  · rw [if_pos hle]
    apply Nat.eq_zero_of_le_zero
    apply Nat.le_of_not_lt
    intro hp
    obtain ⟨i, hi2⟩ := List.exists_mem_of_length_pos hp
    obtain ⟨x, _, _, _, h5⟩ := (mem_visited h hi h0 hs hl).1 hi2
    have a1 := Int.emod_nonneg (x.a - s - 1) (b := (S : Int)) (by omega)
    omega
  · rw [if_neg hle]
    unfold mks
    rw [List.countP_map, List.countP_eq_length_filter]
    refine List.Perm.length_eq ((List.perm_ext_iff_of_nodup (yss_nodup hf nTk_le) ((List.nodup_range (n := S)).filter _)).2 fun i => ?_)
    rw [mem_visited h hi h0 hs hl, List.mem_filter, List.mem_range]
    simp only [Function.comp, List.any_eq_true, Bool.and_eq_true, decide_eq_true_eq]
    unfold hit
    simp only [Bool.and_eq_true, decide_eq_true_eq]
    constructor
    · rintro ⟨x, hx, h3, h4, h5⟩
      exact ⟨by rw [← h4]; exact slt_lt (by omega) x, x, hx, ⟨h3, h5⟩, h4⟩
    · rintro ⟨_, x, hx, ⟨h3, h5⟩, h4⟩
      exact ⟨x, hx, h3, h4, h5⟩
/-- Behind all slots that are visited, and the list of those that are ready, no one is due. -/
theorem all_visited (h : Fl S ls F) (hi : Is P (S + 1) (lof S s) ls r l) (h0 : 4 ≤ S) (hs : Tk s) (hl : ∀ t ∈ l, Tk t.a) {y : T} (hy : y ∈ l) (hd : y.a ≤ now) : lof S s y ∈ S :: yss F S (fs S s) (nTk S s now) := by
  by_cases e : y.a ≤ s
  · have : lof S s y = S := by unfold lof; rw [if_pos e]
    rw [this]; simp
  · refine List.mem_cons_of_mem _ ((mem_visited h hi h0 hs hl).2 ⟨y, hy, by omega, by rw [lof_of (by omega)], ?_⟩)
    have a1 : (y.a - s - 1) % (S : Int) ≤ y.a - s - 1 := by
      have := Int.emod_add_mul_ediv (y.a - s - 1) (S : Int)
      have q : 0 ≤ (S : Int) * ((y.a - s - 1) / (S : Int)) := Int.mul_nonneg (by omega) (Int.ediv_nonneg (by omega) (by omega))
      omega
    omega
theorem due_end (h : Fl S ls F) (hi : Is P (S + 1) (lof S s) ls r l) (h0 : 4 ≤ S) (hs : Tk s) (hl : ∀ t ∈ l, Tk t.a) : vsL S s now (S :: yss F S (fs S s) (nTk S s now)) l = due l now false ∧ vsA S s now (S :: yss F S (fs S s) (nTk S s now)) l = due l now true := by
  constructor
  · unfold vsL due
    apply List.filter_congr
    intro y hy
    by_cases e : y.a ≤ now
    · have := all_visited h hi h0 hs hl hy e
      rw [List.contains_iff_mem.2 this]
      simp [e]
    · simp [e]
  · unfold vsA due
    apply List.filter_congr
    intro y hy
    by_cases e : y.a ≤ now
    · have := all_visited h hi h0 hs hl hy e
      rw [List.contains_iff_mem.2 this]
      simp [e]
    · simp [e]
end
end Go.Proofs.YtdoceldofkaapaaGreatDoor.Ha
namespace Go.Proofs.YtdoceldofkaapaaGreatDoor.Ha
open Go.RowKit Go.Shelf
attribute [local go_sem] Oper.semAt_some
theorem slots_new (Q n : Nat) (w : World) :
    Calls Tryz.prog 52 #[.pointer (some ⟨Q, 0, none⟩), .int .i64 n] w fun e w' =>
      ∃ Bq Bn, e = .returned (.func (.func 87) #[] #[.pointer (some ⟨Bq, 0, none⟩), .pointer (some ⟨Bn, 0, none⟩)]) ∧ w'.heap[Bq]? = some (.cells #[.pointer (some ⟨Q, 0, none⟩)] 25 (0, 0)) ∧ w'.heap[Bn]? = some (.cells #[.int .i64 n] 3 (0, 0)) ∧ Bel w w' ∧ w.heap.size ≤ Bq ∧ w.heap.size ≤ Bn := by
  have HX : Hid (((w.alloc (.cells #[.pointer (some ⟨Q, 0, none⟩)] 25)).alloc (.cells #[.int .i64 n] 3)).heap[w.heap.size]? = some (.cells #[.pointer (some ⟨Q, 0, none⟩)] 25 (0, 0)) ∧ ((w.alloc (.cells #[.pointer (some ⟨Q, 0, none⟩)] 25)).alloc (.cells #[.int .i64 n] 3)).heap[w.heap.size + 1]? = some (.cells #[.int .i64 n] 3 (0, 0))) := Lib.hid (by
    refine ⟨by rw [Below.heap_alloc _ _ _ (by simp), heap_alloc_new], ?_⟩
    have := heap_alloc_new (w.alloc (.cells #[.pointer (some ⟨Q, 0, none⟩)] 25)) (.cells #[.int .i64 n] 3)
    rw [World.size_alloc] at this; exact this)
  go_enter Tryz.func52, Tryz.ntmps52
  go_wp2
  go_ret
  exact ⟨_, _, rfl, HX.out.1, HX.out.2, ((Bel.refl _).alloc _ _).alloc _ _, by simp, by simp⟩
/-- What the function reads: its two boxes, and the wheel. -/
structure Sl (Bq Bn Q S n : Nat) (s : Int) (F : Nat → Nat) (V : World) : Prop where
  cq : V.cell? ⟨Bq, 0, none⟩ = some (.pointer (some ⟨Q, 0, none⟩))
  cn : V.cell? ⟨Bn, 0, none⟩ = some (.int .i64 n)
  c2 : V.cell? ⟨Q, 1, none⟩ = some (.int .i64 S)
  c3 : V.cell? ⟨Q, 2, none⟩ = some (.int .u64 s)
  c4 : V.cell? ⟨Q, 3, none⟩ = some (.int .u64 (F 0))
  c5 : V.cell? ⟨Q, 3 + 1, none⟩ = some (.int .u64 (F 1))
  c6 : V.cell? ⟨Q, 3 + 2, none⟩ = some (.int .u64 (F 2))
  c7 : V.cell? ⟨Q, 3 + 3, none⟩ = some (.int .u64 (F 3))
  tab : Bm.Tab V
  wd : Bm.Wd F
theorem Sl.bel {Bq Bn Q S n : Nat} {s : Int} {F : Nat → Nat} {V V' : World} (h : Sl Bq Bn Q S n s F V) (k : Bel V V') : Sl Bq Bn Q S n s F V' :=
  ⟨k.cell h.cq, k.cell h.cn, k.cell h.c2, k.cell h.c3, k.cell h.c4, k.cell h.c5, k.cell h.c6, k.cell h.c7, fun j hj => k.cell (h.tab j hj), h.wd⟩
/-- What is left in the bits behind k slots. -/
def Ms (Bq Bn Q S n : Nat) (s : Int) (F0 : Nat → Nat) (ys : List Nat) (k : Nat) (V : World) : Prop :=
  ∃ F, Sl Bq Bn Q S n s F V ∧ (∀ i, i < 256 → Bm.tb F i = true → Bm.tb F0 i = true) ∧ ∀ j y, k ≤ j → ys[j]? = some y → Bm.tb F y = true
theorem fs_eqs {S : Nat} {s : Int} (h0 : 4 ≤ S) (h1 : S ≤ 256) (hs : Tk s) : ∃ u : Int, IntKind.u64.wrap (s + 1) = u ∧ (S : Int) ≠ 0 ∧ IntKind.u64.wrap (S : Int) = S ∧ u.tmod (S : Int) = (fs S s : Nat) ∧ IntKind.u64.wrap ((fs S s : Nat) : Int) = (fs S s : Nat) ∧ IntKind.i64.wrap ((fs S s : Nat) : Int) = (fs S s : Nat) := by
  have hf := fs_lt (S := S) (by omega) s
  obtain ⟨s0, s1⟩ := hs
  by_cases h : s = 18446744073709551615
  · subst h
    have e : fs S 18446744073709551615 = 0 := by unfold fs; rw [if_pos rfl]
    rw [e]
    refine ⟨0, by decide, by omega, by rw [IntKind.wrap_u64]; omega, by simp, by decide, by decide⟩
  · have e : ((fs S s : Nat) : Int) = (s + 1) % (S : Int) := by
      unfold fs
      rw [if_neg h]
      have h2 := Int.emod_nonneg (s + 1) (b := (S : Int)) (by omega)
      omega
    refine ⟨s + 1, by rw [IntKind.wrap_u64]; omega, by omega, by rw [IntKind.wrap_u64]; omega, by rw [Int.tmod_eq_emod_of_nonneg (by omega), e], by rw [IntKind.wrap_u64]; omega, by rw [IntKind.wrap_i64]; omega⟩
set_option maxRecDepth 100000 in
set_option maxHeartbeats 2000000 in
theorem slots_feeds (m : Nat) (hm : 1 ≤ m) (Bq Bn Q S n : Nat) (s : Int) (F0 : Nat → Nat) (h0 : 4 ≤ S) (h1 : S ≤ 256) (hn : n ≤ S) (hs : Tk s) (hz : ∀ i, Bm.tb F0 i = true → i < S) (w : World) :
    Feeds Fence.wide m Tryz.prog 87 #[.pointer (some ⟨Bq, 0, none⟩), .pointer (some ⟨Bn, 0, none⟩)] (fun x => #[Value.int .i64 (x : Nat)]) (yss F0 S (fs S s) n) (Ms Bq Bn Q S n s F0 (yss F0 S (fs S s) n)) w := by
  intro l J Jx W _ hJ hM hY hJ0
  obtain ⟨u, u0, u1, u2, u3, u4, u5⟩ := fs_eqs h0 h1 hs
  have hf := fs_lt (S := S) (by omega) s
  generalize fs S s = f at *
  have HJ := Lib.hid hJ
  have HM := Lib.hid hM
  have HY := Lib.hid hY
  have H0 := Lib.hid hJ0
  obtain ⟨F, hsl, _, _⟩ := hM [] W hJ0
  obtain ⟨q1, q2, q3, q4, q5, q6, q7, q8, _, _⟩ := hsl
  clear hJ hM hY hJ0
  have HS4 := Lib.hid h0
  refine callsIn_wide.2 ?_
  go_enter Tryz.func87, Tryz.ntmps87
  go_wp2
  go_step3
  go_wp2
  go_quiet (fail)
  have HJd := Lib.hid (abides_bel HJ.out H0.out ((Bel.refl W).drewN nq))
  generalize W.drewN nq = W1 at *
  clear q1 q2 q3 q4 q5 q6 q7 q8 u0 u1 u2 u3 u4 u5 H0
  go_wp2
  go_step3
  go_wp2
  go_loopw [22] (fun v wr => ∃ (t : Nat) (pre : List Nat), v = .int .i64 t ∧ t ≤ 2 ∧ yss F0 S f n = pre ++ tlq F0 S f n t ∧ J pre wr) (fun v _ => 2 - (intOf v).toNat)
  case atStart => exact ⟨0, [], rfl, by omega, rfl, HJd.out⟩
  case round =>
    obtain ⟨t, pre, rfl, ht, hys, hj⟩ := hrel
    have HYS := Lib.hid hys
    have HJ1 := Lib.hid hj
    clear hys hj HJd
    by_cases hlt : t < 2
    · obtain ⟨F, hsl, _, _⟩ := HM.out pre wr HJ1.out
      obtain ⟨q1, q2, q3, q4, q5, q6, q7, q8, _, _⟩ := hsl
      clear q4 q5 q6 q7 q8
      have hmul : (t : Int) * (S : Int) = 0 ∨ (t : Int) * (S : Int) = S := by
        have : t = 0 ∨ t = 1 := by omega
        rcases this with rfl | rfl
        · exact .inl (by simp)
        · exact .inr (by simp)
      have HCU : Hid (tlq F0 S f n t = sg F0 ((f : Int) - (t : Int) * (S : Int)).toNat (((f + n : Nat) : Int) - (t : Int) * (S : Int)).toNat ++ tlq F0 S f n (t + 1)) := Lib.hid (tlq_cur hlt)
      obtain ⟨m1, hm1⟩ : ∃ m1, (t : Int) * (S : Int) = m1 := ⟨_, rfl⟩
      obtain ⟨a0, ha0⟩ : ∃ a0, (f : Int) - m1 = a0 := ⟨_, rfl⟩
      obtain ⟨b0, hb0⟩ : ∃ b0, ((f + n : Nat) : Int) = b0 := ⟨_, rfl⟩
      obtain ⟨z0, hz0⟩ : ∃ z0, b0 - m1 = z0 := ⟨_, rfl⟩
      rw [hm1, hb0, ha0, hz0] at HCU
      rw [hm1] at hmul
      have e1 : IntKind.i64.wrap ((t : Int) * (S : Int)) = m1 := by rw [hm1, IntKind.wrap_i64]; omega
      have e2 : IntKind.i64.wrap ((f : Int) - m1) = a0 := by rw [IntKind.wrap_i64]; omega
      have e3 : IntKind.i64.wrap ((f : Int) + (n : Int)) = b0 := by rw [IntKind.wrap_i64]; omega
      have e4 : IntKind.i64.wrap (b0 - m1) = z0 := by rw [IntKind.wrap_i64]; omega
      have hab : -256 ≤ a0 ∧ a0 ≤ 256 := by omega
      have hzb : -256 ≤ z0 ∧ z0 ≤ 512 := by omega
      clear hm1 ha0 hb0 hz0
      have hd : decide ((t : Int) < 2) = true := decide_eq_true (by omega)
      go_wp2
      go_quiet (fail)
      have HJd := Lib.hid (abides_bel HJ.out HJ1.out ((Bel.refl wr).drewN nq))
      generalize wr.drewN nq = W2 at *
      clear q1 q2 q3 e1 e2 e3 e4 hmul HJ1
      go_wp2
      go_loopw [6] (fun v wr => ∃ (a : Int) (pre : List Nat), v = .int .i64 a ∧ (-256 ≤ a ∧ a ≤ 256) ∧ yss F0 S f n = pre ++ (sg F0 a.toNat z0.toNat ++ tlq F0 S f n (t + 1)) ∧ J pre wr) (fun v _ => 257 - (intOf v).toNat)
      case atStart => exact ⟨a0, pre, rfl, hab, by rw [HYS.out, HCU.out], HJd.out⟩
      case round =>
        clear HJd HYS HCU
        obtain ⟨a, pre, rfl, ha, hys, hj⟩ := hrel
        have HYS := Lib.hid hys
        have HJ1 := Lib.hid hj
        obtain ⟨F, hsl, hsub, hon⟩ := HM.out pre _ hj
        have HSL := Lib.hid hsl
        have KN := Lib.hid (Bm.next_any F hsl.wd a (by omega) _ hsl.tab)
        obtain ⟨q1, q2, q3, q4, q5, q6, q7, q8, _, _⟩ := hsl
        clear hys hj
        cases hc : sg F0 a.toNat z0.toNat with
        | nil =>
          have HYE : Hid (yss F0 S f n = pre ++ tlq F0 S f n (t + 1)) := Lib.hid (by rw [HYS.out, hc]; rfl)
          rcases nx_miss hc hsub with hx | ⟨i, hx, hi1, hi2⟩
          · unfold nx at hx
            rw [hx] at KN
            unfold Bm.ans at KN
            clear hc hx hsub hon HYS
            go_wp2_with fail
            with_reducible refine KN.out.mono ?_
            rintro e w3 ⟨rfl, hb⟩
            have HJ3 := Lib.hid (abides_bel HJ.out HJ1.out (bm_bel hb))
            clear hb KN
            go_wp2
            go_roundw
            case rel => exact ⟨t + 1, pre, by go_num, by omega, HYE.out, HJ3.out⟩
            case measure => simp [intOf]; omega
          · unfold nx at hx
            rw [hx] at KN
            unfold Bm.ans at KN
            have hge : z0 ≤ (i : Int) := by omega
            clear hc hx hsub hon HYS
            go_wp2_with fail
            with_reducible refine KN.out.mono ?_
            rintro e w3 ⟨rfl, hb⟩
            have HJ3 := Lib.hid (abides_bel HJ.out HJ1.out (bm_bel hb))
            clear hb KN
            go_wp2
            go_roundw
            case rel => exact ⟨t + 1, pre, by go_num, by omega, HYE.out, HJ3.out⟩
            case measure => simp [intOf]; omega
        | cons y r =>
          obtain ⟨h2, h3, h4, h5, h6⟩ := sg_cons hc
          have hyS := hz y h4
          have hpl : (yss F0 S f n)[pre.length]? = some y := by rw [HYS.out, hc]; simp
          have hx := nx_hit h2 (by omega) (hon _ y (Nat.le_refl _) hpl) h5 hsub
          unfold nx at hx
          rw [hx] at KN
          unfold Bm.ans at KN
          have hlt2 : (y : Int) < z0 := by omega
          have HPre : Hid (pre ++ [y] <+: yss F0 S f n) := Lib.hid (by rw [HYS.out, hc]; exact ⟨r ++ tlq F0 S f n (t + 1), by simp⟩)
          have HYN : Hid (yss F0 S f n = (pre ++ [y]) ++ (sg F0 ((y : Int) + 1).toNat z0.toNat ++ tlq F0 S f n (t + 1))) := Lib.hid (by
            have e : ((y : Int) + 1).toNat = y + 1 := by omega
            rw [HYS.out, hc, e, ← h6]
            simp)
          have HA2 : Hid (257 - ((y : Int) + 1).toNat < 257 - a.toNat) := Lib.hid (by omega)
          clear hc hx hsub hon HYS hpl h5 h6
          go_wp2_with fail
          with_reducible refine KN.out.mono ?_
          rintro e w3 ⟨rfl, hb⟩
          have HJ3 := Lib.hid (abides_bel HJ.out HJ1.out (bm_bel hb))
          clear hb KN q1 q2 q3 q4 q5 q6 q7 q8
          go_upto_region 7 with (fail)
          obtain ⟨fn, tmps, assign, body, hyy, hR⟩ := HY.out pre y _ HPre.out HJ3.out
          have hya : Sem.run Tryz.prog (Instr.yield l #[.int .i64 (y : Int)]) w3 = .ok (.round l fn tmps assign body) w3 := hyy
          clear hyy
          refine (wpIn_wide (n := m)).1 ?_
          gi_wp2
          refine hR.mono ?_
          rintro e w5 (⟨rfl, hj5⟩ | ⟨rfl, hx5⟩)
          · have HJ5 := Lib.hid hj5
            clear hj5 hya hR
            gi_wp2
            go_wp2
            go_roundw
            case rel => exact ⟨(y : Int) + 1, pre ++ [y], by go_num, by omega, HYN.out, HJ5.out⟩
            case measure => exact HA2.out
          · gi_wp2
            go_wp2
            try rw [Exit.noGoto_normal]
            try rw [Exit.noGoto_ret]
            go_end0
            exact ⟨⟨_, rfl⟩, .inr ⟨_, HPre.out, hx5⟩⟩
    · obtain rfl : t = 2 := by omega
      have HE : Hid (pre = yss F0 S f n) := Lib.hid (by rw [HYS.out, tlq_two]; simp)
      go_wp2
      try rw [Exit.noGoto_normal]
      try rw [Exit.noGoto_ret]
      go_end0
      exact ⟨⟨_, rfl⟩, .inl (by rw [← HE.out]; exact HJ1.out)⟩
end Go.Proofs.YtdoceldofkaapaaGreatDoor.Ha
namespace Go.Proofs.YtdoceldofkaapaaGreatDoor.Ha
open Go.RowKit
theorem wpListIn_append_any {F : Fence} {n : Nat} {w : World} {ops : Array Oper} {rest : List Oper} {o : Oper} {a : Act} {Q : Exit → Act → World → Prop} (hgd : o.guard = none) (s x : Operand)
    (ho : o.op = .call { callee := .builtin .append, args := #[s, x], argTypes := #[29, 29] })
    (base : Nat) (v : Value) (l : List T) (hs : a.eval s = v) (hown : OwnT w base v l) (p : Option Addr) (m c : Nat) (xs : List T) (hx : a.eval x = .slice p m c) (hm : xs.length = m) (hHas : Has w p xs)
    (h63 : l.length + m ≤ 1000000) (hbase : base ≤ w.heap.size)
    (h : ∀ v' w', OwnT w' base v' (l ++ xs) → w.grownBy w' v.ownBlock → (v' = .slice none 0 0 ↔ v = .slice none 0 0 ∧ m = 0) → wpListIn F n Tryz.prog ops Q rest (a.put o.dst v') w') : wpListIn F n Tryz.prog ops Q (o :: rest) a w := by
  refine wpListIn_plain hgd fun K hK => ?_
  obtain ⟨v', w', hr, h2, h3, h4⟩ := append_any w o.type base v l hown p m c xs hm hHas h63 hbase
  unfold Oper.wpIn
  refine ⟨?_, ?_⟩
  · simp [Oper.about, ho, resolve, Target.leads, Sem.run_pure]
  · rw [Oper.semAt_plain F _ _ (by rw [ho]; intro c hc; cases hc)]
    simp [execOp, ho, resolve, invoke, builtin, hs, hx, hr, Result.andThen]
    exact hK _ _ (h v' w' h2 h3 h4)
section
variable {w : World} {Q Z B G R P b : Nat} {s k : Int} {l : List T}
theorem Wh.cell (h : Wh w Q Z B G R P b s k l) : w.cell? ⟨Q, 1, none⟩ = some (.int .i64 (slo b : Nat)) ∧ w.cell? ⟨Q, 2, none⟩ = some (.int .u64 s) ∧ w.cell? ⟨Q, 7, none⟩ = some (.int .i64 k) ∧ ∀ j, w.frozen? ⟨Q, j, none⟩ = false := by
  obtain ⟨⟨ls, r, F, q1, q2⟩, q3⟩ := h
  exact ⟨q1.cell rfl, q1.cell rfl, q1.cell rfl, q1.froz⟩
theorem Wh.ty (h : Wh w Q Z B G R P b s k l) {i : Nat} (hi : Fo5 Q Z B G R i) : ∃ c t, w.heap[i]? = some (.cells c t (0, 0)) ∧ (t = 52 ∨ t = 99 ∨ t = 148 ∨ t = 145 ∨ (t = 37 ∧ i = R)) := by
  obtain ⟨⟨ls, r, F, q1, q2⟩, q3⟩ := h
  obtain ⟨⟨g, g1, _⟩, _⟩ := q1.ql
  rcases hi with rfl | rfl | rfl | rfl | rfl
  · exact ⟨_, _, q1.hQ, .inl rfl⟩
  · exact ⟨_, _, g1.hZ, .inr (.inl rfl)⟩
  · exact ⟨_, _, g1.ch.hB, .inr (.inr (.inl rfl))⟩
  · exact ⟨_, _, g1.ch.hG, .inr (.inr (.inr (.inl rfl)))⟩
  · exact ⟨_, _, g1.hR, .inr (.inr (.inr (.inr ⟨rfl, rfl⟩)))⟩
/-- How many were looked into is another number. -/
theorem Wh.looked (h : Wh w Q Z B G R P b s k l) (k' : Int) : Wh (w.setCell ⟨Q, 7, none⟩ (.int .i64 k')) Q Z B G R P b s k' l ∧ Off (Only Q) w (w.setCell ⟨Q, 7, none⟩ (.int .i64 k')) := by
  obtain ⟨⟨ls, r, F, q1, q2⟩, q3⟩ := h
  obtain ⟨a1, a2⟩ := q1.own (i := 7) (v := .int .i64 k') (cs' := hcells Z (slo b) s F k') (by omega) rfl
  exact ⟨⟨⟨ls, r, F, a1, q2⟩, q3.off a2 q3.only⟩, a2⟩
/-- The base has gone on, past none that pends. -/
theorem Wh.based (h : Wh w Q Z B G R P b s k l) (s' : Int) (hs' : Tk s') (he : ∀ x ∈ l, lof (slo b) s' x = lof (slo b) s x) : Wh (w.setCell ⟨Q, 2, none⟩ (.int .u64 s')) Q Z B G R P b s' k l ∧ Off (Only Q) w (w.setCell ⟨Q, 2, none⟩ (.int .u64 s')) := by
  obtain ⟨⟨ls, r, F, q1, q2⟩, q3⟩ := h
  obtain ⟨a1, a2⟩ := q1.own (i := 2) (v := .int .u64 s') (cs' := hcells Z (slo b) s' F k) (by omega) rfl
  have q4 : Rest w Q Z B G R b s' l := ⟨q3.hb, hs', q3.tl, q3.tab, q3.zs⟩
  exact ⟨⟨⟨ls, r, F, a1.other he, q2⟩, q4.off a2 q3.only⟩, a2⟩
end
/-- Behind the lists V: the wheel is what is left; in the box D is what was taken. -/
structure Ds (w : World) (Q Z B G R P b : Nat) (s k : Int) (l : List T) (now : Int) (V : List Nat) (bq bn D : Nat) (wr : World) : Prop where
  wh : Wh wr Q Z B G R P b s k (vsL (slo b) s now V l)
  cq : wr.heap[bq]? = some (.cells #[.pointer (some ⟨Q, 0, none⟩)] 25 (0, 0))
  cn : wr.heap[bn]? = some (.cells #[.int .u64 now] 22 (0, 0))
  du : ∃ v d, wr.heap[D]? = some (.cells #[v] 29 (0, 0)) ∧ OwnT wr w.heap.size v d ∧ d.Perm (vsA (slo b) s now V l)
  ge : w.heap.size ≤ bq ∧ w.heap.size ≤ bn ∧ w.heap.size ≤ D
  lw : Q < w.heap.size ∧ Z < w.heap.size ∧ B < w.heap.size ∧ G < w.heap.size ∧ R < w.heap.size
  off : Off (Fo Q G R) w wr
section
variable {w : World} {Q Z B G R P b : Nat} {s k : Int} {l : List T} {now : Int} {V : List Nat} {bq bn D : Nat} {wr wr' : World}
theorem fo4_lt {i n : Nat} (h : Q < n ∧ Z < n ∧ B < n ∧ G < n ∧ R < n) : Fo5 Q Z B G R i → i < n := fun e => by rcases e with e | e | e | e | e <;> omega
/-- It stays where only newer blocks turn, none of them of cells that it has. -/
theorem Ds.keep {f : Nat → Prop} (h : Ds w Q Z B G R P b s k l now V bq bn D wr) (o : Off f wr wr') (hf : ∀ i, f i → w.heap.size ≤ i ∧ ∀ c t, ¬ wr.heap[i]? = some (.cells c t (0, 0))) : Ds w Q Z B G R P b s k l now V bq bn D wr' := by
  obtain ⟨v, d, c1, c2, c3⟩ := h.du
  have hn : ∀ {i : Nat} {c : Array Value} {t : TypeId}, wr.heap[i]? = some (.cells c t (0, 0)) → ¬ f i := fun e hi => (hf _ hi).2 _ _ e
  have hlt : ∀ {i : Nat} {c : Array Value} {t : TypeId}, wr.heap[i]? = some (.cells c t (0, 0)) → i < wr.heap.size := fun e => (Array.getElem?_eq_some_iff.1 e).1
  refine ⟨h.wh.off o (fun i e hi => by have := (hf i hi).1; have := fo4_lt h.lw e; omega) (fun e => by have := (hf 0 e).1; have := h.lw.1; omega), (o.block bq (hlt h.cq) (hn h.cq)).trans h.cq, (o.block bn (hlt h.cn) (hn h.cn)).trans h.cn,
    ⟨v, d, (o.block D (hlt c1) (hn c1)).trans c1, c2.off2 o (fun i e => by obtain ⟨c, hc⟩ := c2.cells e; exact hn hc), c3⟩, h.ge, h.lw, Off.trans h.off o (fun i e => .inr (hf i e).1)⟩
theorem Ds.bel (h : Ds w Q Z B G R P b s k l now V bq bn D wr) (o : Bel wr wr') : Ds w Q Z B G R P b s k l now V bq bn D wr' := h.keep o (fun _ e => e.elim)
theorem Ds.own (h : Ds w Q Z B G R P b s k l now V bq bn D wr) {row : Option Nat} (hg : wr.grownBy wr' row) (hr : ∀ r, row = some r → w.heap.size ≤ r ∧ ∃ o : Obj, wr.heap[r]? = some o ∧ o.isCells = false) : Ds w Q Z B G R P b s k l now V bq bn D wr' := by
  have o : Off (fun k => row = some k) wr wr' := Off.grown (Off.refl _ wr) hg (fun k e => .inl e)
  refine h.keep o (fun i e => ?_)
  obtain ⟨h1, ob, h2, h3⟩ := hr i e
  refine ⟨h1, fun c t e2 => ?_⟩
  rw [h2] at e2
  cases e2
  cases h3
/-- Behind the list of those that are ready. -/
theorem ds_first {W0 Wx w2 : World} {d : List T} {p : Option Addr} {c : Nat} (h0 : Bel w W0) (c0 : W0.heap[bq]? = some (.cells #[.pointer (some ⟨Q, 0, none⟩)] 25 (0, 0))) (c1 : W0.heap[bn]? = some (.cells #[.int .u64 now] 22 (0, 0)))
    (hge : w.heap.size ≤ bq ∧ w.heap.size ≤ bn) (hlt : Q < w.heap.size ∧ Z < w.heap.size ∧ B < w.heap.size ∧ G < w.heap.size ∧ R < w.heap.size) (hln : l.Nodup) (hx : Bel W0 Wx) (o2 : Off (Fo Q G R) Wx w2)
    (hd : d.Perm (dueIn (slo b) s now (slo b) l)) (hown : OwnT w2 Wx.heap.size (.slice p d.length c) d) (hq2 : Wh w2 Q Z B G R P b s k (leftIn (slo b) s now (slo b) l))
    {g : Nat → Prop} (o3 : Off g w2 wr) (hg : ∀ i, g i → i = D) (hD : W0.heap.size ≤ D) (hDn : D < Wx.heap.size ∨ w2.heap.size ≤ D) (hDh : wr.heap[D]? = some (.cells #[.slice p d.length c] 29 (0, 0))) :
    Ds w Q Z B G R P b s k l now [slo b] bq bn D wr := by
  have z0 := h0.size
  have zx := hx.size
  have z2 := o2.size
  have l0 := (Array.getElem?_eq_some_iff.1 c0).1
  have l1 := (Array.getElem?_eq_some_iff.1 c1).1
  have e1 : leftIn (slo b) s now (slo b) l = vsL (slo b) s now [slo b] l := by
    have := vsL_next (S := slo b) (s := s) (now := now) (V := []) (l := l) (t := slo b)
    rwa [vsL_nil] at this
  have e2 : d.Perm (vsA (slo b) s now [slo b] l) := by
    have := vsA_next (S := slo b) (s := s) (now := now) (V := []) (l := l) (t := slo b) hln (by simp) (acc := []) (d := d) (by unfold vsA; simp) (by rw [vsL_nil]; exact hd)
    simpa using this
  have keep : ∀ i, i < W0.heap.size → w.heap.size ≤ i → wr.heap[i]? = W0.heap[i]? := fun i hi h2 => by
    rw [o3.block i (by omega) (fun e => by have := hg i e; omega), o2.block i (by omega) (fun e => by have := fo_lt hlt e; omega), hx.block i hi (fun e => e)]
  refine ⟨?_, (keep bq l0 hge.1).trans c0, (keep bn l1 hge.2).trans c1, ⟨_, d, hDh, ?_, e2⟩, ⟨hge.1, hge.2, by omega⟩, hlt, ?_⟩
  · rw [← e1]
    exact hq2.off o3 (fun i e e3 => by have := hg i e3; have := fo4_lt hlt e; omega) (fun e => by have := hg 0 e; omega)
  · refine (hown.low (by omega)).off2 o3 (fun i e e3 => ?_)
    have h1 := (hown.lt i e).1
    obtain ⟨cc, hc⟩ := hown.cells e
    have h2 := (Array.getElem?_eq_some_iff.1 hc).1
    have := hg i e3
    omega
  · refine Off.trans (Off.trans (h0.off _) ((hx.off (Fo Q G R)).then o2) (fun i e => .inl e)) o3 (fun i e => .inr (by have := hg i e; omega))
/-- How many were looked into is another number. -/
theorem Ds.looked (h : Ds w Q Z B G R P b s k l now V bq bn D wr) (k' : Int) : Ds w Q Z B G R P b s k' l now V bq bn D (wr.setCell ⟨Q, 7, none⟩ (.int .i64 k')) := by
  obtain ⟨a1, a2⟩ := h.wh.looked k'
  obtain ⟨v, d, c1, c2, c3⟩ := h.du
  obtain ⟨g1, g2, g3⟩ := h.ge
  have hlt : ∀ {i : Nat} {c : Array Value} {t : TypeId}, wr.heap[i]? = some (.cells c t (0, 0)) → i < wr.heap.size := fun e => (Array.getElem?_eq_some_iff.1 e).1
  have hQ := h.lw.1
  refine ⟨a1, (a2.block bq (hlt h.cq) (fun e => by have : bq = Q := e; omega)).trans h.cq, (a2.block bn (hlt h.cn) (fun e => by have : bn = Q := e; omega)).trans h.cn, ⟨v, d, (a2.block D (hlt c1) (fun e => by have : D = Q := e; omega)).trans c1, c2.off2 a2 (fun i e e2 => ?_), c3⟩, h.ge, h.lw, h.off.then (a2.mono (fun _ _ e => .inl e))⟩
  have := (c2.lt i e).1
  have : i = Q := e2
  omega
end
end Go.Proofs.YtdoceldofkaapaaGreatDoor.Ha
namespace Go.Proofs.YtdoceldofkaapaaGreatDoor.Ha
open Go.RowKit
structure Iv (w : World) (Q Z B G R P b : Nat) (s : Int) (l : List T) (now : Int) (bq bn D Bq Bn n : Nat) (ys pre : List Nat) (W : World) : Prop where
  pf : pre <+: ys
  ds : Ds w Q Z B G R P b s (pre.length : Nat) l now (slo b :: pre) bq bn D W
  bx : W.heap[Bq]? = some (.cells #[.pointer (some ⟨Q, 0, none⟩)] 25 (0, 0))
  bm : W.heap[Bn]? = some (.cells #[.int .i64 (n : Nat)] 3 (0, 0))
  gb : w.heap.size ≤ Bq ∧ w.heap.size ≤ Bn
section
variable {w : World} {Q Z B G R P b : Nat} {s : Int} {l : List T} {now : Int} {bq bn D Bq Bn n : Nat} {ys pre : List Nat} {W W' : World}
theorem Iv.own (h : Iv w Q Z B G R P b s l now bq bn D Bq Bn n ys pre W) {row : Option Nat} (hg : W.grownBy W' row) (hr : ∀ r, row = some r → w.heap.size ≤ r ∧ ∃ o : Obj, W.heap[r]? = some o ∧ o.isCells = false) : Iv w Q Z B G R P b s l now bq bn D Bq Bn n ys pre W' := by
  have o : Off (fun k => row = some k) W W' := Off.grown (Off.refl _ W) hg (fun k e => .inl e)
  have hn : ∀ {i : Nat} {c : Array Value} {t : TypeId}, W.heap[i]? = some (.cells c t (0, 0)) → ¬ row = some i := fun e e2 => by
    obtain ⟨_, ob, h2, h3⟩ := hr _ e2
    rw [h2] at e
    cases e
    cases h3
  have hlt : ∀ {i : Nat} {c : Array Value} {t : TypeId}, W.heap[i]? = some (.cells c t (0, 0)) → i < W.heap.size := fun e => (Array.getElem?_eq_some_iff.1 e).1
  exact ⟨h.pf, h.ds.own hg hr, (o.block Bq (hlt h.bx) (hn h.bx)).trans h.bx, (o.block Bn (hlt h.bm) (hn h.bm)).trans h.bm, h.gb⟩
theorem prefix_not {ys pre : List Nat} (hp : pre <+: ys) (hn : ys.Nodup) {j y : Nat} (hj : pre.length ≤ j) (hy : ys[j]? = some y) : y ∉ pre := by
  intro hm
  obtain ⟨r, hr⟩ := hp
  subst hr
  rw [List.getElem?_append_right hj] at hy
  have h2 : y ∈ r := List.mem_of_getElem? hy
  exact (List.nodup_append.1 hn).2.2 y hm y h2 rfl
theorem Iv.ms {F0 : Nat → Nat} (h : Iv w Q Z B G R P b s l now bq bn D Bq Bn n ys pre W) (hn : ys.Nodup) (hF : ∀ i, Bm.tb F0 i = true ↔ i < slo b ∧ ∃ x ∈ l, lof (slo b) s x = i) (hy : ∀ y ∈ ys, Bm.tb F0 y = true) :
    Ms Bq Bn Q (slo b) n s F0 ys pre.length W := by
  obtain ⟨⟨ls, r, F, q1, q2⟩, q3⟩ := h.ds.wh
  refine ⟨F, ⟨(box1 h.bx).1, (box1 h.bm).1, q1.cell rfl, q1.cell rfl, q1.cell rfl, q1.cell rfl, q1.cell rfl, q1.cell rfl, q3.tab, q2.wd⟩, fun i _ e => ?_, fun j y hj e => ?_⟩
  · obtain ⟨h1, x, hx, h2⟩ := (q2.iff q1.ql.is i).1 e
    exact (hF i).2 ⟨h1, x, (vsL_mem.1 hx).1, h2⟩
  · obtain ⟨h1, x, hx, h2⟩ := (hF y).1 (hy y (List.mem_of_getElem? e))
    refine (q2.iff q1.ql.is y).2 ⟨h1, x, vsL_mem.2 ⟨hx, fun e3 => ?_⟩, h2⟩
    rw [h2] at e3
    rcases List.mem_cons.1 e3.1 with e4 | e4
    · omega
    · exact prefix_not h.pf hn hj e e4
/-- What a round's call of cut is asked in, and what it leaves. -/
theorem Iv.step {v : Value} {d d2 : List T} {Wx w2 w3 : World} {p' : Option Addr} {n' c' x : Nat} (h : Iv w Q Z B G R P b s l now bq bn D Bq Bn n ys pre W) (hn : ys.Nodup) (hln : l.Nodup) (hys : ∀ y ∈ ys, y < slo b) (hx : pre ++ [x] <+: ys)
    (c1 : W.heap[D]? = some (.cells #[v] 29 (0, 0))) (c2 : OwnT W w.heap.size v d) (c3 : d.Perm (vsA (slo b) s now (slo b :: pre) l))
    (hb : Bel (W.setCell ⟨Q, 7, none⟩ (.int .i64 ((pre.length + 1 : Nat) : Int))) Wx) (o2 : Off (Fo Q G R) Wx w2) (hd2 : d2.Perm (dueIn (slo b) s now x (vsL (slo b) s now (slo b :: pre) l)))
    (hq2 : Wh w2 Q Z B G R P b s ((pre.length + 1 : Nat) : Int) (leftIn (slo b) s now x (vsL (slo b) s now (slo b :: pre) l)))
    (hown : OwnT w3 w.heap.size (.slice p' n' c') (d ++ d2)) (hg : w2.grownBy w3 v.ownBlock) (Bz : Nat) (hBz : D < Bz ∧ w.heap.size ≤ Bz) :
    KeepsFrom Bz W (w3.setCell ⟨D, 0, none⟩ (.slice p' n' c')) ∧ Iv w Q Z B G R P b s l now bq bn D Bq Bn n ys (pre ++ [x]) (w3.setCell ⟨D, 0, none⟩ (.slice p' n' c')) := by
  obtain ⟨g1, g2, g3⟩ := h.ds.ge
  have lw := h.ds.lw
  have hlt : ∀ {i : Nat} {c : Array Value} {t : TypeId}, W.heap[i]? = some (.cells c t (0, 0)) → i < W.heap.size := fun e => (Array.getElem?_eq_some_iff.1 e).1
  have o1 : Off (Only Q) W (W.setCell ⟨Q, 7, none⟩ (.int .i64 ((pre.length + 1 : Nat) : Int))) := Off.setCell (Off.refl (Only Q) W) (p := ⟨Q, 7, none⟩) (.inl rfl) _
  have oW2 : Off (Fo Q G R) W w2 := ((o1.mono (fun _ _ e => .inl e)).then (hb.off _)).then o2
  have o3 : Off (fun i => v.ownBlock = some i) w2 w3 := Off.grown (Off.refl _ w2) hg (fun i e => .inl e)
  have o4 : Off (fun i => i = D) w3 (w3.setCell ⟨D, 0, none⟩ (.slice p' n' c')) := Off.setCell (Off.refl (fun i => i = D) w3) (p := ⟨D, 0, none⟩) (.inl rfl) _
  have oAll : Off (fun i => Fo Q G R i ∨ v.ownBlock = some i ∨ i = D) W (w3.setCell ⟨D, 0, none⟩ (.slice p' n' c')) :=
    ((oW2.mono (fun _ _ e => .inl e)).then (o3.mono (fun _ _ e => .inr (.inl e)))).then (o4.mono (fun _ _ e => .inr (.inr e)))
  have ownge : ∀ i, v.ownBlock = some i → w.heap.size ≤ i := fun i e => (c2.lt i e).1
  have stay : ∀ {i : Nat} {c : Array Value} {t : TypeId}, W.heap[i]? = some (.cells c t (0, 0)) → w.heap.size ≤ i → t ≠ 37 → t ≠ 29 → (w3.setCell ⟨D, 0, none⟩ (.slice p' n' c')).heap[i]? = W.heap[i]? := fun {i c t} e hge n1 n2 => by
    refine oAll.block i (hlt e) (fun e2 => ?_)
    rcases e2 with e2 | e2 | e2
    · have := fo_lt lw e2; omega
    · obtain ⟨cc, hc⟩ := c2.cells e2
      exact ty_ne e hc n1 rfl
    · subst e2
      exact ty_ne e c1 n2 rfl
  have hDw2 : w2.heap[D]? = some (.cells #[v] 29 (0, 0)) := (oW2.block D (hlt c1) (fun e => by have := fo_lt lw e; omega)).trans c1
  have hDw3 : w3.heap[D]? = some (.cells #[v] 29 (0, 0)) := (o3.block D (Array.getElem?_eq_some_iff.1 hDw2).1 (fun e => by
    obtain ⟨cc, hc⟩ := c2.cells e
    exact ty_ne c1 hc (by decide) rfl)).trans hDw2
  have hxn : x ∉ slo b :: pre := by
    intro e
    have hxm : x ∈ ys := hx.subset (by simp)
    rcases List.mem_cons.1 e with e | e
    · have := hys x hxm; omega
    · obtain ⟨r, hr⟩ := hx
      rw [← hr, List.append_assoc] at hn
      exact (List.nodup_append.1 hn).2.2 x e x (by simp) rfl
  have hwh : Wh (w3.setCell ⟨D, 0, none⟩ (.slice p' n' c')) Q Z B G R P b s ((pre.length + 1 : Nat) : Int) (vsL (slo b) s now (slo b :: (pre ++ [x])) l) := by
    have e1 : leftIn (slo b) s now x (vsL (slo b) s now (slo b :: pre) l) = vsL (slo b) s now (slo b :: (pre ++ [x])) l := vsL_next
    rw [e1] at hq2
    have z1 := lw
    exact (hq2.off o3 (fun i e e2 => by have := ownge i e2; have := fo4_lt lw e; omega) (fun e => by have := ownge 0 e; omega)).off o4 (fun i e e2 => by have := fo4_lt lw e; omega) (fun e => by omega)
  refine ⟨⟨oAll.size, fun i ob hi e hc => ?_⟩, hx, ⟨by simpa using hwh, (stay h.ds.cq g1 (by decide) (by decide)).trans h.ds.cq, (stay h.ds.cn g2 (by decide) (by decide)).trans h.ds.cn, ⟨_, d ++ d2, heap_setCell_same _ _ 0 _ 29 _ hDw3, hown.off2 o4 (fun i e e2 => ?_), vsA_next hln hxn c3 hd2⟩, ⟨g1, g2, g3⟩, lw, ?_⟩, (stay h.bx h.gb.1 (by decide) (by decide)).trans h.bx, (stay h.bm h.gb.2 (by decide) (by decide)).trans h.bm, h.gb⟩
  · refine (oAll.block i (Array.getElem?_eq_some_iff.1 e).1 (fun e2 => ?_)).trans e
    rcases e2 with e2 | e2 | e2
    · have := fo_lt lw e2; omega
    · obtain ⟨cc, hc2⟩ := c2.cells e2
      rw [hc2] at e
      cases e
      cases hc
    · subst e2
      rw [c1] at e
      cases e
      cases hc
  · subst e2
    obtain ⟨cc, hc2⟩ := hown.cells e
    exact ty_ne hDw3 hc2 (by decide) rfl
  · exact Off.trans h.ds.off oAll (fun i e => by
      rcases e with e | e | e
      · exact .inl e
      · exact .inr (ownge i e)
      · exact .inr (by omega))
end
end Go.Proofs.YtdoceldofkaapaaGreatDoor.Ha
