/-
  A binary heap of timers as a plain list, and where each place stands in it: plain mathematics, no program.
-/
import Derived.Test.YtaabalkfpjeheaaActs
namespace Go.Proofs.Ytaabalkfpjeheaa
/-- The one at place i of the list. -/
abbrev gt (l : List T) (i : Nat) : T := l.getD i default
/-- Above i. -/
def par (i : Nat) : Nat := (i - 1) / 2
/-- Two change their places. -/
def swp (l : List T) (i j : Nat) : List T := (l.set i (gt l j)).set j (gt l i)
theorem swp_len (l : List T) (i j : Nat) : (swp l i j).length = l.length := by unfold swp; simp
theorem gt_set (l : List T) (i k : Nat) (x : T) (hi : i < l.length) : gt (l.set i x) k = if k = i then x else gt l k := by
  unfold gt
  rw [List.getD_eq_getElem?_getD, List.getD_eq_getElem?_getD]
  by_cases e : k = i
  · subst e; simp [hi]
  · rw [List.getElem?_set_ne (fun h => e h.symm), if_neg e]
theorem swp_gt (l : List T) (i j k : Nat) (hi : i < l.length) (hj : j < l.length) : gt (swp l i j) k = if k = j then gt l i else if k = i then gt l j else gt l k := by
  unfold swp
  rw [gt_set _ j k _ (by simpa using hj)]
  by_cases e : k = j
  · rw [if_pos e, if_pos e]
  · rw [if_neg e, if_neg e, gt_set l i k _ hi]
theorem gt_mem (l : List T) (k : Nat) (h : k < l.length) : gt l k = l[k] := by simp [gt, List.getD_eq_getElem?_getD, List.getElem?_eq_getElem h]
theorem gt_in {l : List T} {k : Nat} (h : k < l.length) : gt l k ∈ l := by rw [gt_mem l k h]; exact List.getElem_mem h
theorem mem_gt {l : List T} {t : T} (h : t ∈ l) : ∃ k, k < l.length ∧ gt l k = t := by
  obtain ⟨k, hk, e⟩ := List.getElem_of_mem h
  exact ⟨k, hk, by rw [gt_mem l k hk]; exact e⟩
theorem swp_perm (l : List T) (j k : Nat) (hj : j < l.length) (hk : k < l.length) : (swp l j k).Perm l := by
  have e := Array.swap_perm (xs := l.toArray) (i := j) (j := k) (by simpa using hj) (by simpa using hk)
  have e2 := e.toList
  unfold swp
  rw [gt_mem l j hj, gt_mem l k hk]
  simpa [Array.swap] using e2
/-- A heap: none is before the one above it. -/
def Hp (l : List T) : Prop := ∀ k, 0 < k → k < l.length → lt (gt l k) (gt l (par k)) = false
/-- A heap but for the one at i. -/
structure Al (l : List T) (i : Nat) : Prop where
  a : ∀ k, 0 < k → k < l.length → k ≠ i → par k ≠ i → lt (gt l k) (gt l (par k)) = false
  b : ∀ k, 0 < k → k < l.length → par k = i → 0 < i → lt (gt l k) (gt l (par i)) = false
/-- A heap but for those below i. -/
structure Dn (l : List T) (i : Nat) : Prop where
  a : ∀ k, 0 < k → k < l.length → par k ≠ i → lt (gt l k) (gt l (par k)) = false
  b : ∀ k, 0 < k → k < l.length → par k = i → 0 < i → lt (gt l k) (gt l (par i)) = false
theorem par_lt {i : Nat} (h : 0 < i) : par i < i := by unfold par; omega
theorem Al.up {l : List T} {i : Nat} (h : Al l i) (h0 : 0 < i) (hi : i < l.length) (hl : lt (gt l i) (gt l (par i)) = true) : Al (swp l i (par i)) (par i) := by
  have hp := par_lt h0
  have hpl : par i < l.length := by omega
  refine ⟨fun k k0 k1 k2 k3 => ?_, fun k k0 k1 k2 k3 => ?_⟩
  · rw [swp_len] at k1
    rw [swp_gt l i (par i) _ hi hpl, swp_gt l i (par i) _ hi hpl, if_neg k2, if_neg k3]
    by_cases e : k = i
    · subst e; exact absurd rfl k3
    · rw [if_neg e]
      by_cases e2 : par k = i
      · rw [if_pos e2]; exact h.b k k0 k1 e2 h0
      · rw [if_neg e2]; exact h.a k k0 k1 e e2
  · rw [swp_len] at k1
    have hpp := par_lt k3
    rw [swp_gt l i (par i) k hi hpl, swp_gt l i (par i) (par (par i)) hi hpl, if_neg (by omega : ¬ par (par i) = par i), if_neg (by omega : ¬ par (par i) = i)]
    have q := h.a (par i) k3 hpl (by omega) (by omega)
    have hk := par_lt k0
    rw [if_neg (by omega : ¬ k = par i)]
    by_cases e : k = i
    · rw [if_pos e]; exact q
    · rw [if_neg e]
      have q2 := h.a k k0 k1 e (by omega)
      rw [k2] at q2
      exact lt_ntrans q2 q
theorem Al.done {l : List T} {i : Nat} (h : Al l i) (hl : 0 < i → lt (gt l i) (gt l (par i)) = false) : Dn l i := by
  refine ⟨fun k k0 k1 k2 => ?_, h.b⟩
  by_cases e : k = i
  · subst e; exact hl k0
  · exact h.a k k0 k1 e k2
theorem Dn.down {l : List T} {i j : Nat} (h : Dn l i) (hj : j < l.length) (j0 : 0 < j) (hp : par j = i) (hl : lt (gt l j) (gt l i) = true) (hs : ∀ k, 0 < k → k < l.length → par k = i → lt (gt l k) (gt l j) = false) : Dn (swp l i j) j := by
  have hij := par_lt j0
  rw [hp] at hij
  have hi : i < l.length := by omega
  refine ⟨fun k k0 k1 k2 => ?_, fun k k0 k1 k2 _ => ?_⟩
  · rw [swp_len] at k1
    rw [swp_gt l i j _ hi hj, swp_gt l i j _ hi hj, if_neg k2]
    by_cases e : k = j
    · subst e
      rw [if_pos rfl, if_pos hp]
      exact lt_asymm hl
    · rw [if_neg e]
      by_cases e2 : par k = i
      · rw [if_pos e2]
        have hk := par_lt k0
        rw [if_neg (by omega : ¬ k = i)]
        exact hs k k0 k1 e2
      · rw [if_neg e2]
        by_cases e3 : k = i
        · rw [if_pos e3]
          subst e3
          exact h.b j j0 hj hp k0
        · rw [if_neg e3]; exact h.a k k0 k1 e2
  · rw [swp_len] at k1
    have hk := par_lt k0
    rw [swp_gt l i j _ hi hj, swp_gt l i j _ hi hj, hp, if_neg (by omega : ¬ k = j), if_neg (by omega : ¬ k = i), if_neg (by omega : ¬ i = j), if_pos rfl]
    have q := h.a k k0 k1 (by omega)
    rw [k2] at q
    exact q
theorem Dn.done {l : List T} {i : Nat} (h : Dn l i) (hs : ∀ k, 0 < k → k < l.length → par k = i → lt (gt l k) (gt l i) = false) : Hp l := by
  intro k k0 k1
  by_cases e : par k = i
  · rw [e]; exact hs k k0 k1 e
  · exact h.a k k0 k1 e
theorem Hp.al {l : List T} (h : Hp l) (i : Nat) : Al l i := by
  refine ⟨fun k k0 k1 _ _ => h k k0 k1, fun k k0 k1 e i0 => ?_⟩
  have q := h k k0 k1
  have hk := par_lt k0
  rw [e] at q
  exact lt_ntrans q (h i i0 (by omega))
/-- Another one at i. -/
theorem Hp.set {l : List T} (h : Hp l) {i : Nat} (hi : i < l.length) (t : T) : Al (l.set i t) i := by
  have a := h.al i
  refine ⟨fun k k0 k1 k2 k3 => ?_, fun k k0 k1 k2 k3 => ?_⟩
  · rw [List.length_set] at k1
    rw [gt_set l i _ t hi, gt_set l i _ t hi, if_neg k2, if_neg k3]
    exact h k k0 k1
  · rw [List.length_set] at k1
    have hk := par_lt k0
    have hi0 := par_lt k3
    rw [gt_set l i _ t hi, gt_set l i _ t hi, if_neg (by omega : ¬ k = i), if_neg (by omega : ¬ par i = i)]
    exact a.b k k0 k1 k2 k3
theorem gt_append (l : List T) (t : T) (k : Nat) (h : k < l.length) : gt (l ++ [t]) k = gt l k := by
  unfold gt
  rw [List.getD_eq_getElem?_getD, List.getD_eq_getElem?_getD, List.getElem?_append_left h]
theorem gt_last (l : List T) (t : T) : gt (l ++ [t]) l.length = t := by
  unfold gt
  rw [List.getD_eq_getElem?_getD, List.getElem?_append_right (Nat.le_refl _)]
  simp
/-- One more at the end. -/
theorem Hp.push {l : List T} (h : Hp l) (t : T) : Al (l ++ [t]) l.length := by
  refine ⟨fun k k0 k1 k2 k3 => ?_, fun k k0 k1 k2 k3 => ?_⟩
  · have hk := par_lt k0
    simp at k1
    rw [gt_append l t k (by omega), gt_append l t (par k) (by omega)]
    exact h k k0 (by omega)
  · have hk := par_lt k0
    simp at k1
    omega
theorem Hp.cut {l : List T} {t : T} (h : Hp (l ++ [t])) : Hp l := by
  intro k k0 k1
  have hk := par_lt k0
  have q := h k k0 (by simp; omega)
  rw [gt_append l t k k1, gt_append l t (par k) (by omega)] at q
  exact q
/-- The list without its last one. -/
theorem Al.cut {l : List T} {t : T} {i : Nat} (h : Al (l ++ [t]) i) : Al l i := by
  refine ⟨fun k k0 k1 k2 k3 => ?_, fun k k0 k1 k2 k3 => ?_⟩
  · have hk := par_lt k0
    have q := h.a k k0 (by simp; omega) k2 k3
    rw [gt_append l t k k1, gt_append l t (par k) (by omega)] at q
    exact q
  · have hk := par_lt k0
    have hi0 := par_lt k3
    have q := h.b k k0 (by simp; omega) k2 k3
    rw [gt_append l t k k1, gt_append l t (par i) (by omega)] at q
    exact q
/-- The last one and the one at i change their places: behind the cut a heap but for i. -/
theorem Hp.take {l m : List T} {i : Nat} {t : T} (h : Hp l) (hi : i < l.length) (e : swp l i (l.length - 1) = m ++ [t]) : Al m i := by
  have hm : m.length + 1 = l.length := by
    have := congrArg List.length e
    rw [swp_len] at this
    simpa using this.symm
  have a := h.al i
  have g : ∀ k, k < m.length → k ≠ i → gt m k = gt l k := fun k hk hki => by
    rw [← gt_append m t k hk, ← e, swp_gt l i _ k hi (by omega), if_neg (by omega), if_neg hki]
  refine ⟨fun k k0 k1 k2 k3 => ?_, fun k k0 k1 k2 k3 => ?_⟩
  · have hk := par_lt k0
    rw [g k k1 k2, g (par k) (by omega) k3]
    exact h k k0 (by omega)
  · have hk := par_lt k0
    have hi0 := par_lt k3
    rw [g k k1 (by omega), g (par i) (by omega) (by omega)]
    exact a.b k k0 (by omega) k2 k3
theorem Hp.first {l : List T} (h : Hp l) : ∀ k, k < l.length → lt (gt l k) (gt l 0) = false := by
  intro k
  induction k using Nat.strongRecOn with
  | ind k ih =>
    intro hk
    by_cases k0 : k = 0
    · subst k0; exact lt_irrefl _
    · have hp := par_lt (show 0 < k by omega)
      exact lt_ntrans (h k (by omega) hk) (ih (par k) hp (by omega))
theorem srt_head {l : List T} (h : Hp l) (h0 : 0 < l.length) : ∃ r, srt l = gt l 0 :: r := by
  cases e : srt l with
  | nil => have := srt_len l; rw [e] at this; simp at this; omega
  | cons y r =>
    have my : y ∈ l := (srt_perm l).subset (by rw [e]; simp)
    have mx : gt l 0 ∈ y :: r := by rw [← e]; exact (srt_perm l).symm.subset (gt_in h0)
    obtain ⟨k, hk, ek⟩ := mem_gt my
    have q := h.first k hk
    rw [ek] at q
    have so := srt_so l
    rw [e] at so
    have q2 : lt (gt l 0) y = false := by
      rcases List.mem_cons.1 mx with e3 | e3
      · rw [e3]; exact lt_irrefl _
      · exact (List.pairwise_cons.1 so).1 _ e3
    exact ⟨r, by rw [lt_total q2 q]⟩
theorem srt_head? {l : List T} (h : Hp l) : (srt l).head? = l.head? := by
  cases l with
  | nil => rfl
  | cons x r =>
    obtain ⟨s, e⟩ := srt_head h (by simp)
    rw [e]
    rfl

/-- One place stands elsewhere. -/
def upW (wh : Nat → Int) (k : Nat) (x : Int) : Nat → Int := fun m => if m = k then x else wh m
/-- Where each place stands. -/
structure Wh (P : Nat) (l : List T) (wh : Nat → Int) : Prop where
  at_ : ∀ i, i < l.length → ∃ k : Nat, (gt l i).p = k ∧ k < P ∧ wh k = i
  no : ∀ k, k < P → wh k = -1 ∨ ∃ i : Nat, i < l.length ∧ wh k = i ∧ (gt l i).p = k
theorem Wh.inj {P : Nat} {l : List T} {wh : Nat → Int} (h : Wh P l wh) {i j : Nat} (hi : i < l.length) (hj : j < l.length) (e : (gt l i).p = (gt l j).p) : i = j := by
  obtain ⟨a, a1, a2, a3⟩ := h.at_ i hi
  obtain ⟨b, b1, b2, b3⟩ := h.at_ j hj
  obtain rfl : a = b := by omega
  omega
theorem Wh.new (P : Nat) : Wh P [] (fun _ => -1) := ⟨fun i hi => by simp at hi, fun _ _ => .inl rfl⟩
theorem Wh.swap {P : Nat} {l : List T} {wh : Nat → Int} (h : Wh P l wh) {i j a b : Nat} (hi : i < l.length) (hj : j < l.length) (ea : (gt l i).p = a) (eb : (gt l j).p = b) : Wh P (swp l i j) (upW (upW wh b i) a j) := by
  obtain ⟨a', a1, a2, a3⟩ := h.at_ i hi
  obtain ⟨b', b1, b2, b3⟩ := h.at_ j hj
  obtain rfl : a = a' := by omega
  obtain rfl : b = b' := by omega
  refine ⟨fun k hk => ?_, fun k hk => ?_⟩
  · rw [swp_len] at hk
    rw [swp_gt l i j k hi hj]
    by_cases e : k = j
    · rw [if_pos e]
      exact ⟨a, ea, a2, by unfold upW; rw [if_pos rfl, e]⟩
    · rw [if_neg e]
      by_cases e2 : k = i
      · rw [if_pos e2]
        refine ⟨b, eb, b2, ?_⟩
        have hab : ¬ b = a := fun e3 => e (by rw [e2]; exact h.inj hi hj (by omega))
        unfold upW
        rw [if_neg hab, if_pos rfl, e2]
      · rw [if_neg e2]
        obtain ⟨c, c1, c2, c3⟩ := h.at_ k hk
        refine ⟨c, c1, c2, ?_⟩
        have h1 : ¬ c = a := fun e3 => e2 (h.inj hk hi (by omega))
        have h2 : ¬ c = b := fun e3 => e (h.inj hk hj (by omega))
        unfold upW
        rw [if_neg h1, if_neg h2]
        exact c3
  · by_cases e : k = a
    · refine .inr ⟨j, by rw [swp_len]; exact hj, by unfold upW; rw [if_pos e], ?_⟩
      rw [swp_gt l i j j hi hj, if_pos rfl, ea, e]
    · by_cases e2 : k = b
      · refine .inr ⟨i, by rw [swp_len]; exact hi, by unfold upW; rw [if_neg e, if_pos e2], ?_⟩
        have hij : ¬ i = j := fun e3 => by subst e3; omega
        rw [swp_gt l i j i hi hj, if_neg hij, if_pos rfl, eb, e2]
      · rcases h.no k hk with n | ⟨m, m1, m2, m3⟩
        · exact .inl (by unfold upW; rw [if_neg e, if_neg e2]; exact n)
        · refine .inr ⟨m, by rw [swp_len]; exact m1, by unfold upW; rw [if_neg e, if_neg e2]; exact m2, ?_⟩
          have h1 : ¬ m = j := fun e3 => by subst e3; omega
          have h2 : ¬ m = i := fun e3 => by subst e3; omega
          rw [swp_gt l i j m hi hj, if_neg h1, if_neg h2]
          exact m3
theorem Wh.push {P : Nat} {l : List T} {wh : Nat → Int} (h : Wh P l wh) {t : T} {k : Nat} (hk : k < P) (e : t.p = k) (hn : wh k = -1) : Wh P (l ++ [t]) (upW wh k l.length) := by
  refine ⟨fun i hi => ?_, fun m hm => ?_⟩
  · simp at hi
    by_cases e2 : i = l.length
    · subst e2
      rw [gt_last]
      exact ⟨k, e, hk, by unfold upW; rw [if_pos rfl]⟩
    · rw [gt_append l t i (by omega)]
      obtain ⟨c, c1, c2, c3⟩ := h.at_ i (by omega)
      refine ⟨c, c1, c2, ?_⟩
      have hc : ¬ c = k := fun e3 => by subst e3; omega
      unfold upW
      rw [if_neg hc]
      exact c3
  · by_cases e2 : m = k
    · exact .inr ⟨l.length, by simp, by unfold upW; rw [if_pos e2], by rw [gt_last, e, e2]⟩
    · rcases h.no m hm with n | ⟨i, i1, i2, i3⟩
      · exact .inl (by unfold upW; rw [if_neg e2]; exact n)
      · exact .inr ⟨i, by simp; omega, by unfold upW; rw [if_neg e2]; exact i2, by rw [gt_append l t i i1]; exact i3⟩
theorem Wh.cut {P : Nat} {l : List T} {wh : Nat → Int} {t : T} (h : Wh P (l ++ [t]) wh) {k : Nat} (e : t.p = k) : Wh P l (upW wh k (-1)) := by
  have hl := h.at_ l.length (by simp)
  rw [gt_last] at hl
  obtain ⟨k', k1, k2, k3⟩ := hl
  obtain rfl : k = k' := by omega
  refine ⟨fun i hi => ?_, fun m hm => ?_⟩
  · obtain ⟨c, c1, c2, c3⟩ := h.at_ i (by simp; omega)
    rw [gt_append l t i hi] at c1
    refine ⟨c, c1, c2, ?_⟩
    have hc : ¬ c = k := fun e3 => by subst e3; omega
    unfold upW
    rw [if_neg hc]
    exact c3
  · by_cases e2 : m = k
    · exact .inl (by unfold upW; rw [if_pos e2])
    · rcases h.no m hm with n | ⟨i, i1, i2, i3⟩
      · exact .inl (by unfold upW; rw [if_neg e2]; exact n)
      · simp at i1
        have hi : ¬ i = l.length := fun e3 => by
          subst e3
          rw [gt_last] at i3
          omega
        rw [gt_append l t i (by omega)] at i3
        exact .inr ⟨i, by omega, by unfold upW; rw [if_neg e2]; exact i2, i3⟩
theorem Wh.set {P : Nat} {l : List T} {wh : Nat → Int} (h : Wh P l wh) {i : Nat} (hi : i < l.length) {t : T} (e : t.p = (gt l i).p) : Wh P (l.set i t) wh := by
  refine ⟨fun k hk => ?_, fun k hk => ?_⟩
  · rw [List.length_set] at hk
    rw [gt_set l i k t hi]
    by_cases e2 : k = i
    · rw [if_pos e2, e, e2]; exact h.at_ i hi
    · rw [if_neg e2]; exact h.at_ k hk
  · rcases h.no k hk with n | ⟨m, m1, m2, m3⟩
    · exact .inl n
    · refine .inr ⟨m, by rw [List.length_set]; exact m1, m2, ?_⟩
      rw [gt_set l i m t hi]
      by_cases e2 : m = i
      · rw [if_pos e2, e, ← e2]; exact m3
      · rw [if_neg e2]; exact m3
theorem nodup_len : ∀ (P : Nat) (l : List Nat), l.Nodup → (∀ i ∈ l, i < P) → l.length ≤ P
  | 0, l, _, h => by
    cases l with
    | nil => simp
    | cons x r => exact absurd (h x (by simp)) (by omega)
  | P + 1, l, hn, h => by
    have k := nodup_len P (l.erase P) (hn.erase P) (fun i hi => by
      have h1 := h i (List.mem_of_mem_erase hi)
      have h2 : i ≠ P := fun e => by subst e; exact (List.Nodup.not_mem_erase hn) hi
      omega)
    have := List.length_erase_le (a := P) (l := l)
    have h3 : l.length ≤ (l.erase P).length + 1 := by
      by_cases hm : P ∈ l
      · have := List.length_erase_of_mem hm; omega
      · rw [List.erase_of_not_mem hm]; omega
    omega
theorem Wh.len {P : Nat} {l : List T} {wh : Nat → Int} (h : Wh P l wh) : l.length ≤ P := by
  have k := nodup_len P (pls l) ?_ ?_
  · simpa [pls] using k
  · unfold pls
    rw [List.nodup_iff_pairwise_ne, List.pairwise_iff_getElem]
    intro i j hi hj hij e
    simp at hi hj
    simp only [List.getElem_map] at e
    rw [← gt_mem l i hi, ← gt_mem l j hj] at e
    obtain ⟨a, a1, _, _⟩ := h.at_ i hi
    obtain ⟨b, b1, _, _⟩ := h.at_ j hj
    have : i = j := h.inj hi hj (by unfold pl at e; omega)
    omega
  · intro k hk
    obtain ⟨t, ht, rfl⟩ := List.mem_map.1 hk
    obtain ⟨i, hi, rfl⟩ := mem_gt ht
    obtain ⟨a, a1, a2, _⟩ := h.at_ i hi
    unfold pl
    omega
/-- The one at a place, in whatever order. -/
theorem Wh.isAt {P : Nat} {l : List T} {wh : Nat → Int} (h : Wh P l wh) {i : Nat} (hi : i < l.length) : fnd (srt l) (gt l i).p = some (gt l i) := by
  cases e : fnd (srt l) (gt l i).p with
  | none => exact absurd rfl (fnd_none e (gt l i) ((srt_perm l).symm.subset (gt_in hi)))
  | some t =>
    obtain ⟨m, q⟩ := fnd_some e
    obtain ⟨j, hj, ej⟩ := mem_gt ((srt_perm l).subset m)
    rw [← ej] at q
    rw [← ej, h.inj hj hi q]
theorem Wh.isNot {P : Nat} {l : List T} {wh : Nat → Int} (h : Wh P l wh) {k : Nat} (hn : wh k = -1) : fnd (srt l) k = none := by
  cases e : fnd (srt l) k with
  | none => rfl
  | some t =>
    obtain ⟨m, q⟩ := fnd_some e
    obtain ⟨j, hj, ej⟩ := mem_gt ((srt_perm l).subset m)
    obtain ⟨a, a1, a2, a3⟩ := h.at_ j hj
    rw [ej] at a1
    obtain rfl : a = k := by omega
    omega
theorem Wh.outside {P : Nat} {l : List T} {wh : Nat → Int} (h : Wh P l wh) {k : Int} (hk : hp P k = false) : fnd (srt l) k = none := by
  cases e : fnd (srt l) k with
  | none => rfl
  | some t =>
    obtain ⟨m, q⟩ := fnd_some e
    obtain ⟨j, hj, ej⟩ := mem_gt ((srt_perm l).subset m)
    obtain ⟨a, a1, a2, a3⟩ := h.at_ j hj
    rw [ej] at a1
    have : k = a := by omega
    rw [this, hp_yes a2] at hk
    cases hk
/-- Without the one at i, in whatever order. -/
theorem Wh.without {P : Nat} {l m : List T} {wh : Nat → Int} (h : Wh P l wh) {i : Nat} (hi : i < l.length) (hp : l.Perm (gt l i :: m)) : srt m = wo (srt l) (gt l i).p := by
  symm
  refine srt_of (wo_so (srt_so l) _) ?_
  unfold wo
  have p1 : ((srt l).filter fun t => !decide (t.p = (gt l i).p)).Perm ((gt l i :: m).filter fun t => !decide (t.p = (gt l i).p)) := ((srt_perm l).trans hp).filter _
  refine p1.trans ?_
  rw [List.filter_cons]
  simp only [decide_true, Bool.not_true, Bool.false_eq_true, if_false]
  rw [List.filter_eq_self.2]
  intro t ht
  have nd : (l.map T.p).Nodup := by
    rw [List.nodup_iff_pairwise_ne, List.pairwise_iff_getElem]
    intro a b ha hb hab e
    simp at ha hb
    simp only [List.getElem_map] at e
    rw [← gt_mem l a ha, ← gt_mem l b hb] at e
    have := h.inj ha hb e
    omega
  have nd2 : ((gt l i :: m).map T.p).Nodup := (hp.map T.p).nodup_iff.1 nd
  rw [List.map_cons, List.nodup_cons] at nd2
  have hne : t.p ≠ (gt l i).p := fun e => nd2.1 (by rw [← e]; exact List.mem_map.2 ⟨t, ht, rfl⟩)
  rw [decide_eq_false hne]
  rfl
end Go.Proofs.Ytaabalkfpjeheaa
