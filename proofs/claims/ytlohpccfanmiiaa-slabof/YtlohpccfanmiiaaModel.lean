/-
  What a slab and the document's own are to each other, whatever is taken and freed.
-/
import Derived.Test.YtlohpccfanmiiaaTake
import Derived.Test.YtlohpccfanmiiaaRefTake
namespace Go.Proofs.Ytlohpccfanmiiaa
/-- A slab as New and what follows make it. -/
structure Wf (S : St) : Prop where
  p0 : 0 ≤ S.pl
  p1 : S.pl ≤ 1024
  g0 : 1 ≤ S.gn
  g1 : S.gn ≤ 65535
  len : (S.tk.length : Int) ≤ S.pl
  us : ∀ (k : Nat) (x : Pl), S.tk[k]? = some x → 1 ≤ x.u ∧ x.u ≤ S.gn
  fr : ∀ x ∈ S.fr, ∃ (k : Nat) (u : Int), x = k ∧ S.tk[k]? = some ⟨u, false⟩ ∧ u < S.gn
  nd : S.fr.Nodup
  cnt : S.fr.length + lenS S ≤ S.tk.length
  wn : ∀ (k : Nat) (u : Int), S.tk[k]? = some ⟨u, false⟩ → (k : Int) ∈ S.fr ∨ ¬ u < S.gn
theorem Wf.sm {S : St} (h : Wf S) : Sm S := ⟨h.p0, h.p1, by have := h.len; have := h.p1; omega, by have := h.len; have := h.p1; have := h.cnt; omega⟩
theorem wf_new (P G : Int) (h0 : 0 ≤ P) (h1 : P ≤ 1024) (h2 : 1 ≤ G) (h3 : G ≤ 65535) : Wf (newS P G) :=
  ⟨h0, h1, h2, h3, by simpa [newS] using h0, by simp [newS], by simp [newS], by simp [newS], by simp [newS, lenS], by simp [newS]⟩
/-- How many are alive when one place turns. -/
theorem cnt_set : ∀ (l : List Pl) (k : Nat) (x y : Pl), l[k]? = some x → ((l.set k y).filter (·.al)).length + (if x.al then 1 else 0) = (l.filter (·.al)).length + (if y.al then 1 else 0)
  | [], k, x, y, h => by simp at h
  | z :: r, 0, x, y, h => by
    simp at h
    subst h
    cases hz : z.al <;> cases hy : y.al <;> simp [hz, hy]
  | z :: r, k + 1, x, y, h => by
    have ih := cnt_set r k x y (by simpa using h)
    rw [List.set_cons_succ, List.filter_cons, List.filter_cons]
    cases hz : z.al
    · simpa [hz] using ih
    · simp only [if_true, List.length_cons]
      omega
theorem set_get (l : List Pl) (k : Nat) (x y : Pl) (j : Nat) (h : l[k]? = some x) : (l.set k y)[j]? = if j = k then some y else l[j]? := by
  by_cases e : j = k
  · subst e
    rw [if_pos rfl, List.getElem?_set_self (get_lt h)]
  · rw [if_neg e, List.getElem?_set_ne (fun h => e h.symm)]
theorem lv_set (S : St) (k : Nat) (x y : Pl) (fr : List Int) (h : S.tk[k]? = some x) (q : Hd) : lv { S with tk := S.tk.set k y, fr := fr } q = true ↔ (q.p = k ∧ y = ⟨q.g, true⟩) ∨ (q.p ≠ k ∧ lv S q = true) := by
  rw [lv_iff, lv_iff]
  constructor
  · rintro ⟨j, h1, h2⟩
    simp only at h2
    rw [set_get S.tk k x y j h] at h2
    by_cases e : j = k
    · rw [if_pos e] at h2
      subst e
      exact .inl ⟨h1, Option.some.inj h2⟩
    · rw [if_neg e] at h2
      exact .inr ⟨by rw [h1]; omega, j, h1, h2⟩
  · rintro (⟨h1, h2⟩ | ⟨h1, j, h2, h3⟩)
    · refine ⟨k, h1, ?_⟩
      simp only
      rw [set_get S.tk k x y k h, if_pos rfl, h2]
    · refine ⟨j, h2, ?_⟩
      simp only
      rw [set_get S.tk k x y j h, if_neg (by intro e; subst e; exact h1 h2)]
      exact h3
/-- What Take does. -/
def takeS (S : St) : Hd × Int × St :=
  match S.fr.getLast? with
  | some x => (match S.tk[x.toNat]? with
    | some p => (⟨x, p.u + 1⟩, 0, { S with tk := S.tk.set x.toNat ⟨p.u + 1, true⟩, fr := S.fr.dropLast })
    | none => (⟨0, 0⟩, 6, S))
  | none => if (S.tk.length : Int) < S.pl then (⟨S.tk.length, 1⟩, 0, { S with tk := S.tk ++ [⟨1, true⟩] }) else (⟨0, 0⟩, 6, S)
theorem take_cases {S : St} (h : Wf S) : (∃ (r : List Int) (k : Nat) (u : Int), S.fr = r ++ [(k : Int)] ∧ S.tk[k]? = some ⟨u, false⟩ ∧ 1 ≤ u ∧ u < S.gn) ∨ (S.fr = [] ∧ (S.tk.length : Int) < S.pl) ∨ (S.fr = [] ∧ S.pl ≤ S.tk.length) := by
  rcases List.eq_nil_or_concat S.fr with e | ⟨r, x, e⟩
  · by_cases hl : (S.tk.length : Int) < S.pl
    · exact .inr (.inl ⟨e, hl⟩)
    · exact .inr (.inr ⟨e, by omega⟩)
  · obtain ⟨k, u, rfl, h1, h2⟩ := h.fr x (by rw [e]; simp)
    exact .inl ⟨r, k, u, by rw [e]; simp, h1, (h.us k _ h1).1, h2⟩
theorem takeS_freed {S : St} {r : List Int} {k : Nat} {u : Int} (h1 : S.fr = r ++ [(k : Int)]) (h2 : S.tk[k]? = some ⟨u, false⟩) : takeS S = (⟨k, u + 1⟩, 0, { S with tk := S.tk.set k ⟨u + 1, true⟩, fr := r }) := by
  unfold takeS
  simp [h1, h2]
theorem takeS_fresh {S : St} (h1 : S.fr = []) (h2 : (S.tk.length : Int) < S.pl) : takeS S = (⟨S.tk.length, 1⟩, 0, { S with tk := S.tk ++ [⟨1, true⟩] }) := by
  unfold takeS
  simp [h1, h2]
theorem takeS_full {S : St} (h1 : S.fr = []) (h2 : S.pl ≤ S.tk.length) : takeS S = (⟨0, 0⟩, 6, S) := by
  unfold takeS
  have : ¬ (S.tk.length : Int) < S.pl := by omega
  simp [h1, this]
theorem lenS_set (S : St) (k : Nat) (x y : Pl) (fr : List Int) (h : S.tk[k]? = some x) : lenS { S with tk := S.tk.set k y, fr := fr } + (if x.al then 1 else 0) = lenS S + (if y.al then 1 else 0) := cnt_set S.tk k x y h
theorem lenS_push (S : St) (y : Pl) : lenS { S with tk := S.tk ++ [y] } = lenS S + (if y.al then 1 else 0) := by
  unfold lenS
  rw [List.filter_append, List.length_append]
  cases hy : y.al <;> simp [hy]
theorem push_get (l : List Pl) (y : Pl) (j : Nat) : (l ++ [y])[j]? = if j = l.length then some y else l[j]? := by
  by_cases e : j = l.length
  · subst e; simp
  · rw [if_neg e]
    by_cases h : j < l.length
    · rw [List.getElem?_append_left h]
    · rw [List.getElem?_append_right (by omega), List.getElem?_eq_none (l := l) (by omega)]
      rw [List.getElem?_eq_none]
      simp
      omega
theorem wf_take {S : St} (h : Wf S) : Wf (takeS S).2.2 := by
  rcases take_cases h with ⟨r, k, u, h1, h2, h3, h4⟩ | ⟨h1, h2⟩ | ⟨h1, h2⟩
  · rw [takeS_freed h1 h2]
    have hnd := h.nd
    rw [h1, List.nodup_append] at hnd
    have hl := lenS_set S k ⟨u, false⟩ ⟨u + 1, true⟩ r h2
    have hc := h.cnt
    rw [h1] at hc
    simp at hl hc
    refine ⟨h.p0, h.p1, h.g0, h.g1, by simpa using h.len, fun j x hx => ?_, fun x hx => ?_, hnd.1, ?_, fun j v hv => ?_⟩
    · simp only at hx
      rw [set_get S.tk k _ _ j h2] at hx
      by_cases e : j = k
      · rw [if_pos e] at hx
        obtain rfl := Option.some.inj hx
        exact ⟨by simp; omega, by simp; omega⟩
      · rw [if_neg e] at hx
        exact h.us j x hx
    · obtain ⟨j, v, rfl, hj, hv⟩ := h.fr x (by rw [h1]; exact List.mem_append_left _ hx)
      refine ⟨j, v, rfl, ?_, hv⟩
      simp only
      rw [set_get S.tk k _ _ j h2, if_neg]
      · exact hj
      · intro e
        subst e
        exact hnd.2.2 _ hx _ (by simp) rfl
    · simp
      omega
    · simp only at hv
      rw [set_get S.tk k _ _ j h2] at hv
      by_cases e : j = k
      · rw [if_pos e] at hv
        injection hv with hv
        injection hv with _ hv
        cases hv
      · rw [if_neg e] at hv
        rcases h.wn j v hv with e2 | e2
        · rw [h1, List.mem_append, List.mem_singleton] at e2
          rcases e2 with e2 | e2
          · exact .inl e2
          · omega
        · exact .inr e2
  · rw [takeS_fresh h1 h2]
    have hl := lenS_push S ⟨1, true⟩
    have hc := h.cnt
    simp at hl
    refine ⟨h.p0, h.p1, h.g0, h.g1, by simp; omega, fun j x hx => ?_, fun x hx => ?_, h.nd, ?_, fun j v hv => ?_⟩
    · simp only at hx
      rw [push_get] at hx
      by_cases e : j = S.tk.length
      · rw [if_pos e] at hx
        obtain rfl := Option.some.inj hx
        exact ⟨by simp, h.g0⟩
      · rw [if_neg e] at hx
        exact h.us j x hx
    · simp only at hx
      rw [h1] at hx
      simp at hx
    · simp
      omega
    · simp only at hv
      rw [push_get] at hv
      by_cases e : j = S.tk.length
      · rw [if_pos e] at hv
        injection hv with hv
        injection hv with _ hv
        cases hv
      · rw [if_neg e] at hv
        exact h.wn j v hv
  · rw [takeS_full h1 h2]
    exact h
/-- What Free does. -/
def freeA (S : St) (h : Hd) : Int × St := if lv S h then (0, freeS S h.p.toNat h.g) else (5, S)
theorem freeA_yes {S : St} {k : Nat} {g : Int} (h : S.tk[k]? = some ⟨g, true⟩) : freeA S ⟨k, g⟩ = (0, freeS S k g) := by
  unfold freeA
  rw [if_pos ((lv_iff S ⟨k, g⟩).2 ⟨k, rfl, h⟩)]
  simp
theorem freeA_no {S : St} {h : Hd} (hl : lv S h = false) : freeA S h = (5, S) := by
  unfold freeA
  rw [hl]
  simp
theorem lenS_pos {S : St} {k : Nat} {g : Int} (h : S.tk[k]? = some ⟨g, true⟩) : 0 < lenS S := by
  have := lenS_set S k ⟨g, true⟩ ⟨g, false⟩ S.fr h
  simp at this
  omega
theorem wf_freeS {S : St} (h : Wf S) {k : Nat} {g : Int} (hk : S.tk[k]? = some ⟨g, true⟩) : Wf (freeS S k g) := by
  have hl := lenS_set S k ⟨g, true⟩ ⟨g, false⟩ (if g < S.gn then S.fr ++ [(k : Int)] else S.fr) hk
  have hc := h.cnt
  simp at hl
  have hu := h.us k _ hk
  have hnot : ∀ x ∈ S.fr, x ≠ (k : Int) := fun x hx e => by
    obtain ⟨j, u, hj, h1, _⟩ := h.fr x hx
    have : j = k := by omega
    subst this
    rw [hk] at h1
    cases h1
  have hfr : ∀ x ∈ S.fr, ∃ (j : Nat) (u : Int), x = j ∧ (S.tk.set k ⟨g, false⟩)[j]? = some ⟨u, false⟩ ∧ u < S.gn := fun x hx => by
    obtain ⟨j, u, rfl, h1, h2⟩ := h.fr x hx
    refine ⟨j, u, rfl, ?_, h2⟩
    rw [set_get S.tk k _ _ j hk, if_neg (fun e => hnot _ hx (by rw [e]))]
    exact h1
  unfold freeS
  refine ⟨h.p0, h.p1, h.g0, h.g1, by simpa using h.len, fun j x hx => ?_, fun x hx => ?_, ?_, ?_, fun j v hv => ?_⟩
  · simp only at hx
    rw [set_get S.tk k _ _ j hk] at hx
    by_cases e : j = k
    · rw [if_pos e] at hx
      obtain rfl := Option.some.inj hx
      exact hu
    · rw [if_neg e] at hx
      exact h.us j x hx
  · by_cases hg : g < S.gn
    · simp only [hg, if_true, List.mem_append, List.mem_singleton] at hx
      rcases hx with hx | rfl
      · exact hfr x hx
      · exact ⟨k, g, rfl, by rw [set_get S.tk k _ _ k hk, if_pos rfl], hg⟩
    · simp only [hg, if_false] at hx
      exact hfr x hx
  · by_cases hg : g < S.gn
    · simp only [hg, if_true]
      rw [List.nodup_append]
      exact ⟨h.nd, by simp, fun a ha b hb e => by simp at hb; exact hnot a ha (by rw [e, hb])⟩
    · simp only [hg, if_false]
      exact h.nd
  · by_cases hg : g < S.gn
    · simp only [hg, if_true, List.length_append, List.length_set, List.length_singleton] at hl ⊢
      omega
    · simp only [hg, if_false, List.length_set] at hl ⊢
      omega
  · simp only at hv
    rw [set_get S.tk k _ _ j hk] at hv
    by_cases e : j = k
    · rw [if_pos e] at hv
      injection hv with hv
      injection hv with hv _
      subst hv
      by_cases hg : g < S.gn
      · simp only [hg, if_true]
        exact .inl (by rw [e]; simp)
      · exact .inr hg
    · rw [if_neg e] at hv
      rcases h.wn j v hv with e2 | e2
      · refine .inl ?_
        by_cases hg : g < S.gn
        · simp only [hg, if_true, List.mem_append]
          exact .inl e2
        · simp only [hg, if_false]
          exact e2
      · exact .inr e2
theorem wf_free {S : St} (h : Wf S) (q : Hd) : Wf (freeA S q).2 := by
  by_cases hl : lv S q = true
  · obtain ⟨k, h1, h2⟩ := (lv_iff S q).1 hl
    have e : q = ⟨k, q.g⟩ := by rw [← h1]
    rw [e, freeA_yes h2]
    exact wf_freeS h h2
  · rw [freeA_no (by simpa using hl)]
    exact h
/-- Both are the same. -/
structure Sim (S : St) (R : Rf) : Prop where
  pl : R.pl = S.pl
  gn : R.gn = S.gn
  used : R.used = us S.tk
  free : R.free = S.fr
  al : ∀ h, h ∈ R.alive ↔ lv S h = true
  nd : R.alive.Nodup
  len : R.alive.length = lenS S
theorem sim_new (P G : Int) : Sim (newS P G) (newR P G) := ⟨rfl, rfl, rfl, rfl, fun h => by simp [newR, lv, newS], by simp [newR], rfl⟩
theorem Sim.rsm {S : St} {R : Rf} (h : Sim S R) (w : Wf S) : RSm R := by
  have h1 := w.sm
  have h2 := lenS_le S
  exact ⟨by rw [h.pl]; exact h1.p0, by rw [h.pl]; exact h1.p1, by rw [h.used, us_len]; have := h1.t1; omega, by rw [h.free]; have := h1.f1; omega, by rw [h.len]; have := h1.t1; omega⟩
def takeR (R : Rf) : Hd × Int × Rf :=
  match R.free.getLast? with
  | some x => (match R.used[x.toNat]? with
    | some u => (⟨x, u + 1⟩, 0, { R with used := R.used.set x.toNat (u + 1), free := R.free.dropLast, alive := R.alive ++ [⟨x, u + 1⟩] })
    | none => (⟨0, 0⟩, 6, R))
  | none => if (R.used.length : Int) < R.pl then (⟨R.used.length, 1⟩, 0, { R with used := R.used ++ [1], alive := R.alive ++ [⟨R.used.length, 1⟩] }) else (⟨0, 0⟩, 6, R)
theorem us_get {l : List Pl} {k : Nat} {x : Pl} (h : l[k]? = some x) : (us l)[k]? = some x.u := by unfold us; simp [h]
theorem us_set (l : List Pl) (k : Nat) (x : Pl) : us (l.set k x) = (us l).set k x.u := by unfold us; rw [List.map_set]
theorem us_push (l : List Pl) (x : Pl) : us (l ++ [x]) = us l ++ [x.u] := by unfold us; rw [List.map_append]; rfl
theorem lv_push (S : St) (y : Pl) (q : Hd) : lv { S with tk := S.tk ++ [y] } q = true ↔ (q.p = S.tk.length ∧ y = ⟨q.g, true⟩) ∨ lv S q = true := by
  rw [lv_iff, lv_iff]
  constructor
  · rintro ⟨j, h1, h2⟩
    simp only at h2
    rw [push_get] at h2
    by_cases e : j = S.tk.length
    · rw [if_pos e] at h2
      exact .inl ⟨by rw [h1, e], Option.some.inj h2⟩
    · rw [if_neg e] at h2
      exact .inr ⟨j, h1, h2⟩
  · rintro (⟨h1, h2⟩ | ⟨j, h2, h3⟩)
    · refine ⟨S.tk.length, h1, ?_⟩
      simp only
      rw [push_get, if_pos rfl, h2]
    · refine ⟨j, h2, ?_⟩
      simp only
      rw [push_get, if_neg (by have := get_lt h3; omega)]
      exact h3
theorem sim_take {S : St} {R : Rf} (w : Wf S) (h : Sim S R) : (takeR R).1 = (takeS S).1 ∧ (takeR R).2.1 = (takeS S).2.1 ∧ Sim (takeS S).2.2 (takeR R).2.2 := by
  rcases take_cases w with ⟨r, k, u, h1, h2, h3, h4⟩ | ⟨h1, h2⟩ | ⟨h1, h2⟩
  · have e : takeR R = (⟨k, u + 1⟩, 0, { R with used := R.used.set k (u + 1), free := r, alive := R.alive ++ [⟨k, u + 1⟩] }) := by
      unfold takeR
      rw [h.free, h1, h.used]
      simp [us_get h2]
    rw [e, takeS_freed h1 h2]
    have hl := lenS_set S k ⟨u, false⟩ ⟨u + 1, true⟩ r h2
    simp at hl
    refine ⟨rfl, rfl, h.pl, h.gn, by simp only; rw [us_set, h.used], rfl, fun q => ?_, ?_, ?_⟩
    · rw [lv_set S k _ _ r h2]
      simp only [List.mem_append, List.mem_singleton, h.al, Pl.mk.injEq, and_true]
      constructor
      · rintro (e | rfl)
        · refine .inr ⟨fun e2 => ?_, e⟩
          obtain ⟨j, q1, q2⟩ := (lv_iff S q).1 e
          have : j = k := by omega
          subst this
          rw [h2] at q2
          cases q2
        · exact .inl ⟨rfl, rfl⟩
      · rintro (⟨e1, e2⟩ | ⟨_, e⟩)
        · exact .inr ((Hd.eq_iff _ _).2 ⟨e1, e2.symm⟩)
        · exact .inl e
    · rw [List.nodup_append]
      refine ⟨h.nd, by simp, fun a ha b hb e => ?_⟩
      simp at hb
      subst hb
      obtain ⟨j, q1, q2⟩ := (lv_iff S _).1 ((h.al _).1 ha)
      rw [e] at q1 q2
      simp only at q1 q2
      have : j = k := by omega
      subst this
      rw [h2] at q2
      injection q2 with q2
      injection q2 with q2 q3
      cases q3
    · simp
      rw [h.len]
      omega
  · have e : takeR R = (⟨S.tk.length, 1⟩, 0, { R with used := R.used ++ [1], alive := R.alive ++ [⟨S.tk.length, 1⟩] }) := by
      have h5 : (R.used.length : Int) < R.pl := by rw [h.used, us_len, h.pl]; exact h2
      have h6 : R.used.length = S.tk.length := by rw [h.used, us_len]
      unfold takeR
      rw [h.free, h1]
      simp only [List.getLast?_nil]
      rw [if_pos h5, h6]
    rw [e, takeS_fresh h1 h2]
    have hl := lenS_push S ⟨1, true⟩
    simp at hl
    refine ⟨rfl, rfl, h.pl, h.gn, by simp only; rw [us_push, h.used], h.free, fun q => ?_, ?_, ?_⟩
    · rw [lv_push]
      simp only [List.mem_append, List.mem_singleton, h.al, Pl.mk.injEq, and_true]
      constructor
      · rintro (e | rfl)
        · exact .inr e
        · exact .inl ⟨rfl, rfl⟩
      · rintro (⟨e1, e2⟩ | e)
        · exact .inr ((Hd.eq_iff _ _).2 ⟨e1, e2.symm⟩)
        · exact .inl e
    · rw [List.nodup_append]
      refine ⟨h.nd, by simp, fun a ha b hb e => ?_⟩
      simp at hb
      subst hb
      obtain ⟨j, q1, q2⟩ := (lv_iff S _).1 ((h.al _).1 ha)
      rw [e] at q1
      simp only at q1
      have := get_lt q2
      omega
    · simp
      rw [h.len]
      omega
  · have e : takeR R = (⟨0, 0⟩, 6, R) := by
      have h5 : ¬ (R.used.length : Int) < R.pl := by rw [h.used, us_len, h.pl]; omega
      unfold takeR
      rw [h.free, h1]
      simp only [List.getLast?_nil, if_neg h5]
    rw [e, takeS_full h1 h2]
    exact ⟨rfl, rfl, h⟩
/-- What the document's Free does. -/
def freeB (R : Rf) (h : Hd) : Int × Rf := if h ∈ R.alive then (0, freeR R h) else (5, R)
theorem wo_len_mem : ∀ (l : List Hd) (h : Hd), l.Nodup → h ∈ l → (wo l h).length + 1 = l.length
  | [], h, _, hm => by simp at hm
  | x :: r, h, hn, hm => by
    rw [List.nodup_cons] at hn
    unfold wo
    rw [List.filter_cons]
    by_cases e : x = h
    · subst e
      have : r.filter (fun y => !decide (y = x)) = r := by
        rw [List.filter_eq_self]
        intro y hy
        have : y ≠ x := fun e => hn.1 (by rw [← e]; exact hy)
        simpa using this
      simp [this]
    · have hm2 : h ∈ r := by
        simp at hm
        rcases hm with hm | hm
        · exact absurd hm.symm e
        · exact hm
      have ih := wo_len_mem r h hn.2 hm2
      unfold wo at ih
      simp [e]
      omega
theorem mem_wo (l : List Hd) (h q : Hd) : q ∈ wo l h ↔ q ∈ l ∧ q ≠ h := by unfold wo; simp
theorem sim_free {S : St} {R : Rf} (h : Sim S R) (q : Hd) : (freeB R q).1 = (freeA S q).1 ∧ Sim (freeA S q).2 (freeB R q).2 := by
  by_cases hl : lv S q = true
  · have hm : q ∈ R.alive := (h.al q).2 hl
    obtain ⟨k, h1, h2⟩ := (lv_iff S q).1 hl
    obtain ⟨p, g⟩ := q
    simp only at h1 h2
    subst h1
    unfold freeB
    rw [if_pos hm, freeA_yes h2]
    refine ⟨rfl, h.pl, h.gn, ?_, ?_, fun q => ?_, ?_, ?_⟩
    · unfold freeR freeS
      simp only
      rw [h.used, us_set]
      have h3 := us_get h2
      apply List.ext_getElem?
      intro j
      by_cases e : j = k
      · subst e
        rw [List.getElem?_set_self (get_lt h3)]
        exact h3
      · rw [List.getElem?_set_ne (fun h => e h.symm)]
    · unfold freeR freeS
      simp only
      rw [h.gn, h.free]
    · unfold freeR freeS
      rw [lv_set S k _ _ _ h2]
      simp only [mem_wo, h.al, Pl.mk.injEq]
      constructor
      · rintro ⟨e1, e2⟩
        refine .inr ⟨fun e3 => e2 ?_, e1⟩
        obtain ⟨j, q1, q2⟩ := (lv_iff S q).1 e1
        have : j = k := by omega
        subst this
        rw [h2] at q2
        injection q2 with q2
        injection q2 with q2
        exact (Hd.eq_iff _ _).2 ⟨e3, q2.symm⟩
      · rintro (⟨_, _, e⟩ | ⟨e1, e2⟩)
        · cases e
        · exact ⟨e2, fun e => e1 (by rw [e])⟩
    · unfold freeR
      exact h.nd.filter _
    · have h3 := wo_len_mem R.alive ⟨k, g⟩ h.nd hm
      have h4 := lenS_set S k ⟨g, true⟩ ⟨g, false⟩ (if g < S.gn then S.fr ++ [(k : Int)] else S.fr) h2
      have h5 := h.len
      simp at h4
      unfold freeR freeS
      simp only
      omega
  · have hm : q ∉ R.alive := fun e => hl ((h.al q).1 e)
    unfold freeB
    rw [if_neg hm, freeA_no (by simpa using hl)]
    exact ⟨rfl, h⟩
/-- At tells the same. -/
theorem sim_at {S : St} {R : Rf} (h : Sim S R) (x : Int) : atR R.alive x = atS S x := by
  by_cases hx : ∃ q ∈ R.alive, q.p = x
  · obtain ⟨q, hq, rfl⟩ := hx
    obtain ⟨k, h1, h2⟩ := (lv_iff S q).1 ((h.al q).1 hq)
    have e1 : atS S q.p = (q, true) := by
      unfold atS
      rw [h1]
      simp [h2]
      exact (Hd.eq_iff _ _).2 ⟨h1.symm, rfl⟩
    rw [e1]
    unfold atR
    cases hf : R.alive.find? (fun h => decide (h.p = q.p)) with
    | none =>
      rw [List.find?_eq_none] at hf
      exact absurd (hf q hq) (by simp)
    | some z =>
      have hz := List.find?_some hf
      have hzm := List.mem_of_find?_eq_some hf
      simp at hz
      obtain ⟨j, h3, h4⟩ := (lv_iff S z).1 ((h.al z).1 hzm)
      have : j = k := by omega
      subst this
      rw [h2] at h4
      injection h4 with h4
      injection h4 with h4
      have : z = q := (Hd.eq_iff _ _).2 ⟨hz, h4.symm⟩
      rw [this]
  · have e1 : atR R.alive x = (⟨0, 0⟩, false) := atR_none _ _ (fun z hz e => hx ⟨z, hz, e⟩)
    rw [e1]
    unfold atS
    by_cases h0 : 0 ≤ x
    · rw [if_pos h0]
      cases hq : S.tk[x.toNat]? with
      | none => rfl
      | some p =>
        obtain ⟨u, a⟩ := p
        cases a
        · rfl
        · exfalso
          apply hx
          refine ⟨⟨x, u⟩, (h.al _).2 ((lv_iff S _).2 ⟨x.toNat, by simp; omega, hq⟩), rfl⟩
    · rw [if_neg h0]
theorem sim_alive {S : St} {R : Rf} (h : Sim S R) (q : Hd) : decide (q ∈ R.alive) = lv S q := by
  rw [Bool.eq_iff_iff, decide_eq_true_eq]
  exact h.al q
end Go.Proofs.Ytlohpccfanmiiaa
