/-
  Which images are good, and what slab they make.
-/
import Derived.Test.YtlohpccfanmiiaaOf
namespace Go.Proofs.Ytlohpccfanmiiaa
/-- What an image must be. -/
structure Good (P : Nat) (G : Int) (ul fl : List Int) (al : List Hd) : Prop where
  g1 : ul.length ≤ P
  g2 : ∀ u ∈ ul, 1 ≤ u ∧ u ≤ G
  g3 : ∀ x ∈ fl, ∃ (k : Nat) (u : Int), x = k ∧ ul[k]? = some u ∧ u < G
  g4 : fl.Nodup
  g5 : ∀ h ∈ al, ∃ k : Nat, h.p = k ∧ ul[k]? = some h.g
  g6 : (al.map (·.p)).Nodup
  g7 : ∀ h ∈ al, h.p ∉ fl
  g8 : ∀ (i : Nat) (u : Int), ul[i]? = some u → (i : Int) ∈ fl ∨ (∃ h ∈ al, h.p = i) ∨ ¬ u < G
theorem getD_set (s : List Bool) (k j : Nat) (h : k < s.length) : (s.set k true).getD j false = if j = k then true else s.getD j false := by
  by_cases e : j = k
  · subst e
    rw [if_pos rfl, List.getD_eq_getElem?_getD, List.getElem?_set_self h]
    rfl
  · rw [if_neg e, List.getD_eq_getElem?_getD, List.getElem?_set_ne (fun h => e h.symm), ← List.getD_eq_getElem?_getD]
/-- What going through a list and marking comes to. -/
theorem runs_mark {α : Type} (key : α → Int) (cond : α → Bool) (ok : List Bool → α → Bool) (nx : List Bool → α → List Bool) (hok : ∀ s x, ok s x = (cond x && !(s.getD (key x).toNat false))) (hnx : ∀ s x, nx s x = if cond x then s.set (key x).toNat true else s) (n : Nat) (hc : ∀ x, cond x = true → ∃ k : Nat, key x = k ∧ k < n) :
    ∀ (l : List α) (s : List Bool), s.length = n → ((runs ok nx s l).1 = true ↔ (∀ x ∈ l, cond x = true ∧ s.getD (key x).toNat false = false) ∧ (l.map key).Nodup) ∧ ((runs ok nx s l).1 = true → ∀ i : Nat, (runs ok nx s l).2.getD i false = true ↔ s.getD i false = true ∨ ∃ x ∈ l, key x = i)
  | [], s, _ => by simp [runs]
  | x :: r, s, hs => by
    cases h : ok s x with
    | false =>
      have e : runs ok nx s (x :: r) = (false, nx s x) := by unfold runs; rw [h]; rfl
      rw [e]
      refine ⟨⟨fun h => absurd h (by simp), fun ⟨h1, _⟩ => ?_⟩, fun h => absurd h (by simp)⟩
      have h2 := h1 x (by simp)
      rw [hok, h2.1, h2.2] at h
      simp at h
    | true =>
      have e : runs ok nx s (x :: r) = runs ok nx (nx s x) r := by
        show (if ok s x then runs ok nx (nx s x) r else (false, nx s x)) = _
        rw [h]; rfl
      rw [hok] at h
      have hcx : cond x = true := by cases h1 : cond x <;> simp_all
      have hsx : s.getD (key x).toNat false = false := by rw [hcx] at h; simpa using h
      obtain ⟨k, hk, hkn⟩ := hc x hcx
      have hn : nx s x = s.set k true := by rw [hnx, hcx, hk]; simp
      rw [hk] at hsx
      simp only [Int.toNat_natCast] at hsx
      rw [e, hn]
      have ih := runs_mark key cond ok nx hok hnx n hc r (s.set k true) (by simpa using hs)
      refine ⟨?_, fun h1 i => ?_⟩
      · rw [ih.1]
        constructor
        · rintro ⟨h1, h2⟩
          refine ⟨fun y hy => ?_, ?_⟩
          · rw [List.mem_cons] at hy
            rcases hy with rfl | hy
            · exact ⟨hcx, by rw [hk]; simpa using hsx⟩
            · have h3 := h1 y hy
              refine ⟨h3.1, ?_⟩
              have h4 := h3.2
              rw [getD_set s k _ (by omega)] at h4
              by_cases e2 : (key y).toNat = k
              · rw [if_pos e2] at h4; cases h4
              · rw [if_neg e2] at h4; exact h4
          · rw [List.map_cons, List.nodup_cons]
            refine ⟨fun h3 => ?_, h2⟩
            obtain ⟨y, hy, hyk⟩ := List.mem_map.1 h3
            have h4 := (h1 y hy).2
            rw [hyk, hk, getD_set s k _ (by omega)] at h4
            simp at h4
        · rintro ⟨h1, h2⟩
          rw [List.map_cons, List.nodup_cons] at h2
          refine ⟨fun y hy => ?_, h2.2⟩
          have h3 := h1 y (List.mem_cons_of_mem _ hy)
          refine ⟨h3.1, ?_⟩
          rw [getD_set s k _ (by omega), if_neg]
          · exact h3.2
          · intro e2
            obtain ⟨k2, hk2, _⟩ := hc y h3.1
            apply h2.1
            rw [List.mem_map]
            refine ⟨y, hy, ?_⟩
            rw [hk, hk2]
            rw [hk2] at e2
            simp at e2
            rw [e2]
      · rw [ih.2 h1 i, getD_set s k _ (by omega)]
        constructor
        · rintro (h2 | ⟨y, hy, h2⟩)
          · by_cases e2 : i = k
            · exact .inr ⟨x, by simp, by rw [hk, e2]⟩
            · rw [if_neg e2] at h2
              exact .inl h2
          · exact .inr ⟨y, List.mem_cons_of_mem _ hy, h2⟩
        · rintro (h2 | ⟨y, hy, h2⟩)
          · by_cases e2 : i = k
            · rw [if_pos e2]; exact .inl rfl
            · rw [if_neg e2]; exact .inl h2
          · rw [List.mem_cons] at hy
            rcases hy with rfl | hy
            · have : i = k := by omega
              rw [if_pos this]
              exact .inl rfl
            · exact .inr ⟨y, hy, h2⟩
def cF (G : Int) (ul : List Int) (x : Int) : Bool := knw ul.length x && decide (ul.getD x.toNat 0 < G)
def cA (ul : List Int) (h : Hd) : Bool := knw ul.length h.p && decide (ul.getD h.p.toNat 0 = h.g)
theorem knw_iff (n : Nat) (x : Int) : knw n x = true ↔ ∃ k : Nat, x = k ∧ k < n := by
  unfold knw
  rw [decide_eq_true_eq]
  constructor
  · intro h
    exact ⟨x.toNat, by omega, by omega⟩
  · rintro ⟨k, rfl, h⟩
    omega
theorem cF_iff (G : Int) (ul : List Int) (x : Int) : cF G ul x = true ↔ ∃ (k : Nat) (u : Int), x = k ∧ ul[k]? = some u ∧ u < G := by
  unfold cF
  rw [Bool.and_eq_true, knw_iff, decide_eq_true_eq]
  constructor
  · rintro ⟨⟨k, rfl, hk⟩, h⟩
    refine ⟨k, ul[k], rfl, List.getElem?_eq_getElem hk, ?_⟩
    simpa [List.getD_eq_getElem?_getD, List.getElem?_eq_getElem hk] using h
  · rintro ⟨k, u, rfl, h1, h2⟩
    exact ⟨⟨k, rfl, get_lt h1⟩, by simpa [List.getD_eq_getElem?_getD, h1] using h2⟩
theorem cA_iff (ul : List Int) (h : Hd) : cA ul h = true ↔ ∃ k : Nat, h.p = k ∧ ul[k]? = some h.g := by
  unfold cA
  rw [Bool.and_eq_true, knw_iff, decide_eq_true_eq]
  constructor
  · rintro ⟨⟨k, h1, hk⟩, h2⟩
    refine ⟨k, h1, ?_⟩
    rw [h1] at h2
    simp [List.getD_eq_getElem?_getD, List.getElem?_eq_getElem hk] at h2
    rw [List.getElem?_eq_getElem hk, h2]
  · rintro ⟨k, h1, h2⟩
    refine ⟨⟨k, h1, get_lt h2⟩, ?_⟩
    rw [h1]
    simp [List.getD_eq_getElem?_getD, h2]
theorem upto_good (P : Nat) (G : Int) (ul fl : List Int) (al : List Hd) : Upto 5 P G ul fl al ↔ Good P G ul fl al := by
  have hrep : ∀ i, (List.replicate P false).getD i false = false := fun i => by
    rw [List.getD_eq_getElem?_getD, List.getElem?_replicate]
    split <;> rfl
  have key : ul.length ≤ P → ((mF P G ul fl).1 = true ↔ (∀ x ∈ fl, cF G ul x = true) ∧ fl.Nodup) ∧ ((mF P G ul fl).1 = true → ∀ i : Nat, (mF P G ul fl).2.getD i false = true ↔ (i : Int) ∈ fl) ∧ (mF P G ul fl).2.length = P := fun h1 => by
    have h := runs_mark (fun x : Int => x) (cF G ul) (okF G ul) (nxF G ul) (fun s x => rfl) (fun s x => rfl) P (fun x hx => by
      obtain ⟨k, u, h2, h3, _⟩ := (cF_iff G ul x).1 hx
      exact ⟨k, h2, by have := get_lt h3; omega⟩) fl (List.replicate P false) (by simp)
    refine ⟨?_, fun h2 i => ?_, ?_⟩
    · unfold mF
      rw [h.1]
      constructor
      · rintro ⟨h2, h3⟩
        exact ⟨fun x hx => (h2 x hx).1, by simpa using h3⟩
      · rintro ⟨h2, h3⟩
        exact ⟨fun x hx => ⟨h2 x hx, hrep _⟩, by simpa using h3⟩
    · unfold mF at h2 ⊢
      rw [h.2 h2 i, hrep]
      constructor
      · rintro (h3 | ⟨x, hx, h3⟩)
        · cases h3
        · have h3 : x = (i : Int) := h3
          rw [← h3]; exact hx
      · exact fun h3 => Or.inr ⟨_, h3, rfl⟩
    · have hl : ∀ (l : List Int) (s : List Bool), (runs (okF G ul) (nxF G ul) s l).2.length = s.length := fun l => by
        induction l with
        | nil => intro s; rfl
        | cons x r ih =>
          intro s
          unfold runs
          split
          · rw [ih, nxF_len]
          · exact nxF_len _ _ _ _
      unfold mF
      rw [hl]
      simp
  have keyA : ul.length ≤ P → (mF P G ul fl).1 = true → ((mA P G ul fl al).1 = true ↔ (∀ h ∈ al, cA ul h = true ∧ h.p ∉ fl) ∧ (al.map (·.p)).Nodup) ∧ ((mA P G ul fl al).1 = true → ∀ i : Nat, (mA P G ul fl al).2.getD i false = true ↔ (i : Int) ∈ fl ∨ ∃ h ∈ al, h.p = i) := fun h1 h0 => by
    obtain ⟨_, k2, k3⟩ := key h1
    have hcc : ∀ x : Hd, cA ul x = true → ∃ k : Nat, x.p = k ∧ k < P := fun x hx => by
      obtain ⟨k, h2, h3⟩ := (cA_iff ul x).1 hx
      exact ⟨k, h2, by have := get_lt h3; omega⟩
    have h := runs_mark (fun x : Hd => x.p) (cA ul) (okA ul) (nxA ul) (fun s x => rfl) (fun s x => rfl) P hcc al (mF P G ul fl).2 k3
    refine ⟨?_, fun h2 i => ?_⟩
    · unfold mA
      rw [h.1]
      constructor
      · rintro ⟨h2, h3⟩
        refine ⟨fun q hq => ⟨(h2 q hq).1, fun e => ?_⟩, h3⟩
        obtain ⟨k, e2, _⟩ := hcc q (h2 q hq).1
        have h4 := (h2 q hq).2
        have h5 := (k2 h0 k).2 (by rw [← e2]; exact e)
        rw [e2] at h4
        simp only [Int.toNat_natCast] at h4
        rw [h5] at h4
        cases h4
      · rintro ⟨h2, h3⟩
        refine ⟨fun q hq => ⟨(h2 q hq).1, ?_⟩, h3⟩
        obtain ⟨k, e2, _⟩ := hcc q (h2 q hq).1
        rw [e2]
        simp only [Int.toNat_natCast]
        rw [Bool.eq_false_iff]
        intro h4
        apply (h2 q hq).2
        rw [e2]
        exact (k2 h0 k).1 h4
    · unfold mA at h2 ⊢
      rw [h.2 h2 i, k2 h0 i]
  have hlA : (mA P G ul fl al).2.length = (mF P G ul fl).2.length := by
    have hl : ∀ (l : List Hd) (s : List Bool), (runs (okA ul) (nxA ul) s l).2.length = s.length := fun l => by
      induction l with
      | nil => intro s; rfl
      | cons x r ih =>
        intro s
        unfold runs
        split
        · rw [ih, nxA_len]
        · exact nxA_len _ _ _
    unfold mA
    rw [hl]
  have getB : ∀ (s : List Bool) (i : Nat) (b : Bool), s[i]? = some b → s.getD i false = b := fun s i b h => by simp [List.getD_eq_getElem?_getD, h]
  constructor
  · intro h
    have a1 := h.a1 (by omega)
    have a3 := h.a3 (by omega)
    have a4 := h.a4 (by omega)
    obtain ⟨k1, _, k3⟩ := key a1
    obtain ⟨l1, l2⟩ := keyA a1 a3
    have c1 := k1.1 a3
    have c2 := l1.1 a4
    refine ⟨a1, fun u hu => ?_, fun x hx => (cF_iff G ul x).1 (c1.1 x hx), c1.2, fun q hq => (cA_iff ul q).1 (c2.1 q hq).1, c2.2, fun q hq => (c2.1 q hq).2, fun i u hu => ?_⟩
    · have := List.all_eq_true.1 (h.a2 (by omega)) u hu
      exact of_decide_eq_true this
    · have hlt := get_lt hu
      obtain ⟨b, hb⟩ : ∃ b, (mA P G ul fl al).2[i]? = some b := ⟨_, List.getElem?_eq_getElem (by omega)⟩
      rcases h.a5 (by omega) i u b hu hb with e | e
      · rcases (l2 a4 i).1 (by rw [getB _ _ _ hb]; exact e) with e2 | e2
        · exact .inl e2
        · exact .inr (.inl e2)
      · exact .inr (.inr e)
  · intro h
    obtain ⟨k1, _, _⟩ := key h.g1
    have a3 : (mF P G ul fl).1 = true := k1.2 ⟨fun x hx => (cF_iff G ul x).2 (h.g3 x hx), h.g4⟩
    obtain ⟨l1, l2⟩ := keyA h.g1 a3
    have a4 : (mA P G ul fl al).1 = true := l1.2 ⟨fun q hq => ⟨(cA_iff ul q).2 (h.g5 q hq), h.g7 q hq⟩, h.g6⟩
    refine ⟨fun _ => h.g1, fun _ => List.all_eq_true.2 (fun u hu => decide_eq_true (h.g2 u hu)), fun _ => a3, fun _ => a4, fun _ i u b hu hb => ?_⟩
    rcases h.g8 i u hu with e | e | e
    · exact .inl (by rw [← getB _ _ _ hb]; exact (l2 a4 i).2 (.inl e))
    · exact .inl (by rw [← getB _ _ _ hb]; exact (l2 a4 i).2 (.inr e))
    · exact .inr e
/-- What the slab of an image is, place by place. -/
theorem fA_get : ∀ (al : List Hd) (t : List Pl) (j : Nat), (fA t al)[j]? = t[j]?.map (fun x => ⟨x.u, x.al || al.any (fun h => decide (h.p.toNat = j))⟩)
  | [], t, j => by
    show t[j]? = _
    cases t[j]? <;> simp
  | h :: r, t, j => by
    show (fA (setA t h) r)[j]? = _
    rw [fA_get r (setA t h) j]
    unfold setA
    cases hx : t[h.p.toNat]? with
    | none =>
      simp only
      cases hj : t[j]? with
      | none => rfl
      | some y =>
        have : ¬ h.p.toNat = j := fun e => by rw [e, hj] at hx; cases hx
        simp [this]
    | some x =>
      simp only
      rw [set_get t h.p.toNat x _ j hx]
      by_cases e : j = h.p.toNat
      · subst e
        rw [if_pos rfl, hx]
        simp
      · rw [if_neg e]
        have : ¬ h.p.toNat = j := fun e2 => e e2.symm
        cases t[j]? <;> simp [this]
theorem tk0_get (ul : List Int) (j : Nat) : (tk0 ul)[j]? = ul[j]?.map (fun u => ⟨u, false⟩) := by unfold tk0; simp
theorem fA_cnt : ∀ (al : List Hd) (t : List Pl), (∀ h ∈ al, ∃ x : Pl, t[h.p.toNat]? = some x ∧ x.al = false) → (al.map (fun h => h.p.toNat)).Nodup → ((fA t al).filter (·.al)).length = (t.filter (·.al)).length + al.length
  | [], t, _, _ => rfl
  | h :: r, t, h1, h2 => by
    rw [List.map_cons, List.nodup_cons] at h2
    obtain ⟨x, hx, hxa⟩ := h1 h (by simp)
    have e : setA t h = t.set h.p.toNat ⟨x.u, true⟩ := by unfold setA; rw [hx]
    show ((fA (setA t h) r).filter (·.al)).length = _
    rw [fA_cnt r (setA t h) (fun q hq => by
      obtain ⟨y, hy, hya⟩ := h1 q (List.mem_cons_of_mem _ hq)
      refine ⟨y, ?_, hya⟩
      rw [e, set_get t _ x _ _ hx, if_neg]
      · exact hy
      · intro e2
        exact h2.1 (List.mem_map.2 ⟨q, hq, e2⟩)) h2.2]
    have hc := cnt_set t h.p.toNat x ⟨x.u, true⟩ hx
    rw [e]
    simp [hxa] at hc ⊢
    omega
def ofR (P : Nat) (G : Int) (ul fl : List Int) (al : List Hd) : Rf := ⟨P, G, ul, fl, al⟩
theorem nodup_of_map {α β : Type} (f : α → β) : ∀ l : List α, (l.map f).Nodup → l.Nodup
  | [], _ => by simp
  | x :: r, h => by
    rw [List.map_cons, List.nodup_cons] at h
    rw [List.nodup_cons]
    exact ⟨fun hm => h.1 (List.mem_map.2 ⟨x, hm, rfl⟩), nodup_of_map f r h.2⟩
theorem nodup_map {α β : Type} (f : α → β) : ∀ l : List α, l.Nodup → (∀ a ∈ l, ∀ b ∈ l, f a = f b → a = b) → (l.map f).Nodup
  | [], _, _ => by simp
  | x :: r, h, hi => by
    rw [List.nodup_cons] at h
    rw [List.map_cons, List.nodup_cons]
    refine ⟨fun hm => ?_, nodup_map f r h.2 (fun a ha b hb => hi a (List.mem_cons_of_mem _ ha) b (List.mem_cons_of_mem _ hb))⟩
    obtain ⟨y, hy, e⟩ := List.mem_map.1 hm
    have := hi y (List.mem_cons_of_mem _ hy) x (by simp) e
    rw [this] at hy
    exact h.1 hy
theorem of_sim {P : Nat} {G : Int} {ul fl : List Int} {al : List Hd} (h : Good P G ul fl al) : Sim (ofS P G ul fl al) (ofR P G ul fl al) := by
  have hget : ∀ j : Nat, (ofS P G ul fl al).tk[j]? = ul[j]?.map (fun u => ⟨u, al.any (fun q => decide (q.p.toNat = j))⟩) := fun j => by
    unfold ofS
    simp only
    rw [fA_get, tk0_get]
    cases ul[j]? <;> simp
  refine ⟨rfl, rfl, ?_, rfl, fun q => ?_, nodup_of_map _ _ h.g6, ?_⟩
  · show ul = us _
    apply List.ext_getElem?
    intro j
    unfold us
    rw [List.getElem?_map, hget]
    cases ul[j]? <;> simp
  · rw [lv_iff]
    show q ∈ al ↔ _
    constructor
    · intro hq
      obtain ⟨k, h1, h2⟩ := h.g5 q hq
      refine ⟨k, h1, ?_⟩
      rw [hget, h2]
      simp only [Option.map_some, Option.some.injEq, Pl.mk.injEq, true_and, List.any_eq_true, decide_eq_true_eq]
      exact ⟨q, hq, by rw [h1]; simp⟩
    · rintro ⟨k, h1, h2⟩
      rw [hget] at h2
      obtain ⟨u, hu, e⟩ := Option.map_eq_some_iff.1 h2
      injection e with e1 e2
      subst e1
      obtain ⟨y, hy, hyk⟩ := List.any_eq_true.1 e2
      rw [decide_eq_true_eq] at hyk
      obtain ⟨k2, e3, e4⟩ := h.g5 y hy
      have : k2 = k := by rw [e3] at hyk; simpa using hyk
      subst this
      rw [hu] at e4
      injection e4 with e4
      have : q = y := (Hd.eq_iff _ _).2 ⟨by rw [h1, e3], e4⟩
      rw [this]
      exact hy
  · show al.length = _
    unfold lenS ofS
    simp only
    rw [fA_cnt al (tk0 ul) (fun q hq => by
      obtain ⟨k, h1, h2⟩ := h.g5 q hq
      exact ⟨⟨q.g, false⟩, by rw [tk0_get, h1]; simp [h2], rfl⟩) (by
      have := nodup_map (fun q : Hd => q.p.toNat) al (nodup_of_map _ _ h.g6) (fun a ha b hb e => by
        obtain ⟨k, h1, h2⟩ := h.g5 a ha
        obtain ⟨k2, h3, h4⟩ := h.g5 b hb
        rw [h1, h3] at e
        simp at e
        subst e
        rw [h2] at h4
        injection h4 with h4
        exact (Hd.eq_iff _ _).2 ⟨by rw [h1, h3], h4⟩)
      exact this)]
    have : ((tk0 ul).filter (·.al)).length = 0 := by
      unfold tk0
      rw [List.length_eq_zero_iff, List.filter_eq_nil_iff]
      intro x hx
      obtain ⟨u, _, rfl⟩ := List.mem_map.1 hx
      simp
    omega
/-- The image of a slab is good, and makes it. -/
theorem image_good {S : St} {R : Rf} {P : Nat} (w : Wf S) (h : Sim S R) (hP : S.pl = P) : Good P S.gn (us S.tk) S.fr R.alive ∧ ofS P S.gn (us S.tk) S.fr R.alive = S := by
  have husg : ∀ (k : Nat) (u : Int), (us S.tk)[k]? = some u ↔ ∃ a, S.tk[k]? = some ⟨u, a⟩ := fun k u => by
    unfold us
    rw [List.getElem?_map, Option.map_eq_some_iff]
    constructor
    · rintro ⟨⟨u2, a⟩, h1, rfl⟩
      exact ⟨a, h1⟩
    · rintro ⟨a, h1⟩
      exact ⟨_, h1, rfl⟩
  have huniq : ∀ a ∈ R.alive, ∀ b ∈ R.alive, a.p = b.p → a = b := fun a ha b hb e => by
    obtain ⟨k, h1, h2⟩ := (lv_iff S a).1 ((h.al a).1 ha)
    obtain ⟨k2, h3, h4⟩ := (lv_iff S b).1 ((h.al b).1 hb)
    have : k = k2 := by omega
    subst this
    rw [h2] at h4
    injection h4 with h4
    injection h4 with h4
    exact (Hd.eq_iff _ _).2 ⟨e, h4⟩
  have hg : Good P S.gn (us S.tk) S.fr R.alive := by
    refine ⟨by rw [us_len]; have := w.len; omega, fun u hu => ?_, fun x hx => ?_, w.nd, fun q hq => ?_, nodup_map _ _ h.nd huniq, fun q hq e => ?_, fun i u hu => ?_⟩
    · obtain ⟨k, hk⟩ := List.getElem?_of_mem hu
      obtain ⟨a, ha⟩ := (husg k u).1 hk
      exact w.us k _ ha
    · obtain ⟨k, u, h1, h2, h3⟩ := w.fr x hx
      exact ⟨k, u, h1, (husg k u).2 ⟨_, h2⟩, h3⟩
    · obtain ⟨k, h1, h2⟩ := (lv_iff S q).1 ((h.al q).1 hq)
      exact ⟨k, h1, (husg k q.g).2 ⟨_, h2⟩⟩
    · obtain ⟨k, h1, h2⟩ := (lv_iff S q).1 ((h.al q).1 hq)
      obtain ⟨k2, u, h3, h4, _⟩ := w.fr q.p e
      have : k = k2 := by omega
      subst this
      rw [h2] at h4
      cases h4
    · obtain ⟨a, ha⟩ := (husg i u).1 hu
      cases a with
      | true => exact .inr (.inl ⟨⟨i, u⟩, (h.al _).2 ((lv_iff S _).2 ⟨i, rfl, ha⟩), rfl⟩)
      | false =>
        rcases w.wn i u ha with e | e
        · exact .inl e
        · exact .inr (.inr e)
  refine ⟨hg, ?_⟩
  have htk : fA (tk0 (us S.tk)) R.alive = S.tk := by
    apply List.ext_getElem?
    intro j
    rw [fA_get, tk0_get]
    unfold us
    rw [List.getElem?_map]
    cases hj : S.tk[j]? with
    | none => rfl
    | some x =>
      obtain ⟨u, a⟩ := x
      simp only [Option.map_some, Option.some.injEq, Pl.mk.injEq, true_and, Bool.false_or]
      rw [Bool.eq_iff_iff, List.any_eq_true]
      constructor
      · rintro ⟨q, hq, e⟩
        rw [decide_eq_true_eq] at e
        obtain ⟨k, h1, h2⟩ := (lv_iff S q).1 ((h.al q).1 hq)
        rw [h1] at e
        simp at e
        subst e
        rw [hj] at h2
        injection h2 with h2
        injection h2 with _ h2
      · intro e
        subst e
        exact ⟨⟨j, u⟩, (h.al _).2 ((lv_iff S _).2 ⟨j, rfl, hj⟩), by simp⟩
  unfold ofS
  rw [htk, ← hP]
end Go.Proofs.Ytlohpccfanmiiaa
