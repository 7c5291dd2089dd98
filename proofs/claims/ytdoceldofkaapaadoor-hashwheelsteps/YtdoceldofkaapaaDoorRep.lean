/-
  Rings and the lists that they are: how each call turns both.
-/
import Derived.Test.YtdoceldofkaapaaDoorXah
set_option linter.unusedVariables false
set_option linter.unusedSimpArgs false
namespace Go.Proofs.YtdoceldofkaapaaDoor
/-- Lists. -/
abbrev Ls := Nat → List Nat
def upd (ls : Ls) (t : Nat) (l : List Nat) : Ls := fun k => if k = t then l else ls k
theorem upd_same (ls : Ls) (t : Nat) (l : List Nat) : upd ls t l t = l := by simp [upd]
theorem upd_other (ls : Ls) {t k : Nat} (l : List Nat) (h : k ≠ t) : upd ls t l k = ls k := by simp [upd, h]
/-- A ring is those lists. -/
structure Rep (P L : Nat) (g : Rg) (ls : Ls) : Prop where
  fw : ∀ t, t < L → Path (fun i => (g i).bh) ((P + t) :: ls t ++ [P + t])
  bw : ∀ t, t < L → Path (fun i => (g i).ah) ((P + t) :: (ls t).reverse ++ [P + t])
  pl : ∀ t, t < L → ∀ i ∈ ls t, i < P
  li : ∀ t, t < L → ∀ i ∈ ls t, (g i).li = t
  le : ∀ t, t < L → (g (P + t)).li = t
  nd : ∀ t, t < L → (ls t).Nodup
  al : ∀ i, i < P → (∀ t, t < L → i ∉ ls t) → g i = al0
theorem Rep.nodupE {P L : Nat} {g : Rg} {ls : Ls} (h : Rep P L g ls) {t : Nat} (ht : t < L) : ((P + t) :: ls t).Nodup :=
  List.nodup_cons.2 ⟨fun e => by have := h.pl t ht _ e; omega, h.nd t ht⟩
/-- A place is in one list at most. -/
theorem Rep.one {P L : Nat} {g : Rg} {ls : Ls} (h : Rep P L g ls) {s t i : Nat} (hs : s < L) (ht : t < L) (h1 : i ∈ ls s) (h2 : i ∈ ls t) : s = t := by
  have e1 := h.li s hs i h1
  have e2 := h.li t ht i h2
  omega
/-- Is it in a list, and in which? -/
theorem Rep.cases {P L : Nat} {g : Rg} {ls : Ls} (h : Rep P L g ls) {i : Nat} (hi : i < P) : (∃ t, t < L ∧ i ∈ ls t ∧ (g i).li = t) ∨ ((∀ t, t < L → i ∉ ls t) ∧ g i = al0) := by
  by_cases e : ∃ t, t < L ∧ i ∈ ls t
  · obtain ⟨t, h1, h2⟩ := e
    exact .inl ⟨t, h1, h2, h.li t h1 i h2⟩
  · have e2 : ∀ t, t < L → i ∉ ls t := fun t h1 h2 => e ⟨t, h1, h2⟩
    exact .inr ⟨e2, h.al i hi e2⟩
theorem Rep.fwd {P L : Nat} {g : Rg} {ls : Ls} (h : Rep P L g ls) {t : Nat} (ht : t < L) : Met (fun i => (g i).bh) P (P + t) (ls t) := met_of_path (by omega) (h.fw t ht) (h.pl t ht)
theorem Rep.bwd {P L : Nat} {g : Rg} {ls : Ls} (h : Rep P L g ls) {t : Nat} (ht : t < L) : Met (fun i => (g i).ah) P (P + t) (ls t).reverse :=
  met_of_path (by omega) (h.bw t ht) (fun i hi => h.pl t ht i (List.mem_reverse.1 hi))
theorem Rep.next {P L : Nat} {g : Rg} {ls : Ls} (h : Rep P L g ls) {t : Nat} (ht : t < L) {x y : List Nat} {p : Nat} (hl : ls t = x ++ p :: y) : Met (fun i => (g i).bh) P p y := by
  have h1 := h.fw t ht
  rw [hl] at h1
  exact met_from h1 (by omega) (fun i hi => h.pl t ht i (by rw [hl]; simp [hi]))
theorem Rep.prev {P L : Nat} {g : Rg} {ls : Ls} (h : Rep P L g ls) {t : Nat} (ht : t < L) {x y : List Nat} {p : Nat} (hl : ls t = x ++ p :: y) : Met (fun i => (g i).ah) P p x.reverse := by
  have h1 := h.bw t ht
  have e : (ls t).reverse = y.reverse ++ p :: x.reverse := by rw [hl]; simp
  rw [e] at h1
  exact met_from h1 (by omega) (fun i hi => h.pl t ht i (by rw [hl]; simp [List.mem_reverse.1 hi]))
theorem Rep.alone {P : Nat} {g : Rg} {i : Nat} (h : g i = al0) : Met (fun i => (g i).bh) P i [] ∧ Met (fun i => (g i).ah) P i [] := by
  constructor
  · show ¬ (0 ≤ (g i).bh ∧ (g i).bh < P)
    rw [h]; simp
  · show ¬ (0 ≤ (g i).ah ∧ (g i).ah < P)
    rw [h]; simp
/-- What stands ahead of the end is the last one. -/
theorem Rep.endah {P L : Nat} {g : Rg} {ls : Ls} (h : Rep P L g ls) {t : Nat} (ht : t < L) : (g (P + t)).ah = lst (P + t) (ls t) := by
  have := path_first (d := fun i => (g i).ah) (h.bw t ht)
  rw [fst_reverse] at this
  exact this
theorem Rep.ahead {P L : Nat} {g : Rg} {ls : Ls} (h : Rep P L g ls) {t : Nat} (ht : t < L) {x y : List Nat} {p : Nat} (hl : ls t = x ++ p :: y) : (g p).ah = lst (P + t) x := by
  have h1 := h.bw t ht
  have e : (P + t) :: (ls t).reverse ++ [P + t] = ((P + t) :: y.reverse) ++ p :: (x.reverse ++ [P + t]) := by rw [hl]; simp
  rw [e, path_append] at h1
  have := path_first (d := fun i => (g i).ah) h1.2
  rw [fst_reverse] at this
  exact this
theorem Rep.behind {P L : Nat} {g : Rg} {ls : Ls} (h : Rep P L g ls) {t : Nat} (ht : t < L) {x y : List Nat} {p : Nat} (hl : ls t = x ++ p :: y) : (g p).bh = fst (P + t) y := by
  have h1 := h.fw t ht
  have e : (P + t) :: ls t ++ [P + t] = ((P + t) :: x) ++ p :: (y ++ [P + t]) := by rw [hl]; simp
  rw [e, path_append] at h1
  exact path_first (d := fun i => (g i).bh) h1.2
theorem Rep.lst_lt {P L : Nat} {g : Rg} {ls : Ls} (h : Rep P L g ls) {t : Nat} (ht : t < L) {x : List Nat} (hx : ∀ i ∈ x, i ∈ ls t) : lst (P + t) x < P + L := by
  rcases lst_mem (P + t) x with e | e
  · omega
  · have := h.pl t ht _ (hx _ e); omega
theorem Rep.fst_lt {P L : Nat} {g : Rg} {ls : Ls} (h : Rep P L g ls) {t : Nat} (ht : t < L) {x : List Nat} (hx : ∀ i ∈ x, i ∈ ls t) : fst (P + t) x < P + L := by
  rcases fst_mem (P + t) x with e | e
  · omega
  · have := h.pl t ht _ (hx _ e); omega

/-! How joinG and its kin turn what stands beside. -/
theorem join_bh (g : Rg) (a b k : Nat) : (joinG g a b k).bh = if k = a then (b : Int) else (g k).bh := by unfold joinG upA upB; split <;> split <;> simp_all
theorem join_ah (g : Rg) (a b k : Nat) : (joinG g a b k).ah = if k = b then (a : Int) else (g k).ah := by unfold joinG upA upB; split <;> split <;> simp_all
theorem join_li (g : Rg) (a b k : Nat) : (joinG g a b k).li = (g k).li := by unfold joinG upA upB; split <;> split <;> simp_all
theorem upL_bh (g : Rg) (p : Nat) (v : Int) (k : Nat) : (upL g p v k).bh = (g k).bh := by unfold upL; split <;> simp_all
theorem upL_ah (g : Rg) (p : Nat) (v : Int) (k : Nat) : (upL g p v k).ah = (g k).ah := by unfold upL; split <;> simp_all
theorem upL_li (g : Rg) (p : Nat) (v : Int) (k : Nat) : (upL g p v k).li = if k = p then v else (g k).li := by unfold upL; split <;> simp_all
theorem pl_ext (x y : Plc) (h1 : x.ah = y.ah) (h2 : x.bh = y.bh) (h3 : x.li = y.li) : x = y := by cases x; cases y; simp_all

/-- One is put in ahead of y. -/
theorem Rep.put {P L : Nat} {g : Rg} {ls : Ls} (h : Rep P L g ls) {t p : Nat} (ht : t < L) (hp : p < P) (hno : ∀ s, s < L → p ∉ ls s) {x y : List Nat} (hl : ls t = x ++ y) :
    Rep P L (putG g p (lst (P + t) x) (fst (P + t) y)) (upd ls t (x ++ p :: y)) := by
  have hE := h.nodupE ht
  obtain ⟨a, ha⟩ : ∃ a, lst (P + t) x = a := ⟨_, rfl⟩
  obtain ⟨b, hb⟩ : ∃ b, fst (P + t) y = b := ⟨_, rfl⟩
  rw [ha, hb]
  have hma : a = P + t ∨ a ∈ ls t := by rw [← ha, hl]; rcases lst_mem (P + t) x with e | e; exact .inl e; exact .inr (by simp [e])
  have hmb : b = P + t ∨ b ∈ ls t := by rw [← hb, hl]; rcases fst_mem (P + t) y with e | e; exact .inl e; exact .inr (by simp [e])
  have hpa : p ≠ a := fun e => by rcases hma with e2 | e2; omega; exact hno t ht (by rw [e]; exact e2)
  have hpb : p ≠ b := fun e => by rcases hmb with e2 | e2; omega; exact hno t ht (by rw [e]; exact e2)
  have hbli : (g b).li = t := by rcases hmb with e | e; rw [e]; exact h.le t ht; exact h.li t ht b e
  have hbh : ∀ k, (putG g p a b k).bh = if k = p then (b : Int) else if k = a then (p : Int) else (g k).bh := fun k => by
    unfold putG; rw [join_bh, join_bh, upL_bh]
  have hah : ∀ k, (putG g p a b k).ah = if k = b then (p : Int) else if k = p then (a : Int) else (g k).ah := fun k => by
    unfold putG; rw [join_ah, join_ah, upL_ah]
  have hli : ∀ k, (putG g p a b k).li = if k = p then (t : Int) else (g k).li := fun k => by
    unfold putG; rw [join_li, join_li, upL_li, hbli]
  have hout : ∀ s, s < L → s ≠ t → ∀ i, i = P + s ∨ i ∈ ls s → i ≠ p ∧ i ≠ a ∧ i ≠ b := fun s hs hst i hi => by
    refine ⟨fun e => ?_, fun e => ?_, fun e => ?_⟩
    · rcases hi with hi | hi
      · omega
      · exact hno s hs (by rw [← e]; exact hi)
    · rcases hi with hi | hi
      · rcases hma with e2 | e2
        · omega
        · have := h.pl t ht a e2; omega
      · rcases hma with e2 | e2
        · have := h.pl s hs i hi; omega
        · exact hst (h.one hs ht hi (by rw [e]; exact e2))
    · rcases hi with hi | hi
      · rcases hmb with e2 | e2
        · omega
        · have := h.pl t ht b e2; omega
      · rcases hmb with e2 | e2
        · have := h.pl s hs i hi; omega
        · exact hst (h.one hs ht hi (by rw [e]; exact e2))
  have hndp : ((P + t) :: (x ++ [p] ++ y)).Nodup := by
    rw [hl] at hE
    have h1 := List.nodup_cons.1 hE
    have hpn : p ∉ x ++ y := fun e => hno t ht (by rw [hl]; exact e)
    simp at hpn
    have h2 := List.nodup_append.1 h1.2
    refine List.nodup_cons.2 ⟨fun e => ?_, ?_⟩
    · simp at e
      rcases e with e | e | e
      · exact h1.1 (by simp [e])
      · omega
      · exact h1.1 (by simp [e])
    · rw [List.append_assoc]
      refine List.nodup_append.2 ⟨h2.1, List.nodup_cons.2 ⟨hpn.2, h2.2.1⟩, fun i hi j hj e => ?_⟩
      simp at hj
      rcases hj with hj | hj
      · exact hpn.1 (by rw [← hj, ← e]; exact hi)
      · exact h2.2.2 i hi j hj e
  have e2 : x ++ p :: y = x ++ [p] ++ y := by simp
  have mem2 : ∀ i, i ∈ x ++ p :: y ↔ i = p ∨ i ∈ ls t := fun i => by rw [hl]; simp; constructor <;> (intro h; rcases h with h | h | h <;> simp [h])
  refine ⟨fun s hs => ?_, fun s hs => ?_, fun s hs i hi => ?_, fun s hs i hi => ?_, fun s hs => ?_, fun s hs => ?_, fun i hi hn => ?_⟩
  · by_cases e : s = t
    · subst e
      rw [upd_same, e2]
      have h1 := h.fw s hs
      rw [hl] at h1
      refine path_in h1 (path_one _ p) (by simp) hndp ?_ ?_ (fun i hi h2 h3 => ?_)
      · simp only [hbh]; rw [ha, if_neg hpa.symm, if_pos rfl]; simp [fst]
      · simp only [hbh]; simp [lst, hb]
      · simp only [hbh]
        have h4 : i ≠ p := by simpa [lst] using h3
        rw [if_neg h4, if_neg (by rw [← ha]; exact h2)]
    · rw [upd_other _ _ e]
      refine path_congr (h.fw s hs) (fun i hi => ?_)
      have hi2 : i = P + s ∨ i ∈ ls s := by
        have e3 : ((P + s) :: ls s ++ [P + s]).dropLast = (P + s) :: ls s := List.dropLast_concat
        rw [e3] at hi
        simpa using hi
      obtain ⟨n1, n2, n3⟩ := hout s hs e i hi2
      simp only [hbh]
      rw [if_neg n1, if_neg n2]
  · by_cases e : s = t
    · subst e
      rw [upd_same]
      have h1 := h.bw s hs
      have e3 : (ls s).reverse = y.reverse ++ x.reverse := by rw [hl]; simp
      have e4 : (x ++ p :: y).reverse = y.reverse ++ [p] ++ x.reverse := by simp
      rw [e3] at h1
      rw [e4]
      refine path_in h1 (path_one _ p) (by simp) ?_ ?_ ?_ (fun i hi h2 h3 => ?_)
      · have h5 := List.nodup_cons.1 hndp
        refine List.nodup_cons.2 ⟨fun e => h5.1 ?_, ?_⟩
        · simp at e ⊢
          rcases e with e | e | e <;> simp [e]
        · have h6 : (y.reverse ++ [p] ++ x.reverse) = (x ++ [p] ++ y).reverse := by simp
          rw [h6]
          exact (List.reverse_perm _).nodup_iff.2 h5.2
      · simp only [hah]; rw [lst_reverse, hb, if_pos rfl]; simp [fst]
      · simp only [hah]
        have h7 : lst (P + s) [p] = p := by simp [lst]
        rw [h7, if_neg hpb, if_pos rfl, fst_reverse, ha]
      · simp only [hah]
        have h4 : i ≠ p := by simpa [lst] using h3
        rw [lst_reverse, hb] at h2
        rw [if_neg h2, if_neg h4]
    · rw [upd_other _ _ e]
      refine path_congr (h.bw s hs) (fun i hi => ?_)
      have hi2 : i = P + s ∨ i ∈ ls s := by
        have e3 : ((P + s) :: (ls s).reverse ++ [P + s]).dropLast = (P + s) :: (ls s).reverse := List.dropLast_concat
        rw [e3] at hi
        simpa using hi
      obtain ⟨n1, n2, n3⟩ := hout s hs e i hi2
      simp only [hah]
      rw [if_neg n3, if_neg n1]
  · by_cases e : s = t
    · subst e
      rw [upd_same, mem2] at hi
      rcases hi with hi | hi
      · omega
      · exact h.pl s hs i hi
    · rw [upd_other _ _ e] at hi
      exact h.pl s hs i hi
  · rw [hli]
    by_cases e : s = t
    · subst e
      rw [upd_same, mem2] at hi
      split
      · rfl
      · rcases hi with hi | hi
        · contradiction
        · exact h.li s hs i hi
    · rw [upd_other _ _ e] at hi
      rw [if_neg (fun e2 => hno s hs (by rw [← e2]; exact hi))]
      exact h.li s hs i hi
  · rw [hli, if_neg (by omega)]
    exact h.le s hs
  · by_cases e : s = t
    · subst e
      rw [upd_same, e2]
      exact (List.nodup_cons.1 hndp).2
    · rw [upd_other _ _ e]
      exact h.nd s hs
  · have hip : i ≠ p := fun e => hn t ht (by rw [upd_same, mem2]; exact .inl e)
    have hin : ∀ s, s < L → i ∉ ls s := fun s hs hm => hn s hs (by
      by_cases e : s = t
      · subst e; rw [upd_same, mem2]; exact .inr hm
      · rw [upd_other _ _ e]; exact hm)
    have hia : i ≠ a := fun e => by rcases hma with e2 | e2; omega; exact hin t ht (by rw [e]; exact e2)
    have hib : i ≠ b := fun e => by rcases hmb with e2 | e2; omega; exact hin t ht (by rw [e]; exact e2)
    rw [← h.al i hi hin]
    refine pl_ext _ _ ?_ ?_ ?_
    · rw [hah, if_neg hib, if_neg hip]
    · rw [hbh, if_neg hip, if_neg hia]
    · rw [hli, if_neg hip]
theorem drop_mem {P s : Nat} {l : List Nat} {i : Nat} (h : i ∈ ((P + s) :: l ++ [P + s]).dropLast) : i = P + s ∨ i ∈ l := by
  have e3 : ((P + s) :: l ++ [P + s]).dropLast = (P + s) :: l := List.dropLast_concat
  rw [e3] at h
  simpa using h
/-- One is taken out. -/
theorem Rep.drop {P L : Nat} {g : Rg} {ls : Ls} (h : Rep P L g ls) {t p : Nat} (ht : t < L) {x y : List Nat} (hl : ls t = x ++ p :: y) :
    Rep P L (dropG g p (lst (P + t) x) (fst (P + t) y)) (upd ls t (x ++ y)) := by
  have hE := h.nodupE ht
  have hpm : p ∈ ls t := by rw [hl]; simp
  have hp := h.pl t ht p hpm
  obtain ⟨a, ha⟩ : ∃ a, lst (P + t) x = a := ⟨_, rfl⟩
  obtain ⟨b, hb⟩ : ∃ b, fst (P + t) y = b := ⟨_, rfl⟩
  rw [ha, hb]
  have hma0 : a = P + t ∨ a ∈ x := by rw [← ha]; exact lst_mem _ _
  have hmb0 : b = P + t ∨ b ∈ y := by rw [← hb]; exact fst_mem _ _
  have hma : a = P + t ∨ a ∈ ls t := by rw [hl]; rcases hma0 with e | e; exact .inl e; exact .inr (by simp [e])
  have hmb : b = P + t ∨ b ∈ ls t := by rw [hl]; rcases hmb0 with e | e; exact .inl e; exact .inr (by simp [e])
  have hnl := h.nd t ht
  rw [hl] at hnl
  have n2 := List.nodup_append.1 hnl
  have n3 := List.nodup_cons.1 n2.2.1
  have hpx : p ∉ x := fun e => n2.2.2 p e p (by simp) rfl
  have hpa : p ≠ a := fun e => by rcases hma0 with e2 | e2; omega; exact hpx (by rw [e]; exact e2)
  have hpb : p ≠ b := fun e => by rcases hmb0 with e2 | e2; omega; exact n3.1 (by rw [e]; exact e2)
  have hz : ∀ k, k ≠ p → dropG g p a b k = joinG g a b k := fun k hk => by unfold dropG upZ; rw [if_neg hk]
  have hbh : ∀ k, k ≠ p → (dropG g p a b k).bh = if k = a then (b : Int) else (g k).bh := fun k hk => by rw [hz k hk, join_bh]
  have hah : ∀ k, k ≠ p → (dropG g p a b k).ah = if k = b then (a : Int) else (g k).ah := fun k hk => by rw [hz k hk, join_ah]
  have hli : ∀ k, k ≠ p → (dropG g p a b k).li = (g k).li := fun k hk => by rw [hz k hk, join_li]
  have hout : ∀ s, s < L → s ≠ t → ∀ i, i = P + s ∨ i ∈ ls s → i ≠ p ∧ i ≠ a ∧ i ≠ b := fun s hs hst i hi => by
    have key : ∀ c, c = P + t ∨ c ∈ ls t → i ≠ c := fun c hc e => by
      rcases hi with hi | hi
      · rcases hc with e2 | e2
        · omega
        · have := h.pl t ht c e2; omega
      · rcases hc with e2 | e2
        · have := h.pl s hs i hi; omega
        · exact hst (h.one hs ht hi (by rw [e]; exact e2))
    exact ⟨key p (.inr hpm), key a hma, key b hmb⟩
  have memo : ∀ i, i ∈ x ++ y → i ∈ ls t ∧ i ≠ p := fun i hi => by
    rw [hl]
    simp at hi
    refine ⟨by simp; rcases hi with e | e <;> simp [e], fun e => ?_⟩
    rcases hi with e2 | e2
    · exact hpx (by rw [← e]; exact e2)
    · exact n3.1 (by rw [← e]; exact e2)
  have hne : ∀ i, i ∈ (P + t) :: (x ++ y) → i ≠ p := fun i hi e => by
    rcases List.mem_cons.1 hi with e2 | e2
    · omega
    · exact (memo i e2).2 e
  refine ⟨fun s hs => ?_, fun s hs => ?_, fun s hs i hi => ?_, fun s hs i hi => ?_, fun s hs => ?_, fun s hs => ?_, fun i hi hn => ?_⟩
  · by_cases e : s = t
    · subst e
      rw [upd_same]
      have h1 := h.fw s hs
      rw [hl] at h1 hE
      refine path_out h1 hE ?_ (fun i hi h2 => ?_)
      · simp only [ha, hb]; rw [hbh a hpa.symm, if_pos rfl]
      · try simp only []
        rw [hbh i (hne i hi), if_neg (by rw [← ha]; exact h2)]
    · rw [upd_other _ _ e]
      refine path_congr (h.fw s hs) (fun i hi => ?_)
      obtain ⟨m1, m2, m3⟩ := hout s hs e i (drop_mem hi)
      try simp only []
      rw [hbh i m1, if_neg m2]
  · by_cases e : s = t
    · subst e
      rw [upd_same]
      have h1 := h.bw s hs
      have e3 : (ls s).reverse = y.reverse ++ p :: x.reverse := by rw [hl]; simp
      have e4 : (x ++ y).reverse = y.reverse ++ x.reverse := by simp
      have hE2 : ((P + s) :: (y.reverse ++ p :: x.reverse)).Nodup := by
        rw [← e3]
        exact List.nodup_cons.2 ⟨fun e => (List.nodup_cons.1 hE).1 (List.mem_reverse.1 e), (List.reverse_perm _).nodup_iff.2 (List.nodup_cons.1 hE).2⟩
      rw [e3] at h1
      rw [e4]
      refine path_out h1 hE2 ?_ (fun i hi h2 => ?_)
      · simp only [lst_reverse, fst_reverse, ha, hb]; rw [hah b hpb.symm, if_pos rfl]
      · have hi2 : i ∈ (P + s) :: (x ++ y) := by
          simp at hi ⊢
          rcases hi with e | e | e <;> simp [e]
        try simp only []
        rw [lst_reverse, hb] at h2
        rw [hah i (hne i hi2), if_neg h2]
    · rw [upd_other _ _ e]
      refine path_congr (h.bw s hs) (fun i hi => ?_)
      obtain ⟨m1, m2, m3⟩ := hout s hs e i (by have := drop_mem hi; simpa using this)
      try simp only []
      rw [hah i m1, if_neg m3]
  · by_cases e : s = t
    · subst e
      rw [upd_same] at hi
      exact h.pl s hs i (memo i hi).1
    · rw [upd_other _ _ e] at hi
      exact h.pl s hs i hi
  · by_cases e : s = t
    · subst e
      rw [upd_same] at hi
      rw [hli i (memo i hi).2]
      exact h.li s hs i (memo i hi).1
    · rw [upd_other _ _ e] at hi
      rw [hli i (hout s hs e i (.inr hi)).1]
      exact h.li s hs i hi
  · rw [hli _ (by omega)]
    exact h.le s hs
  · by_cases e : s = t
    · subst e
      rw [upd_same]
      exact List.nodup_append.2 ⟨n2.1, n3.2, fun i hi j hj => n2.2.2 i hi j (by simp [hj])⟩
    · rw [upd_other _ _ e]
      exact h.nd s hs
  · by_cases hip : i = p
    · subst hip
      unfold dropG upZ
      rw [if_pos rfl]
    · have hin : ∀ s, s < L → i ∉ ls s := fun s hs hm => hn s hs (by
        by_cases e : s = t
        · subst e
          rw [upd_same]
          rw [hl] at hm
          simp at hm ⊢
          rcases hm with e | e | e
          · exact .inl e
          · exact absurd e hip
          · exact .inr e
        · rw [upd_other _ _ e]; exact hm)
      have hia : i ≠ a := fun e => by rcases hma with e2 | e2; omega; exact hin t ht (by rw [e]; exact e2)
      have hib : i ≠ b := fun e => by rcases hmb with e2 | e2; omega; exact hin t ht (by rw [e]; exact e2)
      rw [← h.al i hi hin]
      refine pl_ext _ _ ?_ ?_ ?_
      · rw [hah i hip, if_neg hib]
      · rw [hbh i hip, if_neg hia]
      · rw [hli i hip]
theorem path_init {d : Nat → Int} {e : Nat} {l : List Nat} (h : Path d (l ++ [e])) : Path d l := by
  rcases List.eq_nil_or_concat l with rfl | ⟨r, a, rfl⟩
  · trivial
  · have e2 : r.concat a ++ [e] = r ++ a :: [e] := by simp
    rw [e2, path_append] at h
    simpa using h.1
theorem fst_ne (E F : Nat) {l : List Nat} (h : l ≠ []) : fst E l = fst F l := by
  cases l with
  | nil => exact absurd rfl h
  | cons a r => rfl
theorem lst_ne (E F : Nat) {l : List Nat} (h : l ≠ []) : lst E l = lst F l := by
  rcases List.eq_nil_or_concat l with rfl | ⟨r, a, rfl⟩
  · exact absurd rfl h
  · simp [lst]
theorem fst_in (E : Nat) {l : List Nat} (h : l ≠ []) : fst E l ∈ l := by
  cases l with
  | nil => exact absurd rfl h
  | cons a r => simp [fst]
theorem lst_in (E : Nat) {l : List Nat} (h : l ≠ []) : lst E l ∈ l := by
  rcases List.eq_nil_or_concat l with rfl | ⟨r, a, rfl⟩
  · exact absurd rfl h
  · simp [lst]
theorem rep_new {P L : Nat} {g : Rg} (h : NewG P L g) : Rep P L g (fun _ => []) := by
  refine ⟨fun t ht => ?_, fun t ht => ?_, fun t _ i hi => by simp at hi, fun t _ i hi => by simp at hi, fun t ht => by rw [h.le t ht], fun t _ => List.nodup_nil, fun i hi _ => h.pl i hi⟩
  · refine ⟨?_, trivial⟩
    try simp only []
    rw [h.le t ht]
  · refine ⟨?_, trivial⟩
    try simp only []
    rw [h.le t ht]
end Go.Proofs.YtdoceldofkaapaaDoor
