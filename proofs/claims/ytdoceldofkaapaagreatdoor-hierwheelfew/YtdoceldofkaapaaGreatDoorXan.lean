/-
  Rings and the lists that they are: how each call turns both.
  Contract of chain's All.
  Timers in lists of places, in memory: their own two cells, the lists, the row of timers.
-/
import Derived.Test.YtdoceldofkaapaaGreatDoorXam
import Derived.Test.YtdoceldofkaapaaGreatDoorXad
import Derived.Test.YtdoceldofkaapaaGreatDoorXaj
set_option linter.unusedVariables false
set_option linter.unusedSimpArgs false
namespace Go.Proofs.YtdoceldofkaapaaGreatDoor
/-- Lists. -/
abbrev Ls := Nat → List Nat
def upd (ls : Ls) (t : Nat) (l : List Nat) : Ls := fun k => if k = t then l else ls k
theorem upd_same (ls : Ls) (t : Nat) (l : List Nat) : upd ls t l t = l := by simp [upd]
theorem upd_other (ls : Ls) {t k : Nat} (l : List Nat) (h : k ≠ t) : upd ls t l k = ls k := by simp [upd, h]
/-- A ring is those lists. -/
structure Rep (P L : Nat) (g : Rg) (ls : Ls) : Prop where
  fw : ∀ t, t < L → Path (fun i => (g i).bh) ((P + t) :: ls t ++ [P + t])
  bw : ∀ t, t < L → Path (fun i => (g i).ah) ((P + t) :: (ls t).reverse ++ [P + t])
  pl : ∀ t, t < L → ∀ i ∈ ls t, i < P
  li : ∀ t, t < L → ∀ i ∈ ls t, (g i).li = t
  le : ∀ t, t < L → (g (P + t)).li = t
  nd : ∀ t, t < L → (ls t).Nodup
  al : ∀ i, i < P → (∀ t, t < L → i ∉ ls t) → g i = al0
theorem Rep.nodupE {P L : Nat} {g : Rg} {ls : Ls} (h : Rep P L g ls) {t : Nat} (ht : t < L) : ((P + t) :: ls t).Nodup :=
  List.nodup_cons.2 ⟨fun e => by have := h.pl t ht _ e; omega, h.nd t ht⟩
/-- A place is in one list at most. -/
theorem Rep.one {P L : Nat} {g : Rg} {ls : Ls} (h : Rep P L g ls) {s t i : Nat} (hs : s < L) (ht : t < L) (h1 : i ∈ ls s) (h2 : i ∈ ls t) : s = t := by
  have e1 := h.li s hs i h1
  have e2 := h.li t ht i h2
  omega
/-- Is it in a list, and in which? -/
theorem Rep.cases {P L : Nat} {g : Rg} {ls : Ls} (h : Rep P L g ls) {i : Nat} (hi : i < P) : (∃ t, t < L ∧ i ∈ ls t ∧ (g i).li = t) ∨ ((∀ t, t < L → i ∉ ls t) ∧ g i = al0) := by
  by_cases e : ∃ t, t < L ∧ i ∈ ls t
  · obtain ⟨t, h1, h2⟩ := e
    exact .inl ⟨t, h1, h2, h.li t h1 i h2⟩
  · have e2 : ∀ t, t < L → i ∉ ls t := fun t h1 h2 => e ⟨t, h1, h2⟩
    exact .inr ⟨e2, h.al i hi e2⟩
theorem Rep.fwd {P L : Nat} {g : Rg} {ls : Ls} (h : Rep P L g ls) {t : Nat} (ht : t < L) : Met (fun i => (g i).bh) P (P + t) (ls t) := met_of_path (by omega) (h.fw t ht) (h.pl t ht)
theorem Rep.bwd {P L : Nat} {g : Rg} {ls : Ls} (h : Rep P L g ls) {t : Nat} (ht : t < L) : Met (fun i => (g i).ah) P (P + t) (ls t).reverse :=
  met_of_path (by omega) (h.bw t ht) (fun i hi => h.pl t ht i (List.mem_reverse.1 hi))
theorem Rep.next {P L : Nat} {g : Rg} {ls : Ls} (h : Rep P L g ls) {t : Nat} (ht : t < L) {x y : List Nat} {p : Nat} (hl : ls t = x ++ p :: y) : Met (fun i => (g i).bh) P p y := by
  have h1 := h.fw t ht
  rw [hl] at h1
  exact met_from h1 (by omega) (fun i hi => h.pl t ht i (by rw [hl]; simp [hi]))
theorem Rep.prev {P L : Nat} {g : Rg} {ls : Ls} (h : Rep P L g ls) {t : Nat} (ht : t < L) {x y : List Nat} {p : Nat} (hl : ls t = x ++ p :: y) : Met (fun i => (g i).ah) P p x.reverse := by
  have h1 := h.bw t ht
  have e : (ls t).reverse = y.reverse ++ p :: x.reverse := by rw [hl]; simp
  rw [e] at h1
  exact met_from h1 (by omega) (fun i hi => h.pl t ht i (by rw [hl]; simp [List.mem_reverse.1 hi]))
theorem Rep.alone {P : Nat} {g : Rg} {i : Nat} (h : g i = al0) : Met (fun i => (g i).bh) P i [] ∧ Met (fun i => (g i).ah) P i [] := by
  constructor
  · show ¬ (0 ≤ (g i).bh ∧ (g i).bh < P)
    rw [h]; simp
  · show ¬ (0 ≤ (g i).ah ∧ (g i).ah < P)
    rw [h]; simp
/-- What stands ahead of the end is the last one. -/
theorem Rep.endah {P L : Nat} {g : Rg} {ls : Ls} (h : Rep P L g ls) {t : Nat} (ht : t < L) : (g (P + t)).ah = lst (P + t) (ls t) := by
  have := path_first (d := fun i => (g i).ah) (h.bw t ht)
  rw [fst_reverse] at this
  exact this
theorem Rep.ahead {P L : Nat} {g : Rg} {ls : Ls} (h : Rep P L g ls) {t : Nat} (ht : t < L) {x y : List Nat} {p : Nat} (hl : ls t = x ++ p :: y) : (g p).ah = lst (P + t) x := by
  have h1 := h.bw t ht
  have e : (P + t) :: (ls t).reverse ++ [P + t] = ((P + t) :: y.reverse) ++ p :: (x.reverse ++ [P + t]) := by rw [hl]; simp
  rw [e, path_append] at h1
  have := path_first (d := fun i => (g i).ah) h1.2
  rw [fst_reverse] at this
  exact this
theorem Rep.behind {P L : Nat} {g : Rg} {ls : Ls} (h : Rep P L g ls) {t : Nat} (ht : t < L) {x y : List Nat} {p : Nat} (hl : ls t = x ++ p :: y) : (g p).bh = fst (P + t) y := by
  have h1 := h.fw t ht
  have e : (P + t) :: ls t ++ [P + t] = ((P + t) :: x) ++ p :: (y ++ [P + t]) := by rw [hl]; simp
  rw [e, path_append] at h1
  exact path_first (d := fun i => (g i).bh) h1.2
theorem Rep.lst_lt {P L : Nat} {g : Rg} {ls : Ls} (h : Rep P L g ls) {t : Nat} (ht : t < L) {x : List Nat} (hx : ∀ i ∈ x, i ∈ ls t) : lst (P + t) x < P + L := by
  rcases lst_mem (P + t) x with e | e
  · omega
  · have := h.pl t ht _ (hx _ e); omega
theorem Rep.fst_lt {P L : Nat} {g : Rg} {ls : Ls} (h : Rep P L g ls) {t : Nat} (ht : t < L) {x : List Nat} (hx : ∀ i ∈ x, i ∈ ls t) : fst (P + t) x < P + L := by
  rcases fst_mem (P + t) x with e | e
  · omega
  · have := h.pl t ht _ (hx _ e); omega

/-! How joinG and its kin turn what stands beside. -/
theorem join_bh (g : Rg) (a b k : Nat) : (joinG g a b k).bh = if k = a then (b : Int) else (g k).bh := by unfold joinG upA upB; split <;> split <;> simp_all
theorem join_ah (g : Rg) (a b k : Nat) : (joinG g a b k).ah = if k = b then (a : Int) else (g k).ah := by unfold joinG upA upB; split <;> split <;> simp_all
theorem join_li (g : Rg) (a b k : Nat) : (joinG g a b k).li = (g k).li := by unfold joinG upA upB; split <;> split <;> simp_all
theorem upL_bh (g : Rg) (p : Nat) (v : Int) (k : Nat) : (upL g p v k).bh = (g k).bh := by unfold upL; split <;> simp_all
theorem upL_ah (g : Rg) (p : Nat) (v : Int) (k : Nat) : (upL g p v k).ah = (g k).ah := by unfold upL; split <;> simp_all
theorem upL_li (g : Rg) (p : Nat) (v : Int) (k : Nat) : (upL g p v k).li = if k = p then v else (g k).li := by unfold upL; split <;> simp_all
theorem pl_ext (x y : Plc) (h1 : x.ah = y.ah) (h2 : x.bh = y.bh) (h3 : x.li = y.li) : x = y := by cases x; cases y; simp_all

/-- One is put in ahead of y. -/
theorem Rep.put {P L : Nat} {g : Rg} {ls : Ls} (h : Rep P L g ls) {t p : Nat} (ht : t < L) (hp : p < P) (hno : ∀ s, s < L → p ∉ ls s) {x y : List Nat} (hl : ls t = x ++ y) :
    Rep P L (putG g p (lst (P + t) x) (fst (P + t) y)) (upd ls t (x ++ p :: y)) := by
  have hE := h.nodupE ht
  obtain ⟨a, ha⟩ : ∃ a, lst (P + t) x = a := ⟨_, rfl⟩
  obtain ⟨b, hb⟩ : ∃ b, fst (P + t) y = b := ⟨_, rfl⟩
  rw [ha, hb]
  have hma : a = P + t ∨ a ∈ ls t := by rw [← ha, hl]; rcases lst_mem (P + t) x with e | e; exact .inl e; exact .inr (by simp [e])
  have hmb : b = P + t ∨ b ∈ ls t := by rw [← hb, hl]; rcases fst_mem (P + t) y with e | e; exact .inl e; exact .inr (by simp [e])
  have hpa : p ≠ a := fun e => by rcases hma with e2 | e2; omega; exact hno t ht (by rw [e]; exact e2)
  have hpb : p ≠ b := fun e => by rcases hmb with e2 | e2; omega; exact hno t ht (by rw [e]; exact e2)
  have hbli : (g b).li = t := by rcases hmb with e | e; rw [e]; exact h.le t ht; exact h.li t ht b e
  have hbh : ∀ k, (putG g p a b k).bh = if k = p then (b : Int) else if k = a then (p : Int) else (g k).bh := fun k => by
    unfold putG; rw [join_bh, join_bh, upL_bh]
  have hah : ∀ k, (putG g p a b k).ah = if k = b then (p : Int) else if k = p then (a : Int) else (g k).ah := fun k => by
    unfold putG; rw [join_ah, join_ah, upL_ah]
  have hli : ∀ k, (putG g p a b k).li = if k = p then (t : Int) else (g k).li := fun k => by
    unfold putG; rw [join_li, join_li, upL_li, hbli]
  have hout : ∀ s, s < L → s ≠ t → ∀ i, i = P + s ∨ i ∈ ls s → i ≠ p ∧ i ≠ a ∧ i ≠ b := fun s hs hst i hi => by
    refine ⟨fun e => ?_, fun e => ?_, fun e => ?_⟩
    · rcases hi with hi | hi
      · omega
      · exact hno s hs (by rw [← e]; exact hi)
    · rcases hi with hi | hi
      · rcases hma with e2 | e2
        · omega
        · have := h.pl t ht a e2; omega
      · rcases hma with e2 | e2
        · have := h.pl s hs i hi; omega
        · exact hst (h.one hs ht hi (by rw [e]; exact e2))
    · rcases hi with hi | hi
      · rcases hmb with e2 | e2
        · omega
        · have := h.pl t ht b e2; omega
      · rcases hmb with e2 | e2
        · have := h.pl s hs i hi; omega
        · exact hst (h.one hs ht hi (by rw [e]; exact e2))
  have hndp : ((P + t) :: (x ++ [p] ++ y)).Nodup := by
    rw [hl] at hE
    have h1 := List.nodup_cons.1 hE
    have hpn : p ∉ x ++ y := fun e => hno t ht (by rw [hl]; exact e)
    simp at hpn
    have h2 := List.nodup_append.1 h1.2
    refine List.nodup_cons.2 ⟨fun e => ?_, ?_⟩
    · simp at e
      rcases e with e | e | e
      · exact h1.1 (by simp [e])
      · omega
      · exact h1.1 (by simp [e])
    · rw [List.append_assoc]
      refine List.nodup_append.2 ⟨h2.1, List.nodup_cons.2 ⟨hpn.2, h2.2.1⟩, fun i hi j hj e => ?_⟩
      simp at hj
      rcases hj with hj | hj
      · exact hpn.1 (by rw [← hj, ← e]; exact hi)
      · exact h2.2.2 i hi j hj e
  have e2 : x ++ p :: y = x ++ [p] ++ y := by simp
  have mem2 : ∀ i, i ∈ x ++ p :: y ↔ i = p ∨ i ∈ ls t := fun i => by rw [hl]; simp; constructor <;> (intro h; rcases h with h | h | h <;> simp [h])
  refine ⟨fun s hs => ?_, fun s hs => ?_, fun s hs i hi => ?_, fun s hs i hi => ?_, fun s hs => ?_, fun s hs => ?_, fun i hi hn => ?_⟩
  · by_cases e : s = t
    · subst e
      rw [upd_same, e2]
      have h1 := h.fw s hs
      rw [hl] at h1
      refine path_in h1 (path_one _ p) (by simp) hndp ?_ ?_ (fun i hi h2 h3 => ?_)
      · simp only [hbh]; rw [ha, if_neg hpa.symm, if_pos rfl]; simp [fst]
      · simp only [hbh]; simp [lst, hb]
      · simp only [hbh]
        have h4 : i ≠ p := by simpa [lst] using h3
        rw [if_neg h4, if_neg (by rw [← ha]; exact h2)]
    · rw [upd_other _ _ e]
      refine path_congr (h.fw s hs) (fun i hi => ?_)
      have hi2 : i = P + s ∨ i ∈ ls s := by
        have e3 : ((P + s) :: ls s ++ [P + s]).dropLast = (P + s) :: ls s := List.dropLast_concat
        rw [e3] at hi
        simpa using hi
      obtain ⟨n1, n2, n3⟩ := hout s hs e i hi2
      simp only [hbh]
      rw [if_neg n1, if_neg n2]
  · by_cases e : s = t
    · subst e
      rw [upd_same]
      have h1 := h.bw s hs
      have e3 : (ls s).reverse = y.reverse ++ x.reverse := by rw [hl]; simp
      have e4 : (x ++ p :: y).reverse = y.reverse ++ [p] ++ x.reverse := by simp
      rw [e3] at h1
      rw [e4]
      refine path_in h1 (path_one _ p) (by simp) ?_ ?_ ?_ (fun i hi h2 h3 => ?_)
      · have h5 := List.nodup_cons.1 hndp
        refine List.nodup_cons.2 ⟨fun e => h5.1 ?_, ?_⟩
        · simp at e ⊢
          rcases e with e | e | e <;> simp [e]
        · have h6 : (y.reverse ++ [p] ++ x.reverse) = (x ++ [p] ++ y).reverse := by simp
          rw [h6]
          exact (List.reverse_perm _).nodup_iff.2 h5.2
      · simp only [hah]; rw [lst_reverse, hb, if_pos rfl]; simp [fst]
      · simp only [hah]
        have h7 : lst (P + s) [p] = p := by simp [lst]
        rw [h7, if_neg hpb, if_pos rfl, fst_reverse, ha]
      · simp only [hah]
        have h4 : i ≠ p := by simpa [lst] using h3
        rw [lst_reverse, hb] at h2
        rw [if_neg h2, if_neg h4]
    · rw [upd_other _ _ e]
      refine path_congr (h.bw s hs) (fun i hi => ?_)
      have hi2 : i = P + s ∨ i ∈ ls s := by
        have e3 : ((P + s) :: (ls s).reverse ++ [P + s]).dropLast = (P + s) :: (ls s).reverse := List.dropLast_concat
        rw [e3] at hi
        simpa using hi
      obtain ⟨n1, n2, n3⟩ := hout s hs e i hi2
      simp only [hah]
      rw [if_neg n3, if_neg n1]
  · by_cases e : s = t
    · subst e
      rw [upd_same, mem2] at hi
      rcases hi with hi | hi
      · omega
      · exact h.pl s hs i hi
    · rw [upd_other _ _ e] at hi
      exact h.pl s hs i hi
  · rw [hli]
    by_cases e : s = t
    · subst e
      rw [upd_same, mem2] at hi
      split
      · rfl
      · rcases hi with hi | hi
        · contradiction
        · exact h.li s hs i hi
    · rw [upd_other _ _ e] at hi
      rw [if_neg (fun e2 => hno s hs (by rw [← e2]; exact hi))]
      exact h.li s hs i hi
  · rw [hli, if_neg (by omega)]
    exact h.le s hs
  · by_cases e : s = t
    · subst e
      rw [upd_same, e2]
      exact (List.nodup_cons.1 hndp).2
    · rw [upd_other _ _ e]
      exact h.nd s hs
  · have hip : i ≠ p := fun e => hn t ht (by rw [upd_same, mem2]; exact .inl e)
    have hin : ∀ s, s < L → i ∉ ls s := fun s hs hm => hn s hs (by
      by_cases e : s = t
      · subst e; rw [upd_same, mem2]; exact .inr hm
      · rw [upd_other _ _ e]; exact hm)
    have hia : i ≠ a := fun e => by rcases hma with e2 | e2; omega; exact hin t ht (by rw [e]; exact e2)
    have hib : i ≠ b := fun e => by rcases hmb with e2 | e2; omega; exact hin t ht (by rw [e]; exact e2)
    rw [← h.al i hi hin]
    refine pl_ext _ _ ?_ ?_ ?_
    · rw [hah, if_neg hib, if_neg hip]
    · rw [hbh, if_neg hip, if_neg hia]
    · rw [hli, if_neg hip]
theorem drop_mem {P s : Nat} {l : List Nat} {i : Nat} (h : i ∈ ((P + s) :: l ++ [P + s]).dropLast) : i = P + s ∨ i ∈ l := by
  have e3 : ((P + s) :: l ++ [P + s]).dropLast = (P + s) :: l := List.dropLast_concat
  rw [e3] at h
  simpa using h
/-- One is taken out. -/
theorem Rep.drop {P L : Nat} {g : Rg} {ls : Ls} (h : Rep P L g ls) {t p : Nat} (ht : t < L) {x y : List Nat} (hl : ls t = x ++ p :: y) :
    Rep P L (dropG g p (lst (P + t) x) (fst (P + t) y)) (upd ls t (x ++ y)) := by
  have hE := h.nodupE ht
  have hpm : p ∈ ls t := by rw [hl]; simp
  have hp := h.pl t ht p hpm
  obtain ⟨a, ha⟩ : ∃ a, lst (P + t) x = a := ⟨_, rfl⟩
  obtain ⟨b, hb⟩ : ∃ b, fst (P + t) y = b := ⟨_, rfl⟩
  rw [ha, hb]
  have hma0 : a = P + t ∨ a ∈ x := by rw [← ha]; exact lst_mem _ _
  have hmb0 : b = P + t ∨ b ∈ y := by rw [← hb]; exact fst_mem _ _
  have hma : a = P + t ∨ a ∈ ls t := by rw [hl]; rcases hma0 with e | e; exact .inl e; exact .inr (by simp [e])
  have hmb : b = P + t ∨ b ∈ ls t := by rw [hl]; rcases hmb0 with e | e; exact .inl e; exact .inr (by simp [e])
  have hnl := h.nd t ht
  rw [hl] at hnl
  have n2 := List.nodup_append.1 hnl
  have n3 := List.nodup_cons.1 n2.2.1
  have hpx : p ∉ x := fun e => n2.2.2 p e p (by simp) rfl
  have hpa : p ≠ a := fun e => by rcases hma0 with e2 | e2; omega; exact hpx (by rw [e]; exact e2)
  have hpb : p ≠ b := fun e => by rcases hmb0 with e2 | e2; omega; exact n3.1 (by rw [e]; exact e2)
  have hz : ∀ k, k ≠ p → dropG g p a b k = joinG g a b k := fun k hk => by unfold dropG upZ; rw [if_neg hk]
  have hbh : ∀ k, k ≠ p → (dropG g p a b k).bh = if k = a then (b : Int) else (g k).bh := fun k hk => by rw [hz k hk, join_bh]
  have hah : ∀ k, k ≠ p → (dropG g p a b k).ah = if k = b then (a : Int) else (g k).ah := fun k hk => by rw [hz k hk, join_ah]
  have hli : ∀ k, k ≠ p → (dropG g p a b k).li = (g k).li := fun k hk => by rw [hz k hk, join_li]
  have hout : ∀ s, s < L → s ≠ t → ∀ i, i = P + s ∨ i ∈ ls s → i ≠ p ∧ i ≠ a ∧ i ≠ b := fun s hs hst i hi => by
    have key : ∀ c, c = P + t ∨ c ∈ ls t → i ≠ c := fun c hc e => by
      rcases hi with hi | hi
      · rcases hc with e2 | e2
        · omega
        · have := h.pl t ht c e2; omega
      · rcases hc with e2 | e2
        · have := h.pl s hs i hi; omega
        · exact hst (h.one hs ht hi (by rw [e]; exact e2))
    exact ⟨key p (.inr hpm), key a hma, key b hmb⟩
  have memo : ∀ i, i ∈ x ++ y → i ∈ ls t ∧ i ≠ p := fun i hi => by
    rw [hl]
    simp at hi
    refine ⟨by simp; rcases hi with e | e <;> simp [e], fun e => ?_⟩
    rcases hi with e2 | e2
    · exact hpx (by rw [← e]; exact e2)
    · exact n3.1 (by rw [← e]; exact e2)
  have hne : ∀ i, i ∈ (P + t) :: (x ++ y) → i ≠ p := fun i hi e => by
    rcases List.mem_cons.1 hi with e2 | e2
    · omega
    · exact (memo i e2).2 e
  refine ⟨fun s hs => ?_, fun s hs => ?_, fun s hs i hi => ?_, fun s hs i hi => ?_, fun s hs => ?_, fun s hs => ?_, fun i hi hn => ?_⟩
  · by_cases e : s = t
    · subst e
      rw [upd_same]
      have h1 := h.fw s hs
      rw [hl] at h1 hE
      refine path_out h1 hE ?_ (fun i hi h2 => ?_)
      · simp only [ha, hb]; rw [hbh a hpa.symm, if_pos rfl]
      · try simp only []
        rw [hbh i (hne i hi), if_neg (by rw [← ha]; exact h2)]
    · rw [upd_other _ _ e]
      refine path_congr (h.fw s hs) (fun i hi => ?_)
      obtain ⟨m1, m2, m3⟩ := hout s hs e i (drop_mem hi)
      try simp only []
      rw [hbh i m1, if_neg m2]
  · by_cases e : s = t
    · subst e
      rw [upd_same]
      have h1 := h.bw s hs
      have e3 : (ls s).reverse = y.reverse ++ p :: x.reverse := by rw [hl]; simp
      have e4 : (x ++ y).reverse = y.reverse ++ x.reverse := by simp
      have hE2 : ((P + s) :: (y.reverse ++ p :: x.reverse)).Nodup := by
        rw [← e3]
        exact List.nodup_cons.2 ⟨fun e => (List.nodup_cons.1 hE).1 (List.mem_reverse.1 e), (List.reverse_perm _).nodup_iff.2 (List.nodup_cons.1 hE).2⟩
      rw [e3] at h1
      rw [e4]
      refine path_out h1 hE2 ?_ (fun i hi h2 => ?_)
      · simp only [lst_reverse, fst_reverse, ha, hb]; rw [hah b hpb.symm, if_pos rfl]
      · have hi2 : i ∈ (P + s) :: (x ++ y) := by
          simp at hi ⊢
          rcases hi with e | e | e <;> simp [e]
        try simp only []
        rw [lst_reverse, hb] at h2
        rw [hah i (hne i hi2), if_neg h2]
    · rw [upd_other _ _ e]
      refine path_congr (h.bw s hs) (fun i hi => ?_)
      obtain ⟨m1, m2, m3⟩ := hout s hs e i (by have := drop_mem hi; simpa using this)
      try simp only []
      rw [hah i m1, if_neg m3]
  · by_cases e : s = t
    · subst e
      rw [upd_same] at hi
      exact h.pl s hs i (memo i hi).1
    · rw [upd_other _ _ e] at hi
      exact h.pl s hs i hi
  · by_cases e : s = t
    · subst e
      rw [upd_same] at hi
      rw [hli i (memo i hi).2]
      exact h.li s hs i (memo i hi).1
    · rw [upd_other _ _ e] at hi
      rw [hli i (hout s hs e i (.inr hi)).1]
      exact h.li s hs i hi
  · rw [hli _ (by omega)]
    exact h.le s hs
  · by_cases e : s = t
    · subst e
      rw [upd_same]
      exact List.nodup_append.2 ⟨n2.1, n3.2, fun i hi j hj => n2.2.2 i hi j (by simp [hj])⟩
    · rw [upd_other _ _ e]
      exact h.nd s hs
  · by_cases hip : i = p
    · subst hip
      unfold dropG upZ
      rw [if_pos rfl]
    · have hin : ∀ s, s < L → i ∉ ls s := fun s hs hm => hn s hs (by
        by_cases e : s = t
        · subst e
          rw [upd_same]
          rw [hl] at hm
          simp at hm ⊢
          rcases hm with e | e | e
          · exact .inl e
          · exact absurd e hip
          · exact .inr e
        · rw [upd_other _ _ e]; exact hm)
      have hia : i ≠ a := fun e => by rcases hma with e2 | e2; omega; exact hin t ht (by rw [e]; exact e2)
      have hib : i ≠ b := fun e => by rcases hmb with e2 | e2; omega; exact hin t ht (by rw [e]; exact e2)
      rw [← h.al i hi hin]
      refine pl_ext _ _ ?_ ?_ ?_
      · rw [hah i hip, if_neg hib]
      · rw [hbh i hip, if_neg hia]
      · rw [hli i hip]
theorem path_init {d : Nat → Int} {e : Nat} {l : List Nat} (h : Path d (l ++ [e])) : Path d l := by
  rcases List.eq_nil_or_concat l with rfl | ⟨r, a, rfl⟩
  · trivial
  · have e2 : r.concat a ++ [e] = r ++ a :: [e] := by simp
    rw [e2, path_append] at h
    simpa using h.1
theorem fst_ne (E F : Nat) {l : List Nat} (h : l ≠ []) : fst E l = fst F l := by
  cases l with
  | nil => exact absurd rfl h
  | cons a r => rfl
theorem lst_ne (E F : Nat) {l : List Nat} (h : l ≠ []) : lst E l = lst F l := by
  rcases List.eq_nil_or_concat l with rfl | ⟨r, a, rfl⟩
  · exact absurd rfl h
  · simp [lst]
theorem fst_in (E : Nat) {l : List Nat} (h : l ≠ []) : fst E l ∈ l := by
  cases l with
  | nil => exact absurd rfl h
  | cons a r => simp [fst]
theorem lst_in (E : Nat) {l : List Nat} (h : l ≠ []) : lst E l ∈ l := by
  rcases List.eq_nil_or_concat l with rfl | ⟨r, a, rfl⟩
  · exact absurd rfl h
  · simp [lst]
theorem rep_new {P L : Nat} {g : Rg} (h : NewG P L g) : Rep P L g (fun _ => []) := by
  refine ⟨fun t ht => ?_, fun t ht => ?_, fun t _ i hi => by simp at hi, fun t _ i hi => by simp at hi, fun t ht => by rw [h.le t ht], fun t _ => List.nodup_nil, fun i hi _ => h.pl i hi⟩
  · refine ⟨?_, trivial⟩
    try simp only []
    rw [h.le t ht]
  · refine ⟨?_, trivial⟩
    try simp only []
    rw [h.le t ht]
end Go.Proofs.YtdoceldofkaapaaGreatDoor
namespace Go.Proofs.YtdoceldofkaapaaGreatDoor
open Go.RowKit Go.Shelf
attribute [local go_sem] Oper.semAt_some
theorem own_base {w : World} {b c : Nat} {e : TypeId} {size : Nat} {v : Value} {n : Nat} {cs : List Value} (h : w.ownsRow b e size v n cs) (hc : c ≤ b) : w.ownsRow c e size v n cs := by
  refine ⟨h.1, ?_⟩
  rcases h.2 with h1 | ⟨g, cap, cur, e1, e2, rest⟩
  · exact .inl h1
  · exact .inr ⟨g, cap, cur, e1, Nat.le_trans hc e2, rest⟩
theorem boxed_app {W w1 : World} {n1 bx : Nat} {v v' : Value} {k m : Nat} {xs ys : List Value} {tmp : Obj} (hv : Boxed W bx 149 v) (hrow : W.ownsRow n1 3 1 v k xs) (hbx : bx < n1) (hn1 : n1 ≤ W.heap.size) (hown' : w1.ownsRow n1 3 1 v' m ys) (hgrow : (W.alloc tmp).grownBy w1 v.ownBlock) :
    Boxed w1 bx 149 v ∧ Boxed (w1.setCell ⟨bx, 0, none⟩ v') bx 149 v' ∧ (w1.setCell ⟨bx, 0, none⟩ v').ownsRow n1 3 1 v' m ys ∧ KeepsOthers W (w1.setCell ⟨bx, 0, none⟩ v') ∧ Below bx W (w1.setCell ⟨bx, 0, none⟩ v') ∧
      ∀ a u, a.block < n1 → a.block ≠ bx → W.cell? a = some u → (w1.setCell ⟨bx, 0, none⟩ v').cell? a = some u := by
  have h1 := hv.appended (by decide) (own_base hrow (Nat.le_of_lt hbx)) (by omega) (Nat.le_refl _) (own_base hown' (Nat.le_of_lt hbx)) hgrow
  refine ⟨h1.1, h1.2.1, ?_, h1.2.2.2.1, h1.2.2.2.2, fun a u ha hb hu => ?_⟩
  · exact hown'.kept (grownBy_setCell' w1 bx v') (.inr (h1.1.not_row (by decide) hown').symm)
  · have hlt : a.block < W.heap.size := by omega
    have e1 : (W.alloc tmp).heap[a.block]? = W.heap[a.block]? := Below.heap_alloc W _ _ hlt
    have e2 := hgrow.block a.block (by simp; omega) (fun e => by have := (hrow.lt a.block e.symm).1; omega)
    have e3 := (grownBy_setCell' w1 bx v').block a.block (by have := hgrow.size; simp at this; omega) (by simpa using hb)
    exact (World.cell?_of_block (e3.trans (e2.trans e1))).trans hu
theorem all_no (B G P L : Nat) (g : Rg) (t : Int) (w : World) (h : Chn w B G P L g) (hP : P ≤ 1024) (hL : L ≤ 1024) (hn : hp L t = false) :
    Calls Tryz.prog 86 #[.pointer (some ⟨B, 0, none⟩), .int .i64 t] w fun e w' => e = .returned (.slice none 0 0) ∧ Bel w w' := by
  have K1 := Lib.hid (fun w' (h : Chn w' B G P L g) => hasList_any B P L _ t w' h.head.1 h.head.2 hP hL)
  rw [hn] at K1
  have H := Lib.hid h
  clear h hn
  go_enter Tryz.func86, Tryz.ntmps86
  go_wp2_with fail
  with_reducible refine (K1.out _ H.out).mono ?_
  rintro e w1 ⟨rfl, k, rfl⟩
  go_wp2
  go_ret
  exact ⟨rfl, (Bel.refl _).drewN k⟩
set_option maxRecDepth 100000 in
set_option maxHeartbeats 2000000 in
theorem all_yes (B G P L : Nat) (g : Rg) (t : Nat) (ys : List Nat) (w : World) (h : Chn w B G P L g) (hP : P ≤ 1024) (hL : L ≤ 1024) (ht : t < L) (hnd : ys.Nodup) (hys : ∀ y ∈ ys, y < P) (hm : Met (fun i => (g i).bh) P (P + t) ys) :
    Calls Tryz.prog 86 #[.pointer (some ⟨B, 0, none⟩), .int .i64 t] w fun e w' => ∃ p c, e = .returned (.slice p ys.length c) ∧ ys.length ≤ c ∧ Lies (old w) w' p (encI ys) ∧ Bel w w' := by
  have hlen : ys.length ≤ 1024 := Nat.le_trans (nodup_len P ys hnd hys) hP
  have K1 := Lib.hid (fun w' (h : Chn w' B G P L g) => hasList_any B P L _ t w' h.head.1 h.head.2 hP hL)
  rw [hp_yes ht] at K1
  have K2 := Lib.hid (fun w' (h : Chn w' B G P L g) => end_any B P t w' h.head.1 hP (by omega))
  have K3 := Lib.hid (fun w' (h : Chn w' B G P L g) => walk_any B G P L g (P + t) 120 w' h)
  have hK := fun Wb Cb Sb w' (h : Src Wb Cb Sb B G P (P + L) (P + t) 120 (fun i => (g i).ah) (fun i => (g i).bh) w') => walk_stops 3 (by omega) Wb Cb Sb B G P (P + L) (P + t) 120 (fun i => (g i).ah) (fun i => (g i).bh) (fun _ b => b) way_f (by omega) (by omega) (by omega) ys hnd hys hm hlen w' h
  have H := Lib.hid h
  have HK := Lib.hid hK
  obtain ⟨i0, hi, hz0, hz1, hz2⟩ := info_parts info3
  have hBl := h.ltB
  have hGl := h.ltG
  clear h hK hnd hys hm
  generalize P + t = E at *
  refine (callsIn_wide (n := 4)).1 ?_
  have hro : Fence.wide.round = none := rfl
  refine callsIn_of_wp_marks Tryz.func86 rfl trivial ?_ hro
  simp only [Tryz.ntmps86, List.size_toArray, List.length_cons, List.length_nil, Nat.reduceAdd, Nat.reduceSub, Array.replicate_succ, Array.replicate_zero, List.push_toArray, List.append_toArray, List.nil_append, List.cons_append]
  refine wpIn_wide.2 ?_
  go_wp2_with fail
  with_reducible refine (K1.out _ H.out).mono ?_
  rintro e w1 ⟨rfl, k, rfl⟩
  have HBk : Hid (Bel w (w.drewN k)) := Lib.hid ((Bel.refl _).drewN k)
  have hsz : (w.drewN k).heap.size = w.heap.size := rfl
  generalize w.drewN k = w1 at *
  have HB2 : Hid (Bel w (w1.alloc (.cells #[.slice none 0 0] 149))) := Lib.hid (HBk.out.alloc _ _)
  have BX : Hid (Boxed (w1.alloc (.cells #[.slice none 0 0] 149)) w1.heap.size 149 (.slice none 0 0)) := Lib.hid (Boxed.new w1 149 _)
  go_wp2_with fail
  with_reducible refine (K2.out _ (H.out.bel HB2.out)).mono ?_
  rintro e w2 ⟨rfl, rfl⟩
  go_wp2_with fail
  with_reducible refine (K3.out _ (H.out.bel HB2.out)).mono ?_
  rintro e w3 ⟨Wb, Cb, Sb, rfl, hS, hb⟩
  have hB3 := HB2.out.trans hb
  have bx3 : Boxed w3 w1.heap.size 149 (.slice none 0 0) := hb.heap BX.out
  have hlt3 : w1.heap.size < w3.heap.size := bx3.lt
  rw [hsz] at bx3 hlt3
  have nW : Wb ≠ w.heap.size := fun e => by have := hS.cw; rw [e, bx3.cell] at this; cases this
  have nC : Cb ≠ w.heap.size := fun e => by have := hS.cc; rw [e, bx3.cell] at this; cases this
  have nS : Sb ≠ w.heap.size := fun e => by have := hS.cs; rw [e, bx3.cell] at this; cases this
  have lW := World.block_lt_of_cell? w3 _ hS.cw
  have lC := World.block_lt_of_cell? w3 _ hS.cc
  have lS := World.block_lt_of_cell? w3 _ hS.cs
  simp only at lW lC lS
  have hBw : Below w.heap.size w w3 := hB3.below
  have hstep : ∀ W W', (∀ a u, a.block < w3.heap.size → a.block ≠ w.heap.size → W.cell? a = some u → W'.cell? a = some u) → Kp Wb Cb Sb B G P (P + L) E 120 (fun i => (g i).ah) (fun i => (g i).bh) W W' := fun W W' k h =>
    ⟨k _ _ lW nW h.cw, k _ _ lC nC h.cc, k _ _ lS nS h.cs, k _ _ (show B < _ by omega) (show B ≠ _ by omega) h.cp, k _ _ (show B < _ by omega) (show B ≠ _ by omega) h.cr, fun i hi => ⟨k _ _ (show G < _ by omega) (show G ≠ _ by omega) (h.ca i hi).1, k _ _ (show G < _ by omega) (show G ≠ _ by omega) (h.ca i hi).2⟩⟩
  clear hb BX HB2 HBk K1 K2 K3
  go_wp2
  refine (wpIn_wide (n := 4)).1 ?_
  refine wpIn_rangeFunc_ownG hro (by omega) (gf := 137) (lb := #[.pointer (some ⟨Wb, 0, none⟩), .pointer (some ⟨Cb, 0, none⟩), .pointer (some ⟨Sb, 0, none⟩)]) rfl trivial (enters_of Tryz.func137 (by kernel_rfl) rfl)
    (HK.out Wb Cb Sb w3 hS) kp_t (kp_b w3.heap.size) (Below.refl _ _) (fun _ => rfl)
    (fun pre W => (∃ v, Boxed W w.heap.size 149 v ∧ W.ownsRow w3.heap.size 3 1 v pre.length (encI pre) ∧ True) ∧ Below w.heap.size w W ∧ w3.heap.size ≤ W.heap.size)
    (fun _ _ _ => False)
    (OwnFrom.and (Own.from (holdsRow_own w3.heap.size w.heap.size 149 3 1 (fun pre : List Nat => pre.length) (fun pre => encI pre) (fun _ _ => True)) _) (OwnFrom.and (ownFrom_below (Nat.le_refl _) (by omega)) (fun _ _ _ _ hs hg _ => Nat.le_trans hs hg.size)))
    (fun _ _ _ _ _ hs _ _ => hs)
    ⟨⟨_, bx3, World.ownsRow_nil _ _ _ _, trivial⟩, hBw, Nat.le_refl _⟩
    (fun x => { tmps := #[.pointer (some ⟨B, 0, none⟩), .int .i64 t, undef, undef, .slice none 0 0, .pointer (some ⟨w.heap.size, 0, none⟩), .int .i64 x, .pointer (some ⟨B, 0, none⟩), .int .i64 t, .bool true, .bool false, .pointer (some ⟨B, 0, none⟩), .pointer (some ⟨B, 0, none⟩), .int .i64 t, .int .i64 E, .func (.func 137) #[] #[.pointer (some ⟨Wb, 0, none⟩), .pointer (some ⟨Cb, 0, none⟩), .pointer (some ⟨Sb, 0, none⟩)], .int .i64 x, undef, undef, undef, undef, undef], defers := [] }) ?assign ?body ?done ?stop
  case assign =>
    intro l x W K hK
    gi_wp2
    exact hK
  case body =>
    rintro l pre x W ⟨⟨v, hv, hrow, _⟩, hBl, hz⟩ hlt
    have hc := hv.cell
    gi_wp2_with (gi_at_builtin; refine wpListIn_append_own _ rfl _ _ 149 rfl w3.heap.size 3 i0 (.int .i64 0) 1 8 Tryz.underlying149 hi hz0 hz1 hz2 rfl (by decide) _ _ _ rfl (hrow.alloc _) ⟨W.heap.size, 0, none⟩ 1 1 [.int .i64 x] rfl rfl (cell_one_new _ _ _) (by simp [Value.oneCell']) (by unfold maxLen; omega) (by omega) (by simp; omega) ?_; intro v' w1 hown' hgrow _; obtain ⟨g', cap', rfl⟩ := ownsRow_succ hown'; obtain ⟨hv1, hv2, hr2, hk2, hb2, hc2⟩ := boxed_app hv hrow hlt3 hz hown' hgrow; have hc1 := hv1.cell; have hf1 := hv1.frozen)
    exact ⟨hk2.from _, hstep _ _ hc2, ⟨_, hv2, by rw [encI_append, List.length_append]; exact hr2, trivial⟩, hBl.trans hb2, Nat.le_trans hz hk2.size⟩
  case done =>
    rintro D zs W hD rfl ⟨⟨v, hv, hrow, _⟩, hBl, hz⟩ hK
    have hc := hv.cell
    go_wp2
    refine ⟨by simp, .inl ⟨_, _, rfl, run_takeDeferred hK, ?_⟩⟩
    obtain ⟨p, c, rfl, hcap, _, hlies⟩ := own_slice (own_base (ownsRow_putObj hrow (.deferred none) hK rfl) (Nat.zero_le _)) (old w) (fun k e => by have := (hrow.lt k e).1; unfold old; omega)
    exact ⟨_, results_tmp rfl _ _ _, p, c, rfl, hcap, hlies, bel_of (hBl.trans (belowK_b (w := w) (Nat.le_refl _) W D _ _ (by omega) hK rfl rfl))⟩
  case stop =>
    rintro D c pre W _ _ h _
    exact h.elim
end Go.Proofs.YtdoceldofkaapaaGreatDoor
namespace Go.Proofs.YtdoceldofkaapaaGreatDoor
open Go.RowKit
/-- A row of timers, as cells. -/
def encQ (n : Nat) (r : Nat → T) : List Value := (List.range n).flatMap fun i => enc (r i)
theorem encQ_get (n : Nat) (r : Nat → T) (i j : Nat) (hi : i < n) (hj : j < 3) : (encQ n r)[i * 3 + j]? = (enc (r i))[j]? :=
  flat_get (fun i => enc (r i)) 3 (fun _ => rfl) (List.range n) i j i (by simp [hi]) hj
theorem encQ_len (n : Nat) (r : Nat → T) : (encQ n r).length = n * 3 := by
  unfold encQ
  induction n with
  | zero => rfl
  | succ n ih => rw [List.range_succ, List.flatMap_append, List.length_append, ih]; simp [enc]; omega
theorem encQ_ext {n : Nat} {r : Nat → T} {l : List Value} (hl : l.length = n * 3) (h : ∀ i j, i < n → j < 3 → l[i * 3 + j]? = (enc (r i))[j]?) : l = encQ n r := by
  apply List.ext_getElem?
  intro k
  by_cases hk : k < n * 3
  · have e : k / 3 * 3 + k % 3 = k := by omega
    have h1 := h (k / 3) (k % 3) (by omega) (by omega)
    have h2 := encQ_get n r (k / 3) (k % 3) (by omega) (by omega)
    rw [e] at h1 h2
    rw [h1, h2]
  · rw [List.getElem?_eq_none (by omega), List.getElem?_eq_none (by rw [encQ_len]; omega)]
/-- One timer of the row is another one. -/
def upT (r : Nat → T) (i : Nat) (t : T) : Nat → T := fun k => if k = i then t else r k
theorem encQ_up (n : Nat) (r : Nat → T) (i : Nat) (t : T) (hi : i < n) : (((encQ n r).set (i * 3) (.int .u64 t.a)).set (i * 3 + 1) (.int .u64 t.s)).set (i * 3 + 2) (.int .i64 t.p) = encQ n (upT r i t) := by
  refine encQ_ext (by simp [encQ_len]) (fun a j ha hj => ?_)
  by_cases e : a = i
  · subst e
    unfold upT
    rw [if_pos rfl]
    obtain rfl | rfl | rfl : j = 0 ∨ j = 1 ∨ j = 2 := by omega
    · rw [show a * 3 + 0 = a * 3 from rfl, List.getElem?_set_ne (by omega), List.getElem?_set_ne (by omega), List.getElem?_set_self (by rw [encQ_len]; omega)]; rfl
    · rw [List.getElem?_set_ne (by omega), List.getElem?_set_self (by simp [encQ_len]; omega)]; rfl
    · rw [List.getElem?_set_self (by simp [encQ_len]; omega)]; rfl
  · unfold upT
    rw [if_neg e, List.getElem?_set_ne (by omega), List.getElem?_set_ne (by omega), List.getElem?_set_ne (by omega), encQ_get n r a j ha hj]
/-- Its own cells. -/
def zcells (B R P : Nat) : List Value := [.pointer (some ⟨B, 0, none⟩), .slice (some ⟨R, 0, none⟩) P P]
/-- The timers lie at block Z, their lists at B and G, their row at R. -/
structure Que (w : World) (Z B G R P L : Nat) (g : Rg) (r : Nat → T) : Prop where
  hZ : w.heap[Z]? = some (.cells (zcells B R P).toArray 99 (0, 0))
  ch : Chn w B G P L g
  hR : w.heap[R]? = some (.cells (encQ P r).toArray 37 (0, 0))
section
variable {w w' : World} {Z B G R P L : Nat} {g g' : Rg} {r : Nat → T}
theorem ne_of_ty {w : World} {a b : Nat} {x y : Array Value} {s t : TypeId} (h : w.heap[a]? = some (.cells x s (0, 0))) (k : w.heap[b]? = some (.cells y t (0, 0))) (hne : s ≠ t) : ¬ a = b := by
  rintro rfl
  rw [h] at k
  injection k with k
  injection k with _ k _
  exact hne k
theorem Que.nZB (q : Que w Z B G R P L g r) : ¬ Z = B := ne_of_ty q.hZ q.ch.hB (by decide)
theorem Que.nZG (q : Que w Z B G R P L g r) : ¬ Z = G := ne_of_ty q.hZ q.ch.hG (by decide)
theorem Que.nZR (q : Que w Z B G R P L g r) : ¬ Z = R := ne_of_ty q.hZ q.hR (by decide)
theorem Que.nBR (q : Que w Z B G R P L g r) : ¬ B = R := ne_of_ty q.ch.hB q.hR (by decide)
theorem Que.nGR (q : Que w Z B G R P L g r) : ¬ G = R := ne_of_ty q.ch.hG q.hR (by decide)
theorem Que.ltZ (q : Que w Z B G R P L g r) : Z < w.heap.size := (Array.getElem?_eq_some_iff.1 q.hZ).1
theorem Que.ltR (q : Que w Z B G R P L g r) : R < w.heap.size := (Array.getElem?_eq_some_iff.1 q.hR).1
theorem Que.off {f : Nat → Prop} (q : Que w Z B G R P L g r) (k : Off f w w') (hq : ¬ f Z) (hb : ¬ f B) (hg : ¬ f G) (hr : ¬ f R) : Que w' Z B G R P L g r :=
  ⟨(k.block Z q.ltZ hq).trans q.hZ, q.ch.off k hb hg, (k.block R q.ltR hr).trans q.hR⟩
theorem Que.bel (q : Que w Z B G R P L g r) (k : Bel w w') : Que w' Z B G R P L g r := q.off k (fun e => e) (fun e => e) (fun e => e) (fun e => e)
/-- The lists have turned. -/
theorem Que.chain (q : Que w Z B G R P L g r) (k : Off (Only G) w w') (hc : Chn w' B G P L g') : Que w' Z B G R P L g' r :=
  ⟨(k.block Z q.ltZ q.nZG).trans q.hZ, hc, (k.block R q.ltR (fun e => q.nGR e.symm)).trans q.hR⟩
theorem Que.cell (q : Que w Z B G R P L g r) {i : Nat} {v : Value} (hv : (zcells B R P)[i]? = some v) : w.cell? ⟨Z, i, none⟩ = some v := by
  rw [cell_of_row w Z _ _ 99 (0, 0) q.hZ, List.getElem?_toArray]; exact hv
theorem Que.froz (q : Que w Z B G R P L g r) (j : Nat) : w.frozen? ⟨Z, j, none⟩ = false := frozen_of_row w Z j _ 99 q.hZ
theorem Que.at (q : Que w Z B G R P L g r) {i : Nat} (hi : i < P) : (w.cell? ⟨R, i * 3, none⟩ = some (.int .u64 (r i).a) ∧ w.cell? ⟨R, i * 3 + 1, none⟩ = some (.int .u64 (r i).s) ∧ w.cell? ⟨R, i * 3 + 2, none⟩ = some (.int .i64 (r i).p)) ∧
    (∀ j, w.frozen? ⟨R, j, none⟩ = false) := by
  refine ⟨⟨?_, ?_, ?_⟩, fun j => frozen_of_row w R j _ 37 q.hR⟩
  · rw [cell_of_row w R _ _ 37 (0, 0) q.hR, List.getElem?_toArray]; exact encQ_get _ r i 0 hi (by omega)
  · rw [cell_of_row w R _ _ 37 (0, 0) q.hR, List.getElem?_toArray]; exact encQ_get _ r i 1 hi (by omega)
  · rw [cell_of_row w R _ _ 37 (0, 0) q.hR, List.getElem?_toArray]; exact encQ_get _ r i 2 hi (by omega)
/-- A timer is laid at a place. -/
abbrev set3 (w : World) (R i : Nat) (t : T) : World := ((w.setCell ⟨R, i * 3, none⟩ (.int .u64 t.a)).setCell ⟨R, i * 3 + 1, none⟩ (.int .u64 t.s)).setCell ⟨R, i * 3 + 2, none⟩ (.int .i64 t.p)
theorem Que.put (q : Que w Z B G R P L g r) {i : Nat} (hi : i < P) (t : T) : Que (set3 w R i t) Z B G R P L g (upT r i t) ∧ Off (Only R) w (set3 w R i t) := by
  have o1 : Off (Only R) w (set3 w R i t) :=
    Off.setCell (Off.setCell (Off.setCell (Off.refl (Only R) w) (p := ⟨R, i * 3, none⟩) (.inl rfl) _) (p := ⟨R, i * 3 + 1, none⟩) (.inl rfl) _) (p := ⟨R, i * 3 + 2, none⟩) (.inl rfl) _
  refine ⟨⟨(o1.block Z q.ltZ q.nZR).trans q.hZ, q.ch.off o1 q.nBR q.nGR, ?_⟩, o1⟩
  have e1 := heap_setCell_same w R (i * 3) _ 37 (.int .u64 t.a) q.hR
  have e2 := heap_setCell_same _ R (i * 3 + 1) _ 37 (.int .u64 t.s) e1
  have e3 := heap_setCell_same _ R (i * 3 + 2) _ 37 (.int .i64 t.p) e2
  rw [List.setIfInBounds_toArray, List.setIfInBounds_toArray, List.setIfInBounds_toArray, encQ_up P r i t hi] at e3
  exact e3
end
/-- The document's way and the bitmap's way of saying that nothing has turned. -/
theorem bm_bel {w w' : World} (h : Bm.Bel w w') : Bel w w' := bel_of h
end Go.Proofs.YtdoceldofkaapaaGreatDoor
