/-
  A tree from which one after another leaves, and the trees that have left: what is kept on the way.
-/
import Derived.Test.YtdlfppdekllloaaPmel
set_option linter.unusedVariables false
set_option linter.unusedSimpArgs false
namespace Go.Proofs.Ytdlfppdekllloaa
open Go.RowKit
/-- The first ones of a tree and of what stands beside it. -/
def kids : Tr → List Nat
  | .nil => []
  | .node a _ _ r => a :: kids r
theorem kids_head (x : Tr) : (kids x).head? = x.rt := by cases x <;> rfl
theorem kids_sub : ∀ x : Tr, (kids x).Sublist x.ads
  | .nil => List.Sublist.refl _
  | .node a t l r => by
    rw [Tr.ads_node]
    exact List.Sublist.cons_cons a ((kids_sub r).trans (List.sublist_append_right _ _))
def allAds (fs : List Tr) : List Nat := fs.flatMap Tr.ads
def allPs (fs : List Tr) : List (Nat × T) := fs.flatMap Tr.ps
/-- Below n, in the tree about it, X still stands; fs stand each alone. All of them stood below n in the beginning (L). -/
structure Fst (w W : World) (c : List Fr) (n : Nat) (tn : T) (L R X : Tr) (fs : List Tr) : Prop where
  main : Is W none (plug c (.node n tn X R))
  all : ∀ t ∈ fs, Is W none t ∧ t.Root ∧ t.Ho
  ho : X.Ho
  nd : ((plug c (.node n tn X R)).ads ++ allAds fs).Nodup
  pe : (X.ps ++ allPs fs).Perm L.ps
  lt : ∀ k ∈ (plug c (.node n tn X R)).ads ++ allAds fs, k < w.heap.size
  off : Off (fun k => k = n ∨ k ∈ L.ads) w W
theorem allAds_mem {fs : List Tr} {t : Tr} (h : t ∈ fs) {k : Nat} (hk : k ∈ t.ads) : k ∈ allAds fs := List.mem_flatMap.2 ⟨t, h, hk⟩
theorem allAds_ps (fs : List Tr) : allAds fs = (allPs fs).map (·.1) := by
  unfold allAds allPs
  rw [List.map_flatMap]
  rfl
/-- What turns only new blocks keeps it. -/
theorem Fst.turn {w W W' : World} {c : List Fr} {n : Nat} {tn : T} {L R X : Tr} {fs : List Tr} (h : Fst w W c n tn L R X fs) {g : Nat → Prop} (o : Off g W W') (hg : ∀ k, g k → w.heap.size ≤ k) : Fst w W' c n tn L R X fs := by
  have no : ∀ k ∈ (plug c (.node n tn X R)).ads ++ allAds fs, ¬ g k := fun k hk e => by have := h.lt k hk; have := hg k e; omega
  exact ⟨h.main.off o (fun a m => no a (List.mem_append.2 (.inl m))), fun t ht => ⟨(h.all t ht).1.off o (fun a m => no a (List.mem_append.2 (.inr (allAds_mem ht m)))), (h.all t ht).2⟩, h.ho, h.nd, h.pe, h.lt, Off.trans h.off o (fun i e => .inr (hg i e))⟩
theorem Fst.bel {w W W' : World} {c : List Fr} {n : Nat} {tn : T} {L R X : Tr} {fs : List Tr} (h : Fst w W c n tn L R X fs) (o : Bel W W') : Fst w W' c n tn L R X fs := h.turn o (fun _ e => e.elim)
theorem Fst.perm {w W : World} {c : List Fr} {n : Nat} {tn : T} {L R X : Tr} {fs gs : List Tr} (h : Fst w W c n tn L R X fs) (p : fs.Perm gs) : Fst w W c n tn L R X gs := by
  have e1 : (allAds fs).Perm (allAds gs) := List.Perm.flatMap_right _ p
  have e2 : (allPs fs).Perm (allPs gs) := List.Perm.flatMap_right _ p
  exact ⟨h.main, fun t ht => h.all t (p.symm.subset ht), h.ho, ((e1.append_left _).nodup_iff).1 h.nd, (e2.symm.append_left _).trans h.pe, fun k hk => h.lt k ((e1.append_left _).symm.subset hk), h.off⟩
/-- Nothing, as a tree. -/
theorem Fst.nil {w W : World} {c : List Fr} {n : Nat} {tn : T} {L R X : Tr} {fs : List Tr} (h : Fst w W c n tn L R X fs) : Fst w W c n tn L R X (.nil :: fs) :=
  ⟨h.main, fun t ht => by rcases List.mem_cons.1 ht with rfl | ht; exact ⟨trivial, trivial, trivial⟩; exact h.all t ht, h.ho, h.nd, h.pe, h.lt, h.off⟩
theorem Fst.unnil {w W : World} {c : List Fr} {n : Nat} {tn : T} {L R X : Tr} {fs : List Tr} (h : Fst w W c n tn L R X (.nil :: fs)) : Fst w W c n tn L R X fs :=
  ⟨h.main, fun t ht => h.all t (List.mem_cons_of_mem _ ht), h.ho, h.nd, h.pe, h.lt, h.off⟩
theorem Fst.start {w : World} {c : List Fr} {n : Nat} {tn : T} {L R : Tr} (h : Is w none (plug c (.node n tn L R))) (hn : (plug c (.node n tn L R)).ads.Nodup) (ho : L.Ho) : Fst w w c n tn L R L [] :=
  ⟨h, fun t ht => (by simp at ht), ho, by simpa [allAds] using hn, by simp [allPs], fun k hk => h.lt k (by simpa [allAds] using hk), Off.refl _ _⟩
theorem plug_swap {c : List Fr} {n : Nat} {tn : T} {R : Tr} (X : Tr) : (plug c (.node n tn X R)).ads.Perm (X.ads ++ (n :: (R.ads ++ (psC c).map (·.1)))) := by
  refine (plug_ads c (.node n tn X R)).trans ?_
  rw [Tr.ads_node]
  simp only [List.cons_append, List.append_assoc]
  exact List.perm_middle.symm
theorem Fst.mem {w W : World} {c : List Fr} {n : Nat} {tn : T} {L R X : Tr} {fs : List Tr} (h : Fst w W c n tn L R X fs) : (∀ k ∈ X.ads, k ∈ L.ads) ∧ ∀ k ∈ allAds fs, k ∈ L.ads := by
  have p := h.pe.map (·.1)
  rw [List.map_append, ← allAds_ps] at p
  exact ⟨fun k hk => p.subset (List.mem_append.2 (.inl hk)), fun k hk => p.subset (List.mem_append.2 (.inr hk))⟩
/-- The first one of those that still stand there leaves. -/
theorem Fst.leave {w W : World} {c : List Fr} {n : Nat} {tn : T} {L R : Tr} {a : Nat} {t : T} {l r : Tr} {fs : List Tr} (h : Fst w W c n tn L R (.node a t l r) fs) :
    Calls Try.prog 63 #[pt a] W fun e W' => e = .returned (.tuple #[]) ∧ Fst w W' c n tn L R r (.node a t l .nil :: fs) ∧ Off (fun k => k < w.heap.size) W W' := by
  have hn := (List.nodup_append.1 h.nd).1
  refine (leave_any ⟨true, n, tn, R⟩ c a t l r W h.main hn).mono fun e W' ⟨he, h1, h2, o⟩ => ⟨he, ?_, ?_⟩
  · obtain ⟨m1, m2⟩ := h.mem
    have p1 : ((plug c (.node n tn r R)).ads ++ allAds (.node a t l .nil :: fs)).Perm ((plug c (.node n tn (.node a t l r) R)).ads ++ allAds fs) := by
      have e1 := plug_swap (c := c) (n := n) (tn := tn) (R := R) r
      have e2 := plug_swap (c := c) (n := n) (tn := tn) (R := R) (.node a t l r)
      refine (e1.append_right _).trans (List.Perm.trans ?_ (e2.append_right _).symm)
      have e3 : allAds (.node a t l .nil :: fs) = (a :: l.ads) ++ allAds fs := by
        unfold allAds
        rw [List.flatMap_cons, Tr.ads_node]
        simp [Tr.ads, Tr.ps]
      rw [e3, Tr.ads_node]
      rw [← List.append_assoc]
      refine List.Perm.append_right _ ?_
      refine List.perm_append_comm.trans ?_
      simp
    have lt' : ∀ k ∈ (plug c (.node n tn r R)).ads ++ allAds (.node a t l .nil :: fs), k < w.heap.size := fun k hk => h.lt k (p1.subset hk)
    have hin : ∀ k, (k = a ∨ k = n ∨ r.rt = some k) → k = n ∨ k ∈ L.ads := fun k e => by
      rcases e with rfl | rfl | e
      · exact .inr (m1 _ (by rw [Tr.ads_node]; simp))
      · exact .inl rfl
      · exact .inr (m1 _ (by rw [Tr.ads_node]; simp [rt_mem e]))
    refine ⟨h1, fun x hx => ?_, h.ho.2.2, p1.nodup_iff.2 h.nd, ?_, lt', Off.trans h.off o (fun i e => .inl (hin i e))⟩
    · rcases List.mem_cons.1 hx with rfl | hx
      · exact ⟨h2, rfl, h.ho.1, h.ho.2.1, trivial⟩
      · refine ⟨(h.all x hx).1.off o (fun k hk e => ?_), (h.all x hx).2⟩
        have d := (List.nodup_append.1 h.nd).2.2
        have mem : ∀ k, k = a ∨ k = n ∨ r.rt = some k → k ∈ (plug c (.node n tn (.node a t l r) R)).ads := fun k e => by
          refine (plug_swap (c := c) (n := n) (tn := tn) (R := R) (.node a t l r)).symm.subset ?_
          rw [Tr.ads_node]
          rcases e with rfl | rfl | e
          · simp
          · simp
          · simp [rt_mem e]
        exact d k (mem k e) k (allAds_mem hx hk) rfl
    · refine List.Perm.trans ?_ h.pe
      have e3 : allPs (.node a t l .nil :: fs) = ((a, t) :: l.ps) ++ allPs fs := by
        unfold allPs
        rw [List.flatMap_cons]
        simp [Tr.ps]
      rw [e3, ← List.append_assoc]
      refine List.Perm.append_right _ ?_
      refine List.perm_append_comm.trans ?_
      simp [Tr.ps]
  · refine o.mono (fun k hk e => ?_)
    refine h.lt k (List.mem_append.2 (.inl ((plug_swap (c := c) (n := n) (tn := tn) (R := R) (.node a t l r)).symm.subset ?_)))
    rw [Tr.ads_node]
    rcases e with rfl | rfl | e
    · simp
    · simp
    · simp [rt_mem e]
/-- Two of those that stand alone are melded. -/
theorem Fst.meld {w W : World} {c : List Fr} {n : Nat} {tn : T} {L R X x y : Tr} {fs : List Tr} (h : Fst w W c n tn L R X (x :: y :: fs)) :
    Calls Try.prog 37 #[ptv x.rt, ptv y.rt, cmpV] W fun e W' => e = .returned (ptv (mel x y).rt) ∧ Fst w W' c n tn L R X (mel x y :: fs) ∧ Off (fun k => k < w.heap.size) W W' := by
  obtain ⟨x1, x2, x3⟩ := h.all x (by simp)
  obtain ⟨y1, y2, y3⟩ := h.all y (by simp)
  have e0 : allAds (x :: y :: fs) = (x.ads ++ y.ads) ++ allAds fs := by unfold allAds; simp
  have e1 : allPs (x :: y :: fs) = (x.ps ++ y.ps) ++ allPs fs := by unfold allPs; simp
  have e2 : allAds (mel x y :: fs) = (mel x y).ads ++ allAds fs := by unfold allAds; simp
  have e3 : allPs (mel x y :: fs) = (mel x y).ps ++ allPs fs := by unfold allPs; simp
  have pm := mel_ps x2 y2
  have pa : (mel x y).ads.Perm (x.ads ++ y.ads) := by
    have := pm.map (·.1)
    rw [List.map_append] at this
    exact this
  have nd0 := h.nd
  rw [e0] at nd0
  have nd1 := (List.nodup_append.1 (List.nodup_append.1 nd0).2.1)
  have d1 := (List.nodup_append.1 nd0).2.2
  refine (melded_any x y W x2 y2 x1 y1 nd1.1).mono fun e W' ⟨he, hi, o⟩ => ⟨he, ?_, ?_⟩
  · obtain ⟨_, m2⟩ := h.mem
    have p1 : ((plug c (.node n tn X R)).ads ++ allAds (mel x y :: fs)).Perm ((plug c (.node n tn X R)).ads ++ allAds (x :: y :: fs)) := by
      rw [e0, e2]
      exact (pa.append_right _).append_left _
    refine ⟨h.main.off o (fun k hk e => d1 k hk k (List.mem_append.2 (.inl (List.mem_append.2 e))) rfl), fun z hz => ?_, h.ho, p1.nodup_iff.2 h.nd, ?_, fun k hk => h.lt k (p1.subset hk), Off.trans h.off o (fun i e => .inl (.inr (m2 i (by rw [e0]; exact List.mem_append.2 (.inl (List.mem_append.2 e))))))⟩
    · rcases List.mem_cons.1 hz with rfl | hz
      · exact ⟨hi, mel_root x2 y2, mel_ho x2 y2 x3 y3⟩
      · have hz2 := h.all z (by simp [hz])
        exact ⟨hz2.1.off o (fun k hk e => nd1.2.2 k (List.mem_append.2 e) k (allAds_mem hz hk) rfl), hz2.2⟩
    · refine List.Perm.trans ?_ h.pe
      rw [e1, e3]
      exact (pm.append_right _).append_left _
  · refine o.mono (fun k hk e => h.lt k ?_)
    rw [e0]
    exact List.mem_append.2 (.inr (List.mem_append.2 (.inl (List.mem_append.2 e))))
end Go.Proofs.Ytdlfppdekllloaa
