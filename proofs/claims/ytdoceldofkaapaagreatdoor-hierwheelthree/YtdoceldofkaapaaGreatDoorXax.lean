/-
  Contracts of a wheel of four levels: foremost, Min.
  A law for a statement that draws its order, within a round: what holds while its operations come up, one by one, whatever the order.
-/
import Derived.Test.YtdoceldofkaapaaGreatDoorXaw
import Derived.Deep.Cut
import Derived.Test.YtdoceldofkaapaaGreatDoorXav
import Derived.Orders
import Derived.OrdersIn
set_option linter.unusedVariables false
set_option linter.unusedSimpArgs false
namespace Go.Proofs.YtdoceldofkaapaaGreatDoor
open Go.RowKit Go.Shelf
attribute [local go_sem] Oper.semAt_some
/-- The slots that have something, as the bits tell them. -/
theorem sls_of {b P : Nat} {s : Int} {ls : Ls} {r : Nat → T} {F : Nat → Nat → Nat} {l : List T} (h : Fh b ls F) (hb : b ≤ 6) (hi : Is P (2 + 4 * 2 ^ b) (lw b s) ls r l) : Sls b s l (prs F 0) := by
  have hp := pow_le hb
  have he : prs F 0 = cu F 0 0 ++ (cu F 1 0 ++ (cu F 2 0 ++ (cu F 3 0 ++ []))) := rfl
  have hm : ∀ n (y : Nat × Nat), y ∈ cu F n 0 ↔ y.1 = n ∧ y.2 < 256 ∧ Bm.tb (F n) y.2 = true := fun n y => by
    unfold cu
    rw [List.mem_map]
    constructor
    · rintro ⟨i, h1, rfl⟩
      obtain ⟨h2, h3, h4⟩ := sg_mem.1 h1
      exact ⟨rfl, h2, h4⟩
    · rintro ⟨h1, h2, h3⟩
      exact ⟨y.2, sg_mem.2 ⟨h2, Nat.zero_le _, h3⟩, by rw [← h1]⟩
  have hc : ∀ n, (cu F n 0).Pairwise fun y z => y.1 < z.1 ∨ y.1 = z.1 ∧ y.2 < z.2 := fun n => by
    unfold cu
    rw [List.pairwise_map]
    exact (sg_lt (F n) 0 256).imp (fun h => .inr ⟨rfl, h⟩)
  constructor
  · rw [he]
    refine List.pairwise_append.2 ⟨hc 0, List.pairwise_append.2 ⟨hc 1, List.pairwise_append.2 ⟨hc 2, by simpa using hc 3, ?_⟩, ?_⟩, ?_⟩
    all_goals
      intro y hy z hz
      simp only [List.mem_append, List.not_mem_nil, or_false, hm] at hy hz
      omega
  · intro m i
    have h1 : (m, i) ∈ prs F 0 ↔ m ≤ 3 ∧ i < 256 ∧ Bm.tb (F m) i = true := by
      rw [he]
      simp only [List.mem_append, List.not_mem_nil, or_false, hm]
      constructor
      · rintro (⟨rfl, h⟩ | ⟨rfl, h⟩ | ⟨rfl, h⟩ | ⟨rfl, h⟩) <;> exact ⟨by omega, h⟩
      · rintro ⟨h, h2⟩
        have : m = 0 ∨ m = 1 ∨ m = 2 ∨ m = 3 := by omega
        rcases this with rfl | rfl | rfl | rfl
        · exact .inl ⟨rfl, h2⟩
        · exact .inr (.inl ⟨rfl, h2⟩)
        · exact .inr (.inr (.inl ⟨rfl, h2⟩))
        · exact .inr (.inr (.inr ⟨rfl, h2⟩))
    rw [h1]
    constructor
    · rintro ⟨h2, _, h3⟩
      obtain ⟨h4, h5⟩ := (h.on m h2 i).1 h3
      refine ⟨h2, h4, ?_⟩
      obtain ⟨j, hj⟩ := List.exists_mem_of_ne_nil _ h5
      obtain ⟨x, hx, _, e⟩ := hi.al _ (code_lt h2 h4) j hj
      obtain ⟨_, e1, e2⟩ := (lw_slot h4).1 e
      exact ⟨x, hx, e1, e2⟩
    · rintro ⟨h2, h3, x, hx, e1, e2⟩
      refine ⟨h2, by omega, (h.on m h2 i).2 ⟨h3, fun e => ?_⟩⟩
      have h4 := (hi.tm x hx).2.2.2.2
      rw [(lw_slot h3).2 ⟨h2, e1, e2⟩, e] at h4
      cases h4
/-- Which spot is the foremost. -/
def FV (ls : Ls) (F : Nat → Nat → Nat) (v u : Int) : Prop :=
  (ls 0 ≠ [] ∧ v = -1 ∧ u = 0) ∨ (ls 0 = [] ∧ ∃ (m i : Nat) (rest : List (Nat × Nat)), prs F 0 = (m, i) :: rest ∧ v = m ∧ u = i) ∨ (ls 0 = [] ∧ prs F 0 = [] ∧ v = 4 ∧ u = 0)
section
variable {Q Z B G R P b : Nat} {s k : Int} {l : List T} {ls : Ls} {r : Nat → T} {F : Nat → Nat → Nat}
set_option maxHeartbeats 1000000 in
theorem fore_ready (w : World) (q1 : Qw w Q Z B G R P (2 + 4 * 2 ^ b) (lw b s) ls r 78 (rcells Z b (fst4 b) F s k) l) (h : ls 0 ≠ []) :
    Calls Tryz.prog 62 #[.pointer (some ⟨Q, 0, none⟩)] w fun e w' => e = .returned (spV (-1) 0) ∧ Bel w w' := by
  have HB0 : Hid (Bel w (w.alloc (.cells #[.int .i64 0, .int .i64 0] 109))) := Lib.hid ((Bel.refl _).alloc _ _)
  have HN : Hid ((w.alloc (.cells #[.int .i64 0, .int .i64 0] 109)).heap[w.heap.size]? = some (.cells #[.int .i64 0, .int .i64 0] 109 (0, 0))) := Lib.hid (heap_alloc_new _ _)
  have K1 := Lib.hid (some_any (t := 0) (by omega) _ (q1.ql.bel HB0.out))
  have h1 : has1 (ls 0) = true := by
    unfold has1
    cases e : ls 0 with
    | nil => exact absurd e h
    | cons y ys => rfl
  rw [h1, show ((0 : Nat) : Int) = 0 from rfl] at K1
  have c0 : w.cell? ⟨Q, 0, none⟩ = some (.pointer (some ⟨Z, 0, none⟩)) := q1.cell rfl
  have lQ := q1.ltQ
  clear q1 h h1
  go_enter Tryz.func62, Tryz.ntmps62
  go_wp2_with fail
  with_reducible refine K1.out.mono ?_
  rintro e w1 ⟨rfl, hb⟩
  obtain ⟨⟨b0, b1⟩, f0, f1⟩ := box2 (hb.heap HN.out)
  have HE := Lib.hid ((HB0.out.trans hb).setCell (p := ⟨w.heap.size, 0, none⟩) (Nat.le_refl _) (.int .i64 (-1)))
  have HE2 := Lib.hid (HE.out.setCell (p := ⟨w.heap.size, 1, none⟩) (Nat.le_refl _) (.int .i64 0))
  clear hb
  go_wp2
  exact bodyPost_ret (v := spV (-1) 0) (by simp [results, Tryz.results62, go_sem, b0, b1]) rfl ⟨rfl, HE2.out⟩
set_option maxRecDepth 100000 in
set_option maxHeartbeats 4000000 in
theorem fore_loop (w : World) (q1 : Qw w Q Z B G R P (2 + 4 * 2 ^ b) (lw b s) ls r 78 (rcells Z b (fst4 b) F s k) l) (q2 : Fh b ls F) (q3 : Rest w Q Z B G R b s l) (h : ls 0 = []) :
    Calls Tryz.prog 62 #[.pointer (some ⟨Q, 0, none⟩)] w fun e w' => (∃ v u, e = .returned (spV v u) ∧ FV ls F v u) ∧ Bel w w' := by
  have HB0 : Hid (Bel w (w.alloc (.cells #[.int .i64 0, .int .i64 0] 109))) := Lib.hid ((Bel.refl _).alloc _ _)
  have HN : Hid ((w.alloc (.cells #[.int .i64 0, .int .i64 0] 109)).heap[w.heap.size]? = some (.cells #[.int .i64 0, .int .i64 0] 109 (0, 0))) := Lib.hid (heap_alloc_new _ _)
  have K1 := Lib.hid (some_any (t := 0) (by omega) _ (q1.ql.bel HB0.out))
  rw [h, show has1 [] = false from rfl, show ((0 : Nat) : Int) = 0 from rfl] at K1
  have c0 : w.cell? ⟨Q, 0, none⟩ = some (.pointer (some ⟨Z, 0, none⟩)) := q1.cell rfl
  have lQ := q1.ltQ
  have HSR : Hid (∀ w' Bq, Bel w w' → w'.cell? ⟨Bq, 0, none⟩ = some (.pointer (some ⟨Q, 0, none⟩)) → Sr Bq Q F w') := Lib.hid (fun w' Bq hb hc => ⟨hc, fun m hm => by
    have hcs : m = 0 ∨ m = 1 ∨ m = 2 ∨ m = 3 := by omega
    have q := q1.bel hb
    rcases hcs with rfl | rfl | rfl | rfl <;> exact ⟨q.cell rfl, q.cell rfl, q.cell rfl, q.cell rfl⟩, (q3.off hb (fun e => e)).tab, q2.wd⟩)
  have HON : Hid (∀ j (y : Nat × Nat), (prs F 0)[j]? = some y → Bm.tb (F y.1) y.2 = true) := Lib.hid (fun j y hy => by
    have hm := List.mem_of_getElem? hy
    have he : prs F 0 = cu F 0 0 ++ (cu F 1 0 ++ (cu F 2 0 ++ (cu F 3 0 ++ []))) := rfl
    rw [he] at hm
    unfold cu at hm
    simp only [List.mem_append, List.not_mem_nil, or_false, List.mem_map] at hm
    rcases hm with ⟨i, h1, rfl⟩ | ⟨i, h1, rfl⟩ | ⟨i, h1, rfl⟩ | ⟨i, h1, rfl⟩ <;> exact (sg_mem.1 h1).2.2)
  have H0 := Lib.hid h
  clear q1 q2 q3 h
  refine (callsIn_wide (n := 4)).1 ?_
  have hro : Fence.wide.round = none := rfl
  refine callsIn_of_wp_marks Tryz.func62 rfl trivial ?_ hro
  simp only [Tryz.ntmps62, List.size_toArray, List.length_cons, List.length_nil, Nat.reduceAdd, Nat.reduceSub, Array.replicate_succ, Array.replicate_zero, List.push_toArray, List.append_toArray, List.nil_append, List.cons_append]
  refine wpIn_wide.2 ?_
  go_wp2_with fail
  with_reducible refine K1.out.mono ?_
  rintro e w1 ⟨rfl, hb⟩
  have HB1 := Lib.hid (HB0.out.trans hb)
  have HN1 := Lib.hid (hb.heap HN.out)
  clear hb c0
  have KN := Lib.hid (fun w' => rslots_new Q w')
  go_wp2_with fail
  with_reducible refine (KN.out _).mono ?_
  rintro e w2 ⟨Bq, rfl, hbx, hb2, hgx⟩
  have HB2 := Lib.hid (HB1.out.trans hb2)
  have HN2 := Lib.hid (hb2.heap HN1.out)
  have HBX := Lib.hid hbx
  have HGX : Hid (w.heap.size ≤ Bq) := Lib.hid (by have := HB1.out.size; omega)
  have HLT : Hid (w.heap.size < w2.heap.size) := Lib.hid (Array.getElem?_eq_some_iff.1 HN2.out).1
  clear hbx hb2 hgx
  go_wp2
  refine (wpIn_wide (n := 4)).1 ?_
  have HFE : Hid (∀ n w', 1 ≤ n → Feeds Fence.wide n Tryz.prog 131 #[.pointer (some ⟨Bq, 0, none⟩)] (fun y : Nat × Nat => #[Value.int .i64 (y.1 : Nat), Value.int .i64 (y.2 : Nat)]) (prs F 0) (Mr Bq Q F (prs F 0)) w') := Lib.hid (fun n w' hn => rslots_feeds n hn Bq Q F w')
  generalize hys : prs F 0 = ys at *
  have HYS := Lib.hid hys
  clear hys
  refine range_any hro (by omega) (gf := 131) (lb := #[.pointer (some ⟨Bq, 0, none⟩)]) rfl trivial (enters_of Tryz.func131 (by kernel_rfl) rfl) (HFE.out 3 w2 (by omega)) (fun _ => rfl)
    (fun pre V => pre = [] ∧ Bel w V ∧ V.heap[w.heap.size]? = some (.cells #[.int .i64 0, .int .i64 0] 109 (0, 0)) ∧ V.heap[Bq]? = some (.cells #[.pointer (some ⟨Q, 0, none⟩)] 61 (0, 0)))
    (fun c pre V => c = .ret ∧ ∃ m i : Nat, pre = [(m, i)] ∧ Bel w V ∧ V.heap[w.heap.size]? = some (.cells #[.int .i64 m, .int .i64 i] 109 (0, 0)))
    ?hI ?hIx ?hM ⟨rfl, HB2.out, HN2.out, HBX.out⟩ ?a1 ?assign ?body ?done ?stop
  case hI =>
    rintro pre A B' row ⟨h1, h2, h3, h4⟩ hg hr
    have o : Off (fun k => row = some k) A B' := Off.grown (Off.refl _ A) hg (fun k e => .inl e)
    have hn : ∀ {i : Nat} {c : Array Value} {t : TypeId}, A.heap[i]? = some (.cells c t (0, 0)) → ¬ row = some i := fun e e2 => by
      obtain ⟨_, ob, h2, h3⟩ := hr _ e2
      rw [h2] at e
      cases e
      cases h3
    refine ⟨h1, o.bel h2 (fun i e => by have := (hr i e).1; have := HLT.out; omega), (o.block _ (Array.getElem?_eq_some_iff.1 h3).1 (hn h3)).trans h3, (o.block _ (Array.getElem?_eq_some_iff.1 h4).1 (hn h4)).trans h4⟩
  case hIx =>
    rintro c pre A B' row ⟨h1, m, i, h2, h3, h4⟩ hg hr
    have o : Off (fun k => row = some k) A B' := Off.grown (Off.refl _ A) hg (fun k e => .inl e)
    refine ⟨h1, m, i, h2, o.bel h3 (fun i e => by have := (hr i e).1; have := HLT.out; omega), (o.block _ (Array.getElem?_eq_some_iff.1 h4).1 (fun e2 => by
      obtain ⟨_, ob, h5, h6⟩ := hr _ e2
      rw [h5] at h4
      cases h4
      cases h6)).trans h4⟩
  case hM =>
    rintro pre V ⟨rfl, h2, h3, h4⟩
    exact ⟨F, HSR.out V Bq h2 (box1 h4).1, fun _ _ _ _ e => e, fun j y _ hy => HON.out j y hy⟩
  case assign =>
    intro lp x V K hK
    gi_wp2
    exact hK
  case body =>
    rintro lp pre ⟨m, i⟩ V hpx ⟨rfl, h2, h3, h4⟩
    obtain ⟨⟨b0, b1⟩, f0, f1⟩ := box2 h3
    have H3 := Lib.hid h3
    have H2 := Lib.hid h2
    clear h3 h2 h4
    gi_wp2
    refine ⟨⟨(off2 V w.heap.size (.int .i64 m) (.int .i64 i)).size, fun j ob hj e hc => ?_⟩, rfl, m, i, rfl, (H2.out.setCell (p := ⟨w.heap.size, 0, none⟩) (Nat.le_refl _) _).setCell (p := ⟨w.heap.size, 1, none⟩) (Nat.le_refl _) _, ?_⟩
    · refine ((off2 V w.heap.size (.int .i64 m) (.int .i64 i)).block j (Array.getElem?_eq_some_iff.1 e).1 (fun e2 => ?_)).trans e
      have : j = w.heap.size := e2
      subst this
      rw [H3.out] at e
      cases e
      cases hc
    · have e1 := heap_setCell_same V w.heap.size 0 _ 109 (.int .i64 m) H3.out
      have e2 := heap_setCell_same _ w.heap.size 1 _ 109 (.int .i64 i) e1
      exact e2
  case done =>
    rintro D' V hD' ⟨hp, h2, h3, h4⟩ hK
    have hDV : D' < V.heap.size := (Array.getElem?_eq_some_iff.1 hK).1
    have nD : ¬ D' = w.heap.size := fun e => by rw [← e, hK] at h3; cases h3
    have HEND : Hid (∀ X : World, Off (fun k => k = w.heap.size) V X → ∀ x0 x1, X.heap[w.heap.size]? = some (.cells #[x0, x1] 109 (0, 0)) → X.heap[D']? = some (.deferred (some [])) ∧ Bel w (X.putObj D' (.deferred none)) ∧ (X.putObj D' (.deferred none)).heap[w.heap.size]? = some (.cells #[x0, x1] 109 (0, 0))) := Lib.hid (fun X o x0 x1 hx => by
      have oD : Off (fun i => i = D') X (X.putObj D' (.deferred none)) := Off.grown (Off.refl (fun i => i = D') X) (grownBy_putObj' X D' (.deferred none)) (fun i e => .inl (by cases e; rfl))
      have hz := HLT.out
      exact ⟨(o.block D' hDV nD).trans hK, oD.bel (o.bel h2 (fun i e => by have : i = w.heap.size := e; omega)) (fun i e => by have : i = D' := e; omega), (oD.block w.heap.size (Array.getElem?_eq_some_iff.1 hx).1 (fun e => nD e.symm)).trans hx⟩)
    obtain ⟨⟨b0, b1⟩, f0, f1⟩ := box2 h3
    have HX : Hid (((V.setCell ⟨w.heap.size, 0, none⟩ (.int .i64 4)).setCell ⟨w.heap.size, 1, none⟩ (.int .i64 0)).heap[w.heap.size]? = some (.cells #[.int .i64 4, .int .i64 0] 109 (0, 0))) := Lib.hid (by
      have e1 := heap_setCell_same V w.heap.size 0 _ 109 (.int .i64 4) h3
      exact heap_setCell_same _ w.heap.size 1 _ 109 (.int .i64 0) e1)
    clear hK h2 h3 h4
    go_wp2
    obtain ⟨k1, k2, k3⟩ := HEND.out _ (off2 V w.heap.size (.int .i64 4) (.int .i64 0)) _ _ HX.out
    refine ⟨by simp, .inl ⟨_, _, rfl, run_takeDeferred k1, ?_⟩⟩
    obtain ⟨⟨x0, x1⟩, _⟩ := box2 k3
    refine ⟨spV 4 0, ?_, ⟨4, 0, rfl, .inr (.inr ⟨H0.out, by rw [HYS.out, hp], rfl, rfl⟩)⟩, k2⟩
    simp [results, Tryz.f62, go_sem, x0, x1]
  case stop =>
    rintro D' c pre V hD' hpre ⟨rfl, m, i, rfl, h2, h3⟩ hK
    refine wpIn_wide.2 ?_
    have hDV : D' < V.heap.size := (Array.getElem?_eq_some_iff.1 hK).1
    have nD : ¬ D' = w.heap.size := fun e => by rw [← e, hK] at h3; cases h3
    have HEND : Hid (∀ X : World, Off (fun k => k = w.heap.size) V X → ∀ x0 x1, X.heap[w.heap.size]? = some (.cells #[x0, x1] 109 (0, 0)) → X.heap[D']? = some (.deferred (some [])) ∧ Bel w (X.putObj D' (.deferred none)) ∧ (X.putObj D' (.deferred none)).heap[w.heap.size]? = some (.cells #[x0, x1] 109 (0, 0))) := Lib.hid (fun X o x0 x1 hx => by
      have oD : Off (fun i => i = D') X (X.putObj D' (.deferred none)) := Off.grown (Off.refl (fun i => i = D') X) (grownBy_putObj' X D' (.deferred none)) (fun i e => .inl (by cases e; rfl))
      have hz := HLT.out
      exact ⟨(o.block D' hDV nD).trans hK, oD.bel (o.bel h2 (fun i e => by have : i = w.heap.size := e; omega)) (fun i e => by have : i = D' := e; omega), (oD.block w.heap.size (Array.getElem?_eq_some_iff.1 hx).1 (fun e => nD e.symm)).trans hx⟩)
    have HP := Lib.hid hpre
    have HX := Lib.hid h3
    clear hK h2 h3 hpre
    go_wp2
    obtain ⟨k1, k2, k3⟩ := HEND.out V (Off.refl _ _) _ _ HX.out
    refine ⟨by simp, .inl ⟨_, _, rfl, run_takeDeferred k1, ?_⟩⟩
    obtain ⟨⟨x0, x1⟩, _⟩ := box2 k3
    obtain ⟨rest, hrest⟩ := HP.out
    refine ⟨spV m i, ?_, ⟨m, i, rfl, .inr (.inl ⟨H0.out, m, i, rest, by rw [HYS.out, ← hrest]; rfl, rfl, rfl⟩)⟩, k2⟩
    simp [results, Tryz.f62, go_sem, x0, x1]
end
end Go.Proofs.YtdoceldofkaapaaGreatDoor
namespace Go.Proofs.YtdoceldofkaapaaGreatDoor
open Go.RowKit
/-- How many are still to come. -/
def toCome (n : Nat) (listed : Array Bool) : Nat := ((List.range n).filter fun i => !listed.getD i true).length
theorem toCome_set (n : Nat) (listed : Array Bool) (i : Nat) (hi : i < n) (hl : listed.getD i true = false) (hs : i < listed.size) : toCome n (listed.setIfInBounds i true) < toCome n listed := by
  unfold toCome
  rw [← List.countP_eq_length_filter, ← List.countP_eq_length_filter]
  have hp : ∀ j, (!(listed.setIfInBounds i true).getD j true) = true → (!listed.getD j true) = true := by
    intro j hj
    by_cases hij : i = j
    · subst hij
      simp [hs] at hj
    · rw [getD_set_ne true hij] at hj
      exact hj
  obtain ⟨s, t, hst⟩ := List.append_of_mem (List.mem_range.2 hi)
  rw [hst, List.countP_append, List.countP_append, List.countP_cons, List.countP_cons]
  have h1 := List.countP_mono_left (l := s) (p := fun j => !(listed.setIfInBounds i true).getD j true) (q := fun j => !listed.getD j true) (fun j _ => hp j)
  have h2 := List.countP_mono_left (l := t) (p := fun j => !(listed.setIfInBounds i true).getD j true) (q := fun j => !listed.getD j true) (fun j _ => hp j)
  have h3 : (!(listed.setIfInBounds i true).getD i true) = false := by simp [hs]
  rw [h3, hl]
  simp only [Bool.false_eq_true, if_false, Bool.not_false, if_true]
  omega
theorem toCome_none {ops : Array Oper} {listed : Array Bool} (h : toCome ops.size listed = 0) : Region.ready .any ops listed = [] := by
  unfold toCome at h
  have h0 := List.eq_nil_of_length_eq_zero h
  rw [List.filter_eq_nil_iff] at h0
  unfold Region.ready
  rw [List.filter_eq_nil_iff]
  intro i hi
  have := h0 i hi
  simp only [Bool.not_eq_true', Bool.not_eq_false] at this
  rw [this]
  simp
theorem wpAnyIn_inv {F : Fence} {n : Nat} {P : Program} {ops : Array Oper} {Q : Exit → Act → World → Prop} (J : Array Bool → Act → World → Prop) (hsz : ∀ listed a w, J listed a w → listed.size = ops.size)
    (hstep : ∀ listed a w i o, J listed a w → listed.getD i true = false → ops[i]? = some o → (∀ e ∈ o.after, Region.binds .any e = true → listed.getD e.on false = true) → ∀ K : Act → World → Prop, (∀ a' w', J (listed.setIfInBounds i true) a' w' → K a' w') →
      if Region.wanted o (yielded ops a.tmps) = true then Oper.wpIn F n P o a w K Q else (∀ f, o.about P w a.eval = some f → F.fn f) ∧ K (a.put o.dst undef) w)
    (hend : ∀ listed a w, J listed a w → Region.ready .any ops listed = [] → Q .normal a w) :
    ∀ (fuel : Nat) (listed : Array Bool) (a : Act) (w : World), toCome ops.size listed ≤ fuel → J listed a w → wpAnyIn F n P .any ops Q fuel listed a w := by
  intro fuel
  induction fuel with
  | zero =>
    intro listed a w hc hJ
    have hr := toCome_none (ops := ops) (listed := listed) (by omega)
    exact ⟨hr, hend listed a w hJ hr⟩
  | succ fuel ih =>
    intro listed a w hc hJ
    refine ⟨fun h0 => hend listed a w hJ h0, fun i hi => ?_⟩
    obtain ⟨hl, o, ho, hafter⟩ := mem_ready.1 hi
    have hi2 : i < ops.size := by
      rcases Nat.lt_or_ge i ops.size with h | h
      · exact h
      · rw [Array.getElem?_eq_none h] at ho; cases ho
    refine wpOpIn_step ho (fun K hK => hstep listed a w i o hJ hl ho (fun e he hb => ?_) K (fun a' w' hJ' => hK a' w' (ih _ a' w' ?_ hJ')))
    · exact hafter e he hb
    · have := toCome_set ops.size listed i hi2 hl (by rw [hsz listed a w hJ]; exact hi2)
      omega
theorem ready_not {ops : Array Oper} {listed : Array Bool} {j : Nat} {o : Oper} (hr : Region.ready .any ops listed = []) (ho : ops[j]? = some o) (ha : ∀ e ∈ o.after, Region.binds .any e = true → listed.getD e.on false = true) : listed.getD j true ≠ false := by
  intro h
  have : j ∈ Region.ready .any ops listed := mem_ready.2 ⟨h, o, ho, ha⟩
  rw [hr] at this
  cases this
theorem put_ne {a : Act} {d t : Nat} {v : Value} (h : t ≠ d) : (a.put (some d) v).eval (.tmp t) = a.eval (.tmp t) := by
  unfold Act.put Act.eval
  simp only
  rw [Array.getD_eq_getD_getElem?, Array.getD_eq_getD_getElem?, Array.getElem?_setIfInBounds_ne (by omega)]
theorem put_eq {a : Act} {d : Nat} {v : Value} (h : d < a.tmps.size) : (a.put (some d) v).eval (.tmp d) = v := by
  unfold Act.put Act.eval
  simp [h]
theorem put_size {a : Act} {d : Nat} {v : Value} : (a.put (some d) v).tmps.size = a.tmps.size := by
  unfold Act.put
  simp
end Go.Proofs.YtdoceldofkaapaaGreatDoor
