/-
  What gathered keeps on the way of its loop: its boxes, its row of pairs, the trees.
-/
import Derived.Test.YtdlfppdekllloaaPclo
set_option linter.unusedVariables false
set_option linter.unusedSimpArgs false
namespace Go.Proofs.Ytdlfppdekllloaa
open Go.RowKit Go.Shelf
theorem info69 : (Try.prog.info? 69).map (fun i => (i.zero, i.size, i.bytes)) = some (some (.pointer none), 1, 8) := by kernel_rfl
theorem el68 : Elem 68 69 1 8 := ⟨Try.underlying68, by obtain ⟨i, hi, h0, h1, h2⟩ := info_parts info69; exact ⟨i, _, hi, h0, h1, h2, rfl⟩, by decide, by decide⟩
theorem cells_is {W : World} {k : Nat} {x : Array Value} {t : TypeId} {ob : Obj} (h : W.heap[k]? = some (.cells x t (0, 0))) (h2 : W.heap[k]? = some ob) : ob.isCells = true := by
  have e := Option.some.inj (h.symm.trans h2)
  rw [← e]
  rfl
theorem own_kept {W W' : World} {e : TypeId} {size : Nat} {v : Value} {n : Nat} {cs : List Value} {row : Option Nat} (h : W.ownsRow 0 e size v n cs) (hg : W.grownBy W' row) (hr : ∀ r, row = some r → ∃ o : Obj, W.heap[r]? = some o ∧ o.isCells = false) : W'.ownsRow 0 e size v n cs := by
  refine own_off h (off_grown hg) (fun k hk e2 => ?_)
  rcases h.2 with ⟨rfl, _⟩ | ⟨g, cap, cur, rfl, _, hgg, _⟩
  · simp [Value.ownBlock] at hk
  · simp only [Value.ownBlock, Option.some.injEq] at hk
    subst hk
    obtain ⟨o, ho, hc⟩ := hr g e2
    rw [hgg] at ho
    injection ho with ho
    subst ho
    cases hc
/-- In gathered: the boxes (compare, all, pairs, single, and below's), the pairs' row, the trees. -/
structure Gs (w W : World) (c : List Fr) (n : Nat) (tn : T) (L R X : Tr) (fs : List Tr) (cb ab pb sb Nb B0 : Nat) (sv pv : Value) (ps : List (Option Nat)) : Prop where
  fs : Fst w W c n tn L R X fs
  bs : Boxed W sb 69 sv
  bp : Boxed W pb 68 pv
  row : W.ownsRow 0 69 1 pv ps.length (encP ps)
  rb : ∀ k, pv.ownBlock = some k → B0 ≤ k
  bc : Boxed W cb 81 cmpV
  ba : Boxed W ab 69 pn
  bn : Boxed W Nb 69 (pt n)
  l0 : w.heap.size ≤ cb
  l1 : cb < ab
  l2 : ab < pb
  l3 : pb < sb
  l4 : sb < Nb
  l5 : Nb < B0
  l6 : B0 ≤ W.heap.size
theorem Gs.own {w W W' : World} {c : List Fr} {n : Nat} {tn : T} {L R X : Tr} {fs : List Tr} {cb ab pb sb Nb B0 : Nat} {sv pv : Value} {ps : List (Option Nat)} {row : Option Nat} (h : Gs w W c n tn L R X fs cb ab pb sb Nb B0 sv pv ps) (hg : W.grownBy W' row) (hr : ∀ r, row = some r → w.heap.size ≤ r ∧ ∃ o : Obj, W.heap[r]? = some o ∧ o.isCells = false) : Gs w W' c n tn L R X fs cb ab pb sb Nb B0 sv pv ps := by
  have hr2 : ∀ r, row = some r → ∃ o : Obj, W.heap[r]? = some o ∧ o.isCells = false := fun r e => (hr r e).2
  have b : ∀ B t v, Boxed W B t v → Boxed W' B t v := fun B t v hb => boxed_own B t (fun _ : Unit => v) () W W' row hb hg hr2
  exact ⟨h.fs.turn (off_grown hg) (fun k e => (hr k e).1), b _ _ _ h.bs, b _ _ _ h.bp, own_kept h.row hg hr2, h.rb, b _ _ _ h.bc, b _ _ _ h.ba, b _ _ _ h.bn, h.l0, h.l1, h.l2, h.l3, h.l4, h.l5, Nat.le_trans h.l6 hg.size⟩
/-- Nodes turn. -/
theorem Gs.turn {w W W' : World} {c : List Fr} {n : Nat} {tn : T} {L R X Y : Tr} {fs gs : List Tr} {cb ab pb sb Nb B0 : Nat} {sv pv : Value} {ps : List (Option Nat)} (h : Gs w W c n tn L R X fs cb ab pb sb Nb B0 sv pv ps) (o : Off (fun k => k < w.heap.size) W W') (hf : Fst w W' c n tn L R Y gs) : Gs w W' c n tn L R Y gs cb ab pb sb Nb B0 sv pv ps := by
  have := h.l0
  have := h.l1
  have := h.l2
  have := h.l3
  have := h.l4
  have := h.l5
  exact ⟨hf, box_off h.bs o (by omega), box_off h.bp o (by omega), own_off h.row o (fun k e e2 => by have := h.rb k e; omega), h.rb, box_off h.bc o (by omega), box_off h.ba o (by omega), box_off h.bn o (by omega), h.l0, h.l1, h.l2, h.l3, h.l4, h.l5, Nat.le_trans h.l6 o.size⟩
theorem Gs.drew {w W : World} {c : List Fr} {n : Nat} {tn : T} {L R X : Tr} {fs : List Tr} {cb ab pb sb Nb B0 : Nat} {sv pv : Value} {ps : List (Option Nat)} (h : Gs w W c n tn L R X fs cb ab pb sb Nb B0 sv pv ps) : Gs w W.drew c n tn L R X fs cb ab pb sb Nb B0 sv pv ps :=
  h.turn ((Bel.refl W).drew.off _) (h.fs.bel (Bel.refl W).drew)
/-- The single one is set. -/
theorem Gs.single {w W : World} {c : List Fr} {n : Nat} {tn : T} {L R X : Tr} {fs : List Tr} {cb ab pb sb Nb B0 : Nat} {sv pv : Value} {ps : List (Option Nat)} (h : Gs w W c n tn L R X fs cb ab pb sb Nb B0 sv pv ps) (v : Value) : Gs w (W.setCell ⟨sb, 0, none⟩ v) c n tn L R X fs cb ab pb sb Nb B0 v pv ps ∧ KeepsFrom w.heap.size W (W.setCell ⟨sb, 0, none⟩ v) := by
  have := h.l0
  have := h.l1
  have := h.l2
  have := h.l3
  have := h.l4
  have := h.l5
  have o : Off (fun k => k = sb) W (W.setCell ⟨sb, 0, none⟩ v) := off_set (Off.refl (fun k => k = sb) _) rfl _
  exact ⟨⟨h.fs.turn o (fun k e => by omega), h.bs.set v, box_off h.bp o (by omega), own_off h.row o (fun k e e2 => by have := h.rb k e; omega), h.rb, box_off h.bc o (by omega), box_off h.ba o (by omega), box_off h.bn o (by omega), h.l0, h.l1, h.l2, h.l3, h.l4, h.l5, Nat.le_trans h.l6 o.size⟩, (KeepsOthers.setCell W _ _).from _⟩
theorem keeps_bel {W W' : World} (h : Bel W W') (B : Nat) : KeepsFrom B W W' := keeps_off h B (fun _ _ e => e.elim)
theorem keeps_old {w W W' : World} (o : Off (fun k => k < w.heap.size) W W') : KeepsFrom w.heap.size W W' := keeps_off o _ (fun k _ e h => by omega)
theorem Off.ofGrown {W W' : World} {v : Value} (hg : W.grownBy W' v.ownBlock) : Off (fun k => v.ownBlock = some k) W W' := off_grown hg
/-- A pair more. -/
theorem Gs.append {w W : World} {c : List Fr} {n : Nat} {tn : T} {L R X m : Tr} {fs : List Tr} {cb ab pb sb Nb B0 : Nat} {sv pv : Value} {ps : List (Option Nat)} (h : Gs w W c n tn L R X (m :: fs) cb ab pb sb Nb B0 sv pv ps) (hl : ps.length ≤ 4096) :
    ∃ g cap w', (Builtin.append_ #[68, 68] 68 #[pv, .slice (some ⟨W.heap.size, 0, none⟩) 1 1]).run Try.prog (W.alloc (.cells #[ptv m.rt] 69)) = .ok (.slice (some ⟨g, 0, none⟩) (ps.length + 1) cap) w' ∧
      (w'.cell? ⟨pb, 0, none⟩ = some pv ∧ w'.frozen? ⟨pb, 0, none⟩ = false) ∧ ((w'.setCell ⟨pb, 0, none⟩ (.slice (some ⟨g, 0, none⟩) (ps.length + 1) cap)).cell? ⟨sb, 0, none⟩ = some sv ∧ (w'.setCell ⟨pb, 0, none⟩ (.slice (some ⟨g, 0, none⟩) (ps.length + 1) cap)).frozen? ⟨sb, 0, none⟩ = false) ∧
      Gs w ((w'.setCell ⟨pb, 0, none⟩ (.slice (some ⟨g, 0, none⟩) (ps.length + 1) cap)).setCell ⟨sb, 0, none⟩ pn) c n tn L R X (m :: fs) cb ab pb sb Nb B0 pn (.slice (some ⟨g, 0, none⟩) (ps.length + 1) cap) (ps ++ [m.rt]) ∧
      KeepsFrom w.heap.size W ((w'.setCell ⟨pb, 0, none⟩ (.slice (some ⟨g, 0, none⟩) (ps.length + 1) cap)).setCell ⟨sb, 0, none⟩ pn) := by
  have q0 := h.l0
  have q1 := h.l1
  have q2 := h.l2
  have q3 := h.l3
  have q4 := h.l4
  have q5 := h.l5
  have q6 := h.l6
  have hb : Bel W (W.alloc (.cells #[ptv m.rt] 69)) := (Bel.refl W).alloc _ _
  have hlies : Lies nof (W.alloc (.cells #[ptv m.rt] 69)) (some ⟨W.heap.size, 0, none⟩) (encP [m.rt]) := by
    refine .inr ⟨_, _, rfl, fun e => e, fun j u hu => ?_⟩
    have hj : j = 0 := by have := (List.getElem?_eq_some_iff.1 hu).1; simp [encP] at this; omega
    subst hj
    simp [encP] at hu
    subst hu
    simp [go_sem]
  obtain ⟨v', w', hrun, hown, hgrow, hblk⟩ := append_gen el68 (W.alloc (.cells #[ptv m.rt] 69)) 68 pv ps.length (encP ps) (own_bel h.row hb) (some ⟨W.heap.size, 0, none⟩) 1 1 (encP [m.rt]) rfl hlies (encP_one _) (by omega)
  obtain ⟨g, cap, rfl⟩ := ownsRow_succ hown
  have oG : Off (fun k => pv.ownBlock = some k) (W.alloc (.cells #[ptv m.rt] 69)) w' := off_grown hgrow
  have oW : Off (fun k => pv.ownBlock = some k) W w' := Off.trans (hb.off _) oG (fun _ e => .inl e)
  have nb : ∀ k, k < B0 → ¬ pv.ownBlock = some k := fun k hk e => by have := h.rb k e; omega
  have bs' := box_off h.bs oW (nb _ (by omega))
  have bp' := box_off h.bp oW (nb _ (by omega))
  have bc' := box_off h.bc oW (nb _ (by omega))
  have ba' := box_off h.ba oW (nb _ (by omega))
  have bn' := box_off h.bn oW (nb _ (by omega))
  have fs' : Fst w w' c n tn L R X (m :: fs) := h.fs.turn oW (fun k e => by have := h.rb k e; omega)
  have o2 : Off (fun k => k = pb) w' (w'.setCell ⟨pb, 0, none⟩ (.slice (some ⟨g, 0, none⟩) (ps.length + 1) cap)) := off_set (Off.refl (fun k => k = pb) _) rfl _
  have bs2 := box_off bs' o2 (by omega)
  have rb' : ∀ k, (Value.slice (some ⟨g, 0, none⟩) (ps.length + 1) cap).ownBlock = some k → B0 ≤ k := fun k e => by
    rcases hblk k e with e | e
    · exact h.rb k e
    · simp at e; omega
  have hown' : w'.ownsRow 0 69 1 (.slice (some ⟨g, 0, none⟩) (ps.length + 1) cap) (ps ++ [m.rt]).length (encP (ps ++ [m.rt])) := by
    rw [encP_append, List.length_append]
    exact hown
  have G2 : Gs w (w'.setCell ⟨pb, 0, none⟩ (.slice (some ⟨g, 0, none⟩) (ps.length + 1) cap)) c n tn L R X (m :: fs) cb ab pb sb Nb B0 sv (.slice (some ⟨g, 0, none⟩) (ps.length + 1) cap) (ps ++ [m.rt]) :=
    ⟨fs'.turn o2 (fun k e => by omega), bs2, bp'.set _, own_off hown' o2 (fun k e e2 => by have := rb' k e; omega), rb', box_off bc' o2 (by omega), box_off ba' o2 (by omega), box_off bn' o2 (by omega), q0, q1, q2, q3, q4, q5, by have := oW.size; have := o2.size; omega⟩
  refine ⟨g, cap, w', hrun, ⟨bp'.cell, bp'.frozen⟩, ⟨bs2.cell, bs2.frozen⟩, (G2.single pn).1, ?_⟩
  refine KeepsFrom.trans (keeps_off oW _ (fun k ob hk _ hob => ?_)) (KeepsFrom.trans ((KeepsOthers.setCell w' _ _).from _) (G2.single pn).2)
  rcases h.row.2 with ⟨e, _⟩ | ⟨g2, c2, cur, e, _, hgg, _⟩
  · rw [e] at hk; simp [Value.ownBlock] at hk
  · rw [e] at hk
    simp only [Value.ownBlock, Option.some.injEq] at hk
    subst hk
    exact cells_is hgg hob
/-- What below finds. -/
theorem Gs.kidsR {w W : World} {c : List Fr} {n : Nat} {tn : T} {L R X : Tr} {fs : List Tr} {cb ab pb sb Nb B0 : Nat} {sv pv : Value} {ps : List (Option Nat)} (h : Gs w W c n tn L R X fs cb ab pb sb Nb B0 sv pv ps) (pre : List Nat) (hk : kids L = pre ++ kids X) : KidsR Nb n (kids L) pre W := by
  have hm := ((is_plug W c (.node n tn X R)).1 h.fs.main).2
  refine ⟨h.bn.cell, fun e => ?_, fun y r e => ?_⟩
  · subst e
    rw [hk, List.nil_append, kids_head]
    exact (nd_cells hm.1).1.2.2.2.1
  · rw [hk] at e
    have e := List.append_cancel_left e
    cases X with
    | nil => cases e
    | node a t l rr =>
      injection e with e1 e2
      subst e1
      rw [← e2, kids_head]
      exact (nd_cells hm.2.1.1).1.2.2.2.2.1
end Go.Proofs.Ytdlfppdekllloaa
