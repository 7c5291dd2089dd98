/-
  Contracts of the heap's replace, take and push.
-/
import Derived.Test.YtaabalkfpjeheaaHdown
import Derived.Test.YtaabalkfpjeheaaRput
namespace Go.Proofs.Ytaabalkfpjeheaa
open Go.RowKit
/-- The heap's row is another one. -/
theorem Hm.rehead {f f' : Nat → Prop} {w : World} {Q C S P : Nat} {p p' : Option Addr} {cap cap' : Nat} {l l' : List T} {wh : Nat → Int} (h : w.heap[Q]? = some (.cells #[.slice p l.length cap, clo C, .slice (some ⟨S, 0, none⟩) P P] 78 (0, 0)))
    (hC : w.heap[C]? = some (.cells #[.pointer (some ⟨Q, 0, none⟩)] 29 (0, 0))) (hS : w.heap[S]? = some (.cells (encW P wh).toArray 3 (0, 0))) (ho : OwnT w 0 (.slice p' l'.length cap') l') (fQ : f' Q) (fC : f' C) (fS : f' S) (fp : ∀ a, p' = some a → f' a.block) (n : Nat) (hn : l'.length = n) (fQ0 : f Q) :
    Hm f' (w.setCell ⟨Q, 0, none⟩ (.slice p' n cap')) Q C S P p' cap' l' wh ∧ Off f w (w.setCell ⟨Q, 0, none⟩ (.slice p' n cap')) := by
  subst hn
  have o : Off (Only Q) w (w.setCell ⟨Q, 0, none⟩ (.slice p' l'.length cap')) := Off.setCell (Off.refl (Only Q) w) (p := ⟨Q, 0, none⟩) (.inl rfl) _
  have lC := (Array.getElem?_eq_some_iff.1 hC).1
  have lS := (Array.getElem?_eq_some_iff.1 hS).1
  refine ⟨⟨?_, (o.block C lC (fun e => cells_ne h hC (by decide) e.symm)).trans hC, (o.block S lS (fun e => cells_ne h hS (by decide) e.symm)).trans hS, own_off0 ho o (fun b e e2 => ?_), fQ, fC, fS, fp⟩, o.mono (fun k _ e => by rw [show k = Q from e]; exact fQ0)⟩
  · have e1 := heap_setCell_same w Q 0 _ 78 (.slice p' l'.length cap') h
    rw [List.setIfInBounds_toArray] at e1
    exact e1
  · rcases ho.2 with ⟨e3, _⟩ | ⟨g, c, cur, e3, _, hg, _⟩
    · rw [e3] at e; simp [Value.ownBlock] at e
    · rw [e3] at e
      simp only [Value.ownBlock, Option.some.injEq] at e
      exact cells_ne h hg (by decide) (by rw [e]; exact e2.symm)
/-- Without its last one. -/
theorem Hm.cut {f : Nat → Prop} {w : World} {Q C S P : Nat} {p : Option Addr} {cap : Nat} {m : List T} {x : T} {wh : Nat → Int} (h : Hm f w Q C S P p cap (m ++ [x]) wh) (n : Nat) (hn : m.length = n) :
    Hm f (w.setCell ⟨Q, 0, none⟩ (.slice p n cap)) Q C S P p cap m wh ∧ Off f w (w.setCell ⟨Q, 0, none⟩ (.slice p n cap)) := by
  refine Hm.rehead h.hQ h.hC h.hS ?_ h.fQ h.fC h.fS h.fp n hn h.fQ
  have h0 : w.ownsRow 0 25 3 (.slice p (m ++ [x]).length cap) (m ++ [x]).length (encs (m ++ [x])) := h.own
  have h1 := own_take h0 m.length (by simp) (by simp)
  rw [encs_append, List.take_append_of_le_length (by rw [encs_len]; omega), List.take_of_length_le (by rw [encs_len]; omega)] at h1
  exact h1
theorem cut_last (l : List T) (h : 0 < l.length) : ∃ m, l = m ++ [gt l (l.length - 1)] ∧ m.length = l.length - 1 := by
  refine ⟨l.dropLast, ?_, by simp⟩
  rw [gt_mem l _ (by omega)]
  have h0 : l ≠ [] := fun e => by subst e; simp at h
  rw [← List.getLast_eq_getElem h0]
  exact (List.dropLast_concat_getLast h0).symm
set_option maxHeartbeats 1000000 in
theorem replace_any (f : Nat → Prop) (Q C S P : Nat) (p : Option Addr) (cap : Nat) (l : List T) (wh : Nat → Int) (i : Nat) (t : T) (w : World) (h : Hm f w Q C S P p cap l wh) (hw : Wh P l wh) (hh : Hp l) (hP : P ≤ 1024) (hi : i < l.length) (ht : t.p = (gt l i).p) :
    Calls Try.prog 41 #[.pointer (some ⟨Q, 0, none⟩), .int .i64 i, .agg #[.int .u64 t.a, .int .u64 t.s, .int .i64 t.p]] w fun e w' => e = .returned (.tuple #[]) ∧ ∃ (l' : List T) (wh' : Nat → Int), Hp l' ∧ St f w w' Q C S P p cap (l.set i t) l' wh' := by
  obtain ⟨g, cur, rfl, _⟩ := h.row (by omega)
  have HB : Hid (Bel w (w.alloc (.cells #[.int .u64 t.a, .int .u64 t.s, .int .i64 t.p] 25))) := Lib.hid ((Bel.refl _).alloc _ _)
  have HN : Hid ((w.alloc (.cells #[.int .u64 t.a, .int .u64 t.s, .int .i64 t.p] 25)).heap[w.heap.size]? = some (.cells #[.int .u64 t.a, .int .u64 t.s, .int .i64 t.p] 25 (0, 0))) := Lib.hid (heap_alloc_new _ _)
  have H1 := Lib.hid (h.bel HB.out)
  have HW : Hid (Wh P (l.set i t) wh) := Lib.hid (hw.set hi ht)
  have HA : Hid (Al (l.set i t) i) := Lib.hid (hh.set hi t)
  have b1 : (i : Int) < (l.length : Int) := by omega
  have hlt := h.ltQ
  clear h hw hh ht
  go_enter Try.func41, Try.ntmps41
  go_upto_region 1 with (fail)
  generalize w.alloc (.cells #[.int .u64 t.a, .int .u64 t.s, .int .i64 t.p] 25) = W at *
  obtain ⟨c0, _⟩ := H1.out.head
  obtain ⟨⟨t0, t1, t2⟩, _⟩ := box3 HN.out
  obtain ⟨⟨x0, x1, x2⟩, z⟩ := H1.out.at hi rfl
  have z0 := z (i * 3)
  have z1 := z (i * 3 + 1)
  have z2 := z (i * 3 + 2)
  have hE := H1.out.put hi t
  have HE : Hid (Hm f (set3 W g i t).drew Q C S P (some ⟨g, 0, none⟩) cap (l.set i t) wh ∧ Off f w (set3 W g i t).drew) := Lib.hid ⟨hE.1.bel (Bel.refl _).drew, (((HB.out.off f).then hE.2)).drew⟩
  clear hE z
  go_wp2
  go_region
  all_goals
    generalize (set3 W g i t).drew = W2 at *
    have K := Lib.hid (settle_any f Q C S P (some ⟨g, 0, none⟩) cap (l.set i t) wh i W2 HE.out.1 HW.out hP (by rw [List.length_set]; exact hi) HA.out)
    clear c0 t0 t1 t2 x0 x1 x2 z0 z1 z2
    go_wp2_with fail
    with_reducible refine (K.out).mono ?_
    rintro e w2 ⟨rfl, l2, wh2, hh, hs⟩
    have HH := Lib.hid hh
    have HS := Lib.hid hs
    clear hh hs
    go_wp2
    go_end0
    exact ⟨rfl, l2, wh2, HH.out, ⟨HS.out.hm, HE.out.2.then HS.out.off, HS.out.wh, HS.out.perm⟩⟩
end Go.Proofs.Ytaabalkfpjeheaa
