/-
  Contract of gathered's deferred function: from the right all pairs are melded.
-/
import Derived.Test.YtdlfppdekllloaaPit
import Derived.Test.YtdlfppdekllloaaPfor
set_option linter.unusedVariables false
set_option linter.unusedSimpArgs false
namespace Go.Proofs.Ytdlfppdekllloaa
open Go.RowKit Go.Shelf
attribute [local go_sem] Oper.semAt_some
theorem off_grown {W W' : World} {row : Option Nat} (hg : W.grownBy W' row) : Off (fun k => row = some k) W W' := Off.grown (Off.refl _ _) hg (fun _ e => .inl e)
theorem Lies.kept {f : Nat → Prop} {W W' : World} {p : Option Addr} {cs : List Value} {row : Option Nat} (h : Lies f W p cs) (hg : W.grownBy W' row) (hr : ∀ r, row = some r → ∃ o : Obj, W.heap[r]? = some o ∧ o.isCells = false) : Lies f W' p cs := by
  rcases h with h | ⟨b, off, e, hf, h⟩
  · exact .inl h
  · exact .inr ⟨b, off, e, hf, fun j u hu => cell_kept (h j u hu) hg hr⟩
theorem box_off {g : Nat → Prop} {W W' : World} {B : Nat} {t : TypeId} {v : Value} (h : Boxed W B t v) (o : Off g W W') (hg : ¬ g B) : Boxed W' B t v := (o.block B h.lt hg).trans h
theorem box_bel {W W' : World} {B : Nat} {t : TypeId} {v : Value} (h : Boxed W B t v) (o : Bel W W') : Boxed W' B t v := box_off h o (fun e => e)
theorem keeps_off {g : Nat → Prop} {W W' : World} (o : Off g W W') (B : Nat) (hg : ∀ k ob, g k → B ≤ k → W.heap[k]? = some ob → ob.isCells = true) : KeepsFrom B W W' :=
  ⟨o.size, fun k ob hB hk ho => (o.block k (Array.getElem?_eq_some_iff.1 hk).1 (fun e => by rw [hg k ob e hB hk] at ho; cases ho)).trans hk⟩
/-- On the way of the deferred function: the last i pairs are melded. -/
structure Clo (w W : World) (c : List Fr) (n : Nat) (tn : T) (L R X : Tr) (ts : List Tr) (pb ab cb Sb : Nat) (p : Option Addr) (cap : Nat) (i : Nat) : Prop where
  ex : ∃ g, Fst w W c n tn L R X (g :: ts.take i) ∧ Boxed W ab 69 (ptv g.rt)
  bc : Boxed W cb 81 cmpV
  bs : Boxed W Sb 68 (.slice p ts.length cap)
  row : Lies (fun k => k < w.heap.size ∨ k = ab) W p (encP (ts.map Tr.rt))
  la : w.heap.size ≤ ab
  lc : w.heap.size ≤ cb
  ls : w.heap.size ≤ Sb
theorem Clo.own {w : World} {c : List Fr} {n : Nat} {tn : T} {L R X : Tr} {ts : List Tr} {pb ab cb Sb : Nat} {p : Option Addr} {cap : Nat} {β : Type} (i : List β → Nat) (B : Nat) (hB : w.heap.size ≤ B) : OwnFrom B (fun (pre : List β) W => Clo w W c n tn L R X ts pb ab cb Sb p cap (i pre)) := by
  intro pre W W' row h hg hr
  obtain ⟨⟨g, h1, h2⟩, h3, h4, h5, la, lc, ls⟩ := h
  have hr2 : ∀ r, row = some r → ∃ o : Obj, W.heap[r]? = some o ∧ o.isCells = false := fun r e => (hr r e).2
  exact ⟨⟨g, h1.turn (off_grown hg) (fun k e => Nat.le_trans hB (hr k e).1), boxed_own ab 69 (fun _ : Unit => ptv g.rt) () W W' row h2 hg hr2⟩, boxed_own cb 81 (fun _ : Unit => cmpV) () W W' row h3 hg hr2, boxed_own Sb 68 (fun _ : Unit => Value.slice p ts.length cap) () W W' row h4 hg hr2, h5.kept hg hr2, la, lc, ls⟩
theorem ptv_is (o : Option Nat) : ∃ q, ptv o = .pointer q := by cases o; exact ⟨_, rfl⟩; exact ⟨_, rfl⟩
theorem Clo.next {w W : World} {c : List Fr} {n : Nat} {tn : T} {L R X : Tr} {ts : List Tr} {pb ab cb Sb : Nat} {p : Option Addr} {cap : Nat} {i : Nat} {o : Option Nat} (h : Clo w W c n tn L R X ts pb ab cb Sb p cap (i + 1)) (ho : (ts.map Tr.rt)[i]? = some o) :
    ∃ v, Boxed W ab 69 v ∧ Calls Try.prog 37 #[v, ptv o, cmpV] W fun e W1 => ∃ q, e = .returned (.pointer q) ∧ Boxed W1 ab 69 v ∧ Clo w (W1.setCell ⟨ab, 0, none⟩ (.pointer q)) c n tn L R X ts pb ab cb Sb p cap i ∧ ∀ B, w.heap.size ≤ B → KeepsFrom B W (W1.setCell ⟨ab, 0, none⟩ (.pointer q)) := by
  obtain ⟨⟨g, h1, h2⟩, h3, h4, h5, la, lc, ls⟩ := h
  rw [List.getElem?_map] at ho
  obtain ⟨t, ht, rfl⟩ := Option.map_eq_some_iff.1 ho
  obtain ⟨hi, hti⟩ := List.getElem?_eq_some_iff.1 ht
  have h1' : Fst w W c n tn L R X (g :: t :: ts.take i) := h1.perm (by
    rw [List.take_succ_eq_append_getElem hi, hti]
    exact List.Perm.cons _ (List.perm_append_comm))
  refine ⟨_, h2, h1'.meld.mono fun e W1 ⟨he, hf, o⟩ => ?_⟩
  obtain ⟨q, hq⟩ := ptv_is (mel g t).rt
  rw [hq] at he
  refine ⟨q, he, ?_⟩
  rw [← hq]
  have b1 : Boxed W1 ab 69 (ptv g.rt) := box_off h2 o (by omega)
  have b2 : Boxed W1 cb 81 cmpV := box_off h3 o (by omega)
  have b3 : Boxed W1 Sb 68 (.slice p ts.length cap) := box_off h4 o (by omega)
  have r1 := h5.off o (fun k e => .inl e)
  have o2 : Off (fun k => k = ab) W1 (W1.setCell ⟨ab, 0, none⟩ (ptv (mel g t).rt)) := off_set (Off.refl (fun k => k = ab) _) rfl _
  have nca : ¬ cb = ab := fun e => by
    have := b2
    rw [e] at this
    unfold Boxed at this b1
    rw [b1] at this
    injection this with this
    injection this with _ this
    cases this
  have nsa : ¬ Sb = ab := fun e => by
    have := b3
    rw [e] at this
    unfold Boxed at this b1
    rw [b1] at this
    injection this with this
    injection this with _ this
    cases this
  refine ⟨b1, ⟨⟨_, hf.turn o2 (fun k e => by omega), b1.set _⟩, box_off b2 o2 nca, box_off b3 o2 nsa, r1.off o2 (fun k e => .inr e), la, lc, ls⟩, fun B hB => ?_⟩
  refine KeepsFrom.trans (keeps_off o B (fun k ob hk hk2 hob => ?_)) (keeps_off o2 B (fun k ob hk hk2 hob => ?_))
  · omega
  · subst hk
    unfold Boxed at b1
    rw [b1] at hob
    injection hob with hob
    subst hob
    rfl
set_option maxRecDepth 100000 in
set_option maxHeartbeats 2000000 in
theorem close_any (w W : World) (c : List Fr) (n : Nat) (tn : T) (L R X s : Tr) (ts : List Tr) (pb ab cb : Nat) (p : Option Addr) (cap : Nat) (u : FrameMode) (h : Fst w W c n tn L R X (s :: ts)) (ba : Boxed W ab 69 (ptv s.rt)) (bc : Boxed W cb 81 cmpV) (bp : Boxed W pb 68 (.slice p ts.length cap))
    (row : Lies (fun k => k < w.heap.size ∨ k = ab) W p (encP (ts.map Tr.rt))) (la : w.heap.size ≤ ab) (lc : w.heap.size ≤ cb) (hN : ts.length ≤ 4096) :
    CallsDIn Fence.wide 3 Try.prog 69 #[pt pb, pt ab, pt cb] u W fun e u' W' => u' = u ∧ (∃ v, e = .returned v) ∧ ∃ g, Fst w W' c n tn L R X [g] ∧ Boxed W' ab 69 (ptv g.rt) := by
  have hro : Fence.wide.round = none := rfl
  have hwW : w.heap.size ≤ W.heap.size := h.off.size
  obtain ⟨N, eN⟩ : ∃ N, ts.length = N := ⟨_, rfl⟩
  rw [eN] at bp hN
  have b0 := bp.cell
  have K := Lib.hid (backward_new p N cap W)
  have HC : Hid (∀ W1 Sb, Bel W W1 → W.heap.size ≤ Sb → Boxed W1 Sb 68 (.slice p N cap) → Clo w W1 c n tn L R X ts pb ab cb Sb p cap N) := Lib.hid (fun W1 Sb hb hS hbs =>
    ⟨⟨s, by rw [List.take_of_length_le (by omega)]; exact h.bel hb, box_bel ba hb⟩, box_bel bc hb, by rw [eN]; exact hbs, row.bel hb, la, lc, by omega⟩)
  have EN := Lib.hid eN
  clear h ba bc bp row eN
  refine callsD_marks Try.func69 rfl ?_
  simp only [Try.ntmps69, List.size_toArray, List.length_cons, List.length_nil, Nat.reduceAdd, Nat.reduceSub, Array.replicate_succ, Array.replicate_zero, List.push_toArray, List.append_toArray, List.nil_append, List.cons_append]
  refine wpIn_wide.2 ?_
  go_wp2_with fail
  with_reducible refine K.out.mono ?_
  rintro e w1 ⟨Sb, rfl, hbs, hS, hb⟩
  have hC := HC.out w1 Sb hb hS hbs
  have hw1 : w.heap.size ≤ w1.heap.size := Nat.le_trans hwW hb.size
  clear HC K hb hS hbs
  go_wp2
  refine (wpIn_wide (n := 3)).1 ?_
  refine range_told (by omega) (gf := 82) (lb := #[pt Sb]) rfl (enters_of Try.func82 (by kernel_rfl) rfl) (backward_tells 2 (by omega) Sb p cap (ts.map Tr.rt) N (by rw [List.length_map]; exact EN.out) hN) (fun _ => rfl)
    (fun pre W1 => Clo w W1 c n tn L R X ts pb ab cb Sb p cap (N - pre.length)) (Clo.own (fun pre => N - pre.length) _ hw1)
    (fun pre W1 h => ⟨by rw [List.length_map]; exact h.bs.cell, h.row.any⟩) hC ?a1 ?assign ?body ?done
  case assign =>
    intro l x W K hK
    gi_wp2
    exact hK
  case body =>
    rintro l pre ⟨i, o⟩ W1 ⟨hx1, hx2⟩ hI
    dsimp only at hx1 hx2
    have hI : Clo w W1 c n tn L R X ts pb ab cb Sb p cap (N - pre.length) := hI
    have e1 : N - pre.length = i + 1 := by omega
    rw [e1] at hI
    obtain ⟨v, hv, hK⟩ := hI.next hx2
    have c1 := hv.cell
    have c2 := hI.bc.cell
    have HK := Lib.hid hK
    have e2 : Hid (N - (pre ++ [(i, o)]).length = i) := Lib.hid (by simp; omega)
    clear hK hI hx2 hx1 e1
    generalize ptv o = ov at *
    gi_wp2_with ((refine ⟨trivial, ?_⟩); gi_at_call 37; (with_reducible refine (CallsIn.inRound l (callsIn_wide.2 HK.out)).mono ?_); rintro e w2 ⟨v2, rfl, hb2, hc2, hk2⟩; have c3 := hb2.cell; have f3 := hb2.frozen)
    exact ⟨hk2 _ hw1, trivial, by dsimp only; rw [e2.out]; exact hc2⟩
  case done =>
    rintro D xs W1 hD hS hI hK
    have hI : Clo w W1 c n tn L R X ts pb ab cb Sb p cap (N - xs.length) := hI
    have e1 : N - xs.length = 0 := by have hS : xs.length = N := hS; omega
    rw [e1] at hI
    obtain ⟨g, h1, h2⟩ := hI.ex
    refine ⟨D, _, .tuple #[], rfl, run_takeDeferred hK, by simp [results, Try.results69, go_sem], g, ?_, ?_⟩
    · exact h1.turn (off_grown (grownBy_putObj' W1 D _)) (fun k e => by cases e; omega)
    · exact boxed_own ab 69 (fun _ : Unit => ptv g.rt) () W1 _ _ h2 (grownBy_putObj' W1 D _) (fun r e => by cases e; exact ⟨_, hK, rfl⟩)
end Go.Proofs.Ytdlfppdekllloaa
