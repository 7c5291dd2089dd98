/-
  A range over a function whose body writes what the function reads between two rounds: the function may lean on what the rounds so far leave (M k behind k of them), and tells just the list ys.
-/
import Derived.Test.YtdoceldofkaapaaDoorPl
import Derived.RangeFuncBox
import Derived.RangeFuncNested
import Derived.RangeFuncBound
import Derived.RangeFuncCalls
import Derived.RangeFuncLeaves
import Derived.RangeFuncWrites
set_option linter.unusedVariables false
set_option linter.unusedSimpArgs false
namespace Go.Proofs.YtdoceldofkaapaaDoor
open Go.RowKit
variable {α : Type} {F : Fence} {n : Nat} {P : Program}
/-- The function gf tells ys, one by one, to whatever rounds there are that leave M k behind k of them. -/
def Feeds (F : Fence) (n : Nat) (P : Program) (gf : Nat) (lb : Array Value) (en : α → Array Value) (ys : List α) (M : Nat → World → Prop) (w : World) : Prop :=
  ∀ (l : Nat) (J Jx : List α → World → Prop) (W : World), w.heap.size ≤ W.heap.size → AbidesFrom W.heap.size J → (∀ pre V, J pre V → M pre.length V) →
    (∀ pre x V, pre ++ [x] <+: ys → J pre V → YieldAt F (n - 1) P l (en x) V fun e V' => (e = .returned (.bool true) ∧ J (pre ++ [x]) V') ∨ (e = .returned (.bool false) ∧ Jx (pre ++ [x]) V')) →
    J [] W → CallsIn F n P gf (#[.func (.yield l) #[] #[]] ++ lb) W fun e V => (∃ v, e = .returned v) ∧ (J ys V ∨ ∃ pre, pre <+: ys ∧ Jx pre V)
/-- How a round may end. -/
abbrev roundEnd (B : Nat) (I : List α → World → Prop) (Ix : Code → List α → World → Prop) (xs : List α) (W : World) : Exit → Act → World → Prop := ownPostG B (fun _ _ => True) I Ix xs W
set_option maxHeartbeats 1000000 in
theorem range_any {g : Operand} {ps : Array Tmp} {assign body : Code} {Q : Exit → Act → World → Prop} {a : Act} {w : World} (hro : F.round = none) (h1 : 1 ≤ n) {gf : Nat} {lb : Array Value}
    (hg : a.eval g = .func (.func gf) #[] lb) (hFg : F.fn gf) (eg : ∀ args w, (callFunc gf args).run P w = .ok (.enter gf args) w) {en : α → Array Value} {ys : List α} {M : Nat → World → Prop}
    (hs : Feeds F (n - 1) P gf lb en ys M w) (hps : ∀ x, (en x).size = ps.size) (I : List α → World → Prop) (Ix : Code → List α → World → Prop)
    (hI : OwnFrom w.heap.size I) (hIx : ∀ c, OwnFrom w.heap.size (Ix c)) (hM : ∀ pre V, I pre V → M pre.length V) (h0 : I [] w) (a1 : α → Act)
    (hassign : ∀ (l : Nat) (x : α) (V : World) (K : Act → World → Prop), K (a1 x) V →
      assign.wpIn (F.inRound l) (n - 1 - 1) P (Exit.then K (fun _ _ _ => False)) { tmps := (ps.zip (en x)).foldl (fun t (p, v) => t.setIfInBounds p v) a.tmps, defers := [] } V)
    (hbody : ∀ (l : Nat) (pre : List α) (x : α) (V : World), pre ++ [x] <+: ys → I pre V → body.wpIn (F.inRound l) (n - 1 - 1) P (roundEnd w.heap.size I Ix (pre ++ [x]) V) (a1 x) V)
    (hdone : ∀ (D : Nat) (V : World), w.heap.size ≤ D → I ys V → V.heap[D]? = some (.deferred (some [])) → Q .normal { a with defers := { target := .collected D, args := #[] } :: a.defers } V)
    (hstop : ∀ (D : Nat) (c : Code) (pre : List α) (V : World), w.heap.size ≤ D → pre <+: ys → Ix c pre V → V.heap[D]? = some (.deferred (some [])) → c.wpIn F n P Q { a with defers := { target := .collected D, args := #[] } :: a.defers } V) :
    (Code.rangeFunc g ps assign body).wpIn F n P Q a w := by
  refine wpIn_rangeFunc fun fn hfn => ?_
  obtain ⟨d, hd⟩ : ∃ d, w.heap.size = d := ⟨_, rfl⟩
  let R : LoopState → Option Code → Loop := fun s j => { state := s, pending := j, fn := fn, tmps := a.tmps, params := ps, assign := assign, body := body, defers := d }
  have hR : ∀ s j, (R s j).params = ps ∧ (R s j).tmps = a.tmps ∧ (R s j).fn = fn ∧ (R s j).assign = assign ∧ (R s j).body = body ∧ (R s j).state = s ∧ (R s j).pending = j := fun s j => ⟨rfl, rfl, rfl, rfl, rfl, rfl, rfl⟩
  obtain ⟨V0, hV0⟩ : ∃ V0, (w.alloc (.deferred (some []))).alloc (.loop (R .ready none)) = V0 := ⟨_, rfl⟩
  have z0 : V0.heap.size = d + 2 := by rw [← hV0]; simp [hd]
  have kl : V0.heap[d + 1]? = some (.loop (R .ready none)) := by
    have := World.alloc_heap_new (w.alloc (.deferred (some []))) (.loop (R .ready none))
    rw [World.size_alloc, hd] at this
    rw [← hV0]; exact this
  have kd : V0.heap[d]? = some (.deferred (some [])) := by
    have h2 := World.alloc_heap_new w (.deferred (some []))
    rw [hd] at h2
    rw [← hV0]
    exact (Below.heap_alloc _ _ _ (by simp [hd])).trans h2
  have i0 : I [] V0 := by rw [← hV0]; exact hI.alloc _ (hI.alloc _ h0)
  -- a record that a round turns
  have turn : ∀ (V : World) (r r' : Loop), V.heap[d + 1]? = some (.loop r) → V.heap[d]? = some (.deferred (some [])) →
      (V.putObj (d + 1) (.loop r')).heap[d + 1]? = some (.loop r') ∧ (V.putObj (d + 1) (.loop r')).heap[d]? = some (.deferred (some [])) := fun V r r' hl hk =>
    ⟨World.putObj_heap_same (Array.getElem?_eq_some_iff.1 hl).1, (World.putObj_heap_other (by omega)).trans hk⟩
  have keepI : ∀ (xs : List α) (V : World) (r r' : Loop), V.heap[d + 1]? = some (.loop r) → I xs V → I xs (V.putObj (d + 1) (.loop r')) := fun xs V r r' hl hi => hI.putObj _ hi (by omega) hl rfl
  have keepX : ∀ (c : Code) (xs : List α) (V : World) (r r' : Loop), V.heap[d + 1]? = some (.loop r) → Ix c xs V → Ix c xs (V.putObj (d + 1) (.loop r')) := fun c xs V r r' hl hi => (hIx c).putObj _ hi (by omega) hl rfl
  rw [hro]
  refine ⟨d + 1, [{ target := .collected d, args := #[] }], V0, { target := .fn (.func gf) lb, args := #[.func (.yield (d + 1)) #[] #[]] }, V0, gf, #[.func (.yield (d + 1)) #[] #[]] ++ lb, V0, ?_, ?_, ?_, ?_, fun _ => h1, ?_⟩
  · have := run_enterLoop_outer (P := P) (w := w) fn a.tmps ps assign body
    rw [hd] at this
    rw [this, ← hV0]
  · simp only [resolve, hg]
    simp [go_sem]
  · intro f' hf'
    simp [Target.leads] at hf'
    subst hf'
    exact hFg
  · simp [invoke, go_sem, eg]
  refine (hs (d + 1) (fun pre V => I pre V ∧ V.heap[d + 1]? = some (.loop (R .ready none)) ∧ V.heap[d]? = some (.deferred (some [])))
    (fun pre V => ∃ c, Ix c pre V ∧ V.heap[d + 1]? = some (.loop (R .done (some c))) ∧ V.heap[d]? = some (.deferred (some []))) V0 (by omega) ?_ (fun pre V h => hM pre V h.1) ?_ ⟨i0, kl, kd⟩).mono ?_
  · intro xs A B row hJ hgr hrow
    have nw : ∀ r, row = some r → w.heap.size ≤ r ∧ ∃ o : Obj, A.heap[r]? = some o ∧ o.isCells = false := fun r e => by
      obtain ⟨h2, o, ho, hw⟩ := hrow r e
      exact ⟨by omega, o, ho, Obj.not_cells_of_walk hw⟩
    exact ⟨hI xs A B row hJ.1 hgr nw, (grownBy_keeps hgr (fun r e => (hrow r e).2) hJ.2.1 rfl).trans hJ.2.1, (grownBy_keeps hgr (fun r e => (hrow r e).2) hJ.2.2 rfl).trans hJ.2.2⟩
  · rintro pre x V hpre ⟨hi, hl, hk⟩
    have hy := run_yield (P := P) (args := en x) hl (hps x)
    obtain ⟨hl2, hk2⟩ := turn V _ { R .ready none with state := .busy } hl hk
    refine ⟨fn, _, assign, body, hy, roundIn_of_wpIn hfn (hassign _ x V _ ⟨_, run_beginRound hl rfl, wpIn_mono (hbody _ pre x _ hpre (keepI _ V _ _ hl hi)) ?_⟩)⟩
    intro ex a3 V3 hp
    have close : ∀ (j : Option Code), KeepsFrom w.heap.size (V.putObj (d + 1) (.loop { R .ready none with state := .busy })) V3 →
        V3.heap[d + 1]? = some (.loop { R .ready none with state := .busy }) ∧ (Instr.endRound (d + 1) j).run P V3 = .ok (.bool j.isNone) (V3.putObj (d + 1) (.loop (R (if j.isNone then .ready else .done) j))) ∧
        (V3.putObj (d + 1) (.loop (R (if j.isNone then .ready else .done) j))).heap[d + 1]? = some (.loop (R (if j.isNone then .ready else .done) j)) ∧ (V3.putObj (d + 1) (.loop (R (if j.isNone then .ready else .done) j))).heap[d]? = some (.deferred (some [])) := fun j hk3 => by
      have q := hk3.same _ _ (by omega) hl2 rfl
      obtain ⟨q1, q2⟩ := turn V3 _ (R (if j.isNone then .ready else .done) j) q (hk3.same _ _ (by omega) hk2 rfl)
      exact ⟨q, run_endRound (P := P) j q, q1, q2⟩
    cases ex with
    | normal => obtain ⟨hk3, _, hi3⟩ := hp; obtain ⟨q, q0, q1, q2⟩ := close none hk3; exact ⟨_, _, q0, .inl ⟨rfl, keepI _ V3 _ _ q hi3, q1, q2⟩⟩
    | ret => obtain ⟨hk3, hi3⟩ := hp; obtain ⟨q, q0, q1, q2⟩ := close (some .ret) hk3; exact ⟨_, _, q0, .inr ⟨rfl, _, keepX _ _ V3 _ _ q hi3, q1, q2⟩⟩
    | exit id => obtain ⟨hk3, hi3⟩ := hp; obtain ⟨q, q0, q1, q2⟩ := close (some (.exit id)) hk3; exact ⟨_, _, q0, .inr ⟨rfl, _, keepX _ _ V3 _ _ q hi3, q1, q2⟩⟩
    | goto t => obtain ⟨hk3, hi3⟩ := hp; obtain ⟨q, q0, q1, q2⟩ := close (some (.goto t)) hk3; exact ⟨_, _, q0, .inr ⟨rfl, _, keepX _ _ V3 _ _ q hi3, q1, q2⟩⟩
    | panic ch => exact hp.elim
    | outgrown => exact hp.elim
  · rintro e V2 ⟨⟨v, rfl⟩, (⟨hi, hl, hk⟩ | ⟨pre, hpre, c, hi, hl, hk⟩)⟩
    · exact ⟨none, _, run_endLoop (P := P) hl (by simp [R]), hdone _ _ (by omega) (keepI _ V2 _ _ hl hi) (turn V2 _ _ hl hk).2⟩
    · exact ⟨some c, _, run_endLoop (P := P) hl (by simp [R]), hstop _ c pre _ (by omega) hpre (keepX _ _ V2 _ _ hl hi) (turn V2 _ _ hl hk).2⟩
end Go.Proofs.YtdoceldofkaapaaDoor
