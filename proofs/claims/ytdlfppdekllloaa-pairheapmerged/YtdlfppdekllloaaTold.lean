/-
  A range over a function whose body must know which one it is told: an iterator that tells the next one of a known row, and a law for the loop over it. The loop's body never leaves.
-/
import Derived.Test.YtdlfppdekllloaaPmel
import Derived.RangeFuncBox
import Derived.RangeFuncNested
import Derived.RangeFuncBound
import Derived.RangeFuncCalls
import Derived.RangeFuncLeaves
import Derived.Shelf.Abstract
import Derived.OwnWalkIn
import Derived.TacticsInMore
import Derived.LoopNIn
import Derived.LoopIn
set_option linter.unusedVariables false
set_option linter.unusedSimpArgs false
namespace Go.Proofs.Ytdlfppdekllloaa
open Go.RowKit Go.Shelf
/-- The iterator tells one after another: nx says which one may come behind those that came; R is what it finds between two rounds; in the end S has come. -/
def Tells {α : Type} (n g : Nat) (lb : Array Value) (encs : α → Array Value) (nx : List α → α → Prop) (R : List α → World → Prop) (S : List α → Prop) : Prop :=
  ∀ (l : Nat) (J : List α → World → Prop) (W : World), AbidesFrom W.heap.size J → (∀ pre W1, J pre W1 → R pre W1) →
    (∀ pre x W1, nx pre x → J pre W1 → YieldAt Fence.wide (n - 1) Try.prog l (encs x) W1 fun e W' => e = .returned (.bool true) ∧ J (pre ++ [x]) W') →
    J [] W → CallsIn Fence.wide n Try.prog g (#[.func (.yield l) #[] #[]] ++ lb) W fun e W' => (∃ v, e = .returned v) ∧ ∃ xs, S xs ∧ J xs W'
theorem range_told {α : Type} {g : Operand} {ps : Array Tmp} {assign body : Code} {Q : Exit → Act → World → Prop} {a : Act} {w : World} {n : Nat} (h1 : 1 ≤ n) {gf : Nat} {lb : Array Value}
    (hg : a.eval g = .func (.func gf) #[] lb) (eg : ∀ args w, (callFunc gf args).run Try.prog w = .ok (.enter gf args) w) {encs : α → Array Value} {nx : List α → α → Prop} {R : List α → World → Prop} {S : List α → Prop}
    (hseq : Tells (n - 1) gf lb encs nx R S) (hps : ∀ x, (encs x).size = ps.size) (I : List α → World → Prop) (hI : OwnFrom w.heap.size I) (hR : ∀ pre W, I pre W → R pre W) (h0 : I [] w) (a₁ : α → Act)
    (hassign : ∀ (l : Nat) (x : α) (W : World) (K : Act → World → Prop), K (a₁ x) W →
      assign.wpIn (Fence.wide.inRound l) (n - 1 - 1) Try.prog (Exit.then K (fun _ _ _ => False)) { tmps := (ps.zip (encs x)).foldl (fun t (p, v) => t.setIfInBounds p v) a.tmps, defers := [] } W)
    (hbody : ∀ (l : Nat) (pre : List α) (x : α) (W : World), nx pre x → I pre W → body.wpIn (Fence.wide.inRound l) (n - 1 - 1) Try.prog (ownPostG w.heap.size (fun _ _ => True) I (fun _ _ _ => False) (pre ++ [x]) W) (a₁ x) W)
    (hdone : ∀ (D : Nat) (xs : List α) (W : World), w.heap.size ≤ D → S xs → I xs W → W.heap[D]? = some (.deferred (some [])) → Q .normal { a with defers := { target := .collected D, args := #[] } :: a.defers } W) :
    (Code.rangeFunc g ps assign body).wpIn Fence.wide n Try.prog Q a w := by
  refine wpIn_rangeFunc ?_
  intro fn hfn
  let L : LoopState → Option Code → Obj := fun st pe => .loop { state := st, pending := pe, fn, tmps := a.tmps, params := ps, assign, body, defers := w.heap.size }
  obtain ⟨b, hb⟩ : ∃ b, w.heap.size = b := ⟨_, rfl⟩
  have Lb : ∀ st pe, L st pe = .loop { state := st, pending := pe, fn, tmps := a.tmps, params := ps, assign, body, defers := b } := fun st pe => by rw [← hb]
  obtain ⟨W1, hW1⟩ : ∃ W1, (w.alloc (.deferred (some []))).alloc (L .ready none) = W1 := ⟨_, rfl⟩
  have at1 : W1.heap[b + 1]? = some (L .ready none) ∧ W1.heap[b]? = some (.deferred (some [])) := by
    subst hW1 hb
    refine ⟨?_, (Below.heap_alloc _ _ _ (by simp)).trans (World.alloc_heap_new w _)⟩
    have := World.alloc_heap_new (w.alloc (.deferred (some []))) (L .ready none)
    rwa [World.size_alloc] at this
  have sz1 : W1.heap.size = b + 1 + 1 := by rw [← hW1, ← hb]; simp
  refine ⟨b + 1, [{ target := .collected b, args := #[] }], W1, { target := .fn (.func gf) lb, args := #[.func (.yield (b + 1)) #[] #[]] }, W1, gf, #[.func (.yield (b + 1)) #[] #[]] ++ lb, W1, ?_, ?_, fun _ _ => trivial, ?_, fun _ => h1, ?_⟩
  · have e := run_enterLoop_outer (P := Try.prog) (w := w) fn a.tmps ps assign body
    rw [← hW1, ← hb]
    exact e
  · simp only [resolve, hg]
    simp [go_sem]
  · simp [invoke, go_sem, eg]
  · let J : List α → World → Prop := fun pre W => I pre W ∧ W.heap[b + 1]? = some (L .ready none) ∧ W.heap[b]? = some (.deferred (some []))
    have hJ : AbidesFrom W1.heap.size J := fun s A B row hs hg' hr => by
      have hr2 : ∀ r, row = some r → ∃ o : Obj, A.heap[r]? = some o ∧ o.isWalk = true := fun r e => (hr r e).2
      refine ⟨hI s A B row hs.1 hg' (fun r e => ?_), (grownBy_keeps hg' hr2 hs.2.1 rfl).trans hs.2.1, (grownBy_keeps hg' hr2 hs.2.2 rfl).trans hs.2.2⟩
      obtain ⟨h2, o, ho, hw⟩ := hr r e
      exact ⟨by omega, o, ho, Obj.not_cells_of_walk hw⟩
    refine (hseq (b + 1) J W1 hJ (fun pre W h => hR pre W h.1) ?_ ⟨by rw [← hW1]; exact hI.alloc _ (hI.alloc _ h0), at1⟩).mono ?_
    · rintro pre x W hx ⟨hi, hl, hk⟩
      have hlt : b + 1 < W.heap.size := (Array.getElem?_eq_some_iff.1 hl).1
      have hl' := hl
      rw [Lb] at hl'
      have hy := run_yield (P := Try.prog) (args := encs x) hl' (hps x)
      obtain ⟨W2, hW2⟩ : ∃ W2, W.putObj (b + 1) (L .busy none) = W2 := ⟨_, rfl⟩
      have hl2 : W2.heap[b + 1]? = some (L .busy none) := by rw [← hW2]; exact World.putObj_heap_same hlt
      have hk2 : W2.heap[b]? = some (.deferred (some [])) := by rw [← hW2]; exact (World.putObj_heap_other (by omega)).trans hk
      have hi2 : I pre W2 := by rw [← hW2]; exact hI.putObj _ hi (by omega) hl rfl
      have hbr := run_beginRound (P := Try.prog) hl' rfl
      refine ⟨fn, _, assign, body, hy, roundIn_of_wpIn hfn (hassign _ x W _ ⟨W2, ?_, wpIn_mono (hbody _ pre x _ hx hi2) ?_⟩)⟩
      · rw [← hW2, Lb]
        exact hbr
      rintro e a3 W3 hp
      cases e with
      | normal =>
        obtain ⟨hk3, _, hi3⟩ := hp
        have hl3 : W3.heap[b + 1]? = some (L .busy none) := hk3.same _ _ (by omega) hl2 rfl
        have hl3' := hl3
        rw [Lb] at hl3'
        have her := run_endRound (P := Try.prog) none hl3'
        refine ⟨_, _, her, rfl, hI.putObj _ hi3 (by omega) hl3 rfl, ?_, (World.putObj_heap_other (by omega)).trans (hk3.same _ _ (by omega) hk2 rfl)⟩
        rw [Lb]
        exact World.putObj_heap_same (Array.getElem?_eq_some_iff.1 hl3).1
      | ret => exact hp.2.elim
      | exit id => exact hp.2.elim
      | goto t => exact hp.2.elim
      | panic ch => exact hp.elim
      | outgrown => exact hp.elim
    · rintro e W2 ⟨⟨v, rfl⟩, xs, hS, hi, hl, hk⟩
      have hl' := hl
      rw [Lb] at hl'
      exact ⟨none, _, run_endLoop (P := Try.prog) hl' (by simp), hdone b xs _ (by omega) hS (hI.putObj _ hi (by omega) hl rfl) ((World.putObj_heap_other (by omega)).trans hk)⟩
end Go.Proofs.Ytdlfppdekllloaa
