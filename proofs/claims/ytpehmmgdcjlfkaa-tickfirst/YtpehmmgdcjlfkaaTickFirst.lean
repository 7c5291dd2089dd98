/-
  Proved: whatever list of timers it is given, TickFirst returns true, and the input reads as it did. Conditions: none.
-/
import Derived.Test.YtpehmmgdcjlfkaaRows
import Derived.Test.YtpehmmgdcjlfkaaLawFirst
import Derived.WalkKit
import Derived.ProofKit
import Derived.OpenShut
import Derived.Below
import Derived.Carry
import Derived.Deep.Slices
import Derived.Deep.Strs
namespace Go.Proofs.Ytpehmmgdcjlfkaa.tickFirst
open Go.ChangeShapes Go.WideShapes Go.ChangeAt Go.RowKit Go.Deep

theorem own : ownKnob Try.prog.godebug = none := by kernel_rfl
theorem laidOut : laidOutB Try.prog = true := by kernel_rfl
theorem cells33 : Try.prog.cellsOf 33 = 3 := by kernel_rfl
theorem cells22 : Try.prog.cellsOf 22 = 1 := by kernel_rfl
theorem cells3 : Try.prog.cellsOf 3 = 1 := by kernel_rfl

/-- What is known of a slice of timers that came in: it is nil, or each of its elements lies in three cells of their own. -/
def IsTimers (w : World) (a : Option Addr) (len : Nat) : Prop :=
  (a = none ∧ len = 0) ∨ ∃ x, a = some x ∧ ∀ i, i < len → ∃ A S P : Int, w.cell? (x.add (i * 3)) = some (.int .u64 A) ∧ w.cell? (x.add (i * 3 + 1)) = some (.int .u64 S) ∧ w.cell? (x.add (i * 3 + 2)) = some (.int .i64 P)

theorem timer_cells {H : Type} {enc : TypeId × Value → H} {w : World} {base : Nat} {spare : Nat → Bool} {held : Bool} {n : Nat} {a : Addr} {cs : List Value} {y : DataW H × List MemPlace}
    (hc : w.cells? base a 3 = some cs) (h : DataW.trod enc Try.prog w base spare held n 33 cs = some y) :
    ∃ A S P : Int, w.cell? a = some (.int .u64 A) ∧ w.cell? (a.add 1) = some (.int .u64 S) ∧ w.cell? (a.add 2) = some (.int .i64 P) := by
  obtain ⟨_, hl, hat⟩ := World.cells?_some hc
  obtain ⟨y0, y1, y2, m, _, _, h0, h1, h2⟩ := trod_struct3 Try.underlying33 h
  match cs, hl with
  | [c0, c1, c2], _ =>
    obtain ⟨A, e0, _, _⟩ := DataW.trod_int Try.underlying22 h0
    obtain ⟨S, e1, _, _⟩ := DataW.trod_int Try.underlying22 h1
    obtain ⟨P, e2, _, _⟩ := DataW.trod_int Try.underlying3 h2
    simp [cells22] at e0 e1
    simp [cells3] at e2
    subst e0 e1 e2
    have k0 := hat 0 (by omega)
    have k1 := hat 1 (by omega)
    have k2 := hat 2 (by omega)
    refine ⟨A, S, P, ?_, ?_, ?_⟩
    · simpa [Addr.add] using k0
    · simpa using k1
    · simpa using k2
theorem timers_of {H : Type} {enc : TypeId × Value → H} {w : World} {a : Option Addr} {len cap : Nat} {d : DataW H} {p : List MemPlace}
    (h : DataW.Trod enc Try.prog w 0 (fun _ => true) true 36 (.slice a len cap) d p) : IsTimers w a len := by
  obtain ⟨fuel, hf⟩ := h
  rcases open_slice Try.underlying36 hf with ⟨hcs, _⟩ | ⟨x, l, c, m, n, D, Pl, hcs, _, hl, _, hm, _, hi⟩
  · simp [Value.cells] at hcs
    obtain ⟨rfl, rfl, rfl⟩ := hcs
    exact .inl ⟨rfl, rfl⟩
  · simp [Value.cells] at hcs
    obtain ⟨rfl, rfl, rfl⟩ := hcs
    refine .inr ⟨x, rfl, fun i hil => ?_⟩
    obtain ⟨cs', hc, ht⟩ := hi i (by simp at hm; omega)
    rw [cells33] at hc
    obtain ⟨A, S, P, k0, k1, k2⟩ := timer_cells hc ht
    rw [add_add] at k1 k2
    exact ⟨A, S, P, k0, k1, k2⟩
theorem walk (a : Option Addr) (len cap : Nat) (w : World) (h : IsTimers w a len) :
    Calls Try.prog 8 #[.slice a len cap] w fun e w' => e = .returned (.bool true) ∧ Grew w w' := by
  by_cases h0 : len = 0
  · subst h0; exact first_empty a cap w
  by_cases h60 : 60 < len
  · exact first_long a len cap h60 w
  rcases h with ⟨_, hz⟩ | ⟨x, rfl, hi⟩
  · exact absurd hz h0
  obtain ⟨b, off, spot⟩ := x
  have hspot : spot = none := by
    obtain ⟨A, S, P, k, _⟩ := hi 0 (by omega)
    simpa [Addr.add] using World.cell?_spot k
  subst hspot
  obtain ⟨A, hA⟩ := choose_lt hi
  obtain ⟨S, hS⟩ := choose_lt hA
  obtain ⟨P, hP⟩ := choose_lt hS
  exact first_list b off len cap A S P w (by omega) (by omega) (fun i hi => by have := (hP i hi).1; rwa [add_plain] at this)
    (fun i hi => by have := (hP i hi).2.1; rwa [add_plain] at this) (fun i hi => by have := (hP i hi).2.2; rwa [add_plain] at this)

set_option maxRecDepth 100000 in
theorem lifted (os : Os) (started : os.Started) (H : Type) (enc : TypeId × Value → H) :
    ReturnsInHanded {} Try.checked os 8 .any (Rows.tickFirstSpec.pre6 enc Try.prog Try.f8 Rows.tickFirstRow.domain false) (Rows.tickFirstSpec.post enc Try.prog Try.f8 false true false false) := by
  refine returnsInHanded_of_change (C := Try.checked) own started (by kernel_rfl) Try.func8
    (ChangeSpec.witness6 (enc := enc) (C := Try.checked) false ⟨#[], #[.slice none 0 0], []⟩ 8 (by kernel_rfl) (by kernel_rfl) (by kernel_rfl) (by kernel_rfl)) ?_
  intro W base args ds gs before hval0 hW hcnd _
  have hval : ∀ (j : Nat) t v, Try.f8.params[j]? = some t → args[j]? = some v → Value.okWide Try.prog W .any base t v := hval0
  have hW' := hW
  obtain ⟨p, q, hA0, hV, rfl, hfz, hnd⟩ := hW
  have hA : DataW.TrodAll enc Try.prog W 0 (fun _ => true) true Try.f8.params.toList args.toList ds p := hA0
  rw [Try.params8] at hA hval
  obtain ⟨v0, vs0, d0, ds0, p0, q0, hargs, rfl, rfl, h0, r0⟩ := trodAll_cons hA
  obtain ⟨rfl, rfl, rfl⟩ := trodAll_nil r0
  obtain rfl : args = #[v0] := by cases args; simp_all
  obtain ⟨rfl, rfl⟩ := trodVars_none hV
  obtain ⟨a0, len0, cap0, rfl⟩ := okWide_slice Try.underlying36 (hval 0 36 v0 rfl rfl)
  have k0 := h0
  have lt0 : ∀ x ∈ p0, x.block < W.heap.size := by obtain ⟨m, hm⟩ := k0; exact DataW.trod_lt m _ _ _ hm
  have w0 := timers_of h0
  clear hA0 hval0
  refine (walk a0 len0 cap0 W w0).mono fun e W' ⟨he, hg⟩ => ?_
  subst he
  have bel := hg.2
  exact ⟨_, rfl, _, _, _, [], _, [], hW', trodAll_mk1 (shut_bool Try.underlying4 _), (trodAll_cons_mk (Below.trod laidOut (by kernel_rfl) (of_decide_eq_true (by kernel_rfl)) k0 bel lt0) trodAll_mk0), rfl, bel.frame _, fun h => by cases h⟩

theorem over : Rows.tickFirstRow.holds Try.pinned (OpenSpec.ofChange Rows.tickFirstSpec) :=
  OpenClaim.holds_of_wide 8 Try.f8 rfl rfl rfl rfl rfl rfl rfl ⟨rfl, rfl, rfl, rfl, rfl⟩ rfl rfl rfl rfl rfl (by kernel_rfl) Try.func8 (by kernel_rfl)
    (of_decide_eq_true (by kernel_rfl)) (by unfold Func.isWrapper; first | (rw [if_pos (by decide +kernel)]; kernel_rfl) | (rw [if_neg (by decide +kernel)]; exact ⟨rfl, rfl⟩))
    (fun os started H enc _ => lifted os started H enc)
end Go.Proofs.Ytpehmmgdcjlfkaa.tickFirst
namespace Go.Proofs.Ytpehmmgdcjlfkaa
theorem tickFirst_holds : Rows.TickFirstSaid := tickFirst.over
end Go.Proofs.Ytpehmmgdcjlfkaa
