/-
  Proved: whatever lists of timers it is given, OrderMerges returns true, and the input reads as it did. Conditions: none.
-/
import Derived.Test.YtbbhgmdpafhbeaaRows
import Derived.Test.YtbbhgmdpafhbeaaOpen
import Derived.Test.YtbbhgmdpafhbeaaLawC
namespace Go.Proofs.Ytbbhgmdpafhbeaa.orderMerges
open Go.ChangeShapes Go.WideShapes Go.ChangeAt Go.RowKit Go.Deep

theorem walk (W : World) (a : Option Addr) (n cap : Nat) (l : List (List T)) (hn : l.length = n) (hc : n ≤ cap) (hl : HasL W a l) : Calls Try.prog 6 #[.slice a n cap] W fun e W' => e = .returned (.bool true) ∧ Bel W W' := by
  by_cases h : n ≤ 8
  · exact merges_short a n cap l W h hn hc hl
  · exact merges_long a n cap W (by omega)
set_option maxRecDepth 100000 in
theorem lifted (os : Os) (started : os.Started) (H : Type) (enc : TypeId × Value → H) :
    ReturnsInHanded {} Try.checked os 6 .any (Rows.orderMergesSpec.pre6 enc Try.prog Try.f6 Rows.orderMergesRow.domain false) (Rows.orderMergesSpec.post enc Try.prog Try.f6 false true false false) := by
  refine returnsInHanded_of_change (C := Try.checked) own started (by kernel_rfl) Try.func6
    (ChangeSpec.witness6 (enc := enc) (C := Try.checked) false ⟨#[], #[.slice none 0 0], []⟩ 8 (by kernel_rfl) (by kernel_rfl) (by kernel_rfl) (by kernel_rfl)) ?_
  intro W base args ds gs before hval0 hW hcnd _
  have hval : ∀ (j : Nat) t v, Try.f6.params[j]? = some t → args[j]? = some v → Value.okWide Try.prog W .any base t v := hval0
  have hW' := hW
  obtain ⟨p, q, hA0, hV, rfl, hfz, hnd⟩ := hW
  have hA : DataW.TrodAll enc Try.prog W 0 (fun _ => true) true Try.f6.params.toList args.toList ds p := hA0
  rw [Try.params6] at hA hval
  obtain ⟨v0, vs0, d0, ds0, p0, q0, hargs, rfl, rfl, h0, r0⟩ := trodAll_cons hA
  obtain ⟨rfl, rfl, rfl⟩ := trodAll_nil r0
  obtain rfl : args = #[v0] := by cases args; simp_all
  obtain ⟨rfl, rfl⟩ := trodVars_none hV
  have k0 := h0
  have lt0 : ∀ x ∈ p0, x.block < W.heap.size := by obtain ⟨m, hm⟩ := k0; exact DataW.trod_lt m _ _ _ hm
  obtain ⟨a0, len0, cap0, rfl⟩ := okWide_slice Try.underlying33 (hval 0 33 v0 rfl rfl)
  obtain ⟨hc0, l0, hl0, hh0⟩ := lists_of h0
  clear hA0 hval0
  refine (walk W a0 len0 cap0 l0 hl0 hc0 hh0).mono fun e W' ⟨he, hg⟩ => ?_
  subst he
  have bel : Below W.heap.size W W' := hg
  exact ⟨_, rfl, _, _, _, [], _, [], hW', trodAll_mk1 (shut_bool Try.underlying4 _), (trodAll_cons_mk (Below.trod laidOut (by kernel_rfl) (of_decide_eq_true (by kernel_rfl)) k0 bel lt0) trodAll_mk0), rfl, bel.frame _, fun h => by cases h⟩

theorem over : Rows.orderMergesRow.holds Try.pinned (OpenSpec.ofChange Rows.orderMergesSpec) :=
  OpenClaim.holds_of_wide 6 Try.f6 rfl rfl rfl rfl rfl rfl rfl ⟨rfl, rfl, rfl, rfl, rfl⟩ rfl rfl rfl rfl rfl (by kernel_rfl) Try.func6 (by kernel_rfl)
    (of_decide_eq_true (by kernel_rfl)) (by unfold Func.isWrapper; first | (rw [if_pos (by decide +kernel)]; kernel_rfl) | (rw [if_neg (by decide +kernel)]; exact ⟨rfl, rfl⟩))
    (fun os started H enc _ => lifted os started H enc)
end Go.Proofs.Ytbbhgmdpafhbeaa.orderMerges
namespace Go.Proofs.Ytbbhgmdpafhbeaa
theorem orderMerges_holds : Rows.OrderMergesSaid := orderMerges.over
end Go.Proofs.Ytbbhgmdpafhbeaa
