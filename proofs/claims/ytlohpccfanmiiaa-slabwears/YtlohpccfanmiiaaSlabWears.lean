/-
  Proved: whatever number it is given, SlabWears returns true, and the input reads as it did. Conditions: none.
-/
import Derived.Test.YtlohpccfanmiiaaRows
import Derived.Test.YtlohpccfanmiiaaOpen
import Derived.Test.YtlohpccfanmiiaaLawW
namespace Go.Proofs.Ytlohpccfanmiiaa.slabWears
open Go.ChangeShapes Go.WideShapes Go.ChangeAt Go.RowKit Go.Deep

theorem walk (W : World) (x0 : Int) : Calls Try.prog 6 #[.int .i64 x0] W fun e W' => e = .returned (.bool true) ∧ Bel W W' := by
  by_cases h : 1 ≤ x0 ∧ x0 ≤ 65535
  · by_cases h3 : x0 ≤ 300
    · obtain ⟨G, rfl⟩ : ∃ G : Nat, x0 = G := ⟨x0.toNat, by omega⟩
      exact wears_yes G W (by omega) (by omega)
    · exact wears_big x0 W (by omega) h.2
  · exact wears_no x0 W h
set_option maxRecDepth 100000 in
theorem lifted (os : Os) (started : os.Started) (H : Type) (enc : TypeId × Value → H) :
    ReturnsInHanded {} Try.checked os 6 .any (Rows.slabWearsSpec.pre6 enc Try.prog Try.f6 Rows.slabWearsRow.domain false) (Rows.slabWearsSpec.post enc Try.prog Try.f6 false true false false) := by
  refine returnsInHanded_of_change (C := Try.checked) own started (by kernel_rfl) Try.func6
    (ChangeSpec.witness6 (enc := enc) (C := Try.checked) false ⟨#[], #[.int .i64 0], []⟩ 8 (by kernel_rfl) (by kernel_rfl) (by kernel_rfl) (by kernel_rfl)) ?_
  intro W base args ds gs before hval0 hW hcnd _
  have hval : ∀ (j : Nat) t v, Try.f6.params[j]? = some t → args[j]? = some v → Value.okWide Try.prog W .any base t v := hval0
  have hW' := hW
  obtain ⟨p, q, hA0, hV, rfl, hfz, hnd⟩ := hW
  have hA : DataW.TrodAll enc Try.prog W 0 (fun _ => true) true Try.f6.params.toList args.toList ds p := hA0
  rw [Try.params6] at hA hval
  obtain ⟨v0, vs0, d0, ds0, p0, q0, hargs, rfl, rfl, h0, r0⟩ := trodAll_cons hA
  obtain ⟨rfl, rfl, rfl⟩ := trodAll_nil r0
  obtain rfl : args = #[v0] := by cases args; simp_all
  obtain ⟨rfl, rfl⟩ := trodVars_none hV
  have k0 := h0
  have lt0 : ∀ x ∈ p0, x.block < W.heap.size := by obtain ⟨m, hm⟩ := k0; exact DataW.trod_lt m _ _ _ hm
  obtain ⟨x0, rfl⟩ := okWide_int Try.underlying3 (hval 0 3 v0 rfl rfl)
  clear hA0 hval0
  refine (walk W x0).mono fun e W' ⟨he, hg⟩ => ?_
  subst he
  have bel : Below W.heap.size W W' := hg.below
  exact ⟨_, rfl, _, _, _, [], _, [], hW', trodAll_mk1 (shut_bool Try.underlying4 _), (trodAll_cons_mk (Below.trod laidOut (by kernel_rfl) (of_decide_eq_true (by kernel_rfl)) k0 bel lt0) trodAll_mk0), rfl, bel.frame _, fun h => by cases h⟩

theorem over : Rows.slabWearsRow.holds Try.pinned (OpenSpec.ofChange Rows.slabWearsSpec) :=
  OpenClaim.holds_of_wide 6 Try.f6 rfl rfl rfl rfl rfl rfl rfl ⟨rfl, rfl, rfl, rfl, rfl⟩ rfl rfl rfl rfl rfl (by kernel_rfl) Try.func6 (by kernel_rfl)
    (of_decide_eq_true (by kernel_rfl)) (by unfold Func.isWrapper; first | (rw [if_pos (by decide +kernel)]; kernel_rfl) | (rw [if_neg (by decide +kernel)]; exact ⟨rfl, rfl⟩))
    (fun os started H enc _ => lifted os started H enc)
end Go.Proofs.Ytlohpccfanmiiaa.slabWears
namespace Go.Proofs.Ytlohpccfanmiiaa
theorem slabWears_holds : Rows.SlabWearsSaid := slabWears.over
end Go.Proofs.Ytlohpccfanmiiaa
