/-
  Proved: whatever number of places and whatever timers it is given, BinheapSorts returns true, and the input reads as it did. Conditions: none.
-/
import Derived.Test.YtaabalkfpjeheaaRows
import Derived.Test.YtaabalkfpjeheaaOpen
import Derived.Test.YtaabalkfpjeheaaLawQ
namespace Go.Proofs.Ytaabalkfpjeheaa.binheapSorts
open Go.ChangeShapes Go.WideShapes Go.ChangeAt Go.RowKit Go.Deep

theorem walk (W : World) (x0 : Int) (a1 : Option Addr) (n1 c1 : Nat) (l1 : List T) (hn1 : l1.length = n1) (_hc1 : n1 ≤ c1) (hl1 : Has W a1 l1) : Calls Try.prog 4 #[.int .i64 x0, .slice a1 n1 c1] W fun e W' => e = .returned (.bool true) ∧ Bel W W' := by
  by_cases h : n1 ≤ 200
  · by_cases hp : 0 ≤ x0 ∧ x0 ≤ 1024
    · obtain ⟨P, rfl⟩ : ∃ P : Nat, x0 = P := ⟨x0.toNat, by omega⟩
      exact sorts_yes P a1 n1 c1 l1 W h hn1 hl1 (by omega)
    · exact sorts_no x0 a1 n1 c1 W h hp
  · exact sorts_long x0 a1 n1 c1 W (by omega)
set_option maxRecDepth 100000 in
theorem lifted (os : Os) (started : os.Started) (H : Type) (enc : TypeId × Value → H) :
    ReturnsInHanded {} Try.checked os 4 .any (Rows.binheapSortsSpec.pre6 enc Try.prog Try.f4 Rows.binheapSortsRow.domain false) (Rows.binheapSortsSpec.post enc Try.prog Try.f4 false true false false) := by
  refine returnsInHanded_of_change (C := Try.checked) own started (by kernel_rfl) Try.func4
    (ChangeSpec.witness6 (enc := enc) (C := Try.checked) false ⟨#[], #[.int .i64 0, .slice none 0 0], []⟩ 8 (by kernel_rfl) (by kernel_rfl) (by kernel_rfl) (by kernel_rfl)) ?_
  intro W base args ds gs before hval0 hW hcnd _
  have hval : ∀ (j : Nat) t v, Try.f4.params[j]? = some t → args[j]? = some v → Value.okWide Try.prog W .any base t v := hval0
  have hW' := hW
  obtain ⟨p, q, hA0, hV, rfl, hfz, hnd⟩ := hW
  have hA : DataW.TrodAll enc Try.prog W 0 (fun _ => true) true Try.f4.params.toList args.toList ds p := hA0
  rw [Try.params4] at hA hval
  obtain ⟨v0, vs0, d0, ds0, p0, q0, hargs, rfl, rfl, h0, r0⟩ := trodAll_cons hA
  obtain ⟨v1, vs1, d1, ds1, p1, q1, rfl, rfl, rfl, h1, r1⟩ := trodAll_cons r0
  obtain ⟨rfl, rfl, rfl⟩ := trodAll_nil r1
  obtain rfl : args = #[v0, v1] := by cases args; simp_all
  obtain ⟨rfl, rfl⟩ := trodVars_none hV
  have k0 := h0
  have lt0 : ∀ x ∈ p0, x.block < W.heap.size := by obtain ⟨m, hm⟩ := k0; exact DataW.trod_lt m _ _ _ hm
  have k1 := h1
  have lt1 : ∀ x ∈ p1, x.block < W.heap.size := by obtain ⟨m, hm⟩ := k1; exact DataW.trod_lt m _ _ _ hm
  obtain ⟨x0, rfl⟩ := okWide_int Try.underlying3 (hval 0 3 v0 rfl rfl)
  obtain ⟨a1, len1, cap1, rfl⟩ := okWide_slice Try.underlying33 (hval 1 33 v1 rfl rfl)
  obtain ⟨hc1, l1, hl1, hh1⟩ := timers_of h1
  clear hA0 hval0
  refine (walk W x0 a1 len1 cap1 l1 hl1 hc1 hh1).mono fun e W' ⟨he, hg⟩ => ?_
  subst he
  have bel : Below W.heap.size W W' := hg.below
  exact ⟨_, rfl, _, _, _, [], _, [], hW', trodAll_mk1 (shut_bool Try.underlying4 _), (trodAll_cons_mk (Below.trod laidOut (by kernel_rfl) (of_decide_eq_true (by kernel_rfl)) k0 bel lt0) (trodAll_cons_mk (Below.trod laidOut (by kernel_rfl) (of_decide_eq_true (by kernel_rfl)) k1 bel lt1) trodAll_mk0)), rfl, bel.frame _, fun h => by cases h⟩

theorem over : Rows.binheapSortsRow.holds Try.pinned (OpenSpec.ofChange Rows.binheapSortsSpec) :=
  OpenClaim.holds_of_wide 4 Try.f4 rfl rfl rfl rfl rfl rfl rfl ⟨rfl, rfl, rfl, rfl, rfl⟩ rfl rfl rfl rfl rfl (by kernel_rfl) Try.func4 (by kernel_rfl)
    (of_decide_eq_true (by kernel_rfl)) (by unfold Func.isWrapper; first | (rw [if_pos (by decide +kernel)]; kernel_rfl) | (rw [if_neg (by decide +kernel)]; exact ⟨rfl, rfl⟩))
    (fun os started H enc _ => lifted os started H enc)
end Go.Proofs.Ytaabalkfpjeheaa.binheapSorts
namespace Go.Proofs.Ytaabalkfpjeheaa
theorem binheapSorts_holds : Rows.BinheapSortsSaid := binheapSorts.over
end Go.Proofs.Ytaabalkfpjeheaa
