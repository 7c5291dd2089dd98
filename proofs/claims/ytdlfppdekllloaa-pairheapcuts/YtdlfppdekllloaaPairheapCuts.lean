/-
  Proved: whatever number of places, whatever acts and whatever places to cancel it is given, PairheapCuts returns true, and the input reads as it did. Conditions: none.
-/
import Derived.Test.YtdlfppdekllloaaRows
import Derived.Test.YtdlfppdekllloaaOpen
import Derived.Test.YtdlfppdekllloaaLawC
set_option linter.unusedVariables false
set_option linter.unusedSimpArgs false
namespace Go.Proofs.Ytdlfppdekllloaa.pairheapCuts
open Go.ChangeShapes Go.WideShapes Go.ChangeAt Go.RowKit Go.Deep

theorem walk (W : World) (x0 : Int) (a1 : Option Addr) (n1 c1 : Nat) (l1 : List Ak) (hn1 : l1.length = n1) (_hc1 : n1 ≤ c1) (_hu1 : ∀ t ∈ l1, t.t.a ≤ 18446744073709551615) (hl1 : Lies nof W a1 (encK l1)) (a2 : Option Addr) (n2 c2 : Nat) (l2 : List Int) (hn2 : l2.length = n2) (_hc2 : n2 ≤ c2) (hl2 : Lies nof W a2 (encZ l2)) : Calls Try.prog 6 #[.int .i64 x0, .slice a1 n1 c1, .slice a2 n2 c2] W fun e W' => e = .returned (.bool true) ∧ Bel W W' := by
  by_cases h : n1 ≤ 60 ∧ n2 ≤ 60
  · by_cases hp : 0 ≤ x0 ∧ x0 ≤ 1024
    · obtain ⟨P, rfl⟩ : ∃ P : Nat, x0 = P := ⟨x0.toNat, by omega⟩
      exact cuts_yes P a1 n1 c1 l1 a2 n2 c2 l2 W h.1 h.2 hn1 hn2 hl1 hl2 (by omega)
    · exact cuts_no x0 a1 n1 c1 a2 n2 c2 W h.1 h.2 hp
  · exact cuts_long x0 a1 n1 c1 a2 n2 c2 W (by omega)
set_option maxRecDepth 100000 in
theorem lifted (os : Os) (started : os.Started) (H : Type) (enc : TypeId × Value → H) :
    ReturnsInHanded {} Try.checked os 6 .any (Rows.pairheapCutsSpec.pre6 enc Try.prog Try.f6 Rows.pairheapCutsRow.domain false) (Rows.pairheapCutsSpec.post enc Try.prog Try.f6 false true false false) := by
  refine returnsInHanded_of_change (C := Try.checked) own started (by kernel_rfl) Try.func6
    (ChangeSpec.witness6 (enc := enc) (C := Try.checked) false ⟨#[], #[.int .i64 0, .slice none 0 0, .slice none 0 0], []⟩ 8 (by kernel_rfl) (by kernel_rfl) (by kernel_rfl) (by kernel_rfl)) ?_
  intro W base args ds gs before hval0 hW hcnd _
  have hval : ∀ (j : Nat) t v, Try.f6.params[j]? = some t → args[j]? = some v → Value.okWide Try.prog W .any base t v := hval0
  have hW' := hW
  obtain ⟨p, q, hA0, hV, rfl, hfz, hnd⟩ := hW
  have hA : DataW.TrodAll enc Try.prog W 0 (fun _ => true) true Try.f6.params.toList args.toList ds p := hA0
  rw [Try.params6] at hA hval
  obtain ⟨v0, vs0, d0, ds0, p0, q0, hargs, rfl, rfl, h0, r0⟩ := trodAll_cons hA
  obtain ⟨v1, vs1, d1, ds1, p1, q1, rfl, rfl, rfl, h1, r1⟩ := trodAll_cons r0
  obtain ⟨v2, vs2, d2, ds2, p2, q2, rfl, rfl, rfl, h2, r2⟩ := trodAll_cons r1
  obtain ⟨rfl, rfl, rfl⟩ := trodAll_nil r2
  obtain rfl : args = #[v0, v1, v2] := by cases args; simp_all
  obtain ⟨rfl, rfl⟩ := trodVars_none hV
  have k0 := h0
  have lt0 : ∀ x ∈ p0, x.block < W.heap.size := by obtain ⟨m, hm⟩ := k0; exact DataW.trod_lt m _ _ _ hm
  have k1 := h1
  have lt1 : ∀ x ∈ p1, x.block < W.heap.size := by obtain ⟨m, hm⟩ := k1; exact DataW.trod_lt m _ _ _ hm
  have k2 := h2
  have lt2 : ∀ x ∈ p2, x.block < W.heap.size := by obtain ⟨m, hm⟩ := k2; exact DataW.trod_lt m _ _ _ hm
  obtain ⟨x0, rfl⟩ := okWide_int Try.underlying3 (hval 0 3 v0 rfl rfl)
  obtain ⟨a1, len1, cap1, rfl⟩ := okWide_slice Try.underlying22 (hval 1 22 v1 rfl rfl)
  obtain ⟨hc1, l1, hl1, hu1, hh1⟩ := acts_of h1
  obtain ⟨a2, len2, cap2, rfl⟩ := okWide_slice Try.underlying60 (hval 2 60 v2 rfl rfl)
  obtain ⟨hc2, l2, hl2, hh2⟩ := ints_of h2
  clear hA0 hval0
  refine (walk W x0 a1 len1 cap1 l1 hl1 hc1 hu1 hh1 a2 len2 cap2 l2 hl2 hc2 hh2).mono fun e W' ⟨he, hg⟩ => ?_
  subst he
  have bel : Below W.heap.size W W' := hg.below
  exact ⟨_, rfl, _, _, _, [], _, [], hW', trodAll_mk1 (shut_bool Try.underlying4 _), (trodAll_cons_mk (Below.trod laidOut (by kernel_rfl) (of_decide_eq_true (by kernel_rfl)) k0 bel lt0) (trodAll_cons_mk (Below.trod laidOut (by kernel_rfl) (of_decide_eq_true (by kernel_rfl)) k1 bel lt1) (trodAll_cons_mk (Below.trod laidOut (by kernel_rfl) (of_decide_eq_true (by kernel_rfl)) k2 bel lt2) trodAll_mk0))), rfl, bel.frame _, fun h => by cases h⟩

theorem over : Rows.pairheapCutsRow.holds Try.pinned (OpenSpec.ofChange Rows.pairheapCutsSpec) :=
  OpenClaim.holds_of_wide 6 Try.f6 rfl rfl rfl rfl rfl rfl rfl ⟨rfl, rfl, rfl, rfl, rfl⟩ rfl rfl rfl rfl rfl (by kernel_rfl) Try.func6 (by kernel_rfl)
    (of_decide_eq_true (by kernel_rfl)) (by unfold Func.isWrapper; first | (rw [if_pos (by decide +kernel)]; kernel_rfl) | (rw [if_neg (by decide +kernel)]; exact ⟨rfl, rfl⟩))
    (fun os started H enc _ => lifted os started H enc)
end Go.Proofs.Ytdlfppdekllloaa.pairheapCuts
namespace Go.Proofs.Ytdlfppdekllloaa
theorem pairheapCuts_holds : Rows.PairheapCutsSaid := pairheapCuts.over
end Go.Proofs.Ytdlfppdekllloaa
