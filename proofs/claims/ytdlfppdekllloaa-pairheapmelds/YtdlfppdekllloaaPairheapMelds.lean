/-
  Proved: whatever two numbers of places, whatever acts for each and whatever place it is given, PairheapMelds returns true, and the input reads as it did. Conditions: none.
-/
import Derived.Test.YtdlfppdekllloaaRows
import Derived.Test.YtdlfppdekllloaaOpen
import Derived.Test.YtdlfppdekllloaaLawD
set_option linter.unusedVariables false
set_option linter.unusedSimpArgs false
namespace Go.Proofs.Ytdlfppdekllloaa.pairheapMelds
open Go.ChangeShapes Go.WideShapes Go.ChangeAt Go.RowKit Go.Deep

theorem walk (W : World) (x0 : Int) (a1 : Option Addr) (n1 c1 : Nat) (l1 : List Ak) (hn1 : l1.length = n1) (_hc1 : n1 ≤ c1) (_hu1 : ∀ t ∈ l1, t.t.a ≤ 18446744073709551615) (hl1 : Lies nof W a1 (encK l1)) (x2 : Int) (a3 : Option Addr) (n3 c3 : Nat) (l3 : List Ak) (hn3 : l3.length = n3) (_hc3 : n3 ≤ c3) (_hu3 : ∀ t ∈ l3, t.t.a ≤ 18446744073709551615) (hl3 : Lies nof W a3 (encK l3)) (x4 : Int) : Calls Try.prog 4 #[.int .i64 x0, .slice a1 n1 c1, .int .i64 x2, .slice a3 n3 c3, .int .i64 x4] W fun e W' => e = .returned (.bool true) ∧ Bel W W' := by
  by_cases h : n1 ≤ 60 ∧ n3 ≤ 60
  · by_cases hp : (0 ≤ x0 ∧ x0 ≤ 1024) ∧ 0 ≤ x2 ∧ x2 ≤ 1024
    · obtain ⟨P, rfl⟩ : ∃ P : Nat, x0 = P := ⟨x0.toNat, by omega⟩
      obtain ⟨R, rfl⟩ : ∃ R : Nat, x2 = R := ⟨x2.toNat, by omega⟩
      exact melds_yes P a1 n1 c1 l1 R a3 n3 c3 l3 x4 W h.1 h.2 hn1 hn3 hl1 hl3 (by omega) (by omega)
    · exact melds_no x0 a1 n1 c1 l1 x2 a3 n3 c3 l3 x4 W h.1 h.2 hn1 hn3 hl1 hl3 hp
  · exact melds_long x0 a1 n1 c1 x2 a3 n3 c3 x4 W (by omega)
set_option maxHeartbeats 1000000 in
set_option maxRecDepth 100000 in
theorem lifted (os : Os) (started : os.Started) (H : Type) (enc : TypeId × Value → H) :
    ReturnsInHanded {} Try.checked os 4 .any (Rows.pairheapMeldsSpec.pre6 enc Try.prog Try.f4 Rows.pairheapMeldsRow.domain false) (Rows.pairheapMeldsSpec.post enc Try.prog Try.f4 false true false false) := by
  refine returnsInHanded_of_change (C := Try.checked) own started (by kernel_rfl) Try.func4
    (ChangeSpec.witness6 (enc := enc) (C := Try.checked) false ⟨#[], #[.int .i64 0, .slice none 0 0, .int .i64 0, .slice none 0 0, .int .i64 0], []⟩ 8 (by kernel_rfl) (by kernel_rfl) (by kernel_rfl) (by kernel_rfl)) ?_
  intro W base args ds gs before hval0 hW hcnd _
  have hval : ∀ (j : Nat) t v, Try.f4.params[j]? = some t → args[j]? = some v → Value.okWide Try.prog W .any base t v := hval0
  have hW' := hW
  obtain ⟨p, q, hA0, hV, rfl, hfz, hnd⟩ := hW
  have hA : DataW.TrodAll enc Try.prog W 0 (fun _ => true) true Try.f4.params.toList args.toList ds p := hA0
  rw [Try.params4] at hA hval
  obtain ⟨v0, vs0, d0, ds0, p0, q0, hargs, rfl, rfl, h0, r0⟩ := trodAll_cons hA
  obtain ⟨v1, vs1, d1, ds1, p1, q1, rfl, rfl, rfl, h1, r1⟩ := trodAll_cons r0
  obtain ⟨v2, vs2, d2, ds2, p2, q2, rfl, rfl, rfl, h2, r2⟩ := trodAll_cons r1
  obtain ⟨v3, vs3, d3, ds3, p3, q3, rfl, rfl, rfl, h3, r3⟩ := trodAll_cons r2
  obtain ⟨v4, vs4, d4, ds4, p4, q4, rfl, rfl, rfl, h4, r4⟩ := trodAll_cons r3
  obtain ⟨rfl, rfl, rfl⟩ := trodAll_nil r4
  obtain rfl : args = #[v0, v1, v2, v3, v4] := by cases args; simp_all
  obtain ⟨rfl, rfl⟩ := trodVars_none hV
  have k0 := h0
  have lt0 : ∀ x ∈ p0, x.block < W.heap.size := by obtain ⟨m, hm⟩ := k0; exact DataW.trod_lt m _ _ _ hm
  have k1 := h1
  have lt1 : ∀ x ∈ p1, x.block < W.heap.size := by obtain ⟨m, hm⟩ := k1; exact DataW.trod_lt m _ _ _ hm
  have k2 := h2
  have lt2 : ∀ x ∈ p2, x.block < W.heap.size := by obtain ⟨m, hm⟩ := k2; exact DataW.trod_lt m _ _ _ hm
  have k3 := h3
  have lt3 : ∀ x ∈ p3, x.block < W.heap.size := by obtain ⟨m, hm⟩ := k3; exact DataW.trod_lt m _ _ _ hm
  have k4 := h4
  have lt4 : ∀ x ∈ p4, x.block < W.heap.size := by obtain ⟨m, hm⟩ := k4; exact DataW.trod_lt m _ _ _ hm
  obtain ⟨x0, rfl⟩ := okWide_int Try.underlying3 (hval 0 3 v0 rfl rfl)
  obtain ⟨a1, len1, cap1, rfl⟩ := okWide_slice Try.underlying22 (hval 1 22 v1 rfl rfl)
  obtain ⟨hc1, l1, hl1, hu1, hh1⟩ := acts_of h1
  obtain ⟨x2, rfl⟩ := okWide_int Try.underlying3 (hval 2 3 v2 rfl rfl)
  obtain ⟨a3, len3, cap3, rfl⟩ := okWide_slice Try.underlying22 (hval 3 22 v3 rfl rfl)
  obtain ⟨hc3, l3, hl3, hu3, hh3⟩ := acts_of h3
  obtain ⟨x4, rfl⟩ := okWide_int Try.underlying3 (hval 4 3 v4 rfl rfl)
  clear hA0 hval0
  refine (walk W x0 a1 len1 cap1 l1 hl1 hc1 hu1 hh1 x2 a3 len3 cap3 l3 hl3 hc3 hu3 hh3 x4).mono fun e W' ⟨he, hg⟩ => ?_
  subst he
  have bel : Below W.heap.size W W' := hg.below
  exact ⟨_, rfl, _, _, _, [], _, [], hW', trodAll_mk1 (shut_bool Try.underlying4 _), (trodAll_cons_mk (Below.trod laidOut (by kernel_rfl) (of_decide_eq_true (by kernel_rfl)) k0 bel lt0) (trodAll_cons_mk (Below.trod laidOut (by kernel_rfl) (of_decide_eq_true (by kernel_rfl)) k1 bel lt1) (trodAll_cons_mk (Below.trod laidOut (by kernel_rfl) (of_decide_eq_true (by kernel_rfl)) k2 bel lt2) (trodAll_cons_mk (Below.trod laidOut (by kernel_rfl) (of_decide_eq_true (by kernel_rfl)) k3 bel lt3) (trodAll_cons_mk (Below.trod laidOut (by kernel_rfl) (of_decide_eq_true (by kernel_rfl)) k4 bel lt4) trodAll_mk0))))), rfl, bel.frame _, fun h => by cases h⟩

theorem over : Rows.pairheapMeldsRow.holds Try.pinned (OpenSpec.ofChange Rows.pairheapMeldsSpec) :=
  OpenClaim.holds_of_wide 4 Try.f4 rfl rfl rfl rfl rfl rfl rfl ⟨rfl, rfl, rfl, rfl, rfl⟩ rfl rfl rfl rfl rfl (by kernel_rfl) Try.func4 (by kernel_rfl)
    (of_decide_eq_true (by kernel_rfl)) (by unfold Func.isWrapper; first | (rw [if_pos (by decide +kernel)]; kernel_rfl) | (rw [if_neg (by decide +kernel)]; exact ⟨rfl, rfl⟩))
    (fun os started H enc _ => lifted os started H enc)
end Go.Proofs.Ytdlfppdekllloaa.pairheapMelds
namespace Go.Proofs.Ytdlfppdekllloaa
theorem pairheapMelds_holds : Rows.PairheapMeldsSaid := pairheapMelds.over
end Go.Proofs.Ytdlfppdekllloaa
