/-
  Bits that are made of those that are in bits are these bits; what is put in by the document is what is in it.
-/
import Derived.Test.YthgiknkglnagbaaDoorScan
namespace Go.Proofs.YthgiknkglnagbaaDoor

theorem tb_pti (B : Nat → Nat) (x : Int) (i : Nat) (hi : i < 256) : tb (pti B x) i = (tb B i || decide (x = (i : Int))) := by
  unfold pti
  by_cases h : 0 ≤ x ∧ x < 256
  · rw [if_pos h, tb_pt]
    congr 1
    rw [decide_eq_decide]
    omega
  · rw [if_neg h, decide_eq_false (by omega), Bool.or_false]
theorem tb_zero (i : Nat) : tb (fun _ => 0) i = false := Nat.zero_testBit _
theorem tb_ofw (L : Nat → Int) (i : Nat) (hi : i < 256) : ∀ n, tb (ofw L n) i = true ↔ ∃ j, j < n ∧ L j = (i : Int)
  | 0 => by
    constructor
    · intro h
      have : tb (fun _ => 0) i = true := h
      rw [tb_zero] at this
      cases this
    · rintro ⟨j, h, _⟩
      omega
  | n + 1 => by
    show tb (pti (ofw L n) (L n)) i = true ↔ _
    rw [tb_pti _ _ _ hi, Bool.or_eq_true, decide_eq_true_eq, tb_ofw L i hi n]
    constructor
    · rintro (⟨j, h1, h2⟩ | h)
      · exact ⟨j, by omega, h2⟩
      · exact ⟨n, by omega, h⟩
    · rintro ⟨j, h1, h2⟩
      by_cases hj : j < n
      · exact .inl ⟨j, hj, h2⟩
      · obtain rfl : j = n := by omega
        exact .inr h2
theorem of_back (B : Nat → Nat) (hB : Wd B) (k : Nat) (hk : k < 4) : ofw (gi (bo B 256)) (bo B 256).length k = B k := by
  refine tb_ext (ofw_wd _ _) hB (fun i hi => ?_) k hk
  rw [Bool.eq_iff_iff, tb_ofw _ _ hi]
  constructor
  · rintro ⟨j, hj, e⟩
    unfold gi at e
    rw [List.getElem?_eq_getElem hj, Option.getD_some] at e
    have hm : (bo B 256)[j] ∈ bo B 256 := List.getElem_mem hj
    have e' : (bo B 256)[j] = i := by omega
    rw [e'] at hm
    unfold bo at hm
    exact (List.mem_filter.1 hm).2
  · intro h
    have hm : i ∈ bo B 256 := by unfold bo; exact List.mem_filter.2 ⟨List.mem_range.2 hi, h⟩
    obtain ⟨j, hj, e⟩ := List.getElem_of_mem hm
    refine ⟨j, hj, ?_⟩
    unfold gi
    rw [List.getElem?_eq_getElem hj, Option.getD_some, e]
end Go.Proofs.YthgiknkglnagbaaDoor
