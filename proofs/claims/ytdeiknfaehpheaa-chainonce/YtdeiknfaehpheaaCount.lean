/-
  All lists together hold as many as there are places in a list.
-/
import Derived.Test.YtdeiknfaehpheaaAny
namespace Go.Proofs.Ytdeiknfaehpheaa
/-- How many the first lists hold. -/
def sumL (ls : Ls) : Nat → Nat
  | 0 => 0
  | m + 1 => sumL ls m + (ls m).length
/-- The first lists, one behind the other. -/
def catL (ls : Ls) : Nat → List Nat
  | 0 => []
  | m + 1 => catL ls m ++ ls m
theorem catL_len (ls : Ls) : ∀ m, (catL ls m).length = sumL ls m
  | 0 => rfl
  | m + 1 => by rw [catL, sumL, List.length_append, catL_len ls m]
theorem catL_mem (ls : Ls) (i : Nat) : ∀ m, i ∈ catL ls m ↔ ∃ t, t < m ∧ i ∈ ls t
  | 0 => by simp [catL]
  | m + 1 => by
    rw [catL, List.mem_append, catL_mem ls i m]
    constructor
    · rintro (⟨t, h1, h2⟩ | h)
      · exact ⟨t, by omega, h2⟩
      · exact ⟨m, by omega, h⟩
    · rintro ⟨t, h1, h2⟩
      by_cases e : t = m
      · subst e; exact .inr h2
      · exact .inl ⟨t, by omega, h2⟩
theorem catL_nodup {P L : Nat} {ls : Ls} (hg : Good P L ls) : ∀ m, m ≤ L → (catL ls m).Nodup
  | 0, _ => List.nodup_nil
  | m + 1, h => by
    rw [catL]
    refine List.nodup_append.2 ⟨catL_nodup hg m (by omega), hg.nd m (by omega), fun i hi j hj e => ?_⟩
    subst e
    obtain ⟨t, h1, h2⟩ := (catL_mem ls i m).1 hi
    have := hg.one t m i (by omega) (by omega) h2 hj
    omega
/-- Is it in a list? -/
def inn (L : Nat) (ls : Ls) (i : Nat) : Bool := decide (i ∈ catL ls L)
def cntI (L : Nat) (ls : Ls) (m : Nat) : Nat := ((List.range m).filter (inn L ls)).length
theorem cntI_succ (L : Nat) (ls : Ls) (m : Nat) : cntI L ls (m + 1) = cntI L ls m + if inn L ls m = true then 1 else 0 := by
  unfold cntI
  rw [List.range_succ, List.filter_append, List.length_append]
  by_cases h : inn L ls m = true <;> simp [h]
theorem cntI_le (L : Nat) (ls : Ls) (m : Nat) : cntI L ls m ≤ m := by
  unfold cntI
  have := List.length_filter_le (inn L ls) (List.range m)
  simpa using this
theorem sub_len : ∀ (l m : List Nat), l.Nodup → (∀ x ∈ l, x ∈ m) → l.length ≤ m.length
  | [], m, _, _ => by simp
  | a :: r, m, hn, h => by
    have h1 := List.nodup_cons.1 hn
    have h2 := sub_len r (m.erase a) h1.2 (fun x hx => (List.mem_erase_of_ne (fun e => h1.1 (by rw [← e]; exact hx))).2 (h x (by simp [hx])))
    have h3 := List.length_erase_of_mem (h a (by simp))
    have h4 := List.length_pos_of_mem (h a (by simp))
    simp
    omega
theorem sum_cnt {P L : Nat} {ls : Ls} (hg : Good P L ls) : sumL ls L = cntI L ls P := by
  rw [← catL_len]
  unfold cntI
  apply Nat.le_antisymm
  · refine sub_len _ _ (catL_nodup hg L (Nat.le_refl _)) (fun x hx => ?_)
    obtain ⟨t, h1, h2⟩ := (catL_mem ls x L).1 hx
    rw [List.mem_filter, List.mem_range]
    exact ⟨hg.pl t h1 x h2, by unfold inn; simpa using hx⟩
  · refine sub_len _ _ (List.Pairwise.filter _ List.nodup_range) (fun x hx => ?_)
    rw [List.mem_filter] at hx
    have := hx.2
    unfold inn at this
    simpa using this
theorem sumL_le {P L : Nat} {ls : Ls} (hg : Good P L ls) : ∀ m, m ≤ L → sumL ls m ≤ m * P
  | 0, _ => by simp [sumL]
  | m + 1, h => by
    have h1 := sumL_le hg m (by omega)
    have h2 := hg.len (show m < L by omega)
    rw [sumL, Nat.add_mul]
    omega
theorem inn_yes {L : Nat} {ls : Ls} {i t : Nat} (ht : t < L) (h : i ∈ ls t) : inn L ls i = true := by
  unfold inn
  simp
  exact (catL_mem ls i L).2 ⟨t, ht, h⟩
theorem inn_no {L : Nat} {ls : Ls} {i : Nat} (h : ∀ t, t < L → i ∉ ls t) : inn L ls i = false := by
  unfold inn
  simp
  intro e
  obtain ⟨t, h1, h2⟩ := (catL_mem ls i L).1 e
  exact h t h1 h2
end Go.Proofs.Ytdeiknfaehpheaa
