/-
  Contracts of the document's Same, Next and Last.
-/
import Derived.Test.YthgiknkglnagbaaDoorRlist
import Derived.Test.YthgiknkglnagbaaDoorOf
import Derived.Test.YthgiknkglnagbaaDoorNext
import Derived.BigQuiet
namespace Go.Proofs.YthgiknkglnagbaaDoor
open Go.RowKit

/-- The i-th one of a list of numbers, as an int. -/
def gi (l : List Nat) (i : Nat) : Int := (l[i]?.getD 0 : Nat)
theorem own_ints {w : World} {base : Nat} {v : Value} {l : List Nat} (h : w.ownsRow base 3 1 v l.length (l.map vi)) : ∃ a cap, v = .slice a l.length cap ∧ Ints w a l.length (gi l) := by
  have h0 := h
  rcases h.2 with ⟨rfl, hz⟩ | ⟨g, cap, cur, rfl, _⟩
  · exact ⟨none, 0, by rw [hz], .inl hz⟩
  · refine ⟨_, cap, rfl, .inr ⟨g, 0, rfl, fun i hi => ?_⟩⟩
    have := h0.cellAt i (by omega)
    rw [Nat.zero_add, this]
    simp [gi, vi, hi]
theorem same_yes (a a' : Option Addr) (n c c' : Nat) (hn : n ≤ 300) (L L' : Nat → Int) (hL : ∀ i, i < n → L i = L' i) (w : World) (h : Ints w a n L) (h' : Ints w a' n L') :
    Calls Tryd.prog 17 #[.slice a n c, .slice a' n c'] w fun e w' => e = .returned (.bool true) ∧ Bel w w' := by
  have H := Lib.hid h
  have H' := Lib.hid h'
  have HL := Lib.hid hL
  clear h h' hL
  go_enter Tryd.func17, Tryd.ntmps17
  go_wp2
  go_loopw [5] (fun i wr => ∃ k : Nat, k ≤ n ∧ i = .int .i64 k ∧ Bel w wr) (fun i _ => n - (intOf i).toNat)
  case atStart => exact ⟨0, by omega, rfl, Bel.refl _⟩
  case round =>
    obtain ⟨k, hk, rfl, hg⟩ := hrel
    have G := Lib.hid hg
    clear hg
    by_cases hlt : k < n
    · obtain ⟨b, off, ha, hc⟩ : ∃ b off, a = some ⟨b, off, none⟩ ∧ wr.cell? ⟨b, off + k, none⟩ = some (.int .i64 (L k)) := by
        rcases H.out.bel G.out with h | ⟨b, off, e, hc⟩
        · omega
        · exact ⟨b, off, e, hc k hlt⟩
      obtain ⟨b', off', ha', hc'⟩ : ∃ b off, a' = some ⟨b, off, none⟩ ∧ wr.cell? ⟨b, off + k, none⟩ = some (.int .i64 (L k)) := by
        rcases H'.out.bel G.out with h | ⟨b, off, e, hc⟩
        · omega
        · exact ⟨b, off, e, by rw [HL.out k hlt]; exact hc k hlt⟩
      subst ha
      subst ha'
      go_wp2
      go_quiet (fail)
      go_wp2
      go_roundw
      case rel => exact ⟨k + 1, by omega, by go_num, G.out.drewN _⟩
      case measure => simp [intOf]; omega
    · go_wp2
      go_ret
      exact ⟨rfl, G.out⟩

theorem find_at (l : List Nat) (p : Nat → Bool) (k : Nat) (hk : k < l.length) (hpre : ∀ j, j < k → p (l[j]?.getD 0) = false) (hp : p (l[k]?.getD 0) = true) : l.find? p = some (l[k]?.getD 0) := by
  rw [List.find?_eq_some_iff_getElem]
  refine ⟨hp, k, hk, by simp [hk], fun j hj => ?_⟩
  have := hpre j hj
  have hj' : j < l.length := by omega
  simp only [List.getElem?_eq_getElem hj', Option.getD_some] at this
  simp [this]
theorem find_not (l : List Nat) (p : Nat → Bool) (hpre : ∀ j, j < l.length → p (l[j]?.getD 0) = false) : l.find? p = none := by
  rw [List.find?_eq_none]
  intro x hx
  obtain ⟨j, hj, rfl⟩ := List.getElem_of_mem hx
  have := hpre j hj
  simp only [List.getElem?_eq_getElem hj, Option.getD_some] at this
  simp [this]
theorem rev_at (l : List Nat) (j : Nat) (hj : j < l.length) : l.reverse[j]?.getD 0 = l[l.length - 1 - j]?.getD 0 := by
  rw [List.getElem?_reverse hj]
/-- Which is the first one of a list that is no less than f? -/
def fst (l : List Nat) (f : Int) : Option Nat := l.find? (fun x => decide (f ≤ (x : Int)))
/-- Which is the last one of a list that is no more than f? -/
def lst (l : List Nat) (f : Int) : Option Nat := l.reverse.find? (fun x => decide ((x : Int) ≤ f))
set_option maxHeartbeats 1000000 in
theorem rnext_any (B : Nat → Nat) (hB : Wd B) (f : Int) (w : World) :
    Calls Tryd.prog 24 #[.agg #[.int .u64 (B 0), .int .u64 (B 1), .int .u64 (B 2), .int .u64 (B 3)], .int .i64 f] w fun e w' => e = .returned (ans (fst (bo B 256) f)) ∧ Bel w w' := by
  have K := Lib.hid (rlist_any B hB)
  have hl := bo_len B 256
  generalize bo B 256 = l at *
  clear hB
  go_enter Tryd.func24, Tryd.ntmps24
  go_wp2_with fail
  with_reducible refine (K.out _).mono ?_
  rintro e w1 ⟨v, rfl, how, hg⟩
  have G := Lib.hid (((Bel.refl _).alloc _ _).trans hg)
  obtain ⟨a, cap, rfl, hI⟩ := own_ints how
  have HI := Lib.hid hI
  clear hg how hI K
  go_wp2
  go_loop [7] (fun i => ∃ k : Nat, k ≤ l.length ∧ i = .int .i64 k ∧ ∀ j, j < k → gi l j < f) (fun i => l.length - (intOf i).toNat)
  case atStart => exact ⟨0, by omega, rfl, by omega⟩
  case round =>
    obtain ⟨k, hk, rfl, hpre⟩ := hrel
    have HP := Lib.hid hpre
    clear hpre
    by_cases hlt : k < l.length
    · obtain ⟨b, off, ha, hc⟩ : ∃ b off, a = some ⟨b, off, none⟩ ∧ w1.cell? ⟨b, off + k, none⟩ = some (.int .i64 (gi l k)) := by
        rcases HI.out with h | ⟨b, off, e, hc⟩
        · omega
        · exact ⟨b, off, e, hc k hlt⟩
      subst ha
      by_cases hf : f ≤ gi l k
      · have HE : Hid (ans (fst l f) = .tuple #[.int .i64 (gi l k), .bool true]) := Lib.hid (by
          unfold fst
          rw [find_at l _ k hlt (fun j hj => by have := HP.out j hj; unfold gi at this; simpa using this) (by unfold gi at hf; simpa using hf)]
          rfl)
        go_wp2
        go_ret2
        exact ⟨congrArg Ending.returned HE.out.symm, G.out⟩
      · go_wp2
        go_round
        case rel => exact ⟨k + 1, by omega, by go_num, fun j hj => by
          by_cases hjk : j < k
          · exact HP.out j hjk
          · obtain rfl : j = k := by omega
            omega⟩
        case measure => simp [intOf]; omega
    · have HE : Hid (ans (fst l f) = .tuple #[.int .i64 0, .bool false]) := Lib.hid (by
        unfold fst
        rw [find_not l _ (fun j hj => by have := HP.out j (by omega); unfold gi at this; simpa using this)]
        rfl)
      go_wp2
      go_ret2
      exact ⟨congrArg Ending.returned HE.out.symm, G.out⟩
set_option maxHeartbeats 1000000 in
theorem rlast_any (B : Nat → Nat) (hB : Wd B) (f : Int) (w : World) :
    Calls Tryd.prog 26 #[.agg #[.int .u64 (B 0), .int .u64 (B 1), .int .u64 (B 2), .int .u64 (B 3)], .int .i64 f] w fun e w' => e = .returned (ans (lst (bo B 256) f)) ∧ Bel w w' := by
  have K := Lib.hid (rlist_any B hB)
  have hl := bo_len B 256
  generalize bo B 256 = l at *
  clear hB
  go_enter Tryd.func26, Tryd.ntmps26
  go_wp2_with fail
  with_reducible refine (K.out _).mono ?_
  rintro e w1 ⟨v, rfl, how, hg⟩
  have G := Lib.hid (((Bel.refl _).alloc _ _).trans hg)
  obtain ⟨a, cap, rfl, hI⟩ := own_ints how
  have HI := Lib.hid hI
  clear hg how hI K
  go_wp2
  go_loop [7] (fun i => ∃ k : Nat, k ≤ l.length ∧ i = .int .i64 ((k : Int) - 1) ∧ ∀ j, k ≤ j → j < l.length → f < gi l j) (fun i => (intOf i + 1).toNat)
  case atStart => exact ⟨l.length, by omega, rfl, by omega⟩
  case round =>
    obtain ⟨k, hk, rfl, hpre⟩ := hrel
    have HP := Lib.hid hpre
    clear hpre
    by_cases h0 : k = 0
    · subst h0
      have HE : Hid (ans (lst l f) = .tuple #[.int .i64 0, .bool false]) := Lib.hid (by
        unfold lst
        rw [find_not l.reverse _ (fun j hj => by
          have hj' : j < l.length := by simpa using hj
          rw [rev_at l j hj']
          have := HP.out (l.length - 1 - j) (by omega) (by omega)
          unfold gi at this
          simpa using this)]
        rfl)
      go_wp2
      go_ret2
      exact ⟨congrArg Ending.returned HE.out.symm, G.out⟩
    · obtain ⟨m, rfl⟩ : ∃ m, k = m + 1 := ⟨k - 1, by omega⟩
      have em : ((m + 1 : Nat) : Int) - 1 = m := by omega
      rw [em]
      obtain ⟨b, off, ha, hc⟩ : ∃ b off, a = some ⟨b, off, none⟩ ∧ w1.cell? ⟨b, off + m, none⟩ = some (.int .i64 (gi l m)) := by
        rcases HI.out with h | ⟨b, off, e, hc⟩
        · omega
        · exact ⟨b, off, e, hc m (by omega)⟩
      subst ha
      clear em
      have hm0 : (0 : Int) ≤ m := by omega
      by_cases hf : gi l m ≤ f
      · have HE : Hid (ans (lst l f) = .tuple #[.int .i64 (gi l m), .bool true]) := Lib.hid (by
          unfold lst
          have e : l.length - 1 - (l.length - 1 - m) = m := by omega
          rw [find_at l.reverse _ (l.length - 1 - m) (by simp; omega) (fun j hj => by
            rw [rev_at l j (by omega)]
            have := HP.out (l.length - 1 - j) (by omega) (by omega)
            unfold gi at this
            simpa using this) (by rw [rev_at l _ (by omega), e]; unfold gi at hf; simpa using hf), rev_at l _ (by omega), e]
          rfl)
        go_wp2
        go_ret2
        exact ⟨congrArg Ending.returned HE.out.symm, G.out⟩
      · go_wp2
        go_round
        case rel => exact ⟨m, by omega, by go_num, fun j h1 h2 => by
          by_cases hjk : m + 1 ≤ j
          · exact HP.out j hjk h2
          · obtain rfl : j = m := by omega
            omega⟩
        case measure => simp [intOf]
end Go.Proofs.YthgiknkglnagbaaDoor
