/-
  Contracts of order.checked and of the closure that merges lists two and two.
-/
import Derived.Test.YtdlfppdekllloaaBoth
import Derived.Test.YtdlfppdekllloaaSorted
import Derived.Deep.QuietTactic
import Derived.BigQuiet
import Derived.IntWalk
set_option linter.unusedVariables false
set_option linter.unusedSimpArgs false
namespace Go.Proofs.Ytdlfppdekllloaa
open Go.RowKit
/-- What a list that is not in order makes panic. -/
abbrev boom : List PanicEntry := [{ v := .iface 25 (.int .i64 12), recovered := false }]
theorem checked_yes (p : Option Addr) (n cap : Nat) (l : List T) (w : World) (hn : l.length = n) (hm : n ≤ 1000) (hs : So l) (hl : Has w p l) :
    Calls Try.prog 43 #[.slice p n cap] w fun e w' => e = .returned (.slice p n cap) ∧ Bel w w' := by
  have K := sorted_any p n cap l w hn (by omega) hl
  rw [(so_iff l).2 hs] at K
  have K := Lib.hid K
  clear hl hn hs
  go_enter Try.func43, Try.ntmps43
  go_wp2_with fail
  with_reducible refine (K.out).mono ?_
  rintro e w1 ⟨rfl, hb⟩
  go_wp2
  go_ret
  exact ⟨rfl, hb⟩
theorem checked_no (p : Option Addr) (n cap : Nat) (l : List T) (w : World) (hn : l.length = n) (hm : n ≤ 1000) (hs : ¬ So l) (hl : Has w p l) :
    Calls Try.prog 43 #[.slice p n cap] w fun e w' => e = .panicked boom ∧ Bel w w' := by
  have K := sorted_any p n cap l w hn (by omega) hl
  rw [(so_no l).2 hs] at K
  have K := Lib.hid K
  clear hl hn hs
  go_enter Try.func43, Try.ntmps43
  go_wp2_with fail
  with_reducible refine (K.out).mono ?_
  rintro e w1 ⟨rfl, hb⟩
  go_wp2
  exact ⟨rfl, rfl, hb⟩
/-- A row of lists of timers lies at a place of a block. -/
def RowL (w : World) (b off : Nat) (ls : List (List T)) : Prop := ∀ i, i < ls.length →
  ∃ p c, w.cell? ⟨b, off + i, none⟩ = some (.slice p (ls.getD i []).length c) ∧ (ls.getD i []).length ≤ c ∧ Has w p (ls.getD i [])
def HasL (w : World) (q : Option Addr) (ls : List (List T)) : Prop := ls = [] ∨ ∃ b off, q = some ⟨b, off, none⟩ ∧ RowL w b off ls
theorem RowL.bel {w w' : World} {b off : Nat} {ls : List (List T)} (h : RowL w b off ls) (k : Bel w w') : RowL w' b off ls := fun i hi => by
  obtain ⟨p, c, h1, h2, h3⟩ := h i hi
  exact ⟨p, c, k.cell h1, h2, h3.bel k⟩
theorem HasL.bel {w w' : World} {q : Option Addr} {ls : List (List T)} (h : HasL w q ls) (k : Bel w w') : HasL w' q ls := by
  rcases h with h | ⟨b, off, e, h⟩
  · exact .inl h
  · exact .inr ⟨b, off, e, h.bel k⟩
theorem HasL.row {w : World} {q : Option Addr} {ls : List (List T)} (h : HasL w q ls) (h0 : 0 < ls.length) : ∃ b off, q = some ⟨b, off, none⟩ ∧ RowL w b off ls := by
  rcases h with rfl | h
  · simp at h0
  · exact h
theorem RowL.take {w : World} {b off : Nat} {ls : List (List T)} (h : RowL w b off ls) (c : Nat) : RowL w b off (ls.take c) := by
  intro i hi
  have hi' : i < c ∧ i < ls.length := by simp at hi; omega
  have e : (ls.take c).getD i [] = ls.getD i [] := by simp [List.getD_eq_getElem?_getD, hi'.1]
  rw [e]
  exact h i hi'.2
theorem RowL.drop {w : World} {b off : Nat} {ls : List (List T)} (h : RowL w b off ls) (c : Nat) : RowL w b (off + c) (ls.drop c) := by
  intro i hi
  have hi' : c + i < ls.length := by simp at hi; omega
  have e : (ls.drop c).getD i [] = ls.getD (c + i) [] := by simp [List.getD_eq_getElem?_getD, List.getElem?_drop]
  rw [e, Nat.add_assoc]
  exact h (c + i) hi'
/-- All lists are in order. -/
def AllSo (ls : List (List T)) : Prop := ∀ l ∈ ls, So l
/-- What merging comes to. -/
def JoinPost (ls : List (List T)) (w : World) (e : Ending) (w' : World) : Prop :=
  Bel w w' ∧ (AllSo ls → Out w' e (srt ls.flatten)) ∧ (¬ AllSo ls → e = .panicked boom)
theorem join_zero (q : Option Addr) (c J : Nat) (w : World) :
    Calls Try.prog 41 #[.slice q 0 c, .pointer (some ⟨J, 0, none⟩)] w (JoinPost [] w) := by
  go_enter Try.func41, Try.ntmps41
  go_wp2
  go_ret
  exact ⟨Bel.refl _, fun _ => ⟨none, 0, rfl, Nat.le_refl _, .inl rfl⟩, fun h => absurd (by simp [AllSo]) h⟩
theorem join_one (b off c J : Nat) (l : List T) (w : World) (hm : l.length ≤ 1000) (hr : RowL w b off [l]) :
    Calls Try.prog 41 #[.slice (some ⟨b, off, none⟩) 1 c, .pointer (some ⟨J, 0, none⟩)] w (JoinPost [l] w) := by
  obtain ⟨p, k, h1, h2, h3⟩ := hr 0 (by simp)
  have e : [l].getD 0 [] = l := rfl
  rw [e] at h1 h2 h3
  simp only [Nat.add_zero] at h1
  obtain ⟨n, hn⟩ : ∃ n, l.length = n := ⟨_, rfl⟩
  rw [hn] at h1 h2
  clear hr
  by_cases hs : So l
  · have K1 := Lib.hid (checked_yes p n k l w hn (by omega) hs h3)
    have K2 := Lib.hid (fun w' (hb : Bel w w') => fresh_own p n k l w' hn (by omega) (h3.bel hb))
    have HS : Hid (srt [l].flatten = l) := Lib.hid (by simpa using srt_self hs)
    have HA : Hid (AllSo [l]) := Lib.hid (by intro x hx; simp at hx; subst hx; exact hs)
    clear h3 hn
    go_enter Try.func41, Try.ntmps41
    go_wp2_with fail
    with_reducible refine (K1.out).mono ?_
    rintro e w1 ⟨rfl, hb1⟩
    go_wp2_with fail
    with_reducible refine (K2.out _ hb1).mono ?_
    rintro e w2 ⟨v, rfl, hown, hb2, _⟩
    have HO := Lib.hid hown
    have HB := Lib.hid (hb1.trans hb2)
    clear hown hb1 hb2
    go_wp2
    go_ret
    exact ⟨HB.out, fun _ => by rw [HS.out]; exact HO.out.out, fun h => absurd HA.out h⟩
  · have K1 := Lib.hid (checked_no p n k l w hn (by omega) hs h3)
    have HA : Hid (¬ AllSo [l]) := Lib.hid (fun h => hs (h l (by simp)))
    clear h3 hn
    go_enter Try.func41, Try.ntmps41
    go_wp2_with fail
    with_reducible refine (K1.out).mono ?_
    rintro e w1 ⟨rfl, hb1⟩
    have HB := Lib.hid hb1
    clear hb1
    go_wp2
    exact ⟨rfl, HB.out, fun h => absurd h HA.out, fun _ => rfl⟩
end Go.Proofs.Ytdlfppdekllloaa
