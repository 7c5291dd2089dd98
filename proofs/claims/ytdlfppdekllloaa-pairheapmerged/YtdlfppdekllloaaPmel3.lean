/-
  Contract of Meld, in all cases.
-/
import Derived.Test.YtdlfppdekllloaaPmel2
set_option linter.unusedVariables false
set_option linter.unusedSimpArgs false
namespace Go.Proofs.Ytdlfppdekllloaa
open Go.RowKit
theorem meld_any (f g : Nat → Prop) (Q O P R : Nat) (l m : List T) (w : World) (h : Qu f w Q P l) (k : Qu g w O R m) (dj : ∀ j, f j → ¬ g j) :
    Calls Try.prog 17 #[.pointer (some ⟨Q, 0, none⟩), .pointer (some ⟨O, 0, none⟩)] w fun e w' => e = .returned (.int .i64 (melE P R l m)) ∧ ((¬ melE P R l m = 0 ∧ Bel w w') ∨ (melE P R l m = 0 ∧ P = R ∧ (m.any fun x => (fnd l x.p).isSome) = false ∧
      ∃ f' g' : Nat → Prop, (∀ j, f' j → f j ∨ g j) ∧ (∀ j, g' j → g j) ∧ (∀ j, f' j → ¬ g' j) ∧ Qu f' w' Q P (srt (l ++ m)) ∧ Qu g' w' O R [] ∧ Off (fun j => f j ∨ g j) w w')) := by
  obtain ⟨⟨S, tr, wh, h1, h2, h3, h4, h5⟩, hP, hf⟩ := h
  obtain ⟨⟨V, ur, vh, k1, k2, k3, k4, k5⟩, _, hg⟩ := k
  by_cases e : P = R
  · subst e
    have p : Pr f g w Q S O V P tr ur wh vh := ⟨h1, k1, h2, k2, h3, k3, h4, k4, dj⟩
    have em := mt_fnd h2 k2
    rw [h5, k5] at em
    cases e2 : (m.any fun x => (fnd l x.p).isSome) with
    | true =>
      have e3 : melE P P l m = 4 := by unfold melE; rw [if_pos rfl, if_pos e2]
      rw [e3]
      rw [e2] at em
      exact (meld_twice f g Q S O V P tr ur wh vh w p hP em).mono fun e w' ⟨he, hb⟩ => ⟨he, .inl ⟨by decide, hb⟩⟩
    | false =>
      have e3 : melE P P l m = 0 := by unfold melE; rw [if_pos rfl, if_neg (by rw [e2]; simp)]
      rw [e3]
      rw [e2] at em
      refine (meld_ok f g Q S O V P tr ur wh vh w p hP em hf hg).mono fun e w' ⟨he, hq⟩ => ⟨he, .inr ⟨rfl, rfl, rfl, ?_⟩⟩
      rw [h5, k5] at hq
      exact hq
  · have e3 : melE P R l m = 1 := by unfold melE; rw [if_neg e]
    rw [e3]
    exact (meld_arg f g Q S O V P R tr ur wh vh w h1 k1 e).mono fun e w' ⟨he, hb⟩ => ⟨he, .inl ⟨by decide, hb⟩⟩
end Go.Proofs.Ytdlfppdekllloaa
