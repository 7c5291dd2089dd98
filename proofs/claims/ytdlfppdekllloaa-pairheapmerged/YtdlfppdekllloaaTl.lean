/-
  Two queues side by side, and a list of timers beside them: what each call keeps.
-/
import Derived.Test.YtdlfppdekllloaaFi
set_option linter.unusedVariables false
set_option linter.unusedSimpArgs false
namespace Go.Proofs.Ytdlfppdekllloaa
open Go.RowKit
structure Tl (w : World) (Q O P R : Nat) (l m : List T) (pc : Option Addr) (C : List T) (wx : World) : Prop where
  ex : ∃ f g : Nat → Prop, Qu f wx Q P l ∧ Qu g wx O R m ∧ (∀ k, f k → w.heap.size ≤ k) ∧ (∀ k, g k → w.heap.size ≤ k) ∧ (∀ k, f k → ¬ g k) ∧ Lies (fun k => f k ∨ g k) wx pc (encs C)
  bel : Bel w wx
section
variable {w : World} {Q O P R : Nat} {l m C : List T} {pc : Option Addr}
theorem Tl.le {w1 w2 : World} (h : Tl w Q O P R l m pc C w1) (k : Bel w1 w2) : Tl w Q O P R l m pc C w2 := by
  obtain ⟨⟨f, g, h1, h2, h3, h4, h5, h6⟩, h7⟩ := h
  exact ⟨⟨f, g, h1.bel k, h2.bel k, h3, h4, h5, h6.bel k⟩, h7.trans k⟩
theorem Tl.sw {w1 : World} (h : Tl w Q O P R l m pc C w1) : Tl w O Q R P m l pc C w1 := by
  obtain ⟨⟨f, g, h1, h2, h3, h4, h5, h6⟩, h7⟩ := h
  exact ⟨⟨g, f, h2, h1, h4, h3, fun k a b => h5 k b a, h6.mono (fun b _ e => e.symm)⟩, h7⟩
theorem Tl.has {w1 : World} (h : Tl w Q O P R l m pc C w1) : Has w1 pc C := by
  obtain ⟨⟨f, g, h1, h2, h3, h4, h5, h6⟩, h7⟩ := h
  exact h6.has
/-- Another list takes the list's place. -/
theorem Tl.re {w1 w2 : World} {pd : Option Addr} {D : List T} (h : Tl w Q O P R l m pc C w1) (k : Bel w1 w2) (hd : Lies (old w1) w2 pd (encs D)) : Tl w Q O P R l m pd D w2 := by
  obtain ⟨⟨f, g, h1, h2, h3, h4, h5, h6⟩, h7⟩ := h
  refine ⟨⟨f, g, h1.bel k, h2.bel k, h3, h4, h5, hd.mono (fun b _ e => ?_)⟩, h7.trans k⟩
  rcases e with e | e
  · exact h1.lt_ b e
  · exact h2.lt_ b e
theorem tl_due {now : Int} {w1 : World} (h : Tl w Q O P R l m pc C w1) :
    Calls Try.prog 24 #[.pointer (some ⟨Q, 0, none⟩), .int .u64 now] w1 fun e w2 => ∃ p c, e = .returned (.slice p (due l now true).length c) ∧ Has w2 p (due l now true) ∧ Tl w Q O P R (due l now false) m pc C w2 := by
  obtain ⟨⟨f, g, h1, h2, h3, h4, h5, h6⟩, h7⟩ := h
  exact (due_any f Q P l now w1 h1).mono fun e w2 ⟨⟨p, c, he, _, hl⟩, hq, ho⟩ => ⟨p, c, he, hl.has, ⟨⟨f, g, hq, h2.off ho (fun i a b => h5 i b a), h3, h4, h5, h6.off ho (fun i e => .inl e)⟩, Off.trans h7 ho (fun i e => .inr (h3 i e))⟩⟩
theorem tl_all {w1 : World} (h : Tl w Q O P R l m pc C w1) :
    Calls Try.prog 20 #[.pointer (some ⟨Q, 0, none⟩)] w1 fun e w2 => ∃ p c, e = .returned (.slice p l.length c) ∧ l.length ≤ c ∧ Has w2 p l ∧ Bel w1 w2 := by
  obtain ⟨⟨f, g, h1, _⟩, _⟩ := h
  exact (all_any f Q P l w1 h1).mono fun e w2 ⟨⟨p, c, he, hc, hl⟩, hb⟩ => ⟨p, c, he, hc, hl.has, hb⟩
theorem tl_len {w1 : World} (h : Tl w Q O P R l m pc C w1) :
    Calls Try.prog 21 #[.pointer (some ⟨Q, 0, none⟩)] w1 fun e w2 => e = .returned (.int .i64 l.length) ∧ Bel w1 w2 := by
  obtain ⟨⟨f, g, h1, _⟩, _⟩ := h
  exact len_any f Q P l w1 h1
theorem tl_meld {w1 : World} (h : Tl w Q O P R l m pc C w1) :
    Calls Try.prog 17 #[.pointer (some ⟨Q, 0, none⟩), .pointer (some ⟨O, 0, none⟩)] w1 fun e w2 => e = .returned (.int .i64 (melE P R l m)) ∧ Tl w Q O P R (melL P R l m) (melM P R l m) pc C w2 := by
  have hh := h
  obtain ⟨⟨f, g, h1, h2, h3, h4, h5, h6⟩, h7⟩ := h
  refine (meld_any f g Q O P R l m w1 h1 h2 h5).mono fun e w2 ⟨he, hc⟩ => ⟨he, ?_⟩
  rcases hc with ⟨hne, hb⟩ | ⟨h0, _, _, f', g', a1, a2, a3, a4, a5, a6⟩
  · unfold melL melM
    rw [if_neg hne, if_neg hne]
    exact hh.le hb
  · unfold melL melM
    rw [if_pos h0, if_pos h0]
    refine ⟨⟨f', g', a4, a5, fun k e => ?_, fun k e => h4 k (a2 k e), a3, (h6.off a6 (fun i e => e)).mono (fun b _ e => ?_)⟩, Off.trans h7 a6 (fun i e => .inr ?_)⟩
    · rcases a1 k e with e | e
      · exact h3 k e
      · exact h4 k e
    · rcases e with e | e
      · exact a1 b e
      · exact .inr (a2 b e)
    · rcases e with e | e
      · exact h3 i e
      · exact h4 i e
theorem Tl.so {w1 : World} (h : Tl w Q O P R l m pc C w1) : So l := by
  obtain ⟨⟨f, g, h1, _⟩, _⟩ := h
  exact h1.so
theorem Tl.places {w1 : World} (h : Tl w Q O P R l m pc C w1) : P ≤ 1024 ∧ l.length ≤ P := by
  obtain ⟨⟨f, g, h1, _⟩, _⟩ := h
  exact ⟨h1.hP, h1.len⟩
end
/-- Two queues behind acts. -/
theorem tl_new {w w1 w2 : World} {Q O P R : Nat} {l m : List T} (h : Bu w w1 Q P l) (k : Bu w1 w2 O R m) : Tl w Q O P R l m none [] w2 := by
  obtain ⟨⟨f, h1, h2⟩, h3⟩ := h
  obtain ⟨⟨g, k1, k2⟩, k3⟩ := k
  exact ⟨⟨f, g, h1.bel k3, k1, h2, fun j e => Nat.le_trans h3.size (k2 j e), fun j e e2 => by have := h1.lt_ j e; have := k2 j e2; omega, .inl rfl⟩, h3.trans k3⟩
end Go.Proofs.Ytdlfppdekllloaa
