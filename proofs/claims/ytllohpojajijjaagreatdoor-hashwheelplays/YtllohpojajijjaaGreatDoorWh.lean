/-
  A wheel as a list of timers: which slots have something.
-/
import Derived.Test.YtllohpojajijjaaGreatDoorPw2
import Derived.Test.YtllohpojajijjaaGreatDoorPw3
import Derived.Test.YtllohpojajijjaaGreatDoorXd
set_option linter.unusedVariables false
set_option linter.unusedSimpArgs false
namespace Go.Proofs.YtllohpojajijjaaGreatDoor
open Go.RowKit
/-- The list of a timer: its slot, or the one behind all slots. -/
def lof (S : Nat) (s : Int) (x : T) : Nat := if x.a ≤ s then S else slt S x
theorem lof_lt {S : Nat} (h : 0 < S) (s : Int) (x : T) : lof S s x < S + 1 := by
  unfold lof
  have := slt_lt h x
  split <;> omega
/-- In the bits are just those slots that have something. -/
structure Fl (S : Nat) (ls : Ls) (F : Nat → Nat) : Prop where
  wd : Bm.Wd F
  on : ∀ i, Bm.tb F i = true ↔ i < S ∧ ls i ≠ []
/-- What else holds of a wheel. -/
structure Rest (w : World) (Q B G R b : Nat) (s : Int) (l : List T) : Prop where
  hb : 1 ≤ b ∧ b ≤ 6
  ts : Tk s
  tl : ∀ t ∈ l, Tk t.a
  tab : Bm.Tab w
  zs : 0 < Q ∧ 0 < B ∧ 0 < G ∧ 0 < R
/-- The blocks of a wheel. -/
def Fo4 (Q B G R : Nat) : Nat → Prop := fun k => k = Q ∨ k = B ∨ k = G ∨ k = R
/-- A wheel in memory is the list l. -/
structure Wh (w : World) (Q B G R P b : Nat) (s k : Int) (l : List T) : Prop where
  ex : ∃ ls r F, Qp w Q B G R P (slo b + 1) (lof (slo b) s) ls r ⟨slo b, s, F, k⟩ l ∧ Fl (slo b) ls F
  re : Rest w Q B G R b s l
theorem Rest.off {f : Nat → Prop} {w w' : World} {Q B G R b : Nat} {s : Int} {l : List T} (h : Rest w Q B G R b s l) (k : Off f w w') (h0 : ¬ f 0) : Rest w' Q B G R b s l :=
  ⟨h.hb, h.ts, h.tl, fun j hj => k.cell (p := ⟨0, j, none⟩) h0 (h.tab j hj), h.zs⟩
theorem Rest.sub {w : World} {Q B G R b : Nat} {s : Int} {l m : List T} (h : Rest w Q B G R b s l) (hm : ∀ t ∈ m, t ∈ l) : Rest w Q B G R b s m :=
  ⟨h.hb, h.ts, fun t ht => h.tl t (hm t ht), h.tab, h.zs⟩
theorem tb_dp (B : Nat → Nat) (i j : Nat) : Bm.tb (Bm.dp B i) j = (Bm.tb B j && !decide (i = j)) := by
  unfold Bm.tb Bm.dp
  by_cases h : j / 64 = i / 64
  · rw [if_pos h, Nat.testBit_and, Bm.bit_mask (Nat.mod_lt _ (by decide)), decide_eq_true (Nat.mod_lt j (by decide)), Bool.true_and]
    congr 2
    rw [decide_eq_decide]
    omega
  · rw [if_neg h]
    have : ¬ i = j := fun e => h (by rw [e])
    simp [this]
/-- One slot turned: the bits, set anew for it, are right again. -/
theorem Fl.mark {S : Nat} {ls ls' : Ls} {F : Nat → Nat} (h : Fl S ls F) (hS : S ≤ 256) {t : Nat} (ht : t < S) (ho : ∀ i, i ≠ t → ls' i = ls i) : Fl S ls' (if ls' t = [] then Bm.dp F t else Bm.pt F t) := by
  split
  · rename_i e
    refine ⟨Bm.dp_wd h.wd t, fun i => ?_⟩
    rw [tb_dp F]
    by_cases hit : t = i
    · subst hit; simp [e]
    · rw [ho i (fun e => hit e.symm)]
      have := h.on i
      simp [hit, this]
  · rename_i e
    refine ⟨Bm.pt_wd h.wd t, fun i => ?_⟩
    rw [Bm.tb_pt]
    by_cases hit : t = i
    · subst hit; simp [e, ht]
    · rw [ho i (fun e => hit e.symm)]
      have := h.on i
      simp [hit, this]
theorem Fl.same {S : Nat} {ls ls' : Ls} {F : Nat → Nat} (h : Fl S ls F) (ho : ∀ i, i < S → ls' i = ls i) : Fl S ls' F :=
  ⟨h.wd, fun i => by
    rw [h.on i]
    constructor
    · rintro ⟨h1, h2⟩; exact ⟨h1, by rw [ho i h1]; exact h2⟩
    · rintro ⟨h1, h2⟩; rw [ho i h1] at h2; exact ⟨h1, h2⟩⟩
section
variable {w w' : World} {Q B G R P b : Nat} {s k : Int} {l : List T}
theorem Wh.off {f : Nat → Prop} (q : Wh w Q B G R P b s k l) (o : Off f w w') (hf : ∀ i, Fo4 Q B G R i → ¬ f i) (h0 : ¬ f 0) : Wh w' Q B G R P b s k l := by
  obtain ⟨⟨ls, r, F, h1, h2⟩, h3⟩ := q
  exact ⟨⟨ls, r, F, h1.off o (hf _ (.inl rfl)) (hf _ (.inr (.inl rfl))) (hf _ (.inr (.inr (.inl rfl)))) (hf _ (.inr (.inr (.inr rfl)))), h2⟩, h3.off o h0⟩
theorem Wh.bel (q : Wh w Q B G R P b s k l) (o : Bel w w') : Wh w' Q B G R P b s k l := q.off o (fun _ _ e => e) (fun e => e)
end
end Go.Proofs.YtllohpojajijjaaGreatDoor
