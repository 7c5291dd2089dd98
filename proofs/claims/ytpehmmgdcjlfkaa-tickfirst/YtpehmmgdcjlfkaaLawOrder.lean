/-
  Which timer is before which, as plain arithmetic; contracts of the document's Before and Compare.
-/
import Derived.Test.YtpehmmgdcjlfkaaWorks
namespace Go.Proofs.Ytpehmmgdcjlfkaa
open Go.RowKit

/-! Plain. -/
theorem cz_cases (x y : Int) : (x < y ∧ cz x y = -1) ∨ (x = y ∧ cz x y = 0) ∨ (y < x ∧ cz x y = 1) := by
  rcases Int.lt_trichotomy x y with h | rfl | h
  · exact .inl ⟨h, cz_lt h⟩
  · exact .inr (.inl ⟨rfl, cz_eq x⟩)
  · exact .inr (.inr ⟨h, cz_gt h⟩)
theorem tcmp_cases (a1 s1 p1 a2 s2 p2 : Int) :
    ((a1 < a2 ∨ a1 = a2 ∧ (s1 < s2 ∨ s1 = s2 ∧ p1 < p2)) ∧ tcmp a1 s1 p1 a2 s2 p2 = -1) ∨ ((a1 = a2 ∧ s1 = s2 ∧ p1 = p2) ∧ tcmp a1 s1 p1 a2 s2 p2 = 0) ∨
      ((a2 < a1 ∨ a1 = a2 ∧ (s2 < s1 ∨ s1 = s2 ∧ p2 < p1)) ∧ tcmp a1 s1 p1 a2 s2 p2 = 1) := by
  unfold tcmp or3
  rcases cz_cases a1 a2 with ⟨h, e⟩ | ⟨h, e⟩ | ⟨h, e⟩ <;> rw [e]
  · simp; omega
  · rcases cz_cases s1 s2 with ⟨h', e'⟩ | ⟨h', e'⟩ | ⟨h', e'⟩ <;> rw [e']
    · simp; omega
    · rcases cz_cases p1 p2 with ⟨h'', e''⟩ | ⟨h'', e''⟩ | ⟨h'', e''⟩ <;> rw [e''] <;> simp <;> omega
    · simp; omega
  · simp; omega
/-- Is the one before the other? -/
def bf (a1 s1 p1 a2 s2 p2 : Int) : Bool := decide (tcmp a1 s1 p1 a2 s2 p2 = -1)
theorem bf_at {a1 s1 p1 a2 s2 p2 : Int} (h : a1 ≠ a2) : decide (a1 < a2) = bf a1 s1 p1 a2 s2 p2 := by
  unfold bf; rcases tcmp_cases a1 s1 p1 a2 s2 p2 with ⟨k, e⟩ | ⟨k, e⟩ | ⟨k, e⟩ <;> rw [e] <;> simp <;> omega
theorem bf_seq {a1 s1 p1 s2 p2 : Int} (h : s1 ≠ s2) : decide (s1 < s2) = bf a1 s1 p1 a1 s2 p2 := by
  unfold bf; rcases tcmp_cases a1 s1 p1 a1 s2 p2 with ⟨k, e⟩ | ⟨k, e⟩ | ⟨k, e⟩ <;> rw [e] <;> simp <;> omega
theorem bf_place {a1 s1 p1 p2 : Int} : decide (p1 < p2) = bf a1 s1 p1 a1 s1 p2 := by
  unfold bf; rcases tcmp_cases a1 s1 p1 a1 s1 p2 with ⟨k, e⟩ | ⟨k, e⟩ | ⟨k, e⟩ <;> rw [e] <;> simp <;> omega
theorem ret_bool {a b : Bool} (h : a = b) : Ending.returned (.bool a) = .returned (.bool b) := by rw [h]
theorem before_any (a1 s1 p1 a2 s2 p2 : Int) (w : World) :
    Calls Try.prog 23 #[.agg #[.int .u64 a1, .int .u64 s1, .int .i64 p1], .agg #[.int .u64 a2, .int .u64 s2, .int .i64 p2]] w fun e w' =>
      e = .returned (.bool (bf a1 s1 p1 a2 s2 p2)) ∧ Grew w w' := by
  by_cases ha : a1 = a2
  · subst ha
    by_cases hs : s1 = s2
    · subst hs
      have k := Lib.hid (bf_place (a1 := a1) (s1 := s1) (p1 := p1) (p2 := p2))
      go_enter Try.func23, Try.ntmps23
      go_wp2
      go_ret
      exact ⟨ret_bool k.out, ((Grew.refl _).alloc _ _).alloc _ _⟩
    · have k := Lib.hid (bf_seq (a1 := a1) (p1 := p1) (p2 := p2) hs)
      have hs' : (s1 != s2) = true := by simpa using hs
      clear hs
      go_enter Try.func23, Try.ntmps23
      go_wp2
      go_ret
      exact ⟨ret_bool k.out, ((Grew.refl _).alloc _ _).alloc _ _⟩
  · have k := Lib.hid (bf_at (s1 := s1) (p1 := p1) (s2 := s2) (p2 := p2) ha)
    have ha' : (a1 != a2) = true := by simpa using ha
    clear ha
    go_enter Try.func23, Try.ntmps23
    go_wp2
    go_ret
    exact ⟨ret_bool k.out, ((Grew.refl _).alloc _ _).alloc _ _⟩
theorem rcompare_any (a1 s1 p1 a2 s2 p2 : Int) (w : World) :
    Calls Try.prog 21 #[.agg #[.int .u64 a1, .int .u64 s1, .int .i64 p1], .agg #[.int .u64 a2, .int .u64 s2, .int .i64 p2]] w fun e w' =>
      e = .returned (.int .i64 (tcmp a1 s1 p1 a2 s2 p2)) ∧ Grew w w' := by
  have k1 := before_any a1 s1 p1 a2 s2 p2
  have k2 := before_any a2 s2 p2 a1 s1 p1
  unfold bf at k1 k2
  rcases tcmp_cases a1 s1 p1 a2 s2 p2 with ⟨h, e⟩ | ⟨h, e⟩ | ⟨h, e⟩
  · rw [e] at k1 ⊢
    have K1 := Lib.hid k1
    clear k1 k2 e h
    go_enter Try.func21, Try.ntmps21
    go_wp2_with fail
    with_reducible refine (K1.out _).mono ?_
    rintro e w1 ⟨rfl, hg⟩
    go_wp2
    go_ret
    exact ⟨rfl, (((Grew.refl _).alloc _ _).alloc _ _).trans hg⟩
  all_goals
    have e2 : decide (tcmp a2 s2 p2 a1 s1 p1 = -1) = decide (tcmp a1 s1 p1 a2 s2 p2 = 1) := by
      rcases tcmp_cases a2 s2 p2 a1 s1 p1 with ⟨k, e'⟩ | ⟨k, e'⟩ | ⟨k, e'⟩ <;> rw [e, e'] <;> simp <;> omega
    rw [e2, e] at k2
    rw [e] at k1 ⊢
    have K1 := Lib.hid k1
    have K2 := Lib.hid k2
    clear k1 k2 e h e2
    go_enter Try.func21, Try.ntmps21
    go_wp2_with fail
    with_reducible refine (K1.out _).mono ?_
    rintro e w1 ⟨rfl, hg⟩
    have c0 := hg.2.cell (p := ⟨w.heap.size, 0, none⟩) (by simp <;> omega)
    have c1 := hg.2.cell (p := ⟨w.heap.size, 1, none⟩) (by simp <;> omega)
    have c2 := hg.2.cell (p := ⟨w.heap.size, 2, none⟩) (by simp <;> omega)
    have c3 := hg.2.cell (p := ⟨w.heap.size + 1, 0, none⟩) (by simp <;> omega)
    have c4 := hg.2.cell (p := ⟨w.heap.size + 1, 1, none⟩) (by simp <;> omega)
    have c5 := hg.2.cell (p := ⟨w.heap.size + 1, 2, none⟩) (by simp <;> omega)
    simp [go_sem] at c0 c1 c2 c3 c4 c5
    have hg' := Lib.hid hg
    clear hg
    go_wp2_with fail
    with_reducible refine (K2.out _).mono ?_
    rintro e w2 ⟨rfl, hg2⟩
    go_wp2
    go_ret
    exact ⟨rfl, ((((Grew.refl _).alloc _ _).alloc _ _).trans hg'.out).trans hg2⟩
end Go.Proofs.Ytpehmmgdcjlfkaa
