/-
  A wheel is what the laws want of a queue (its Min is still a premise).
-/
import Derived.Test.YtllohpojajijjaaGreatDoorWone
import Derived.Test.YtllohpojajijjaaGreatDoorWdue
import Derived.Test.YtllohpojajijjaaGreatDoorWnew
import Derived.Test.YtllohpojajijjaaGreatDoorXg
set_option linter.unusedVariables false
set_option linter.unusedSimpArgs false
namespace Go.Proofs.YtllohpojajijjaaGreatDoor
open Go.RowKit
/-- A wheel, its four blocks in f. -/
def Qu : QT := fun f w Q P b s k l => ∃ B G R, Wh w Q B G R P b s k l ∧ f = Fo4 Q B G R
theorem foI {Q B G R : Nat} {a b : World} (h : Off (Fo Q G R) a b) : Off (Fo4 Q B G R) a b := h.mono (fun _ _ e => by
  rcases e with e | e | e
  · exact .inl e
  · exact .inr (.inr (.inl e))
  · exact .inr (.inr (.inr e)))
theorem wh_lt {w : World} {Q B G R P b : Nat} {s k : Int} {l : List T} (q : Wh w Q B G R P b s k l) {j : Nat} (hj : Fo4 Q B G R j) : j < w.heap.size := by
  obtain ⟨l1, l2, l3, l4⟩ := q.lt
  rcases hj with rfl | rfl | rfl | rfl <;> assumption
theorem grw_same (f : Nat → Prop) (w w' : World) : Grw f f w w' := fun _ e => .inl e
theorem con_of (hmin : ∀ {Q B G R P b : Nat} {s k : Int} {l : List T} (w : World), Wh w Q B G R P b s k l → Calls Tryz.prog 15 #[.pointer (some ⟨Q, 0, none⟩)] w fun e w' => e = .returned (ansT l.head?) ∧ Bel w w') : Con Qu where
  off := by
    rintro f g w w' Q P b s k l ⟨B, G, R, h, rfl⟩ o hf h0
    exact ⟨B, G, R, h.off o hf h0, rfl⟩
  lt_ := by
    rintro f w Q P b s k l ⟨B, G, R, h, rfl⟩ j hj
    exact wh_lt h hj
  z := by
    rintro f w Q P b s k l ⟨B, G, R, h, rfl⟩ e
    obtain ⟨z1, z2, z3, z4⟩ := h.re.zs
    rcases e with e | e | e | e <;> omega
  pos := by
    rintro f w Q P b s k l ⟨B, G, R, h, rfl⟩
    have := h.lt.1
    omega
  so := by
    rintro f w Q P b s k l ⟨B, G, R, ⟨⟨ls, r, F, q, _⟩, _⟩, rfl⟩
    exact q.is.so
  len := by
    rintro f w Q P b s k l ⟨B, G, R, ⟨⟨ls, r, F, q, _⟩, _⟩, rfl⟩
    exact q.is.len
  hP := by
    rintro f w Q P b s k l ⟨B, G, R, ⟨⟨ls, r, F, q, _⟩, _⟩, rfl⟩
    exact q.hP
  hb := by
    rintro f w Q P b s k l ⟨B, G, R, h, rfl⟩
    exact h.re.hb
  base := by
    rintro f w Q P b s k l ⟨B, G, R, h, rfl⟩
    exact h.re.ts
  ticks := by
    rintro f w Q P b s k l ⟨B, G, R, h, rfl⟩
    exact h.re.tl
  places := by
    rintro f w Q P b s k l ⟨B, G, R, ⟨⟨ls, r, F, q, _⟩, _⟩, rfl⟩
    have hi := q.is
    constructor
    · refine List.pairwise_map.2 ?_
      have hn : l.Pairwise (fun x y => pl x ≠ pl y) := List.pairwise_map.1 hi.nd
      exact hn.imp (fun e h => e (by unfold pl; rw [h]))
    · intro t ht
      obtain ⟨e, h1, _⟩ := hi.tm t ht
      unfold hp
      rw [e]
      simp [h1]
  qnew_no := qnew_no
  qnew_yes := by
    intro P b s w hP hb hs hT
    refine (qnew_yes P b s w hP hb hs hT).mono ?_
    rintro e w' ⟨Q, B, G, R, h1, h2, h3, h4⟩
    exact ⟨Q, Fo4 Q B G R, h1, ⟨B, G, R, h2, rfl⟩, h3, h4⟩
  insert := by
    rintro f Q P b s k l t w ⟨B, G, R, h, rfl⟩ ht
    refine (insert_any t w h ht).mono ?_
    rintro e w' ⟨h1, h2, h3⟩
    exact ⟨h1, _, grw_same _ _ _, ⟨B, G, R, h2, rfl⟩, foI h3⟩
  cancel := by
    rintro f Q P b s k l p w ⟨B, G, R, h, rfl⟩
    refine (cancel_any p w h).mono ?_
    rintro e w' ⟨h1, h2, h3⟩
    exact ⟨h1, _, grw_same _ _ _, ⟨B, G, R, h2, rfl⟩, foI h3⟩
  move := by
    rintro f Q P b s k l t w ⟨B, G, R, h, rfl⟩ ht
    refine (move_any t w h ht).mono ?_
    rintro e w' ⟨h1, h2, h3⟩
    exact ⟨h1, _, grw_same _ _ _, ⟨B, G, R, h2, rfl⟩, foI h3⟩
  due := by
    rintro f Q P b s k l now w ⟨B, G, R, h, rfl⟩ hn
    refine (due_any now w h hn).mono ?_
    rintro e w' ⟨⟨p, c, h1, h2, h5⟩, h3, h4⟩
    refine ⟨p, c, _, h1, h2, h5.mono ?_, grw_same _ _ _, ⟨B, G, R, h3, rfl⟩, foI h4⟩
    rintro j _ (e | e)
    · exact e
    · exact wh_lt h e
  get := by
    rintro f Q P b s k l p w ⟨B, G, R, ⟨⟨ls, r, F, q, _⟩, _⟩, rfl⟩
    exact get_any p w q
  min := by
    rintro f Q P b s k l w ⟨B, G, R, h, rfl⟩
    exact hmin w h
  count := by
    rintro f Q P b s k l w ⟨B, G, R, ⟨⟨ls, r, F, q, _⟩, _⟩, rfl⟩
    exact count_any w q
  all := by
    rintro f Q P b s k l w ⟨B, G, R, ⟨⟨ls, r, F, q, _⟩, _⟩, rfl⟩
    refine (all_any w q).mono ?_
    rintro e w' ⟨⟨p, c, h1, h2, h5⟩, h4⟩
    exact ⟨p, c, h1, h2, h5, h4⟩
  based := by
    rintro f Q P b s k l w ⟨B, G, R, h, rfl⟩
    exact base_any w h
  looked := by
    rintro f Q P b s k l w ⟨B, G, R, h, rfl⟩
    exact looked_any w h
end Go.Proofs.YtllohpojajijjaaGreatDoor
