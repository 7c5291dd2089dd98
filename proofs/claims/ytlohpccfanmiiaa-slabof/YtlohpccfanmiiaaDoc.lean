/-
  What the document's Of asks of an image, in its own words, is what Good says.
-/
import Derived.Test.YtlohpccfanmiiaaRefOf
namespace Go.Proofs.Ytlohpccfanmiiaa
def dF (G : Int) (ul fl : List Int) (x : Int) : Prop := ∃ (k : Nat) (u : Int), x = k ∧ ul[k]? = some u ∧ fl.count x = 1 ∧ u < G
def dA (ul fl : List Int) (al : List Hd) (h : Hd) : Prop := ∃ k : Nat, h.p = k ∧ ul[k]? = some h.g ∧ (al.map (·.p)).count h.p = 1 ∧ fl.count h.p = 0
def dU (G : Int) (fl : List Int) (al : List Hd) (i : Nat) (u : Int) : Prop := 1 ≤ u ∧ u ≤ G ∧ ¬ (u < G ∧ fl.count (i : Int) = 0 ∧ (al.map (·.p)).count (i : Int) = 0)
theorem nodup_count : ∀ (l : List Int), l.Nodup ↔ ∀ x ∈ l, l.count x = 1
  | [] => by simp
  | y :: r => by
    rw [List.nodup_cons, nodup_count r]
    constructor
    · rintro ⟨h1, h2⟩ x hx
      rw [List.count_cons]
      by_cases e : y = x
      · subst e
        rw [List.count_eq_zero.2 h1]
        simp
      · have hx' : x ∈ r := by
          rcases List.mem_cons.1 hx with h | h
          · exact absurd h.symm e
          · exact h
        rw [h2 x hx']
        simp [e]
    · intro h
      have h1 : y ∉ r := by
        have := h y (by simp)
        rw [List.count_cons] at this
        simp at this
        exact List.count_eq_zero.1 (by simpa using this)
      refine ⟨h1, fun x hx => ?_⟩
      have := h x (by simp [hx])
      rw [List.count_cons] at this
      have e : y ≠ x := fun e => h1 (e ▸ hx)
      simpa [e] using this
theorem good_doc (P : Nat) (G : Int) (ul fl : List Int) (al : List Hd) :
    Good P G ul fl al ↔ ul.length ≤ P ∧ (∀ x ∈ fl, dF G ul fl x) ∧ (∀ h ∈ al, dA ul fl al h) ∧ ∀ (i : Nat) (u : Int), ul[i]? = some u → dU G fl al i u := by
  constructor
  · intro g
    refine ⟨g.g1, fun x hx => ?_, fun h hh => ?_, fun i u hu => ?_⟩
    · obtain ⟨k, u, h1, h2, h3⟩ := g.g3 x hx
      exact ⟨k, u, h1, h2, (nodup_count fl).1 g.g4 x hx, h3⟩
    · obtain ⟨k, h1, h2⟩ := g.g5 h hh
      exact ⟨k, h1, h2, (nodup_count _).1 g.g6 _ (List.mem_map.2 ⟨h, hh, rfl⟩), List.count_eq_zero.2 (g.g7 h hh)⟩
    · have h1 := g.g2 u (List.mem_of_getElem? hu)
      refine ⟨h1.1, h1.2, fun ⟨h2, h3, h4⟩ => ?_⟩
      rcases g.g8 i u hu with h | ⟨q, hq, e⟩ | h
      · exact List.count_eq_zero.1 h3 h
      · exact List.count_eq_zero.1 h4 (List.mem_map.2 ⟨q, hq, e⟩)
      · exact h h2
  · rintro ⟨h1, hF, hA, hU⟩
    refine ⟨h1, fun u hu => ?_, fun x hx => ?_, (nodup_count fl).2 fun x hx => ?_, fun h hh => ?_, (nodup_count _).2 fun x hx => ?_, fun h hh => ?_, fun i u hu => ?_⟩
    · obtain ⟨i, hi, e⟩ := List.getElem_of_mem hu
      have := hU i u (by rw [List.getElem?_eq_getElem hi, e])
      exact ⟨this.1, this.2.1⟩
    · obtain ⟨k, u, a, b, _, d⟩ := hF x hx
      exact ⟨k, u, a, b, d⟩
    · obtain ⟨k, u, a, b, c, d⟩ := hF x hx
      exact c
    · obtain ⟨k, a, b, _⟩ := hA h hh
      exact ⟨k, a, b⟩
    · obtain ⟨h, hh, e⟩ := List.mem_map.1 hx
      obtain ⟨k, a, b, c, _⟩ := hA h hh
      rw [← e]
      exact c
    · obtain ⟨k, a, b, c, d⟩ := hA h hh
      exact List.count_eq_zero.1 d
    · have h2 := (hU i u hu).2.2
      by_cases e1 : (i : Int) ∈ fl
      · exact .inl e1
      · by_cases e2 : u < G
        · refine .inr (.inl ?_)
          apply Classical.byContradiction
          intro hno
          exact h2 ⟨e2, List.count_eq_zero.2 e1, List.count_eq_zero.2 (fun hm => by
            obtain ⟨q, hq, e⟩ := List.mem_map.1 hm
            exact hno ⟨q, hq, e⟩)⟩
        · exact .inr (.inr e2)
end Go.Proofs.Ytlohpccfanmiiaa
