/-
  Contract of the document's Append.
-/
import Derived.Test.YtdeiknfaehpheaaWith
namespace Go.Proofs.Ytdeiknfaehpheaa
open Go.RowKit
/-- Chains in a box, and a place for the answer. -/
abbrev two (w : World) (P : Nat) (p : Option Addr) (L c : Nat) : World := (w.alloc (.cells #[.int .i64 P, .slice p L c] 27)).alloc (.cells #[.int .i64 0, .slice none 0 0] 27)
theorem two_bel (w : World) (P : Nat) (p : Option Addr) (L c : Nat) : Bel w (two w P p L c) := ((Bel.refl w).alloc _ _).alloc _ _
theorem two_cells (w : World) (P : Nat) (p : Option Addr) (L c : Nat) (w' : World) (h : Bel (two w P p L c) w') :
    (w'.cell? ⟨w.heap.size, 0, none⟩ = some (.int .i64 P) ∧ w'.cell? ⟨w.heap.size, 1, none⟩ = some (.slice p L c)) ∧ (w'.cell? ⟨w.heap.size + 1, 0, none⟩ = some (.int .i64 0) ∧ w'.cell? ⟨w.heap.size + 1, 1, none⟩ = some (.slice none 0 0)) ∧
    (w'.frozen? ⟨w.heap.size + 1, 0, none⟩ = false ∧ w'.frozen? ⟨w.heap.size + 1, 1, none⟩ = false) ∧ w.heap.size + 1 < w'.heap.size := by
  have h1 : (two w P p L c).heap[w.heap.size]? = some (.cells #[.int .i64 P, .slice p L c] 27) := by rw [Below.heap_alloc _ _ _ (by simp), heap_alloc_new]
  have h2 : (two w P p L c).heap[w.heap.size + 1]? = some (.cells #[.int .i64 0, .slice none 0 0] 27) := by
    have := heap_alloc_new (w.alloc (.cells #[.int .i64 P, .slice p L c] 27)) (.cells #[.int .i64 0, .slice none 0 0] 27)
    simpa using this
  have b1 := box2 (h.heap h1)
  have b2 := box2 (h.heap h2)
  exact ⟨b1.1, b2.1, b2.2, (Array.getElem?_eq_some_iff.1 (h.heap h2)).1⟩
theorem off_two {w w1 : World} {T : Nat} {a b : Value} (h : Bel w w1) (hT : w.heap.size ≤ T) : Bel w ((w1.setCell ⟨T, 0, none⟩ a).setCell ⟨T, 1, none⟩ b) := Off.trans h (off2 w1 T a b) (fun i e => .inr (by omega))
theorem not_in {L : Nat} {ls : Ls} {x : Nat} (h : ∀ s, s < L → x ∉ ls s) : ∀ s, s < L → ∀ z ∈ ls s, ¬ (z : Int) = (x : Int) := fun s hs z hz e => by
  have e2 : z = x := by omega
  exact h s hs (by rw [← e2]; exact hz)
theorem rappend_arg (P : Nat) (p : Option Addr) (L c : Nat) (t x : Int) (w : World) (hn : (hp L t && hp P x) = false) :
    Calls Try.prog 26 #[rv P p L c, .int .i64 t, .int .i64 x] w fun e w' => e = .returned (.tuple #[rv P p L c, .int .i64 1]) ∧ Bel w w' := by
  have K1 := Lib.hid (rhas_any P p L c t)
  have K2 := Lib.hid (ris_any P p L c x)
  have TC := Lib.hid (two_cells w P p L c)
  have TB := Lib.hid (two_bel w P p L c)
  unfold rv two at *
  cases h1 : hp L t with
  | false =>
    rw [h1] at K1
    clear h1 hn
    go_enter Try.func26, Try.ntmps26
    go_wp2_with fail
    with_reducible refine (K1.out _).mono ?_
    rintro e w1 ⟨rfl, hb⟩
    obtain ⟨⟨d0, d1⟩, ⟨e0, e1⟩, ⟨g0, g1⟩, hz⟩ := TC.out _ hb
    have HB := Lib.hid (TB.out.trans hb)
    clear hb
    go_wp2
    exact bodyPost_ret (v := .tuple #[.agg #[.int .i64 P, .slice p L c], .int .i64 1]) (by simp [results, Try.results26, go_sem, e0, e1]) rfl ⟨rfl, off_two HB.out (by omega)⟩
  | true =>
    rw [h1, Bool.true_and] at hn
    rw [h1] at K1
    rw [hn] at K2
    clear h1 hn
    go_enter Try.func26, Try.ntmps26
    go_wp2_with fail
    with_reducible refine (K1.out _).mono ?_
    rintro e w1 ⟨rfl, hb⟩
    obtain ⟨⟨d0, d1⟩, _⟩ := TC.out _ hb
    have HB := Lib.hid hb
    clear hb
    go_wp2_with fail
    with_reducible refine (K2.out _).mono ?_
    rintro e w2 ⟨rfl, hb⟩
    clear d0 d1
    obtain ⟨⟨d0, d1⟩, ⟨e0, e1⟩, ⟨g0, g1⟩, hz⟩ := TC.out _ (HB.out.trans hb)
    have HB2 := Lib.hid (TB.out.trans (HB.out.trans hb))
    clear hb
    go_wp2
    exact bodyPost_ret (v := .tuple #[.agg #[.int .i64 P, .slice p L c], .int .i64 1]) (by simp [results, Try.results26, go_sem, e0, e1]) rfl ⟨rfl, off_two HB2.out (by omega)⟩
theorem rappend_in (P : Nat) (p : Option Addr) (L c : Nat) (ls : Ls) (t x s : Nat) (w : World) (hR : RefIn nof w p L ls) (hP : P ≤ 1024) (hL : L ≤ 1024) (hg : Good P L ls) (ht : t < L) (hx : x < P) (hs : s < L) (hi : x ∈ ls s) :
    Calls Try.prog 26 #[rv P p L c, .int .i64 t, .int .i64 x] w fun e w' => e = .returned (.tuple #[rv P p L c, .int .i64 4]) ∧ Bel w w' := by
  have K1 := Lib.hid (rhas_any P p L c t)
  have K2 := Lib.hid (ris_any P p L c x)
  have K3 := Lib.hid (fun w' (h : Bel w w') => rwhich_in P p L c ls x s w' (hR.bel h) hP hL hg hs hi)
  rw [hp_yes ht] at K1
  rw [hp_yes hx] at K2
  have TC := Lib.hid (two_cells w P p L c)
  have TB := Lib.hid (two_bel w P p L c)
  unfold rv two at *
  clear hR hg hi
  go_enter Try.func26, Try.ntmps26
  go_wp2_with fail
  with_reducible refine (K1.out _).mono ?_
  rintro e w1 ⟨rfl, hb⟩
  obtain ⟨⟨d0, d1⟩, _⟩ := TC.out _ hb
  have HB := Lib.hid hb
  clear hb
  go_wp2_with fail
  with_reducible refine (K2.out _).mono ?_
  rintro e w2 ⟨rfl, hb⟩
  clear d0 d1
  obtain ⟨⟨d0, d1⟩, _⟩ := TC.out _ (HB.out.trans hb)
  have HB2 := Lib.hid (HB.out.trans hb)
  clear hb
  go_wp2_with fail
  with_reducible refine (K3.out _ (TB.out.trans HB2.out)).mono ?_
  rintro e w3 ⟨rfl, hb⟩
  clear d0 d1
  obtain ⟨⟨d0, d1⟩, ⟨e0, e1⟩, ⟨g0, g1⟩, hz⟩ := TC.out _ (HB2.out.trans hb)
  have HB3 := Lib.hid (TB.out.trans (HB2.out.trans hb))
  clear hb
  go_wp2
  exact bodyPost_ret (v := .tuple #[.agg #[.int .i64 P, .slice p L c], .int .i64 4]) (by simp [results, Try.results26, go_sem, e0, e1]) rfl ⟨rfl, off_two HB3.out (by omega)⟩
theorem lies_one (w : World) (x B : Nat) (hB : w.heap.size = B) : Lies (fun k => k < B) (w.alloc (.cells #[.int .i64 x] 3)) (some ⟨B, 0, none⟩) (encI [x]) := by
  subst hB
  refine .inr ⟨_, _, rfl, fun e => by omega, fun j u hu => ?_⟩
  have hj : j < 1 := by have := (List.getElem?_eq_some_iff.1 hu).1; rw [encI_len] at this; simpa using this
  obtain rfl : j = 0 := by omega
  have e : u = .int .i64 x := by simpa [encI] using hu.symm
  rw [e]
  simp [go_sem]
end Go.Proofs.Ytdeiknfaehpheaa
