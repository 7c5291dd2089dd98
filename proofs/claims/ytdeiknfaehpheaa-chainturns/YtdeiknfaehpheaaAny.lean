/-
  What the program's chains and the document's tell of a number: the same.
-/
import Derived.Test.YtdeiknfaehpheaaBoth
namespace Go.Proofs.Ytdeiknfaehpheaa
open Go.RowKit
/-- Those of a list; none, if there is no such list. -/
def allL (L : Nat) (ls : Ls) (x : Int) : List Nat := if hp L x = true then ls x.toNat else []
theorem allL_no {L : Nat} {ls : Ls} {x : Int} (h : hp L x = false) : allL L ls x = [] := by unfold allL; rw [h]; rfl
theorem allL_yes {L : Nat} {ls : Ls} {t : Nat} (h : t < L) : allL L ls t = ls t := by unfold allL; rw [hp_yes h]; simp
theorem allL_len {P L : Nat} {ls : Ls} (h : Good P L ls) (x : Int) : (allL L ls x).length ≤ P := by
  cases hb : hp L x with
  | false => rw [allL_no hb]; simp
  | true =>
    obtain ⟨t, rfl, ht⟩ := hp_nat hb
    rw [allL_yes ht]
    exact h.len ht
theorem all_any (B G P L : Nat) (ls : Ls) (x : Int) (w : World) (h : Ch w B G P L ls) :
    Calls Try.prog 12 #[.pointer (some ⟨B, 0, none⟩), .int .i64 x] w fun e w' => ∃ q k, e = .returned (.slice q (allL L ls x).length k) ∧ (allL L ls x).length ≤ k ∧ Lies (old w) w' q (encI (allL L ls x)) ∧ Bel w w' := by
  obtain ⟨⟨g, h1, h2⟩, h3, h4⟩ := h
  cases hb : hp L x with
  | false =>
    rw [allL_no hb]
    exact (all_no B G P L g x w h1 h3 h4 hb).mono fun e w' ⟨he, hb⟩ => ⟨none, 0, he, Nat.le_refl _, .inl rfl, hb⟩
  | true =>
    obtain ⟨t, rfl, ht⟩ := hp_nat hb
    rw [allL_yes ht]
    exact all_yes B G P L g t (ls t) w h1 h3 h4 ht (h2.nd t ht) (h2.pl t ht) (h2.fwd ht)
theorem rall_any (P : Nat) (p : Option Addr) (L c : Nat) (ls : Ls) (x : Int) (w : World) (hR : RefIn nof w p L ls) (hL : L ≤ 1024) :
    Calls Try.prog 47 #[rv P p L c, .int .i64 x] w fun e w' => ∃ q k, e = .returned (.slice q (allL L ls x).length k) ∧ (allL L ls x).length ≤ k ∧ Lies nof w' q (encI (allL L ls x)) ∧ Bel w w' := by
  cases hb : hp L x with
  | false =>
    rw [allL_no hb]
    exact (rall_no P p L c x w hb).mono fun e w' ⟨he, hb⟩ => ⟨none, 0, he, Nat.le_refl _, .inl rfl, hb⟩
  | true =>
    obtain ⟨t, rfl, ht⟩ := hp_nat hb
    rw [allL_yes ht]
    exact rall_yes P p L c ls t w hR ht hL
theorem first_any (B G P L : Nat) (ls : Ls) (x : Int) (w : World) (h : Ch w B G P L ls) :
    Calls Try.prog 13 #[.pointer (some ⟨B, 0, none⟩), .int .i64 x] w fun e w' => e = .returned (ans (allL L ls x).head?) ∧ Bel w w' := by
  obtain ⟨⟨g, h1, h2⟩, h3, h4⟩ := h
  cases hb : hp L x with
  | false =>
    rw [allL_no hb]
    exact first_no B G P L g x w h1 h3 h4 hb
  | true =>
    obtain ⟨t, rfl, ht⟩ := hp_nat hb
    rw [allL_yes ht]
    exact first_yes B G P L g t (ls t) w h1 h3 h4 ht (h2.nd t ht) (h2.pl t ht) (h2.fwd ht)
theorem nodup_rev {l : List Nat} (h : l.Nodup) : l.reverse.Nodup := (List.reverse_perm l).nodup_iff.2 h
theorem last_any (B G P L : Nat) (ls : Ls) (x : Int) (w : World) (h : Ch w B G P L ls) :
    Calls Try.prog 16 #[.pointer (some ⟨B, 0, none⟩), .int .i64 x] w fun e w' => e = .returned (ans (allL L ls x).getLast?) ∧ Bel w w' := by
  obtain ⟨⟨g, h1, h2⟩, h3, h4⟩ := h
  cases hb : hp L x with
  | false =>
    rw [allL_no hb]
    exact last_no B G P L g x w h1 h3 h4 hb
  | true =>
    obtain ⟨t, rfl, ht⟩ := hp_nat hb
    rw [allL_yes ht, ← List.head?_reverse]
    exact last_yes B G P L g t (ls t).reverse w h1 h3 h4 ht (nodup_rev (h2.nd t ht)) (fun y hy => h2.pl t ht y (List.mem_reverse.1 hy)) (h2.bwd ht)
/-- What stands behind, ahead, and in which list. -/
structure Tell (P L : Nat) (ls : Ls) (x : Int) (nx pv wh : Option Nat) : Prop where
  no : hp P x = false → nx = none ∧ pv = none ∧ wh = none
  out : ∀ i : Nat, x = i → i < P → (∀ t, t < L → i ∉ ls t) → nx = none ∧ pv = none ∧ wh = none
  inn : ∀ (i t : Nat) (a b : List Nat), x = i → t < L → ls t = a ++ i :: b → nx = b.head? ∧ pv = a.getLast? ∧ wh = some t
theorem tell_ex {P L : Nat} {ls : Ls} (hg : Good P L ls) (x : Int) : ∃ nx pv wh, Tell P L ls x nx pv wh := by
  cases hb : hp P x with
  | false =>
    refine ⟨none, none, none, fun _ => ⟨rfl, rfl, rfl⟩, fun _ _ _ _ => ⟨rfl, rfl, rfl⟩, fun i t a b hx ht hl => ?_⟩
    have := hp_yes (hg.pl t ht i (by rw [hl]; simp))
    rw [hx, this] at hb
    cases hb
  | true =>
    obtain ⟨i, rfl, hi⟩ := hp_nat hb
    by_cases hj : ∃ s, s < L ∧ i ∈ ls s
    · obtain ⟨s, hs, hj⟩ := hj
      obtain ⟨a, b, hl⟩ := List.append_of_mem hj
      refine ⟨b.head?, a.getLast?, some s, fun h => (by rw [hb] at h; cases h), fun k hk _ hn => ?_, fun k t a2 b2 hk ht hl2 => ?_⟩
      · obtain rfl : k = i := by omega
        exact absurd hj (hn s hs)
      · obtain rfl : k = i := by omega
        obtain rfl : t = s := hg.one t s k ht hs (by rw [hl2]; simp) hj
        have hnd := hg.nd t ht
        rw [hl] at hl2 hnd
        have key : a = a2 ∧ b = b2 := by
          have n1 : k ∉ a := fun e => (List.nodup_append.1 hnd).2.2 k e k (by simp) rfl
          rw [hl2] at hnd
          have n2 : k ∉ a2 := fun e => (List.nodup_append.1 hnd).2.2 k e k (by simp) rfl
          have hlen : a.length = a2.length := by
            rcases Nat.lt_trichotomy a.length a2.length with h | h | h
            · exfalso
              have h1 : (a ++ k :: b)[a.length]? = some k := by simp
              rw [hl2, List.getElem?_append_left h] at h1
              exact n2 (List.mem_of_getElem? h1)
            · exact h
            · exfalso
              have h1 : (a2 ++ k :: b2)[a2.length]? = some k := by simp
              rw [← hl2, List.getElem?_append_left h] at h1
              exact n1 (List.mem_of_getElem? h1)
          have h3 := List.append_inj hl2 hlen
          exact ⟨h3.1, by have := h3.2; simpa using this⟩
        rw [key.1, key.2]
        exact ⟨rfl, rfl, rfl⟩
    · have hj2 : ∀ s, s < L → i ∉ ls s := fun s hs h => hj ⟨s, hs, h⟩
      refine ⟨none, none, none, fun _ => ⟨rfl, rfl, rfl⟩, fun _ _ _ _ => ⟨rfl, rfl, rfl⟩, fun k t a b hk ht hl => ?_⟩
      obtain rfl : k = i := by omega
      exact absurd (by rw [hl]; simp) (hj2 t ht)
theorem tell_cases {P L : Nat} {ls : Ls} {x : Int} {nx pv wh : Option Nat} (h : Tell P L ls x nx pv wh) : (hp P x = false ∧ nx = none ∧ pv = none ∧ wh = none) ∨
    (∃ i : Nat, x = i ∧ i < P ∧ (∀ t, t < L → i ∉ ls t) ∧ nx = none ∧ pv = none ∧ wh = none) ∨ (∃ (i t : Nat) (a b : List Nat), x = i ∧ i < P ∧ t < L ∧ ls t = a ++ i :: b ∧ nx = b.head? ∧ pv = a.getLast? ∧ wh = some t) := by
  cases hb : hp P x with
  | false => exact .inl ⟨rfl, h.no hb⟩
  | true =>
    obtain ⟨i, rfl, hi⟩ := hp_nat hb
    by_cases hj : ∃ s, s < L ∧ i ∈ ls s
    · obtain ⟨s, hs, hj⟩ := hj
      obtain ⟨a, b, hl⟩ := List.append_of_mem hj
      exact .inr (.inr ⟨i, s, a, b, rfl, hi, hs, hl, h.inn i s a b rfl hs hl⟩)
    · have hj2 : ∀ s, s < L → i ∉ ls s := fun s hs h => hj ⟨s, hs, h⟩
      exact .inr (.inl ⟨i, rfl, hi, hj2, h.out i rfl hi hj2⟩)
theorem next_any (B G P L : Nat) (ls : Ls) (x : Int) (nx pv wh : Option Nat) (w : World) (h : Ch w B G P L ls) (ht : Tell P L ls x nx pv wh) :
    Calls Try.prog 15 #[.pointer (some ⟨B, 0, none⟩), .int .i64 x] w fun e w' => e = .returned (ans nx) ∧ Bel w w' := by
  obtain ⟨⟨g, h1, h2⟩, h3, h4⟩ := h
  rcases tell_cases ht with ⟨hb, rfl, _, _⟩ | ⟨i, rfl, hi, hn, rfl, _, _⟩ | ⟨i, t, a, b, rfl, hi, hlt, hl, rfl, _, _⟩
  · exact next_no B G P L g x w h1 hb
  · exact next_yes B G P L g i [] w h1 h3 h4 hi List.nodup_nil (by simp) (Rep.alone (h2.al i hi hn)).1
  · have hnd := h2.nd t hlt
    have hpl := h2.pl t hlt
    rw [hl] at hnd hpl
    exact next_yes B G P L g i b w h1 h3 h4 hi (List.nodup_cons.1 (List.nodup_append.1 hnd).2.1).2 (fun y hy => hpl y (by simp [hy])) (h2.next hlt hl)
theorem prev_any (B G P L : Nat) (ls : Ls) (x : Int) (nx pv wh : Option Nat) (w : World) (h : Ch w B G P L ls) (ht : Tell P L ls x nx pv wh) :
    Calls Try.prog 17 #[.pointer (some ⟨B, 0, none⟩), .int .i64 x] w fun e w' => e = .returned (ans pv) ∧ Bel w w' := by
  obtain ⟨⟨g, h1, h2⟩, h3, h4⟩ := h
  rcases tell_cases ht with ⟨hb, _, rfl, _⟩ | ⟨i, rfl, hi, hn, _, rfl, _⟩ | ⟨i, t, a, b, rfl, hi, hlt, hl, _, rfl, _⟩
  · exact prev_no B G P L g x w h1 hb
  · exact prev_yes B G P L g i [] w h1 h3 h4 hi List.nodup_nil (by simp) (Rep.alone (h2.al i hi hn)).2
  · have hnd := h2.nd t hlt
    have hpl := h2.pl t hlt
    rw [hl] at hnd hpl
    rw [← List.head?_reverse]
    exact prev_yes B G P L g i a.reverse w h1 h3 h4 hi (nodup_rev (List.nodup_append.1 hnd).1) (fun y hy => hpl y (by simp [List.mem_reverse.1 hy])) (h2.prev hlt hl)
theorem which_any (B G P L : Nat) (ls : Ls) (x : Int) (nx pv wh : Option Nat) (w : World) (h : Ch w B G P L ls) (ht : Tell P L ls x nx pv wh) :
    Calls Try.prog 14 #[.pointer (some ⟨B, 0, none⟩), .int .i64 x] w fun e w' => e = .returned (ans wh) ∧ Bel w w' := by
  obtain ⟨⟨g, h1, h2⟩, h3, h4⟩ := h
  rcases tell_cases ht with ⟨hb, _, _, rfl⟩ | ⟨i, rfl, hi, hn, _, _, rfl⟩ | ⟨i, t, a, b, rfl, hi, hlt, hl, _, _, rfl⟩
  · exact which_no B G P L g x w h1 hb
  · exact which_none B G P L g i w h1 h3 h4 hi (by rw [h2.al i hi hn])
  · exact which_some B G P L g i t w h1 h3 h4 hi (h2.li t hlt i (by rw [hl]; simp))
theorem not_place {P L : Nat} {ls : Ls} (hg : Good P L ls) {x : Int} (hb : hp P x = false) : ∀ t, t < L → ∀ z ∈ ls t, ¬ (z : Int) = x := fun t ht z hz e => by
  have := hp_yes (hg.pl t ht z hz)
  rw [e, hb] at this
  cases this
theorem rnext_any (P : Nat) (p : Option Addr) (L c : Nat) (ls : Ls) (x : Int) (nx pv wh : Option Nat) (w : World) (hR : RefIn nof w p L ls) (hP : P ≤ 1024) (hL : L ≤ 1024) (hg : Good P L ls) (ht : Tell P L ls x nx pv wh) :
    Calls Try.prog 48 #[rv P p L c, .int .i64 x, .int .i64 1] w fun e w' => e = .returned (ans nx) ∧ Bel w w' := by
  rcases tell_cases ht with ⟨hb, rfl, _, _⟩ | ⟨i, rfl, hi, hn, rfl, _, _⟩ | ⟨i, t, a, b, rfl, hi, hlt, hl, rfl, _, _⟩
  · exact beside_out P p L c ls x 1 w hR hP hL hg (not_place hg hb)
  · exact beside_out P p L c ls i 1 w hR hP hL hg (not_in hn)
  · have K := beside_in P p L c ls a b i t 1 w hR hP hL hg hlt hl (.inl rfl)
    rw [hl, bes_next] at K
    exact K
theorem rprev_any (P : Nat) (p : Option Addr) (L c : Nat) (ls : Ls) (x : Int) (nx pv wh : Option Nat) (w : World) (hR : RefIn nof w p L ls) (hP : P ≤ 1024) (hL : L ≤ 1024) (hg : Good P L ls) (ht : Tell P L ls x nx pv wh) :
    Calls Try.prog 48 #[rv P p L c, .int .i64 x, .int .i64 (-1)] w fun e w' => e = .returned (ans pv) ∧ Bel w w' := by
  rcases tell_cases ht with ⟨hb, _, rfl, _⟩ | ⟨i, rfl, hi, hn, _, rfl, _⟩ | ⟨i, t, a, b, rfl, hi, hlt, hl, _, rfl, _⟩
  · exact beside_out P p L c ls x (-1) w hR hP hL hg (not_place hg hb)
  · exact beside_out P p L c ls i (-1) w hR hP hL hg (not_in hn)
  · have K := beside_in P p L c ls a b i t (-1) w hR hP hL hg hlt hl (.inr rfl)
    rw [hl, bes_prev] at K
    exact K
/-- The list, or -1. -/
def wv : Option Nat → Int
  | some t => t
  | none => -1
theorem rwh_any (P : Nat) (p : Option Addr) (L c : Nat) (ls : Ls) (x : Int) (nx pv wh : Option Nat) (w : World) (hR : RefIn nof w p L ls) (hP : P ≤ 1024) (hL : L ≤ 1024) (hg : Good P L ls) (ht : Tell P L ls x nx pv wh) :
    Calls Try.prog 44 #[rv P p L c, .int .i64 x] w fun e w' => e = .returned (.int .i64 (wv wh)) ∧ Bel w w' := by
  rcases tell_cases ht with ⟨hb, _, _, rfl⟩ | ⟨i, rfl, hi, hn, _, _, rfl⟩ | ⟨i, t, a, b, rfl, hi, hlt, hl, _, _, rfl⟩
  · exact rwhich_out P p L c ls x w hR hP hL hg (not_place hg hb)
  · exact rwhich_out P p L c ls i w hR hP hL hg (not_in hn)
  · exact rwhich_in P p L c ls i t w hR hP hL hg hlt (by rw [hl]; simp)
end Go.Proofs.Ytdeiknfaehpheaa
