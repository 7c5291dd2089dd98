/-
  Which timers lie at which places of which lists, as plain mathematics; and the same in memory.
  The library's slices.SortFunc (at timers) at this program's own numbers: what their contracts ask of it.
  Contracts of slices.IsSortedFunc at timers, and of order.Sorted.
  Contracts of slices.SortFunc at timers and of order.Sort.
  Contracts of a queue of places: Get, put, take, in, pending, Len, All.
-/
import Derived.Test.YtdoceldofkaapaaGreatDoorXan
import Derived.Shelf.SlSortCmp.NoneTotal
import Derived.Test.YtdoceldofkaapaaGreatDoorProg
import Derived.Test.YtdoceldofkaapaaGreatDoorXac
import Derived.Test.YtdoceldofkaapaaGreatDoorXad
import Derived.Test.YtdoceldofkaapaaGreatDoorXae
import Derived.BigRegion
set_option linter.unusedVariables false
set_option linter.unusedSimpArgs false
namespace Go.Proofs.YtdoceldofkaapaaGreatDoor
open Go.RowKit
/-- The timers l, in order, lie in the lists that lo tells. -/
structure Is (P L : Nat) (lo : T → Nat) (ls : Ls) (r : Nat → T) (l : List T) : Prop where
  tm : ∀ x ∈ l, x.p = pl x ∧ pl x < P ∧ r (pl x) = x ∧ lo x < L ∧ pl x ∈ ls (lo x)
  al : ∀ t, t < L → ∀ i ∈ ls t, ∃ x ∈ l, pl x = i ∧ lo x = t
  nd : (pls l).Nodup
  so : So l
section
variable {P L : Nat} {lo : T → Nat} {ls : Ls} {r : Nat → T} {l : List T}
theorem Is.lt (h : Is P L lo ls r l) : ∀ y ∈ pls l, y < P := by
  intro y hy
  obtain ⟨x, hx, rfl⟩ := List.mem_map.1 hy
  exact (h.tm x hx).2.1
theorem Is.len (h : Is P L lo ls r l) : l.length ≤ P := by
  have := nodup_len P _ h.nd h.lt
  simpa [pls] using this
theorem Is.same (h : Is P L lo ls r l) {x y : T} (hx : x ∈ l) (hy : y ∈ l) (e : pl x = pl y) : x = y := by
  rw [← (h.tm x hx).2.2.1, e, (h.tm y hy).2.2.1]
theorem Is.inn (h : Is P L lo ls r l) {k : Nat} {x : T} (hf : fnd l k = some x) : k < P ∧ r k = x ∧ lo x < L ∧ k ∈ ls (lo x) := by
  obtain ⟨h1, h2⟩ := fnd_some hf
  obtain ⟨_, h4, h5, h6, h7⟩ := h.tm x h1
  have e : pl x = k := by unfold pl; rw [h2]; simp
  rw [e] at h4 h5 h7
  exact ⟨h4, h5, h6, h7⟩
theorem Is.out (h : Is P L lo ls r l) {k : Nat} (hf : fnd l k = none) : ∀ t, t < L → k ∉ ls t := by
  intro t ht hm
  obtain ⟨x, hx, e, _⟩ := h.al t ht k hm
  exact fnd_none hf x hx (by rw [(h.tm x hx).1, e])
theorem Is.outside (h : Is P L lo ls r l) {k : Int} (hk : hp P k = false) : fnd l k = none := by
  cases e : fnd l k with
  | none => rfl
  | some t =>
    obtain ⟨h1, h2⟩ := fnd_some e
    obtain ⟨h3, h4, _⟩ := h.tm t h1
    rw [← h2, h3, hp_yes h4] at hk
    cases hk
theorem Is.find (h : Is P L lo ls r l) {x : T} (hx : x ∈ l) : fnd l (pl x) = some x := by
  cases e : fnd l (pl x) with
  | none => exact absurd (h.tm x hx).1 (fnd_none e x hx)
  | some y =>
    obtain ⟨h1, h2⟩ := fnd_some e
    rw [h.same h1 hx (by have := (h.tm y h1).1; omega)]
theorem Is.putm (h : Is P L lo ls r l) {x : T} {k t : Nat} {a b : List Nat} (e : x.p = k) (hk : k < P) (hf : fnd l k = none) (hlo : lo x = t) (ht : t < L) (hl : ls t = a ++ b) : Is P L lo (upd ls t (a ++ k :: b)) (upT r k x) (put l x) := by
  have ek : pl x = k := by unfold pl; rw [e]; simp
  have hn : ∀ y ∈ l, pl y ≠ k := fun y hy e2 => fnd_none hf y hy (by rw [(h.tm y hy).1, e2])
  have hm : ∀ y, y ∈ put l x ↔ y = x ∨ y ∈ l := fun y => by rw [(put_perm l x).mem_iff]; simp
  refine ⟨fun y hy => ?_, fun t2 ht2 i hi => ?_, ?_, put_so h.so x⟩
  · rcases (hm y).1 hy with rfl | hy
    · refine ⟨by omega, by omega, ?_, by omega, ?_⟩
      · unfold upT; rw [if_pos ek]
      · rw [hlo, ek, upd_same]; simp
    · obtain ⟨h1, h2, h3, h4, h5⟩ := h.tm y hy
      refine ⟨h1, h2, ?_, h4, ?_⟩
      · unfold upT; rw [if_neg (hn y hy)]; exact h3
      · by_cases e3 : lo y = t
        · rw [e3, upd_same]
          rw [e3, hl] at h5
          rcases List.mem_append.1 h5 with h6 | h6
          · simp [h6]
          · simp [h6]
        · rw [upd_other _ _ e3]; exact h5
  · by_cases e3 : t2 = t
    · subst e3
      rw [upd_same] at hi
      have hi2 : i = k ∨ i ∈ ls t2 := by
        rw [hl]
        rcases List.mem_append.1 hi with hi | hi
        · exact .inr (by simp [hi])
        · rcases List.mem_cons.1 hi with hi | hi
          · exact .inl hi
          · exact .inr (by simp [hi])
      rcases hi2 with rfl | hi
      · exact ⟨x, (hm x).2 (.inl rfl), ek, hlo⟩
      · obtain ⟨y, hy, h1, h2⟩ := h.al t2 ht2 i hi
        exact ⟨y, (hm y).2 (.inr hy), h1, h2⟩
    · rw [upd_other _ _ e3] at hi
      obtain ⟨y, hy, h1, h2⟩ := h.al t2 ht2 i hi
      exact ⟨y, (hm y).2 (.inr hy), h1, h2⟩
  · have p : (pls (put l x)).Perm (pl x :: pls l) := (put_perm l x).map pl
    rw [p.nodup_iff, List.nodup_cons, ek]
    refine ⟨fun e2 => ?_, h.nd⟩
    obtain ⟨y, hy, h1⟩ := List.mem_map.1 e2
    exact hn y hy h1
theorem Is.putx (h : Is P L lo ls r l) {x : T} {k t : Nat} (e : x.p = k) (hk : k < P) (hf : fnd l k = none) (hlo : lo x = t) (ht : t < L) : Is P L lo (upd ls t (ls t ++ [k])) (upT r k x) (put l x) :=
  h.putm (a := ls t) (b := []) e hk hf hlo ht (by simp)
theorem Is.drop (h : Is P L lo ls r l) {x z : T} {k : Nat} {a b : List Nat} (hf : fnd l k = some x) (hnd : (ls (lo x)).Nodup) (hl : ls (lo x) = a ++ k :: b) : Is P L lo (upd ls (lo x) (a ++ b)) (upT r k z) (wo l k) := by
  obtain ⟨hx, hp⟩ := fnd_some hf
  obtain ⟨hk, _, hL, hm⟩ := h.inn hf
  have ek : pl x = k := by unfold pl; rw [hp]; simp
  have hw : ∀ y, y ∈ wo l k ↔ y ∈ l ∧ pl y ≠ k := fun y => by
    unfold wo
    rw [List.mem_filter]
    constructor
    · rintro ⟨h1, h2⟩
      have := (h.tm y h1).1
      simp at h2
      exact ⟨h1, fun e => h2 (by omega)⟩
    · rintro ⟨h1, h2⟩
      have := (h.tm y h1).1
      refine ⟨h1, ?_⟩
      simp
      omega
  have hnk : k ∉ a ∧ k ∉ b := by
    rw [hl] at hnd
    have h1 := List.nodup_append.1 hnd
    have h2 := (List.nodup_cons.1 h1.2.1).1
    exact ⟨fun e => h1.2.2 k e k (by simp) rfl, h2⟩
  refine ⟨fun y hy => ?_, fun t ht i hi => ?_, ?_, wo_so h.so k⟩
  · obtain ⟨hy1, hy2⟩ := (hw y).1 hy
    obtain ⟨h1, h2, h3, h4, h5⟩ := h.tm y hy1
    refine ⟨h1, h2, ?_, h4, ?_⟩
    · unfold upT; rw [if_neg hy2]; exact h3
    · by_cases e : lo y = lo x
      · rw [e, upd_same]
        rw [e, hl] at h5
        simp only [List.mem_append, List.mem_cons] at h5 ⊢
        rcases h5 with h5 | h5 | h5
        · exact .inl h5
        · exact absurd h5 hy2
        · exact .inr h5
      · rw [upd_other _ _ e]; exact h5
  · by_cases e : t = lo x
    · subst e
      rw [upd_same] at hi
      have hi2 : i ∈ ls (lo x) ∧ i ≠ k := by
        rw [hl]
        rcases List.mem_append.1 hi with q | q
        · exact ⟨by simp [q], fun e => hnk.1 (e ▸ q)⟩
        · exact ⟨by simp [q], fun e => hnk.2 (e ▸ q)⟩
      obtain ⟨y, hy, h1, h2⟩ := h.al _ ht i hi2.1
      exact ⟨y, (hw y).2 ⟨hy, by rw [h1]; exact hi2.2⟩, h1, h2⟩
    · rw [upd_other _ _ e] at hi
      obtain ⟨y, hy, h1, h2⟩ := h.al t ht i hi
      refine ⟨y, (hw y).2 ⟨hy, fun e2 => e ?_⟩, h1, h2⟩
      rw [← h2, h.same hy hx (by rw [e2, ek])]
  · exact h.nd.sublist ((List.filter_sublist (l := l)).map pl)
theorem Is.mem_list (hi : Is P L lo ls r l) {t : Nat} (ht : t < L) (y : T) : y ∈ (ls t).map r ↔ y ∈ l ∧ lo y = t := by
  rw [List.mem_map]
  constructor
  · rintro ⟨i, h1, h2⟩
    obtain ⟨x, hx, e, e2⟩ := hi.al t ht i h1
    have := (hi.tm x hx).2.2.1
    rw [e, h2] at this
    rw [this]
    exact ⟨hx, e2⟩
  · rintro ⟨h1, h2⟩
    obtain ⟨_, _, h3, _, h4⟩ := hi.tm y h1
    rw [h2] at h4
    exact ⟨pl y, h4, h3⟩
/-- Other lists of the same timers' places, by another way to tell them. -/
theorem Is.other (h : Is P L lo ls r l) {lo' : T → Nat} (he : ∀ x ∈ l, lo' x = lo x) : Is P L lo' ls r l :=
  ⟨fun x hx => by rw [he x hx]; exact h.tm x hx, fun t ht i hi => by obtain ⟨x, hx, h1, h2⟩ := h.al t ht i hi; exact ⟨x, hx, h1, by rw [he x hx]; exact h2⟩, h.nd, h.so⟩
end
/-- A queue of places in memory: the timers l lie in the lists ls. -/
structure Qp (w : World) (Z B G R P L : Nat) (lo : T → Nat) (ls : Ls) (r : Nat → T) (l : List T) : Prop where
  ex : ∃ g, Que w Z B G R P L g r ∧ Rep P L g ls
  is : Is P L lo ls r l
  hP : P ≤ 1024
  hL : L ≤ 300
section
variable {w w' : World} {Z B G R P L : Nat} {lo : T → Nat} {ls : Ls} {r : Nat → T} {l : List T}
theorem Qp.bel (q : Qp w Z B G R P L lo ls r l) (k : Bel w w') : Qp w' Z B G R P L lo ls r l := by
  obtain ⟨⟨g, q1, q2⟩, q3, q4, q5⟩ := q
  exact ⟨⟨g, q1.bel k, q2⟩, q3, q4, q5⟩
theorem Qp.off {f : Nat → Prop} (q : Qp w Z B G R P L lo ls r l) (k : Off f w w') (hq : ¬ f Z) (hb : ¬ f B) (hg : ¬ f G) (hr : ¬ f R) : Qp w' Z B G R P L lo ls r l := by
  obtain ⟨⟨g, q1, q2⟩, q3, q4, q5⟩ := q
  exact ⟨⟨g, q1.off k hq hb hg hr, q2⟩, q3, q4, q5⟩
theorem Qp.cell (q : Qp w Z B G R P L lo ls r l) {i : Nat} {v : Value} (hv : (zcells B R P)[i]? = some v) : w.cell? ⟨Z, i, none⟩ = some v := by
  obtain ⟨⟨g, q1, q2⟩, _⟩ := q
  exact q1.cell hv
theorem Qp.froz (q : Qp w Z B G R P L lo ls r l) (j : Nat) : w.frozen? ⟨Z, j, none⟩ = false := by
  obtain ⟨⟨g, q1, q2⟩, _⟩ := q
  exact q1.froz j
theorem Qp.head (q : Qp w Z B G R P L lo ls r l) : w.cell? ⟨Z, 0, none⟩ = some (.pointer (some ⟨B, 0, none⟩)) ∧ w.cell? ⟨Z, 1, none⟩ = some (.slice (some ⟨R, 0, none⟩) P P) := ⟨q.cell rfl, q.cell rfl⟩
theorem Qp.at (q : Qp w Z B G R P L lo ls r l) {i : Nat} (hi : i < P) : (w.cell? ⟨R, i * 3, none⟩ = some (.int .u64 (r i).a) ∧ w.cell? ⟨R, i * 3 + 1, none⟩ = some (.int .u64 (r i).s) ∧ w.cell? ⟨R, i * 3 + 2, none⟩ = some (.int .i64 (r i).p)) ∧
    (∀ j, w.frozen? ⟨R, j, none⟩ = false) := by
  obtain ⟨⟨g, q1, q2⟩, _⟩ := q
  exact q1.at hi
theorem Qp.lt (q : Qp w Z B G R P L lo ls r l) : Z < w.heap.size ∧ B < w.heap.size ∧ G < w.heap.size ∧ R < w.heap.size := by
  obtain ⟨⟨g, q1, q2⟩, _⟩ := q
  exact ⟨q1.ltZ, q1.ch.ltB, q1.ch.ltG, q1.ltR⟩
theorem Qp.ne (q : Qp w Z B G R P L lo ls r l) : ¬ Z = B ∧ ¬ Z = G ∧ ¬ Z = R ∧ ¬ B = G ∧ ¬ B = R ∧ ¬ G = R := by
  obtain ⟨⟨g, q1, q2⟩, _⟩ := q
  exact ⟨q1.nZB, q1.nZG, q1.nZR, q1.ch.ne, q1.nBR, q1.nGR⟩
def Fo2 (G R : Nat) : Nat → Prop := fun k => k = G ∨ k = R
theorem Qp.rep (q : Qp w Z B G R P L lo ls r l) {t : Nat} (ht : t < L) : (ls t).Nodup ∧ (∀ i ∈ ls t, i < P) := by
  obtain ⟨⟨g, q1, q2⟩, q3, q4, q5⟩ := q
  exact ⟨q2.nd t ht, q2.pl t ht⟩
theorem Qp.lslen (q : Qp w Z B G R P L lo ls r l) {t : Nat} (ht : t < L) : (ls t).length ≤ 1024 := by
  obtain ⟨h1, h2⟩ := q.rep ht
  exact Nat.le_trans (nodup_len P _ h1 h2) q.hP
end
/-! What the lists answer. -/
section
variable {w : World} {Z B G R P L : Nat} {lo : T → Nat} {ls : Ls} {r : Nat → T} {l : List T}
theorem which_qp (q : Qp w Z B G R P L lo ls r l) (k : Int) :
    Calls Tryz.prog 48 #[.pointer (some ⟨B, 0, none⟩), .int .i64 k] w fun e w' => (∃ t : Nat, e = .returned (.tuple #[.int .i64 t, .bool (fnd l k).isSome])) ∧ Bel w w' := by
  obtain ⟨⟨g, q1, q2⟩, hi, hP, hL⟩ := q
  cases hk : hp P k with
  | false =>
    rw [hi.outside hk]
    exact (which_no B G P L g k w q1.ch hk).mono fun e w' ⟨h1, h2⟩ => ⟨⟨0, h1⟩, h2⟩
  | true =>
    obtain ⟨k, rfl, hk2⟩ := hp_nat hk
    cases hf : fnd l k with
    | none => exact (which_none B G P L g k w q1.ch hP (by omega) hk2 (by rw [q2.al k hk2 (hi.out hf)])).mono fun e w' ⟨h1, h2⟩ => ⟨⟨0, h1⟩, h2⟩
    | some x =>
      obtain ⟨h1, h2, h3, h4⟩ := hi.inn hf
      exact (which_some B G P L g k (lo x) w q1.ch hP (by omega) hk2 (q2.li _ h3 k h4)).mono fun e w' ⟨h1, h2⟩ => ⟨⟨_, h1⟩, h2⟩
theorem first_qp (q : Qp w Z B G R P L lo ls r l) {t : Nat} (ht : t < L) :
    Calls Tryz.prog 130 #[.pointer (some ⟨B, 0, none⟩), .int .i64 t] w fun e w' => e = .returned (ans (ls t).head?) ∧ Bel w w' := by
  obtain ⟨⟨g, q1, q2⟩, hi, hP, hL⟩ := q
  exact first_yes B G P L g t (ls t) w q1.ch hP (by omega) ht (q2.nd t ht) (q2.pl t ht) (q2.fwd ht)
theorem places_qp (q : Qp w Z B G R P L lo ls r l) {t : Nat} (ht : t < L) :
    Calls Tryz.prog 86 #[.pointer (some ⟨B, 0, none⟩), .int .i64 t] w fun e w' => ∃ p c, e = .returned (.slice p (ls t).length c) ∧ (ls t).length ≤ c ∧ Lies (old w) w' p (encI (ls t)) ∧ Bel w w' := by
  obtain ⟨⟨g, q1, q2⟩, hi, hP, hL⟩ := q
  exact all_yes B G P L g t (ls t) w q1.ch hP (by omega) ht (q2.nd t ht) (q2.pl t ht) (q2.fwd ht)
theorem append_qp_no (q : Qp w Z B G R P L lo ls r l) {t : Nat} (ht : t < L) {x : T} (hn : ¬ insE P l x = 0) :
    Calls Tryz.prog 109 #[.pointer (some ⟨B, 0, none⟩), .int .i64 t, .int .i64 x.p] w fun e w' => e = .returned (.int .i64 (insE P l x)) ∧ Bel w w' := by
  obtain ⟨⟨g, q1, q2⟩, hi, hP, hL⟩ := q
  rcases insE_cases P l x with ⟨e, hk⟩ | ⟨k, e, hk, (⟨e2, y, hf⟩ | ⟨e2, hf⟩)⟩
  · rw [e]
    exact append_arg B G P L g t x.p w q1.ch hP (by omega) (by rw [hk]; simp)
  · rw [e2, e]
    obtain ⟨h1, h2, h3, h4⟩ := hi.inn hf
    exact append_in B G P L g t k w q1.ch hP (by omega) ht hk (by rw [q2.li _ h3 k h4]; omega)
  · exact absurd e2 hn
/-- The lists have another place in them, the row not yet. -/
theorem append_qp_ok (q : Qp w Z B G R P L lo ls r l) {t : Nat} (ht : t < L) {x : T} {k : Nat} (e : x.p = k) (hk : k < P) (hf : fnd l k = none) :
    Calls Tryz.prog 109 #[.pointer (some ⟨B, 0, none⟩), .int .i64 t, .int .i64 k] w fun e w' => e = .returned (.int .i64 0) ∧ (∃ g, Que w' Z B G R P L g r ∧ Rep P L g (upd ls t (ls t ++ [k]))) ∧ Off (Only G) w w' := by
  obtain ⟨⟨g, q1, q2⟩, hi, hP, hL⟩ := q
  have ho := hi.out hf
  have hlt : lst (P + t) (ls t) < P + L := q2.lst_lt ht (fun i hi => hi)
  refine (append_ok B G P L g t k _ w q1.ch hP (by omega) ht hk (by rw [q2.al k hk ho]) hlt (q2.endah ht)).mono fun e w' ⟨h1, h2, h3⟩ => ⟨h1, ⟨_, q1.chain h3 h2, ?_⟩, h3⟩
  exact q2.put ht hk ho (x := ls t) (y := []) (by simp)
theorem drop_qp_no (q : Qp w Z B G R P L lo ls r l) {k : Int} (hn : ¬ canE P l k = 0) :
    Calls Tryz.prog 110 #[.pointer (some ⟨B, 0, none⟩), .int .i64 k] w fun e w' => e = .returned (.int .i64 (canE P l k)) ∧ Bel w w' := by
  obtain ⟨⟨g, q1, q2⟩, hi, hP, hL⟩ := q
  rcases canE_cases P l k with ⟨_, (⟨e, hk⟩ | ⟨e, hk, hf⟩)⟩ | ⟨e, _⟩
  · rw [e]
    exact drop_arg B G P L g k w q1.ch hk
  · rw [e]
    obtain ⟨k, rfl, hk2⟩ := hp_nat hk
    exact drop_none B G P L g k w q1.ch hP (by omega) hk2 (by rw [q2.al k hk2 (hi.out hf)])
  · exact absurd e hn
theorem drop_qp_ok (q : Qp w Z B G R P L lo ls r l) {k : Nat} {x : T} (hf : fnd l k = some x) : ∃ a b, ls (lo x) = a ++ k :: b ∧
    Calls Tryz.prog 110 #[.pointer (some ⟨B, 0, none⟩), .int .i64 k] w fun e w' => e = .returned (.int .i64 0) ∧ (∃ g, Que w' Z B G R P L g r ∧ Rep P L g (upd ls (lo x) (a ++ b))) ∧ Off (Only G) w w' := by
  obtain ⟨⟨g, q1, q2⟩, hi, hP, hL⟩ := q
  obtain ⟨h1, h2, h3, h4⟩ := hi.inn hf
  obtain ⟨a, b, hl⟩ := List.append_of_mem h4
  refine ⟨a, b, hl, ?_⟩
  refine (drop_ok B G P L g k (lst (P + lo x) a) (fst (P + lo x) b) w q1.ch hP (by omega) h1 (by rw [q2.li _ h3 k h4]; omega) (q2.lst_lt h3 (fun i hi => by rw [hl]; simp [hi])) (q2.fst_lt h3 (fun i hi => by rw [hl]; simp [hi])) (q2.ahead h3 hl) (q2.behind h3 hl)).mono fun e w' ⟨k1, k2, k3⟩ => ⟨k1, ⟨_, q1.chain k3 k2, ?_⟩, k3⟩
  exact q2.drop h3 hl
end
end Go.Proofs.YtdoceldofkaapaaGreatDoor
namespace Go.Proofs.YtdoceldofkaapaaGreatDoor
open Go.Shelf
def sortL_ren : Go.Shelf.Ren := ⟨fun | 6 => 93 | 15 => 127 | 14 => 126 | 28 => 148 | 29 => 149 | 20 => 140 | 21 => 141 | 22 => 142 | 23 => 143 | 24 => 144 | 25 => 145 | 26 => 146 | 27 => 147 | 46 => 154 | 47 => 155 | 48 => 156 | 49 => 157 | 50 => 158 | 57 => 160 | n => n, fun | 22 => 29 | 24 => 37 | 25 => 106 | 3 => 3 | 39 => 187 | 0 => 0 | 53 => 200 | 55 => 22 | 4 => 4 | 46 => 194 | 45 => 193 | 50 => 96 | 5 => 5 | 9 => 9 | 66 => 206 | 70 => 209 | 76 => 212 | 77 => 213 | n => n, fun | n => n⟩
theorem sortL : Go.Proofs.SlLaysF0.n6 Tryz.prog sortL_ren := {
  mixed := by kernel_rfl
  f6 := ⟨Tryz.f93.name, by decide, Tryz.func93.trans (congrArg some (by kernel_rfl))⟩
  f14 := ⟨Tryz.f126.name, by decide, Tryz.func126.trans (congrArg some (by kernel_rfl))⟩
  f15 := Tryz.func127.trans (congrArg some (by kernel_rfl))
  f20 := ⟨Tryz.f140.name, by decide, Tryz.func140.trans (congrArg some (by kernel_rfl))⟩
  f21 := ⟨Tryz.f141.name, by decide, Tryz.func141.trans (congrArg some (by kernel_rfl))⟩
  f22 := ⟨Tryz.f142.name, by decide, Tryz.func142.trans (congrArg some (by kernel_rfl))⟩
  f23 := ⟨Tryz.f143.name, by decide, Tryz.func143.trans (congrArg some (by kernel_rfl))⟩
  f24 := ⟨Tryz.f144.name, by decide, Tryz.func144.trans (congrArg some (by kernel_rfl))⟩
  f25 := ⟨Tryz.f145.name, by decide, Tryz.func145.trans (congrArg some (by kernel_rfl))⟩
  f26 := ⟨Tryz.f146.name, by decide, Tryz.func146.trans (congrArg some (by kernel_rfl))⟩
  f27 := ⟨Tryz.f147.name, by decide, Tryz.func147.trans (congrArg some (by kernel_rfl))⟩
  f28 := Tryz.func148.trans (congrArg some (by kernel_rfl))
  f29 := Tryz.func149.trans (congrArg some (by kernel_rfl))
  f46 := ⟨Tryz.f154.name, by decide, Tryz.func154.trans (congrArg some (by kernel_rfl))⟩
  f47 := Tryz.func155.trans (congrArg some (by kernel_rfl))
  f48 := Tryz.func156.trans (congrArg some (by kernel_rfl))
  f49 := ⟨Tryz.f157.name, by decide, Tryz.func157.trans (congrArg some (by kernel_rfl))⟩
  f50 := ⟨Tryz.f158.name, by decide, Tryz.func158.trans (congrArg some (by kernel_rfl))⟩
  f57 := ⟨Tryz.f160.name, by decide, Tryz.func160.trans (congrArg some (by kernel_rfl))⟩
  t0 := Tryz.underlying0
  a0 := Tryz.isAgg0
  z0 := Tryz.sizeOf0
  v0 := Tryz.zeroValue0
  t3 := Tryz.underlying3
  a3 := Tryz.isAgg3
  z3 := Tryz.sizeOf3
  v3 := Tryz.zeroValue3
  t4 := Tryz.underlying4
  a4 := Tryz.isAgg4
  z4 := Tryz.sizeOf4
  v4 := Tryz.zeroValue4
  t5 := Tryz.underlying5
  a5 := Tryz.isAgg5
  z5 := Tryz.sizeOf5
  v5 := Tryz.zeroValue5
  t9 := Tryz.underlying9
  a9 := Tryz.isAgg9
  z9 := Tryz.sizeOf9
  v9 := Tryz.zeroValue9
  t22 := Tryz.underlying29
  a22 := Tryz.isAgg29
  z22 := Tryz.sizeOf29
  v22 := Tryz.zeroValue29
  t25 := Tryz.underlying106
  a25 := Tryz.isAgg106
  z25 := Tryz.sizeOf106
  v25 := Tryz.zeroValue106
  t39 := Tryz.underlying187
  a39 := Tryz.isAgg187
  z39 := Tryz.sizeOf187
  v39 := Tryz.zeroValue187
  t45 := Tryz.underlying193
  a45 := Tryz.isAgg193
  z45 := Tryz.sizeOf193
  v45 := Tryz.zeroValue193
  t46 := Tryz.underlying194
  a46 := Tryz.isAgg194
  z46 := Tryz.sizeOf194
  v46 := Tryz.zeroValue194
  t50 := Tryz.underlying96
  a50 := Tryz.isAgg96
  z50 := Tryz.sizeOf96
  v50 := Tryz.zeroValue96
  t53 := Tryz.underlying200
  a53 := Tryz.isAgg200
  z53 := Tryz.sizeOf200
  v53 := Tryz.zeroValue200
  t55 := Tryz.underlying22
  a55 := Tryz.isAgg22
  z55 := Tryz.sizeOf22
  v55 := Tryz.zeroValue22
  t66 := Tryz.underlying206
  a66 := Tryz.isAgg206
  z66 := Tryz.sizeOf206
  v66 := Tryz.zeroValue206
  t70 := Tryz.underlying209
  a70 := Tryz.isAgg209
  z70 := Tryz.sizeOf209
  v70 := Tryz.zeroValue209
  t76 := Tryz.underlying212
  a76 := Tryz.isAgg212
  z76 := Tryz.sizeOf212
  v76 := Tryz.zeroValue212
  t77 := Tryz.underlying213
  a77 := Tryz.isAgg213
  z77 := Tryz.sizeOf213
  v77 := Tryz.zeroValue213 }
end Go.Proofs.YtdoceldofkaapaaGreatDoor
namespace Go.Proofs.YtdoceldofkaapaaGreatDoor
open Go.RowKit
set_option maxHeartbeats 1000000 in
theorem isSorted_any (p : Option Addr) (n cap : Nat) (l : List T) (w : World) (hn : l.length = n) (hm : n ≤ 5000) (hl : Has w p l) :
    Calls Tryz.prog 159 #[.slice p n cap, .func (.func 53) #[] #[]] w fun e w' => e = .returned (.bool (so l)) ∧ Bel w w' := by
  have HL := Lib.hid hl
  have HN := Lib.hid hn
  clear hl hn
  go_enter Tryz.func159, Tryz.ntmps159
  go_wp2
  go_loopw [5] (fun v wr => ∃ i : Int, v = .int .i64 i ∧ -1 ≤ i ∧ i < n ∧ Bel w wr ∧ ∀ j : Nat, i ≤ j → j + 1 < n → lt (l.getD (j + 1) default) (l.getD j default) = false) (fun v _ => (intOf v).toNat)
  case atStart => exact ⟨_, rfl, by omega, by omega, Bel.refl _, fun j h1 h2 => by omega⟩
  case round =>
    obtain ⟨i, rfl, hi0, hi1, hb, hall⟩ := hrel
    have HB := Lib.hid hb
    have HA := Lib.hid hall
    clear hb hall
    by_cases h : 0 < i
    · obtain ⟨m, rfl⟩ : ∃ m : Nat, i = (m : Int) + 1 := ⟨(i - 1).toNat, by omega⟩
      obtain ⟨b, off, rfl, hr⟩ := HL.out.row (by have := HN.out; omega)
      obtain ⟨x, hx⟩ : ∃ x, l.getD (m + 1) default = x := ⟨_, rfl⟩
      obtain ⟨y, hy⟩ : ∃ y, l.getD m default = y := ⟨_, rfl⟩
      have cx := (hr.bel HB.out) (m + 1) (by have := HN.out; omega)
      have cy := (hr.bel HB.out) m (by have := HN.out; omega)
      rw [hx] at cx
      rw [hy] at cy
      obtain ⟨x0, x1, x2⟩ := cx
      obtain ⟨y0, y1, y2⟩ := cy
      have HX := Lib.hid hx
      have HY := Lib.hid hy
      clear hx hy hr
      have w1 : IntKind.i64.wrap ((m : Int) + 1 - 1) = m := by rw [show (m : Int) + 1 - 1 = m by omega]; exact i64_in _ (by omega) (by omega)
      have w2 : IntKind.i64.wrap (m : Int) = m := i64_in _ (by omega) (by omega)
      have b0 : (0 : Int) ≤ (m : Int) := by omega
      have b1 : (m : Int) < (n : Int) := by omega
      have b2 : (0 : Int) ≤ (m : Int) + 1 := by omega
      by_cases hc : cf x y < 0
      · go_wp2
        go_region_held3 (fun w' => w'.cell? ⟨b, off + (m + 1) * 3, none⟩ = some (.int .u64 x.a) ∧ w'.cell? ⟨b, off + (m + 1) * 3 + 1, none⟩ = some (.int .u64 x.s) ∧ w'.cell? ⟨b, off + (m + 1) * 3 + 2, none⟩ = some (.int .i64 x.p) ∧
            w'.cell? ⟨b, off + m * 3, none⟩ = some (.int .u64 y.a) ∧ w'.cell? ⟨b, off + m * 3 + 1, none⟩ = some (.int .u64 y.s) ∧ w'.cell? ⟨b, off + m * 3 + 2, none⟩ = some (.int .i64 y.p)) (first | exact ⟨x0, x1, x2, y0, y1, y2⟩ | exact ⟨hg1.cell x0, hg1.cell x1, hg1.cell x2, hg1.cell y0, hg1.cell y1, hg1.cell y2⟩)
          (first | (go_at_call 53; refine (compare_any x y _).mono ?_; rintro e w1 ⟨rfl, hg1⟩))
        go_wp2
        go_ret
        refine ⟨ret_bool ?_, HB.out.trans ((Bel.refl _).drew.trans hg1)⟩
        cases e : so l with
        | false => rfl
        | true =>
          have k := (so_places l).1 e m (by have := HN.out; omega)
          rw [HX.out, HY.out] at k
          unfold lt at k
          simp at k
          omega
      · go_wp2
        go_region_held3 (fun w' => w'.cell? ⟨b, off + (m + 1) * 3, none⟩ = some (.int .u64 x.a) ∧ w'.cell? ⟨b, off + (m + 1) * 3 + 1, none⟩ = some (.int .u64 x.s) ∧ w'.cell? ⟨b, off + (m + 1) * 3 + 2, none⟩ = some (.int .i64 x.p) ∧
            w'.cell? ⟨b, off + m * 3, none⟩ = some (.int .u64 y.a) ∧ w'.cell? ⟨b, off + m * 3 + 1, none⟩ = some (.int .u64 y.s) ∧ w'.cell? ⟨b, off + m * 3 + 2, none⟩ = some (.int .i64 y.p)) (first | exact ⟨x0, x1, x2, y0, y1, y2⟩ | exact ⟨hg1.cell x0, hg1.cell x1, hg1.cell x2, hg1.cell y0, hg1.cell y1, hg1.cell y2⟩)
          (first | (go_at_call 53; refine (compare_any x y _).mono ?_; rintro e w1 ⟨rfl, hg1⟩))
        go_wp2
        go_roundw
        case rel =>
          refine ⟨m, by go_num, by omega, by omega, HB.out.trans ((Bel.refl _).drew.trans hg1), fun j h1 h2 => ?_⟩
          by_cases hj : j = m
          · subst hj
            rw [HX.out, HY.out]
            unfold lt
            simp
            omega
          · exact HA.out j (by omega) h2
        case measure => simp [intOf]
    · go_wp2
      go_ret
      refine ⟨ret_bool ?_, HB.out⟩
      symm
      rw [so_places]
      intro j hj
      exact HA.out j (by omega) (by have := HN.out; omega)
theorem sorted_any (p : Option Addr) (n cap : Nat) (l : List T) (w : World) (hn : l.length = n) (hm : n ≤ 5000) (hl : Has w p l) :
    Calls Tryz.prog 151 #[.slice p n cap] w fun e w' => e = .returned (.bool (so l)) ∧ Bel w w' := by
  have K := Lib.hid (isSorted_any p n cap l w hn hm hl)
  clear hl hn
  go_enter Tryz.func151, Tryz.ntmps151
  go_wp2_with fail
  with_reducible refine (K.out).mono ?_
  rintro e w' ⟨rfl, hb⟩
  go_wp2
  go_ret
  exact ⟨rfl, hb⟩
end Go.Proofs.YtdoceldofkaapaaGreatDoor
namespace Go.Proofs.YtdoceldofkaapaaGreatDoor
open Go.RowKit
theorem fresh_own (p : Option Addr) (n cap : Nat) (l : List T) (w : World) (hn : l.length = n) (hm : n ≤ 5000) (hl : Has w p l) :
    Calls Tryz.prog 92 #[.slice p n cap] w fun e w' => ∃ v, e = .returned v ∧ OwnT w' w.heap.size v l ∧ Bel w w' ∧ (l = [] → v = .slice none 0 0 ) := by
  have HL := Lib.hid hl
  have HN := Lib.hid hn
  clear hl hn
  go_enter Tryz.func92, Tryz.ntmps92
  go_wp2_with (at_builtin; refine wpList_append_any rfl _ _ rfl w.heap.size _ [] rfl (OwnT.nil _ _) _ _ _ l rfl HN.out HL.out (by simp; omega) (Nat.le_refl _) ?_)
  intro v' w1 hown hgrow hnil
  have HO := Lib.hid hown
  have HB : Hid (Bel w w1) := Lib.hid (OwnT.grown (Bel.refl w) (OwnT.nil w w.heap.size) (Nat.le_refl _) hgrow)
  have HZ := Lib.hid hnil
  clear hown hgrow hnil
  go_wp2
  go_ret
  refine ⟨_, rfl, by simpa using HO.out, HB.out, fun e => ?_⟩
  have k := HZ.out
  exact k.2 (by rw [← HN.out, e]; rfl)
theorem toArr_get (l : List T) (i : Nat) (h : i < l.length) : l.toArray[i]! = l.getD i default := by
  rw [getElem!_pos _ i (by simpa using h)]
  simp [List.getD_eq_getElem?_getD, List.getElem?_eq_getElem h]
theorem flat_getT (l : List T) (i : Nat) (h : i < l.length) :
    (Go.Sort.flatK enc 3 l.toArray)[i * 3]! = .int .u64 (l.getD i default).a ∧ (Go.Sort.flatK enc 3 l.toArray)[i * 3 + 1]! = .int .u64 (l.getD i default).s ∧ (Go.Sort.flatK enc 3 l.toArray)[i * 3 + 2]! = .int .i64 (l.getD i default).p := by
  have hs : l.toArray.size = l.length := by simp
  refine ⟨?_, ?_, ?_⟩
  · rw [Go.Sort.get_flatK _ _ _ _ (by rw [hs]; omega), show i * 3 / 3 = i by omega, show i * 3 % 3 = 0 by omega, toArr_get l i h]; rfl
  · rw [Go.Sort.get_flatK _ _ _ _ (by rw [hs]; omega), show (i * 3 + 1) / 3 = i by omega, show (i * 3 + 1) % 3 = 1 by omega, toArr_get l i h]; rfl
  · rw [Go.Sort.get_flatK _ _ _ _ (by rw [hs]; omega), show (i * 3 + 2) / 3 = i by omega, show (i * 3 + 2) % 3 = 2 by omega, toArr_get l i h]; rfl
theorem holds_of_row {w : World} {b off : Nat} {l : List T} (hr : Row w b off l) (hf : ∀ j, w.frozen? ⟨b, off + j, none⟩ = false) : Go.Sort.HoldsK enc 3 w b off l.toArray := by
  intro j hj
  have hj' : j < l.length * 3 := by simpa using hj
  refine ⟨?_, hf j⟩
  have hi : j / 3 < l.length := by omega
  have k := hr (j / 3) hi
  have g := flat_getT l (j / 3) hi
  rcases (show j = j / 3 * 3 ∨ j = j / 3 * 3 + 1 ∨ j = j / 3 * 3 + 2 by omega) with e | e | e
  · rw [← e] at k g; rw [k.1, g.1]; rfl
  · rw [← e] at g; rw [show off + j / 3 * 3 + 1 = off + j by omega] at k; rw [k.2.1, g.2.1]; rfl
  · rw [← e] at g; rw [show off + j / 3 * 3 + 2 = off + j by omega] at k; rw [k.2.2, g.2.2]; rfl
theorem row_of_holds {w : World} {b off : Nat} {l : List T} (h : Go.Sort.HoldsK enc 3 w b off l.toArray) : Row w b off l := by
  intro i hi
  have g := flat_getT l i hi
  have k : ∀ j, j < l.length * 3 → w.cell? ⟨b, off + j, none⟩ = some ((Go.Sort.flatK enc 3 l.toArray)[j]!) := fun j hj => (h j (by simpa using hj)).1
  refine ⟨?_, ?_, ?_⟩
  · rw [k _ (by omega), g.1]
  · rw [Nat.add_assoc, k _ (by omega), g.2.1]
  · rw [Nat.add_assoc, k _ (by omega), g.2.2]
theorem sort_below {w : World} {base blk off n : Nat} {d : Array T} {os : Array Obj} (hb : base ≤ blk) : Below (min base w.heap.size) w (sortWorldK enc 3 w blk off n d os) := by
  refine ⟨rfl, rfl, rfl, ?_, fun k hk => ?_⟩
  · simp [sortWorldK, Go.Sort.putRowK, Go.Sort.grow, Go.Sort.ahead]
  · have h1 : k < w.heap.size := by omega
    have h2 : blk ≠ k := by omega
    simp [sortWorldK, Go.Sort.putRowK, Go.Sort.grow, Go.Sort.ahead, Go.Sort.putRow, Go.Sort.mapBlock, Array.getElem?_append, h1, Array.getElem_modify, h2]
theorem swo : Go.Sort.SWO (ltOf cf) where
  irrefl x := lt_irrefl x
  trans _ _ _ h k := lt_trans h k
  ntrans _ _ _ h k := lt_ntrans h k
theorem mergeSort_srt (l : List T) : l.toArray.toList.mergeSort (fun x y => !(ltOf cf) y x) = srt l := by
  have tr : ∀ a b c : T, (!(ltOf cf) b a) = true → (!(ltOf cf) c b) = true → (!(ltOf cf) c a) = true := by
    intro a b c h k
    have h' : lt b a = false := by simpa [ltOf, lt] using h
    have k' : lt c b = false := by simpa [ltOf, lt] using k
    have : lt c a = false := lt_ntrans k' h'
    simpa [ltOf, lt] using this
  have ttl : ∀ a b : T, (!(ltOf cf) b a || !(ltOf cf) a b) = true := by
    intro a b
    cases e : lt b a with
    | false => have e' : ltOf cf b a = false := e; simp [e']
    | true => have e' : ltOf cf a b = false := lt_asymm e; simp [e']
  refine srt_of ?_ (by simpa using List.mergeSort_perm l _)
  have s := List.pairwise_mergeSort tr ttl l.toArray.toList
  refine s.imp ?_
  intro a b h
  have : lt b a = false := by simpa [ltOf, lt] using h
  exact this
theorem enters53 : ∀ args w, (callFunc 53 args).run Tryz.prog w = .ok (.enter 53 args) w := enters_of Tryz.func53 (by kernel_rfl) rfl
theorem sortFunc_own (w : World) (base : Nat) (v : Value) (l : List T) (hown : OwnT w base v l) (hm : l.length ≤ 5000) (hbase : base ≤ w.heap.size) :
    Calls Tryz.prog 93 #[v, .func (.func 53) #[] #[]] w fun e w' => e = .returned (.tuple #[]) ∧ Out w' (.returned v) (srt l) ∧ Below base w w' := by
  by_cases h0 : l = []
  · subst h0
    obtain ⟨p, cap, rfl, hc, _, hp⟩ := hown.slice
    have K := AnyF.slices_SortFunc_none sortL p cap (.func (.func 53) #[] #[]) w
    refine K.mono fun e w' ⟨he, hw⟩ => ?_
    subst hw
    exact ⟨he, ⟨p, cap, rfl, by simp [srt], .inl rfl⟩, Below.refl _ _⟩
  · have hl : 0 < l.length := List.length_pos_iff.2 h0
    rcases hown.2 with ⟨rfl, hz⟩ | ⟨g, cap, cur, rfl, hb, hg, hc, hcm, hs, ht⟩
    · omega
    have hown' : w.ownsRow base 37 3 (.slice (some ⟨g, 0, none⟩) l.length cap) l.length (encs l) := hown
    have hrow : Row w g 0 l := by
      obtain ⟨p, cap', e, _, _, hp⟩ := hown.slice
      obtain ⟨b, off, e2, hr⟩ := hp.row hl
      rw [e2] at e
      simp at e
      obtain ⟨⟨rfl, rfl⟩, _⟩ := e
      exact hr
    have hlt : g < w.heap.size := (Array.getElem?_eq_some_iff.1 hg).1
    have hH : Go.Sort.HoldsK enc 3 w g 0 l.toArray := holds_of_row hrow fun j => hown'.frozenAt _
    have K := AnyQ.slices_SortFunc_total sortL 3 Tryz.isAgg37 Tryz.sizeOf37 enc (fun _ => rfl) (fun x u hu => by simp [enc] at hu; rcases hu with rfl | rfl | rfl <;> rfl) cf swo 53 #[] g 0 cap l.toArray w enters53
      (fun m os dk _ x y => compare_grow x y _) hH hlt (by simp; omega) (fun x y h k => lt_total h k)
    rw [mergeSort_srt] at K
    have K' : Calls Tryz.prog 93 #[.slice (some ⟨g, 0, none⟩) l.length cap, .func (.func 53) #[] #[]] w fun e w' => e = .returned (.tuple #[]) ∧ ∃ n os, w' = sortWorldK enc 3 w g 0 n (srt l).toArray os := by
      have e : l.toArray.size = l.length := by simp
      rw [e] at K
      exact K
    refine K'.mono fun e w' ⟨he, n, os, hw⟩ => ?_
    subst hw
    refine ⟨he, ⟨some ⟨g, 0, none⟩, cap, by rw [srt_len], by rw [srt_len]; exact hc, .inr ⟨g, 0, rfl, ?_⟩⟩, ?_⟩
    · exact row_of_holds (holdsK_sortWorldK_c enc 3 w g 0 l.toArray (srt l).toArray n os hH hlt (by simp [srt_len]))
    · have := sort_below (w := w) (base := base) (blk := g) (off := 0) (n := n) (d := (srt l).toArray) (os := os) hb
      rwa [Nat.min_eq_left hbase] at this
theorem Out.new {w w' : World} {v : Value} {l : List T} (h : Out w' (.returned v) l) (hn : ∀ k, v.ownBlock = some k → w.heap.size ≤ k) : OutN w w' (.returned v) l := by
  obtain ⟨p, cap, e, hc, hl⟩ := h
  refine ⟨p, cap, e, hc, ?_⟩
  injection e with e
  subst e
  rcases hl with rfl | ⟨b, off, rfl, hr⟩
  · exact .inl rfl
  · exact .inr ⟨b, off, rfl, fun e => Nat.lt_irrefl _ (Nat.lt_of_lt_of_le e (hn b rfl)), row_rowG hr⟩
theorem sort_any (p : Option Addr) (n cap : Nat) (l : List T) (w : World) (hn : l.length = n) (hm : n ≤ 5000) (hl : Has w p l) :
    Calls Tryz.prog 54 #[.slice p n cap] w fun e w' => OutN w w' e (srt l) ∧ Bel w w' := by
  have K1 := Lib.hid (fresh_own p n cap l w hn hm hl)
  have HN := Lib.hid hn
  clear hl hn
  go_enter Tryz.func54, Tryz.ntmps54
  go_wp2_with fail
  with_reducible refine (K1.out).mono ?_
  rintro e w1 ⟨v, rfl, hown, hb, hnil⟩
  have K2 := Lib.hid (sortFunc_own w1 w.heap.size v l hown (by have := HN.out; omega) hb.size)
  have HB := Lib.hid hb
  have HV : Hid (∀ k, v.ownBlock = some k → w.heap.size ≤ k) := Lib.hid (fun k hk => (hown.lt k hk).1)
  clear hown hnil hb
  go_wp2_with fail
  with_reducible refine (K2.out).mono ?_
  rintro e w2 ⟨rfl, hout, hb2⟩
  have HO : Hid (OutN w w2 (.returned v) (srt l)) := Lib.hid (hout.new HV.out)
  have HB2 : Hid (Bel w w2) := Lib.hid (bel_of (Below.trans HB.out.below hb2))
  clear hout hb2
  go_wp2
  go_ret
  exact ⟨HO.out, HB2.out⟩
end Go.Proofs.YtdoceldofkaapaaGreatDoor
namespace Go.Proofs.YtdoceldofkaapaaGreatDoor
open Go.RowKit
section
variable {Z B G R P L : Nat} {lo : T → Nat} {ls : Ls} {r : Nat → T} {l : List T}
set_option maxHeartbeats 1000000 in
theorem get_any (k : Int) (w : World) (q : Qp w Z B G R P L lo ls r l) :
    Calls Tryz.prog 19 #[.pointer (some ⟨Z, 0, none⟩), .int .i64 k] w fun e w' => e = .returned (ansT (fnd l k)) ∧ Bel w w' := by
  have HA := Lib.hid q
  obtain ⟨c0, c1⟩ := q.head
  have lZ := q.lt.1
  have K1 := Lib.hid (fun w' (q : Qp w' Z B G R P L lo ls r l) => which_qp q k)
  have HB0 : Hid (Bel w (w.alloc (.cells #[.int .u64 0, .int .u64 0, .int .i64 0] 37))) := Lib.hid ((Bel.refl _).alloc _ _)
  have HN : Hid ((w.alloc (.cells #[.int .u64 0, .int .u64 0, .int .i64 0] 37)).heap[w.heap.size]? = some (.cells #[.int .u64 0, .int .u64 0, .int .i64 0] 37 (0, 0))) := Lib.hid (heap_alloc_new _ _)
  cases hf : fnd l k with
  | none =>
    rw [hf] at K1
    clear q hf
    go_enter Tryz.func19, Tryz.ntmps19
    go_wp2_with fail
    with_reducible refine (K1.out _ (HA.out.bel HB0.out)).mono ?_
    rintro e w1 ⟨⟨t, rfl⟩, hb⟩
    obtain ⟨⟨b0, b1, b2⟩, f0, f1, f2⟩ := box3 (hb.heap HN.out)
    have HE := Lib.hid (bel3 (HB0.out.trans hb) (Nat.le_refl _) (.int .u64 0) (.int .u64 0) (.int .i64 0))
    clear hb
    go_wp2
    exact bodyPost_ret (v := ansT none) (by simp [results, Tryz.results19, go_sem, b0, b1, b2, ansT]) rfl ⟨rfl, HE.out⟩
  | some x =>
    obtain ⟨k, rfl⟩ : ∃ j : Nat, k = j := ⟨k.toNat, by obtain ⟨h1, h2⟩ := fnd_some hf; have := (q.is.tm x h1).1; omega⟩
    obtain ⟨hk, hr, _, _⟩ := q.is.inn hf
    rw [hf] at K1
    have hP := q.hP
    have HR := Lib.hid hr
    clear q hf hr
    go_enter Tryz.func19, Tryz.ntmps19
    go_wp2_with fail
    with_reducible refine (K1.out _ (HA.out.bel HB0.out)).mono ?_
    rintro e w1 ⟨⟨t, rfl⟩, hb⟩
    have HB1 := Lib.hid (HB0.out.trans hb)
    obtain ⟨⟨b0, b1, b2⟩, f0, f1, f2⟩ := box3 (hb.heap HN.out)
    have q1 := HA.out.bel HB1.out
    have lZ1 := q1.lt.1
    obtain ⟨d0, d1⟩ := q1.head
    obtain ⟨⟨x0, x1, x2⟩, _⟩ := q1.at hk
    rw [HR.out] at x0 x1 x2
    have lR := q1.lt.2.2.2
    have HE := Lib.hid (bel3 HB1.out (Nat.le_refl _) (.int .u64 x.a) (.int .u64 x.s) (.int .i64 x.p))
    clear hb q1 c0 c1
    obtain ⟨xa, xs, xp⟩ := x
    simp only at *
    go_wp2
    exact bodyPost_ret (v := ansT (some ⟨xa, xs, xp⟩)) (by simp [results, Tryz.results19, go_sem, b0, b1, b2, ansT]) rfl ⟨rfl, HE.out⟩
set_option maxHeartbeats 1000000 in
/-- The timers of a list. -/
theorem in_any {t : Nat} (ht : t < L) (w : World) (q : Qp w Z B G R P L lo ls r l) :
    Calls Tryz.prog 50 #[.pointer (some ⟨Z, 0, none⟩), .int .i64 t] w fun e w' => OutN w w' e ((ls t).map r) ∧ Bel w w' := by
  have HA := Lib.hid q
  obtain ⟨c0, c1⟩ := q.head
  have K1 := Lib.hid (places_qp q ht)
  have hn := q.lslen ht
  have hl := (q.rep ht).2
  generalize hys : ls t = ys at *
  obtain ⟨n, hN⟩ : ∃ n, ys.length = n := ⟨_, rfl⟩
  rw [hN] at hn K1
  have HY := Lib.hid hN
  have HL := Lib.hid hl
  have hP := q.hP
  clear q hys hN hl
  go_enter Tryz.func50, Tryz.ntmps50
  go_wp2_with fail
  with_reducible refine K1.out.mono ?_
  rintro e w1 ⟨p, c, rfl, hc, hlies, hb⟩
  have HLI := Lib.hid hlies
  have HB1 := Lib.hid hb
  have HCQ : Hid (∀ w', Bel w w' → w'.cell? ⟨Z, 1, none⟩ = some (.slice (some ⟨R, 0, none⟩) P P)) := Lib.hid (fun w' hb => (HA.out.bel hb).head.2)
  clear hlies hb c0 c1 K1
  go_wp2
  go_loopw [5, 7, 15] (fun o _ v wr => ∃ m : Nat, v = .int .i64 m ∧ m ≤ n ∧ OwnT wr w1.heap.size o ((ys.map r).take m) ∧ Bel w1 wr) (fun _ _ v _ => n - (intOf v).toNat)
  case atStart => exact ⟨0, rfl, by omega, OwnT.nil _ _, Bel.refl _⟩
  case round =>
    obtain ⟨m, rfl, hm, ho, hb⟩ := hrel
    have HO := Lib.hid ho
    have HB := Lib.hid hb
    clear ho hb
    by_cases hlt : m < n
    · obtain ⟨y, hy⟩ : ∃ y, ys[m]? = some y := ⟨_, List.getElem?_eq_getElem (by have := HY.out; omega)⟩
      have hyP : y < P := HL.out y (List.mem_of_getElem? hy)
      obtain ⟨b, off, rfl, _, hr⟩ := lies_int HLI.out (i := m) (by have := HY.out; omega)
      have y0 := row_int (RowG.off hr (fun e => e) HB.out) hy
      have hBB := HB1.out.trans HB.out
      have qr := HA.out.bel hBB
      have cc := HCQ.out _ hBB
      obtain ⟨⟨x0, x1, x2⟩, _⟩ := qr.at hyP
      have HT : Hid ((ys.map r).take (m + 1) = (ys.map r).take m ++ [r y]) := Lib.hid (by
        obtain ⟨h1, h2⟩ := List.getElem?_eq_some_iff.1 hy
        rw [List.take_succ_eq_append_getElem (by simpa using h1), List.getElem_map, h2])
      have HTL : Hid (((ys.map r).take m).length = m) := Lib.hid (by have := HY.out; simp; omega)
      have HZ := Lib.hid hBB.size
      clear hr hy qr hBB
      generalize r y = z at *
      go_wp2_with (at_builtin; refine wpList_append_any rfl (.tmp 19) (.tmp 27) rfl w1.heap.size _ ((ys.map r).take m) rfl (HO.out.bel ((Bel.refl _).alloc _ _)) _ _ _ [z] rfl rfl (has_one _ _) (by have := HTL.out; omega) (by have := HB.out.size; simp; omega) ?_)
      intro v' w2 hown hgrow hnil
      have HO2 : Hid (OwnT w2 w1.heap.size v' ((ys.map r).take (m + 1))) := Lib.hid (by rw [HT.out]; exact hown)
      have HB2 : Hid (Bel w1 w2) := Lib.hid ((HB.out.alloc _ _).grown hgrow (fun k hk => .inr (HO.out.lt k hk).1))
      clear hown hgrow hnil
      go_wp2
      go_roundw
      case rel => exact ⟨m + 1, by go_num, by omega, HO2.out, HB2.out⟩
      case measure => simp [intOf]; omega
    · obtain rfl : m = n := by omega
      have HE : Hid ((ys.map r).take m = ys.map r) := Lib.hid (List.take_of_length_le (by have := HY.out; simp; omega))
      go_wp2
      go_ret
      have k := HO.out.outN (w := w) HB1.out.size
      rw [HE.out] at k
      exact ⟨k, HB1.out.trans HB.out⟩
end
end Go.Proofs.YtdoceldofkaapaaGreatDoor
