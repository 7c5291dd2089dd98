/-
  Which timers lie at which places of which lists, as plain mathematics; and the same in memory.
-/
import Derived.Test.YtdoceldofkaapaaDoorXai
set_option linter.unusedVariables false
set_option linter.unusedSimpArgs false
namespace Go.Proofs.YtdoceldofkaapaaDoor
open Go.RowKit
/-- The timers l, in order, lie in the lists that lo tells. -/
structure Is (P L : Nat) (lo : T → Nat) (ls : Ls) (r : Nat → T) (l : List T) : Prop where
  tm : ∀ x ∈ l, x.p = pl x ∧ pl x < P ∧ r (pl x) = x ∧ lo x < L ∧ pl x ∈ ls (lo x)
  al : ∀ t, t < L → ∀ i ∈ ls t, ∃ x ∈ l, pl x = i ∧ lo x = t
  nd : (pls l).Nodup
  so : So l
section
variable {P L : Nat} {lo : T → Nat} {ls : Ls} {r : Nat → T} {l : List T}
theorem Is.lt (h : Is P L lo ls r l) : ∀ y ∈ pls l, y < P := by
  intro y hy
  obtain ⟨x, hx, rfl⟩ := List.mem_map.1 hy
  exact (h.tm x hx).2.1
theorem Is.len (h : Is P L lo ls r l) : l.length ≤ P := by
  have := nodup_len P _ h.nd h.lt
  simpa [pls] using this
theorem Is.same (h : Is P L lo ls r l) {x y : T} (hx : x ∈ l) (hy : y ∈ l) (e : pl x = pl y) : x = y := by
  rw [← (h.tm x hx).2.2.1, e, (h.tm y hy).2.2.1]
theorem Is.inn (h : Is P L lo ls r l) {k : Nat} {x : T} (hf : fnd l k = some x) : k < P ∧ r k = x ∧ lo x < L ∧ k ∈ ls (lo x) := by
  obtain ⟨h1, h2⟩ := fnd_some hf
  obtain ⟨_, h4, h5, h6, h7⟩ := h.tm x h1
  have e : pl x = k := by unfold pl; rw [h2]; simp
  rw [e] at h4 h5 h7
  exact ⟨h4, h5, h6, h7⟩
theorem Is.out (h : Is P L lo ls r l) {k : Nat} (hf : fnd l k = none) : ∀ t, t < L → k ∉ ls t := by
  intro t ht hm
  obtain ⟨x, hx, e, _⟩ := h.al t ht k hm
  exact fnd_none hf x hx (by rw [(h.tm x hx).1, e])
theorem Is.outside (h : Is P L lo ls r l) {k : Int} (hk : hp P k = false) : fnd l k = none := by
  cases e : fnd l k with
  | none => rfl
  | some t =>
    obtain ⟨h1, h2⟩ := fnd_some e
    obtain ⟨h3, h4, _⟩ := h.tm t h1
    rw [← h2, h3, hp_yes h4] at hk
    cases hk
theorem Is.find (h : Is P L lo ls r l) {x : T} (hx : x ∈ l) : fnd l (pl x) = some x := by
  cases e : fnd l (pl x) with
  | none => exact absurd (h.tm x hx).1 (fnd_none e x hx)
  | some y =>
    obtain ⟨h1, h2⟩ := fnd_some e
    rw [h.same h1 hx (by have := (h.tm y h1).1; omega)]
theorem Is.putm (h : Is P L lo ls r l) {x : T} {k t : Nat} {a b : List Nat} (e : x.p = k) (hk : k < P) (hf : fnd l k = none) (hlo : lo x = t) (ht : t < L) (hl : ls t = a ++ b) : Is P L lo (upd ls t (a ++ k :: b)) (upT r k x) (put l x) := by
  have ek : pl x = k := by unfold pl; rw [e]; simp
  have hn : ∀ y ∈ l, pl y ≠ k := fun y hy e2 => fnd_none hf y hy (by rw [(h.tm y hy).1, e2])
  have hm : ∀ y, y ∈ put l x ↔ y = x ∨ y ∈ l := fun y => by rw [(put_perm l x).mem_iff]; simp
  refine ⟨fun y hy => ?_, fun t2 ht2 i hi => ?_, ?_, put_so h.so x⟩
  · rcases (hm y).1 hy with rfl | hy
    · refine ⟨by omega, by omega, ?_, by omega, ?_⟩
      · unfold upT; rw [if_pos ek]
      · rw [hlo, ek, upd_same]; simp
    · obtain ⟨h1, h2, h3, h4, h5⟩ := h.tm y hy
      refine ⟨h1, h2, ?_, h4, ?_⟩
      · unfold upT; rw [if_neg (hn y hy)]; exact h3
      · by_cases e3 : lo y = t
        · rw [e3, upd_same]
          rw [e3, hl] at h5
          rcases List.mem_append.1 h5 with h6 | h6
          · simp [h6]
          · simp [h6]
        · rw [upd_other _ _ e3]; exact h5
  · by_cases e3 : t2 = t
    · subst e3
      rw [upd_same] at hi
      have hi2 : i = k ∨ i ∈ ls t2 := by
        rw [hl]
        rcases List.mem_append.1 hi with hi | hi
        · exact .inr (by simp [hi])
        · rcases List.mem_cons.1 hi with hi | hi
          · exact .inl hi
          · exact .inr (by simp [hi])
      rcases hi2 with rfl | hi
      · exact ⟨x, (hm x).2 (.inl rfl), ek, hlo⟩
      · obtain ⟨y, hy, h1, h2⟩ := h.al t2 ht2 i hi
        exact ⟨y, (hm y).2 (.inr hy), h1, h2⟩
    · rw [upd_other _ _ e3] at hi
      obtain ⟨y, hy, h1, h2⟩ := h.al t2 ht2 i hi
      exact ⟨y, (hm y).2 (.inr hy), h1, h2⟩
  · have p : (pls (put l x)).Perm (pl x :: pls l) := (put_perm l x).map pl
    rw [p.nodup_iff, List.nodup_cons, ek]
    refine ⟨fun e2 => ?_, h.nd⟩
    obtain ⟨y, hy, h1⟩ := List.mem_map.1 e2
    exact hn y hy h1
theorem Is.putx (h : Is P L lo ls r l) {x : T} {k t : Nat} (e : x.p = k) (hk : k < P) (hf : fnd l k = none) (hlo : lo x = t) (ht : t < L) : Is P L lo (upd ls t (ls t ++ [k])) (upT r k x) (put l x) :=
  h.putm (a := ls t) (b := []) e hk hf hlo ht (by simp)
theorem Is.drop (h : Is P L lo ls r l) {x z : T} {k : Nat} {a b : List Nat} (hf : fnd l k = some x) (hnd : (ls (lo x)).Nodup) (hl : ls (lo x) = a ++ k :: b) : Is P L lo (upd ls (lo x) (a ++ b)) (upT r k z) (wo l k) := by
  obtain ⟨hx, hp⟩ := fnd_some hf
  obtain ⟨hk, _, hL, hm⟩ := h.inn hf
  have ek : pl x = k := by unfold pl; rw [hp]; simp
  have hw : ∀ y, y ∈ wo l k ↔ y ∈ l ∧ pl y ≠ k := fun y => by
    unfold wo
    rw [List.mem_filter]
    constructor
    · rintro ⟨h1, h2⟩
      have := (h.tm y h1).1
      simp at h2
      exact ⟨h1, fun e => h2 (by omega)⟩
    · rintro ⟨h1, h2⟩
      have := (h.tm y h1).1
      refine ⟨h1, ?_⟩
      simp
      omega
  have hnk : k ∉ a ∧ k ∉ b := by
    rw [hl] at hnd
    have h1 := List.nodup_append.1 hnd
    have h2 := (List.nodup_cons.1 h1.2.1).1
    exact ⟨fun e => h1.2.2 k e k (by simp) rfl, h2⟩
  refine ⟨fun y hy => ?_, fun t ht i hi => ?_, ?_, wo_so h.so k⟩
  · obtain ⟨hy1, hy2⟩ := (hw y).1 hy
    obtain ⟨h1, h2, h3, h4, h5⟩ := h.tm y hy1
    refine ⟨h1, h2, ?_, h4, ?_⟩
    · unfold upT; rw [if_neg hy2]; exact h3
    · by_cases e : lo y = lo x
      · rw [e, upd_same]
        rw [e, hl] at h5
        simp only [List.mem_append, List.mem_cons] at h5 ⊢
        rcases h5 with h5 | h5 | h5
        · exact .inl h5
        · exact absurd h5 hy2
        · exact .inr h5
      · rw [upd_other _ _ e]; exact h5
  · by_cases e : t = lo x
    · subst e
      rw [upd_same] at hi
      have hi2 : i ∈ ls (lo x) ∧ i ≠ k := by
        rw [hl]
        rcases List.mem_append.1 hi with q | q
        · exact ⟨by simp [q], fun e => hnk.1 (e ▸ q)⟩
        · exact ⟨by simp [q], fun e => hnk.2 (e ▸ q)⟩
      obtain ⟨y, hy, h1, h2⟩ := h.al _ ht i hi2.1
      exact ⟨y, (hw y).2 ⟨hy, by rw [h1]; exact hi2.2⟩, h1, h2⟩
    · rw [upd_other _ _ e] at hi
      obtain ⟨y, hy, h1, h2⟩ := h.al t ht i hi
      refine ⟨y, (hw y).2 ⟨hy, fun e2 => e ?_⟩, h1, h2⟩
      rw [← h2, h.same hy hx (by rw [e2, ek])]
  · exact h.nd.sublist ((List.filter_sublist (l := l)).map pl)
theorem Is.mem_list (hi : Is P L lo ls r l) {t : Nat} (ht : t < L) (y : T) : y ∈ (ls t).map r ↔ y ∈ l ∧ lo y = t := by
  rw [List.mem_map]
  constructor
  · rintro ⟨i, h1, h2⟩
    obtain ⟨x, hx, e, e2⟩ := hi.al t ht i h1
    have := (hi.tm x hx).2.2.1
    rw [e, h2] at this
    rw [this]
    exact ⟨hx, e2⟩
  · rintro ⟨h1, h2⟩
    obtain ⟨_, _, h3, _, h4⟩ := hi.tm y h1
    rw [h2] at h4
    exact ⟨pl y, h4, h3⟩
/-- Other lists of the same timers' places, by another way to tell them. -/
theorem Is.other (h : Is P L lo ls r l) {lo' : T → Nat} (he : ∀ x ∈ l, lo' x = lo x) : Is P L lo' ls r l :=
  ⟨fun x hx => by rw [he x hx]; exact h.tm x hx, fun t ht i hi => by obtain ⟨x, hx, h1, h2⟩ := h.al t ht i hi; exact ⟨x, hx, h1, by rw [he x hx]; exact h2⟩, h.nd, h.so⟩
end
/-- A queue of places in memory: the timers l lie in the lists ls. -/
structure Qp (w : World) (Z B G R P L : Nat) (lo : T → Nat) (ls : Ls) (r : Nat → T) (l : List T) : Prop where
  ex : ∃ g, Que w Z B G R P L g r ∧ Rep P L g ls
  is : Is P L lo ls r l
  hP : P ≤ 1024
  hL : L ≤ 300
section
variable {w w' : World} {Z B G R P L : Nat} {lo : T → Nat} {ls : Ls} {r : Nat → T} {l : List T}
theorem Qp.bel (q : Qp w Z B G R P L lo ls r l) (k : Bel w w') : Qp w' Z B G R P L lo ls r l := by
  obtain ⟨⟨g, q1, q2⟩, q3, q4, q5⟩ := q
  exact ⟨⟨g, q1.bel k, q2⟩, q3, q4, q5⟩
theorem Qp.off {f : Nat → Prop} (q : Qp w Z B G R P L lo ls r l) (k : Off f w w') (hq : ¬ f Z) (hb : ¬ f B) (hg : ¬ f G) (hr : ¬ f R) : Qp w' Z B G R P L lo ls r l := by
  obtain ⟨⟨g, q1, q2⟩, q3, q4, q5⟩ := q
  exact ⟨⟨g, q1.off k hq hb hg hr, q2⟩, q3, q4, q5⟩
theorem Qp.cell (q : Qp w Z B G R P L lo ls r l) {i : Nat} {v : Value} (hv : (zcells B R P)[i]? = some v) : w.cell? ⟨Z, i, none⟩ = some v := by
  obtain ⟨⟨g, q1, q2⟩, _⟩ := q
  exact q1.cell hv
theorem Qp.froz (q : Qp w Z B G R P L lo ls r l) (j : Nat) : w.frozen? ⟨Z, j, none⟩ = false := by
  obtain ⟨⟨g, q1, q2⟩, _⟩ := q
  exact q1.froz j
theorem Qp.head (q : Qp w Z B G R P L lo ls r l) : w.cell? ⟨Z, 0, none⟩ = some (.pointer (some ⟨B, 0, none⟩)) ∧ w.cell? ⟨Z, 1, none⟩ = some (.slice (some ⟨R, 0, none⟩) P P) := ⟨q.cell rfl, q.cell rfl⟩
theorem Qp.at (q : Qp w Z B G R P L lo ls r l) {i : Nat} (hi : i < P) : (w.cell? ⟨R, i * 3, none⟩ = some (.int .u64 (r i).a) ∧ w.cell? ⟨R, i * 3 + 1, none⟩ = some (.int .u64 (r i).s) ∧ w.cell? ⟨R, i * 3 + 2, none⟩ = some (.int .i64 (r i).p)) ∧
    (∀ j, w.frozen? ⟨R, j, none⟩ = false) := by
  obtain ⟨⟨g, q1, q2⟩, _⟩ := q
  exact q1.at hi
theorem Qp.lt (q : Qp w Z B G R P L lo ls r l) : Z < w.heap.size ∧ B < w.heap.size ∧ G < w.heap.size ∧ R < w.heap.size := by
  obtain ⟨⟨g, q1, q2⟩, _⟩ := q
  exact ⟨q1.ltZ, q1.ch.ltB, q1.ch.ltG, q1.ltR⟩
theorem Qp.ne (q : Qp w Z B G R P L lo ls r l) : ¬ Z = B ∧ ¬ Z = G ∧ ¬ Z = R ∧ ¬ B = G ∧ ¬ B = R ∧ ¬ G = R := by
  obtain ⟨⟨g, q1, q2⟩, _⟩ := q
  exact ⟨q1.nZB, q1.nZG, q1.nZR, q1.ch.ne, q1.nBR, q1.nGR⟩
def Fo2 (G R : Nat) : Nat → Prop := fun k => k = G ∨ k = R
theorem Qp.rep (q : Qp w Z B G R P L lo ls r l) {t : Nat} (ht : t < L) : (ls t).Nodup ∧ (∀ i ∈ ls t, i < P) := by
  obtain ⟨⟨g, q1, q2⟩, q3, q4, q5⟩ := q
  exact ⟨q2.nd t ht, q2.pl t ht⟩
theorem Qp.lslen (q : Qp w Z B G R P L lo ls r l) {t : Nat} (ht : t < L) : (ls t).length ≤ 1024 := by
  obtain ⟨h1, h2⟩ := q.rep ht
  exact Nat.le_trans (nodup_len P _ h1 h2) q.hP
end
/-! What the lists answer. -/
section
variable {w : World} {Z B G R P L : Nat} {lo : T → Nat} {ls : Ls} {r : Nat → T} {l : List T}
theorem which_qp (q : Qp w Z B G R P L lo ls r l) (k : Int) :
    Calls Tryd.prog 38 #[.pointer (some ⟨B, 0, none⟩), .int .i64 k] w fun e w' => (∃ t : Nat, e = .returned (.tuple #[.int .i64 t, .bool (fnd l k).isSome])) ∧ Bel w w' := by
  obtain ⟨⟨g, q1, q2⟩, hi, hP, hL⟩ := q
  cases hk : hp P k with
  | false =>
    rw [hi.outside hk]
    exact (which_no B G P L g k w q1.ch hk).mono fun e w' ⟨h1, h2⟩ => ⟨⟨0, h1⟩, h2⟩
  | true =>
    obtain ⟨k, rfl, hk2⟩ := hp_nat hk
    cases hf : fnd l k with
    | none => exact (which_none B G P L g k w q1.ch hP (by omega) hk2 (by rw [q2.al k hk2 (hi.out hf)])).mono fun e w' ⟨h1, h2⟩ => ⟨⟨0, h1⟩, h2⟩
    | some x =>
      obtain ⟨h1, h2, h3, h4⟩ := hi.inn hf
      exact (which_some B G P L g k (lo x) w q1.ch hP (by omega) hk2 (q2.li _ h3 k h4)).mono fun e w' ⟨h1, h2⟩ => ⟨⟨_, h1⟩, h2⟩
theorem first_qp (q : Qp w Z B G R P L lo ls r l) {t : Nat} (ht : t < L) :
    Calls Tryd.prog 67 #[.pointer (some ⟨B, 0, none⟩), .int .i64 t] w fun e w' => e = .returned (ans (ls t).head?) ∧ Bel w w' := by
  obtain ⟨⟨g, q1, q2⟩, hi, hP, hL⟩ := q
  exact first_yes B G P L g t (ls t) w q1.ch hP (by omega) ht (q2.nd t ht) (q2.pl t ht) (q2.fwd ht)
theorem places_qp (q : Qp w Z B G R P L lo ls r l) {t : Nat} (ht : t < L) :
    Calls Tryd.prog 50 #[.pointer (some ⟨B, 0, none⟩), .int .i64 t] w fun e w' => ∃ p c, e = .returned (.slice p (ls t).length c) ∧ (ls t).length ≤ c ∧ Lies (old w) w' p (encI (ls t)) ∧ Bel w w' := by
  obtain ⟨⟨g, q1, q2⟩, hi, hP, hL⟩ := q
  exact all_yes B G P L g t (ls t) w q1.ch hP (by omega) ht (q2.nd t ht) (q2.pl t ht) (q2.fwd ht)
theorem append_qp_no (q : Qp w Z B G R P L lo ls r l) {t : Nat} (ht : t < L) {x : T} (hn : ¬ insE P l x = 0) :
    Calls Tryd.prog 46 #[.pointer (some ⟨B, 0, none⟩), .int .i64 t, .int .i64 x.p] w fun e w' => e = .returned (.int .i64 (insE P l x)) ∧ Bel w w' := by
  obtain ⟨⟨g, q1, q2⟩, hi, hP, hL⟩ := q
  rcases insE_cases P l x with ⟨e, hk⟩ | ⟨k, e, hk, (⟨e2, y, hf⟩ | ⟨e2, hf⟩)⟩
  · rw [e]
    exact append_arg B G P L g t x.p w q1.ch hP (by omega) (by rw [hk]; simp)
  · rw [e2, e]
    obtain ⟨h1, h2, h3, h4⟩ := hi.inn hf
    exact append_in B G P L g t k w q1.ch hP (by omega) ht hk (by rw [q2.li _ h3 k h4]; omega)
  · exact absurd e2 hn
/-- The lists have another place in them, the row not yet. -/
theorem append_qp_ok (q : Qp w Z B G R P L lo ls r l) {t : Nat} (ht : t < L) {x : T} {k : Nat} (e : x.p = k) (hk : k < P) (hf : fnd l k = none) :
    Calls Tryd.prog 46 #[.pointer (some ⟨B, 0, none⟩), .int .i64 t, .int .i64 k] w fun e w' => e = .returned (.int .i64 0) ∧ (∃ g, Que w' Z B G R P L g r ∧ Rep P L g (upd ls t (ls t ++ [k]))) ∧ Off (Only G) w w' := by
  obtain ⟨⟨g, q1, q2⟩, hi, hP, hL⟩ := q
  have ho := hi.out hf
  have hlt : lst (P + t) (ls t) < P + L := q2.lst_lt ht (fun i hi => hi)
  refine (append_ok B G P L g t k _ w q1.ch hP (by omega) ht hk (by rw [q2.al k hk ho]) hlt (q2.endah ht)).mono fun e w' ⟨h1, h2, h3⟩ => ⟨h1, ⟨_, q1.chain h3 h2, ?_⟩, h3⟩
  exact q2.put ht hk ho (x := ls t) (y := []) (by simp)
theorem drop_qp_no (q : Qp w Z B G R P L lo ls r l) {k : Int} (hn : ¬ canE P l k = 0) :
    Calls Tryd.prog 54 #[.pointer (some ⟨B, 0, none⟩), .int .i64 k] w fun e w' => e = .returned (.int .i64 (canE P l k)) ∧ Bel w w' := by
  obtain ⟨⟨g, q1, q2⟩, hi, hP, hL⟩ := q
  rcases canE_cases P l k with ⟨_, (⟨e, hk⟩ | ⟨e, hk, hf⟩)⟩ | ⟨e, _⟩
  · rw [e]
    exact drop_arg B G P L g k w q1.ch hk
  · rw [e]
    obtain ⟨k, rfl, hk2⟩ := hp_nat hk
    exact drop_none B G P L g k w q1.ch hP (by omega) hk2 (by rw [q2.al k hk2 (hi.out hf)])
  · exact absurd e hn
theorem drop_qp_ok (q : Qp w Z B G R P L lo ls r l) {k : Nat} {x : T} (hf : fnd l k = some x) : ∃ a b, ls (lo x) = a ++ k :: b ∧
    Calls Tryd.prog 54 #[.pointer (some ⟨B, 0, none⟩), .int .i64 k] w fun e w' => e = .returned (.int .i64 0) ∧ (∃ g, Que w' Z B G R P L g r ∧ Rep P L g (upd ls (lo x) (a ++ b))) ∧ Off (Only G) w w' := by
  obtain ⟨⟨g, q1, q2⟩, hi, hP, hL⟩ := q
  obtain ⟨h1, h2, h3, h4⟩ := hi.inn hf
  obtain ⟨a, b, hl⟩ := List.append_of_mem h4
  refine ⟨a, b, hl, ?_⟩
  refine (drop_ok B G P L g k (lst (P + lo x) a) (fst (P + lo x) b) w q1.ch hP (by omega) h1 (by rw [q2.li _ h3 k h4]; omega) (q2.lst_lt h3 (fun i hi => by rw [hl]; simp [hi])) (q2.fst_lt h3 (fun i hi => by rw [hl]; simp [hi])) (q2.ahead h3 hl) (q2.behind h3 hl)).mono fun e w' ⟨k1, k2, k3⟩ => ⟨k1, ⟨_, q1.chain k3 k2, ?_⟩, k3⟩
  exact q2.drop h3 hl
end
end Go.Proofs.YtdoceldofkaapaaDoor
