/-
  A load in memory, as the list of the good notes that it took; the contracts of its calls over that list.
-/
import Derived.Test.YtfplmleakgpkiaaNote
set_option linter.unusedVariables false
set_option linter.unusedSimpArgs false
namespace Go.Proofs.Ytfplmleakgpkiaa
open Go.RowKit
/-- The fifteen numbers of a list of good notes. -/
def num (l : List T) : Nat → Int := fun j =>
  if j = 0 then (l.length : Int) else if j < 5 then tot ((j - 1 : Nat) : Int) (opn l) else if j = 5 then mx (opn l) else if j < 10 then tot ((j - 6 : Nat) : Int) (lst l) else if j = 10 then mx (lst l) else tot ((j - 11 : Nat) : Int) l
theorem num0 (l : List T) : num l 0 = l.length := rfl
theorem num_o (l : List T) (k : Nat) (h : k < 4) : num l (1 + k) = tot k (opn l) := by
  unfold num
  rw [if_neg (by omega), if_pos (by omega), show 1 + k - 1 = k by omega]
theorem num5 (l : List T) : num l 5 = mx (opn l) := by
  unfold num
  rw [if_neg (by omega), if_neg (by omega), if_pos rfl]
theorem num_l (l : List T) (k : Nat) (h : k < 4) : num l (6 + k) = tot k (lst l) := by
  unfold num
  rw [if_neg (by omega), if_neg (by omega), if_neg (by omega), if_pos (by omega), show 6 + k - 6 = k by omega]
theorem num10 (l : List T) : num l 10 = mx (lst l) := by
  unfold num
  rw [if_neg (by omega), if_neg (by omega), if_neg (by omega), if_neg (by omega), if_pos rfl]
theorem num_t (l : List T) (k : Nat) (h : k < 4) : num l (11 + k) = tot k l := by
  unfold num
  rw [if_neg (by omega), if_neg (by omega), if_neg (by omega), if_neg (by omega), if_neg (by omega), show 11 + k - 11 = k by omega]
/-- Which of the fifteen numbers it is. -/
theorem fifteen {j : Nat} (h : j < 15) : j = 0 ∨ (∃ i, i < 4 ∧ j = 1 + i) ∨ j = 5 ∨ (∃ i, i < 4 ∧ j = 6 + i) ∨ j = 10 ∨ ∃ i, i < 4 ∧ j = 11 + i := by
  by_cases h0 : j = 0
  · exact .inl h0
  by_cases h1 : j < 5
  · exact .inr (.inl ⟨j - 1, by omega, by omega⟩)
  by_cases h2 : j = 5
  · exact .inr (.inr (.inl h2))
  by_cases h3 : j < 10
  · exact .inr (.inr (.inr (.inl ⟨j - 6, by omega, by omega⟩)))
  by_cases h4 : j = 10
  · exact .inr (.inr (.inr (.inr (.inl h4))))
  exact .inr (.inr (.inr (.inr (.inr ⟨j - 11, by omega, by omega⟩))))
theorem tot_few {l : List T} (h : AllOk l) (hn : l.length ≤ 1000) (k : Int) : 0 ≤ tot k l ∧ tot k l ≤ 10000000 := by
  have := tot_bound k l h
  generalize tot k l = x at *
  omega
theorem mx_few {l : List T} (h : AllOk l) : 0 ≤ mx l ∧ mx l ≤ 10000000 := by
  have := mx_bound l h
  generalize mx l = x at *
  omega
theorem num_bound {l : List T} (h : AllOk l) (hn : l.length ≤ 1000) (j : Nat) (hj : j < 15) : 0 ≤ num l j ∧ num l j ≤ 10000000 := by
  have lo : (opn l).length ≤ 1000 := by rw [opn_len]; omega
  have ll : (lst l).length ≤ 1000 := Nat.le_trans (lst_len l) (by omega)
  rcases fifteen hj with rfl | ⟨i, hi, rfl⟩ | rfl | ⟨i, hi, rfl⟩ | rfl | ⟨i, hi, rfl⟩
  · rw [num0]; omega
  · rw [num_o _ _ hi]; exact tot_few h.opn lo _
  · rw [num5]; exact mx_few h.opn
  · rw [num_l _ _ hi]; exact tot_few h.lst ll _
  · rw [num10]; exact mx_few h.lst
  · rw [num_t _ _ hi]; exact tot_few h hn _
theorem plus_0 (f : Nat → Int) (k : Nat) (b c : Int) : plus f k b c 0 = f 0 + 1 := upd_same _ _ _
theorem plus_5 (f : Nat → Int) (k : Nat) (b c : Int) : plus f k b c 5 = max (f 5) c := by
  unfold plus
  rw [upd_other _ _ _ _ (by omega), upd_same]
theorem plus_o (f : Nat → Int) (k : Nat) (b c : Int) (i : Nat) (hi : i < 4) (hk : k ≤ 3) : plus f k b c (1 + i) = f (1 + i) + if k = i then b else 0 := by
  unfold plus
  rw [upd_other _ _ _ _ (by omega), upd_other _ _ _ _ (by omega)]
  by_cases e : k = i
  · subst e
    rw [upd_same, if_pos rfl]
  · rw [upd_other _ _ _ _ (by omega), upd_other _ _ _ _ (by omega), if_neg e, Int.add_zero]
theorem plus_t (f : Nat → Int) (k : Nat) (b c : Int) (i : Nat) (hi : i < 4) (hk : k ≤ 3) : plus f k b c (11 + i) = f (11 + i) + if k = i then b else 0 := by
  unfold plus
  rw [upd_other _ _ _ _ (by omega), upd_other _ _ _ _ (by omega), upd_other _ _ _ _ (by omega)]
  by_cases e : k = i
  · subst e
    rw [upd_same, if_pos rfl]
  · rw [upd_other _ _ _ _ (by omega), if_neg e, Int.add_zero]
theorem plus_l (f : Nat → Int) (k : Nat) (b c : Int) (j : Nat) (h6 : 6 ≤ j) (hj : j < 11) (hk : k ≤ 3) : plus f k b c j = f j := by
  unfold plus
  rw [upd_other _ _ _ _ (by omega), upd_other _ _ _ _ (by omega), upd_other _ _ _ _ (by omega), upd_other _ _ _ _ (by omega)]
theorem num_next (l : List T) (k : Nat) (b c : Int) (hk : k ≤ 3) (j : Nat) (hj : j < 15) :
    (if (l.length + 1) % 32 = 0 then shut (plus (num l) k b c) 5 else plus (num l) k b c) j = num (l ++ [⟨k, b, c⟩]) j := by
  have ki : ∀ i : Nat, (if k = i then b else 0) = (if (k : Int) = (i : Int) then b else 0) := fun i => by
    by_cases e : k = i
    · rw [if_pos e, if_pos (by omega)]
    · rw [if_neg e, if_neg (by omega)]
  have st : ∀ (i : Nat) (m : List T), tot (i : Int) (m ++ [⟨k, b, c⟩]) = tot (i : Int) m + if k = i then b else 0 := fun i m => by rw [tot_snoc, ki]
  have sm : ∀ m : List T, mx (m ++ [⟨k, b, c⟩]) = max (mx m) c := fun m => mx_snoc m _
  by_cases hz : (l.length + 1) % 32 = 0
  · rw [if_pos hz]
    rcases fifteen hj with rfl | ⟨i, hi, rfl⟩ | rfl | ⟨i, hi, rfl⟩ | rfl | ⟨i, hi, rfl⟩
    · rw [num0, List.length_append, List.length_singleton]
      unfold shut
      rw [if_neg (by omega), if_neg (by omega), plus_0, num0]
      omega
    · rw [num_o _ _ hi, opn_shut _ hz]
      unfold shut
      rw [if_neg (by omega), if_pos (by omega)]
      rfl
    · rw [num5, opn_shut _ hz]
      unfold shut
      rw [if_neg (by omega), if_pos (by omega)]
      rfl
    · rw [num_l _ _ hi, lst_shut _ hz, st]
      unfold shut
      rw [if_pos (by omega), show 6 + i - 5 = 1 + i by omega, plus_o _ _ _ _ _ hi hk, num_o _ _ hi]
    · rw [num10, lst_shut _ hz, sm]
      unfold shut
      rw [if_pos (by omega), show 10 - 5 = 5 by omega, plus_5, num5]
    · rw [num_t _ _ hi, st]
      unfold shut
      rw [if_neg (by omega), if_neg (by omega), plus_t _ _ _ _ _ hi hk, num_t _ _ hi]
  · rw [if_neg hz]
    rcases fifteen hj with rfl | ⟨i, hi, rfl⟩ | rfl | ⟨i, hi, rfl⟩ | rfl | ⟨i, hi, rfl⟩
    · rw [num0, List.length_append, List.length_singleton, plus_0, num0]
      omega
    · rw [num_o _ _ hi, opn_stay _ hz, st, plus_o _ _ _ _ _ hi hk, num_o _ _ hi]
    · rw [num5, opn_stay _ hz, sm, plus_5, num5]
    · rw [num_l _ _ hi, lst_stay _ hz, plus_l _ _ _ _ _ (by omega) (by omega) hk, num_l _ _ hi]
    · rw [num10, lst_stay _ hz, plus_l _ _ _ _ _ (by omega) (by omega) hk, num10]
    · rw [num_t _ _ hi, st, plus_t _ _ _ _ _ hi hk, num_t _ _ hi]
/-- A load behind a pointer, that took these good notes. -/
structure Ld (w : World) (p : Nat) (l : List T) : Prop where
  ns : Nums w p (num l)
  ok : AllOk l
theorem Ld.off {g : Nat → Prop} {w w' : World} {p : Nat} {l : List T} (h : Ld w p l) (k : Off g w w') (hg : ¬ g p) : Ld w' p l := ⟨h.ns.off k hg, h.ok⟩
theorem Ld.bel {w w' : World} {p : Nat} {l : List T} (h : Ld w p l) (k : Bel w w') : Ld w' p l := ⟨h.ns.bel k, h.ok⟩
theorem Ld.lt {w : World} {p : Nat} {l : List T} (h : Ld w p l) : p < w.heap.size := h.ns.lt
/-- Of one note: it, if it is good. -/
theorem good_one (t : T) : good [t] = if t.ok = true then [t] else [] := by
  unfold good
  by_cases e : t.ok = true
  · rw [if_pos e, List.filter_cons_of_pos e]; rfl
  · rw [if_neg e, List.filter_cons_of_neg e]; rfl
theorem note_any (p : Nat) (l : List T) (t : T) (w : World) (h : Ld w p l) (hn : l.length ≤ 999) :
    Calls Try.prog 9 #[.pointer (some ⟨p, 0, none⟩), .int .i64 t.a, .int .i64 t.b, .int .i64 t.c] w fun e w' => e = .returned (.int .i64 t.bad) ∧ Ld w' p (l ++ good [t]) ∧ Off (only p) w w' := by
  by_cases ht : t.ok = true
  · have k := (T.ok_iff t).1 ht
    obtain ⟨i, hi⟩ : ∃ i : Nat, t.a = i := ⟨t.a.toNat, by omega⟩
    have K := note_yes p (num l) i l.length t.b t.c w h.ns (by omega) ⟨k.2.2.1, k.2.2.2.1⟩ ⟨k.2.2.2.2.1, k.2.2.2.2.2⟩ (fun j hj => num_bound h.ok (by omega) j hj) (num0 l)
    rw [T.bad_of_ok ht, good_one, if_pos ht, hi]
    refine K.mono fun e w' ⟨h1, h2, h3⟩ => ⟨h1, ⟨?_, h.ok.snoc ht⟩, h3⟩
    have et : t = ⟨i, t.b, t.c⟩ := by rw [← hi]
    rw [et]
    exact h2.same fun j hj => num_next l i t.b t.c (by omega) j hj
  · rw [good_one, if_neg ht, List.append_nil]
    by_cases ha : 0 ≤ t.a ∧ t.a ≤ 3
    · have e : t.bad = 1 := by
        have := T.ok_no ht
        unfold T.bad at *
        rw [if_neg (by omega)] at *
        split at this
        · rw [if_pos (by assumption)]
        · exact absurd rfl this
      rw [e]
      refine (note_arg p t.a t.b t.c w ha (fun k => ht ((T.ok_iff t).2 ⟨ha.1, ha.2, k.1.1, k.1.2, k.2.1, k.2.2⟩))).mono fun e w' ⟨h1, h2⟩ => ?_
      subst h2
      exact ⟨h1, h, Off.refl _ _⟩
    · have e : t.bad = 7 := by
        unfold T.bad
        rw [if_pos (by omega)]
      rw [e]
      refine (note_kind p t.a t.b t.c w ha).mono fun e w' ⟨h1, h2⟩ => ?_
      subst h2
      exact ⟨h1, h, Off.refl _ _⟩
/-- A list's tally. -/
abbrev talV (l : List T) : Value := .agg #[.int .i64 (tot 0 l), .int .i64 (tot 1 l), .int .i64 (tot 2 l), .int .i64 (tot 3 l), .int .i64 (mx l)]
theorem lopen_any (p : Nat) (l : List T) (w : World) (h : Ld w p l) : Calls Try.prog 16 #[.pointer (some ⟨p, 0, none⟩)] w fun e w' => e = .returned (talV (opn l)) ∧ Bel w w' := open_any p (num l) w h.ns
theorem llast_any (p : Nat) (l : List T) (w : World) (h : Ld w p l) (hn : l.length ≤ 1000) : Calls Try.prog 13 #[.pointer (some ⟨p, 0, none⟩)] w fun e w' => e = .returned (.tuple #[talV (lst l), .bool (decide (32 ≤ l.length))]) ∧ Bel w w' := last_any p (num l) l.length w h.ns rfl (by omega)
theorem lnotes_any (p : Nat) (l : List T) (w : World) (h : Ld w p l) (hn : l.length ≤ 1000) : Calls Try.prog 18 #[.pointer (some ⟨p, 0, none⟩)] w fun e w' => e = .returned (.int .i64 ((l.length % 32 : Nat) : Int)) ∧ w' = w := notes_any p (num l) l.length w h.ns rfl (by omega)
theorem lwindows_any (p : Nat) (l : List T) (w : World) (h : Ld w p l) (hn : l.length ≤ 1000) : Calls Try.prog 19 #[.pointer (some ⟨p, 0, none⟩)] w fun e w' => e = .returned (.int .i64 ((l.length / 32 : Nat) : Int)) ∧ w' = w := windows_any p (num l) l.length w h.ns rfl (by omega)
theorem ltotal_yes (p : Nat) (l : List T) (k : Nat) (w : World) (h : Ld w p l) (hk : k ≤ 3) : Calls Try.prog 20 #[.pointer (some ⟨p, 0, none⟩), .int .i64 k] w fun e w' => e = .returned (.int .i64 (tot k l)) ∧ w' = w := by
  have K := total_yes p (num l) k w h.ns hk
  rw [num_t l k (by omega)] at K
  exact K
/-- Just made. -/
theorem new_any (w : World) : Calls Try.prog 8 #[] w fun e w' => ∃ p, e = .returned (.pointer (some ⟨p, 0, none⟩)) ∧ w.heap.size ≤ p ∧ Ld w' p [] ∧ Bel w w' := by
  go_enter Try.func8, Try.ntmps8
  go_wp2
  go_ret
  refine ⟨_, rfl, Nat.le_refl _, ⟨fun j hj => ?_, AllOk.nil⟩, (Bel.refl _).alloc _ _⟩
  have e : num [] j = 0 := by
    rcases fifteen hj with rfl | ⟨i, hi, rfl⟩ | rfl | ⟨i, hi, rfl⟩ | rfl | ⟨i, hi, rfl⟩
    · rfl
    · rw [num_o _ _ hi]; rfl
    · rfl
    · rw [num_l _ _ hi]; rfl
    · rfl
    · rw [num_t _ _ hi]; rfl
  rw [e]
  have hj' : j = 0 ∨ j = 1 ∨ j = 2 ∨ j = 3 ∨ j = 4 ∨ j = 5 ∨ j = 6 ∨ j = 7 ∨ j = 8 ∨ j = 9 ∨ j = 10 ∨ j = 11 ∨ j = 12 ∨ j = 13 ∨ j = 14 := by omega
  rcases hj' with rfl | rfl | rfl | rfl | rfl | rfl | rfl | rfl | rfl | rfl | rfl | rfl | rfl | rfl | rfl <;> simp [go_sem]
end Go.Proofs.Ytfplmleakgpkiaa
