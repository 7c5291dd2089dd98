/-
  A wheel as a list of timers: which slots have something.
  Contracts of a wheel: ready, list, mark.
-/
import Derived.Test.YtdoceldofkaapaaDoorPx
import Derived.Test.YtdoceldofkaapaaDoorXam
set_option linter.unusedVariables false
set_option linter.unusedSimpArgs false
namespace Go.Proofs.YtdoceldofkaapaaDoor.Ha
open Go.RowKit
/-- The list of a timer: its slot, or the one behind all slots. -/
def lof (S : Nat) (s : Int) (x : T) : Nat := if x.a ≤ s then S else slt S x
theorem lof_lt {S : Nat} (h : 0 < S) (s : Int) (x : T) : lof S s x < S + 1 := by
  unfold lof
  have := slt_lt h x
  split <;> omega
/-- In the bits are just those slots that have something. -/
structure Fl (S : Nat) (ls : Ls) (F : Nat → Nat) : Prop where
  wd : Bm.Wd F
  on : ∀ i, Bm.tb F i = true ↔ i < S ∧ ls i ≠ []
/-- Its own cells: where its timers lie; how many slots, the base, the bits, how many slots were looked into. -/
def hcells (Z S : Nat) (s : Int) (F : Nat → Nat) (k : Int) : List Value :=
  [.pointer (some ⟨Z, 0, none⟩), .int .i64 S, .int .u64 s, .int .u64 (F 0), .int .u64 (F 1), .int .u64 (F 2), .int .u64 (F 3), .int .i64 k]
/-- A wheel in memory is the list l. -/
structure Wh (w : World) (Q Z B G R P b : Nat) (s k : Int) (l : List T) : Prop where
  ex : ∃ ls r F, Qw w Q Z B G R P (slo b + 1) (lof (slo b) s) ls r 34 (hcells Z (slo b) (s) (F) k) l ∧ Fl (slo b) ls F
  re : Rest w Q Z B G R b s l
theorem tb_dp (B : Nat → Nat) (i j : Nat) : Bm.tb (Bm.dp B i) j = (Bm.tb B j && !decide (i = j)) := by
  unfold Bm.tb Bm.dp
  by_cases h : j / 64 = i / 64
  · rw [if_pos h, Nat.testBit_and, Bm.bit_mask (Nat.mod_lt _ (by decide)), decide_eq_true (Nat.mod_lt j (by decide)), Bool.true_and]
    congr 2
    rw [decide_eq_decide]
    omega
  · rw [if_neg h]
    have : ¬ i = j := fun e => h (by rw [e])
    simp [this]
/-- One slot turned: the bits, set anew for it, are right again. -/
theorem Fl.mark {S : Nat} {ls ls' : Ls} {F : Nat → Nat} (h : Fl S ls F) (hS : S ≤ 256) {t : Nat} (ht : t < S) (ho : ∀ i, i ≠ t → ls' i = ls i) : Fl S ls' (if ls' t = [] then Bm.dp F t else Bm.pt F t) := by
  split
  · rename_i e
    refine ⟨Bm.dp_wd h.wd t, fun i => ?_⟩
    rw [tb_dp F]
    by_cases hit : t = i
    · subst hit; simp [e]
    · rw [ho i (fun e => hit e.symm)]
      have := h.on i
      simp [hit, this]
  · rename_i e
    refine ⟨Bm.pt_wd h.wd t, fun i => ?_⟩
    rw [Bm.tb_pt]
    by_cases hit : t = i
    · subst hit; simp [e, ht]
    · rw [ho i (fun e => hit e.symm)]
      have := h.on i
      simp [hit, this]
theorem Fl.same {S : Nat} {ls ls' : Ls} {F : Nat → Nat} (h : Fl S ls F) (ho : ∀ i, i < S → ls' i = ls i) : Fl S ls' F :=
  ⟨h.wd, fun i => by
    rw [h.on i]
    constructor
    · rintro ⟨h1, h2⟩; exact ⟨h1, by rw [ho i h1]; exact h2⟩
    · rintro ⟨h1, h2⟩; rw [ho i h1] at h2; exact ⟨h1, h2⟩⟩
section
variable {w w' : World} {Q Z B G R P b : Nat} {s k : Int} {l : List T}
theorem Wh.off {f : Nat → Prop} (q : Wh w Q Z B G R P b s k l) (o : Off f w w') (hf : ∀ i, Fo5 Q Z B G R i → ¬ f i) (h0 : ¬ f 0) : Wh w' Q Z B G R P b s k l := by
  obtain ⟨⟨ls, r, F, h1, h2⟩, h3⟩ := q
  exact ⟨⟨ls, r, F, h1.off o (hf _ (.inl rfl)) (hf _ (.inr (.inl rfl))) (hf _ (.inr (.inr (.inl rfl)))) (hf _ (.inr (.inr (.inr (.inl rfl))))) (hf _ (.inr (.inr (.inr (.inr rfl))))), h2⟩, h3.off o h0⟩
theorem Wh.bel (q : Wh w Q Z B G R P b s k l) (o : Bel w w') : Wh w' Q Z B G R P b s k l := q.off o (fun _ _ e => e) (fun e => e)
theorem Wh.lt (q : Wh w Q Z B G R P b s k l) : Q < w.heap.size ∧ Z < w.heap.size ∧ B < w.heap.size ∧ G < w.heap.size ∧ R < w.heap.size := by
  obtain ⟨⟨ls, r, F, h1, h2⟩, h3⟩ := q
  exact h1.lt
/-- The bits are others. -/
def set4 (w : World) (Q : Nat) (F : Nat → Nat) : World := (((w.setCell ⟨Q, 3, none⟩ (.int .u64 (F 0))).setCell ⟨Q, 3 + 1, none⟩ (.int .u64 (F 1))).setCell ⟨Q, 3 + 2, none⟩ (.int .u64 (F 2))).setCell ⟨Q, 3 + 3, none⟩ (.int .u64 (F 3))
theorem Qw.fill {L S : Nat} {lo : T → Nat} {ls : Ls} {r : Nat → T} {F : Nat → Nat} (q : Qw w Q Z B G R P L lo ls r 34 (hcells Z S s F k) l) (F' : Nat → Nat) : Qw (set4 w Q F') Q Z B G R P L lo ls r 34 (hcells Z S s F' k) l ∧ Off (Only Q) w (set4 w Q F') := by
  obtain ⟨q1, o1⟩ := q.own (i := 3) (v := .int .u64 (F' 0)) (by omega) rfl
  obtain ⟨q2, o2⟩ := q1.own (i := 3 + 1) (v := .int .u64 (F' 1)) (by omega) rfl
  obtain ⟨q3, o3⟩ := q2.own (i := 3 + 2) (v := .int .u64 (F' 2)) (by omega) rfl
  obtain ⟨q4, o4⟩ := q3.own (i := 3 + 3) (v := .int .u64 (F' 3)) (by omega) rfl
  exact ⟨q4, ((o1.then o2).then o3).then o4⟩
end
/-- What is due in a list, and what is left. -/
def dueIn (S : Nat) (s now : Int) (t : Nat) (l : List T) : List T := l.filter fun y => decide (lof S s y = t) && decide (y.a ≤ now)
def leftIn (S : Nat) (s now : Int) (t : Nat) (l : List T) : List T := l.filter fun y => !(decide (lof S s y = t) && decide (y.a ≤ now))
theorem leftIn_sub {S : Nat} {s now : Int} {t : Nat} {l : List T} : ∀ y ∈ leftIn S s now t l, y ∈ l := fun y hy => (List.mem_filter.1 hy).1
end Go.Proofs.YtdoceldofkaapaaDoor.Ha
namespace Go.Proofs.YtdoceldofkaapaaDoor.Ha
open Go.RowKit
theorem ready_any (Q S : Nat) (w : World) (h : w.cell? ⟨Q, 1, none⟩ = some (.int .i64 S)) :
    Calls Tryd.prog 26 #[.pointer (some ⟨Q, 0, none⟩)] w fun e w' => e = .returned (.int .i64 S) ∧ w = w' := by
  go_enter Tryd.func26, Tryd.ntmps26
  go_wp2
  go_ret
  exact ⟨rfl, rfl⟩
/-- The list of a tick. -/
def lofN (S : Nat) (s a : Int) : Nat := if a ≤ s then S else (a % (S : Int)).toNat
theorem lof_eq (S : Nat) (s : Int) (x : T) : lof S s x = lofN S s x.a := rfl
theorem umodS {S : Nat} {a : Int} (h0 : 4 ≤ S) (h1 : S ≤ 256) (ha : Tk a) : (S : Int) ≠ 0 ∧ IntKind.u64.wrap (S : Int) = S ∧ a.tmod (S : Int) = ((a % (S : Int)).toNat : Nat) ∧ IntKind.u64.wrap (((a % (S : Int)).toNat : Nat) : Int) = ((a % (S : Int)).toNat : Nat) ∧ IntKind.i64.wrap (((a % (S : Int)).toNat : Nat) : Int) = ((a % (S : Int)).toNat : Nat) := by
  have h2 := Int.emod_nonneg a (b := (S : Int)) (by omega)
  have h3 := Int.emod_lt_of_pos a (b := (S : Int)) (by omega)
  have h4 : (((a % (S : Int)).toNat : Nat) : Int) = a % (S : Int) := by omega
  refine ⟨by omega, ?_, ?_, ?_, ?_⟩
  · rw [IntKind.wrap_u64]; omega
  · rw [Int.tmod_eq_emod_of_nonneg ha.1, h4]
  · rw [IntKind.wrap_u64]; omega
  · rw [IntKind.wrap_i64]; omega
theorem list_any (Q S : Nat) (s a : Int) (w : World) (h2 : w.cell? ⟨Q, 1, none⟩ = some (.int .i64 S)) (h3 : w.cell? ⟨Q, 2, none⟩ = some (.int .u64 s)) (h0 : 4 ≤ S) (h1 : S ≤ 256) (ha : Tk a) :
    Calls Tryd.prog 31 #[.pointer (some ⟨Q, 0, none⟩), .int .u64 a] w fun e w' => e = .returned (.int .i64 (lofN S s a)) ∧ w = w' := by
  have K := Lib.hid (ready_any Q S w h2)
  unfold lofN
  by_cases h : a ≤ s
  · rw [if_pos h]
    go_enter Tryd.func31, Tryd.ntmps31
    go_wp2_with fail
    with_reducible refine K.out.mono ?_
    rintro e w' ⟨rfl, rfl⟩
    go_wp2
    go_ret
    exact ⟨rfl, rfl⟩
  · rw [if_neg h]
    obtain ⟨m0, m1, m2, m3, m4⟩ := umodS h0 h1 ha
    generalize (a % (S : Int)).toNat = m at *
    generalize hS : (S : Int) = Z at *
    clear K hS
    go_enter Tryd.func31, Tryd.ntmps31
    go_wp2
    go_ret
    exact ⟨rfl, rfl⟩
section
variable {Q Z B G R P L : Nat} {lo : T → Nat} {ls : Ls} {r : Nat → T} {l : List T}
theorem mark_ready {S : Nat} {s k : Int} {F : Nat → Nat} (w : World) (q : Qw w Q Z B G R P L lo ls r 34 (hcells Z (S) (s) (F) k) l) :
    Calls Tryd.prog 33 #[.pointer (some ⟨Q, 0, none⟩), .int .i64 S] w fun e w' => e = .returned (.tuple #[]) ∧ Bel w w' := by
  have c2 : w.cell? ⟨Q, 1, none⟩ = some (.int .i64 S) := q.cell rfl
  have K := Lib.hid (ready_any Q S w c2)
  clear q
  go_enter Tryd.func33, Tryd.ntmps33
  go_wp2_with fail
  with_reducible refine K.out.mono ?_
  rintro e w' ⟨rfl, rfl⟩
  go_wp2
  refine bodyPost_ret (results_none rfl _ _ _) rfl ?_
  exact ⟨rfl, Bel.refl _⟩
theorem pti_nat (F : Nat → Nat) {t : Nat} (h : t < 256) : Bm.pti F (t : Int) = Bm.pt F t := by
  unfold Bm.pti
  rw [if_pos (by omega)]
  simp
theorem dpi_nat (F : Nat → Nat) {t : Nat} (h : t < 256) : Bm.dpi F (t : Int) = Bm.dp F t := by
  unfold Bm.dpi
  rw [if_pos (by omega)]
  simp
set_option maxHeartbeats 1000000 in
theorem mark_slot {S t : Nat} {s k : Int} {F : Nat → Nat} (hL : L = S + 1) (h1 : S ≤ 256) (ht : t < S) (hF : Bm.Wd F) (w : World) (q : Qw w Q Z B G R P L lo ls r 34 (hcells Z (S) (s) (F) k) l) :
    Calls Tryd.prog 33 #[.pointer (some ⟨Q, 0, none⟩), .int .i64 t] w fun e w' => e = .returned (.tuple #[]) ∧ Qw w' Q Z B G R P L lo ls r 34 (hcells Z (S) (s) (if ls t = [] then Bm.dp F t else Bm.pt F t) k) l ∧ Off (Only Q) w w' := by
  have c2 : w.cell? ⟨Q, 1, none⟩ = some (.int .i64 S) := q.cell rfl
  have c0 : w.cell? ⟨Q, 0, none⟩ = some (.pointer (some ⟨Z, 0, none⟩)) := q.cell rfl
  have K := Lib.hid (ready_any Q S w c2)
  have K1 := Lib.hid (some_any (t := t) (by omega) w q.ql)
  have HA := Lib.hid q
  have hne : ((t : Int) == (S : Int)) = false := by simp; omega
  have lQ := q.ltQ
  have KP := Lib.hid (fun w' => Bm.put_any F hF (t : Int) w')
  have KD := Lib.hid (fun w' => Bm.drop_any F hF (t : Int) w')
  rw [pti_nat F (by omega)] at KP
  rw [dpi_nat F (by omega)] at KD
  have fz := q.froz
  have z4 := fz 3
  have z5 := fz (3 + 1)
  have z6 := fz (3 + 2)
  have z7 := fz (3 + 3)
  cases e : ls t with
  | nil =>
    rw [if_pos rfl]
    have h1 : has1 (ls t) = false := by rw [e]; rfl
    rw [h1] at K1
    clear q fz h1
    go_enter Tryd.func33, Tryd.ntmps33
    go_wp2_with fail
    with_reducible refine K.out.mono ?_
    rintro e w' ⟨rfl, rfl⟩
    go_wp2_with fail
    with_reducible refine K1.out.mono ?_
    rintro e w1 ⟨rfl, hb⟩
    have q1 := HA.out.bel hb
    have d4 : w1.cell? ⟨Q, 3, none⟩ = some (.int .u64 (F 0)) := q1.cell rfl
    have d5 : w1.cell? ⟨Q, 3 + 1, none⟩ = some (.int .u64 (F 1)) := q1.cell rfl
    have d6 : w1.cell? ⟨Q, 3 + 2, none⟩ = some (.int .u64 (F 2)) := q1.cell rfl
    have d7 : w1.cell? ⟨Q, 3 + 3, none⟩ = some (.int .u64 (F 3)) := q1.cell rfl
    have lQ1 := q1.ltQ
    have HB1 := Lib.hid hb
    clear hb q1
    go_wp2_with fail
    with_reducible refine (KD.out _).mono ?_
    rintro e w2 ⟨rfl, hb2⟩
    have HB2 := Lib.hid (HB1.out.trans (bm_bel hb2))
    have q2 := HA.out.bel HB2.out
    have z4 := q2.froz 3
    have z5 := q2.froz (3 + 1)
    have z6 := q2.froz (3 + 2)
    have z7 := q2.froz (3 + 3)
    have d4 : w2.cell? ⟨Q, 3, none⟩ = some (.int .u64 (F 0)) := q2.cell rfl
    have d5 : w2.cell? ⟨Q, 3 + 1, none⟩ = some (.int .u64 (F 1)) := q2.cell rfl
    have d6 : w2.cell? ⟨Q, 3 + 2, none⟩ = some (.int .u64 (F 2)) := q2.cell rfl
    have d7 : w2.cell? ⟨Q, 3 + 3, none⟩ = some (.int .u64 (F 3)) := q2.cell rfl
    have lQ2 := q2.ltQ
    obtain ⟨q3, o3⟩ := Qw.fill q2 (Bm.dp F t)
    have HQ3 := Lib.hid q3
    have HO3 : Hid (Off (Only Q) w (set4 w2 Q (Bm.dp F t))) := Lib.hid ((HB2.out.off (Only Q)).then o3)
    clear q2 q3 o3 hb2
    generalize hF2 : Bm.dp F t = F2 at HQ3 HO3 ⊢
    have HF2 := Lib.hid hF2
    clear hF2
    go_wp2
    go_end0
    obtain rfl := HF2.out
    exact ⟨rfl, HQ3.out, HO3.out⟩
  | cons y rest =>
    rw [if_neg (by simp)]
    have h1 : has1 (ls t) = true := by rw [e]; rfl
    rw [h1] at K1
    clear q fz h1
    go_enter Tryd.func33, Tryd.ntmps33
    go_wp2_with fail
    with_reducible refine K.out.mono ?_
    rintro e w' ⟨rfl, rfl⟩
    go_wp2_with fail
    with_reducible refine K1.out.mono ?_
    rintro e w1 ⟨rfl, hb⟩
    have q1 := HA.out.bel hb
    have d4 : w1.cell? ⟨Q, 3, none⟩ = some (.int .u64 (F 0)) := q1.cell rfl
    have d5 : w1.cell? ⟨Q, 3 + 1, none⟩ = some (.int .u64 (F 1)) := q1.cell rfl
    have d6 : w1.cell? ⟨Q, 3 + 2, none⟩ = some (.int .u64 (F 2)) := q1.cell rfl
    have d7 : w1.cell? ⟨Q, 3 + 3, none⟩ = some (.int .u64 (F 3)) := q1.cell rfl
    have lQ1 := q1.ltQ
    have HB1 := Lib.hid hb
    clear hb q1
    go_wp2_with fail
    with_reducible refine (KP.out _).mono ?_
    rintro e w2 ⟨rfl, hb2⟩
    have HB2 := Lib.hid (HB1.out.trans (bm_bel hb2))
    have q2 := HA.out.bel HB2.out
    have z4 := q2.froz 3
    have z5 := q2.froz (3 + 1)
    have z6 := q2.froz (3 + 2)
    have z7 := q2.froz (3 + 3)
    have d4 : w2.cell? ⟨Q, 3, none⟩ = some (.int .u64 (F 0)) := q2.cell rfl
    have d5 : w2.cell? ⟨Q, 3 + 1, none⟩ = some (.int .u64 (F 1)) := q2.cell rfl
    have d6 : w2.cell? ⟨Q, 3 + 2, none⟩ = some (.int .u64 (F 2)) := q2.cell rfl
    have d7 : w2.cell? ⟨Q, 3 + 3, none⟩ = some (.int .u64 (F 3)) := q2.cell rfl
    have lQ2 := q2.ltQ
    obtain ⟨q3, o3⟩ := Qw.fill q2 (Bm.pt F t)
    have HQ3 := Lib.hid q3
    have HO3 : Hid (Off (Only Q) w (set4 w2 Q (Bm.pt F t))) := Lib.hid ((HB2.out.off (Only Q)).then o3)
    clear q2 q3 o3 hb2
    generalize hF2 : Bm.pt F t = F2 at HQ3 HO3 ⊢
    have HF2 := Lib.hid hF2
    clear hF2
    go_wp2
    go_end0
    obtain rfl := HF2.out
    exact ⟨rfl, HQ3.out, HO3.out⟩
end
end Go.Proofs.YtdoceldofkaapaaDoor.Ha
