/-
  A wheel as a list of timers: which slots have something.
  Contracts of a wheel: ready, list, mark.
  Contracts of a wheel: Insert, Cancel, Move.
-/
import Derived.Test.YtdoceldofkaapaaGreatDoorXar
set_option linter.unusedVariables false
set_option linter.unusedSimpArgs false
namespace Go.Proofs.YtdoceldofkaapaaGreatDoor.Ha
open Go.RowKit
/-- The list of a timer: its slot, or the one behind all slots. -/
def lof (S : Nat) (s : Int) (x : T) : Nat := if x.a ≤ s then S else slt S x
theorem lof_lt {S : Nat} (h : 0 < S) (s : Int) (x : T) : lof S s x < S + 1 := by
  unfold lof
  have := slt_lt h x
  split <;> omega
/-- In the bits are just those slots that have something. -/
structure Fl (S : Nat) (ls : Ls) (F : Nat → Nat) : Prop where
  wd : Bm.Wd F
  on : ∀ i, Bm.tb F i = true ↔ i < S ∧ ls i ≠ []
/-- Its own cells: where its timers lie; how many slots, the base, the bits, how many slots were looked into. -/
def hcells (Z S : Nat) (s : Int) (F : Nat → Nat) (k : Int) : List Value :=
  [.pointer (some ⟨Z, 0, none⟩), .int .i64 S, .int .u64 s, .int .u64 (F 0), .int .u64 (F 1), .int .u64 (F 2), .int .u64 (F 3), .int .i64 k]
/-- A wheel in memory is the list l. -/
structure Wh (w : World) (Q Z B G R P b : Nat) (s k : Int) (l : List T) : Prop where
  ex : ∃ ls r F, Qw w Q Z B G R P (slo b + 1) (lof (slo b) s) ls r 52 (hcells Z (slo b) (s) (F) k) l ∧ Fl (slo b) ls F
  re : Rest w Q Z B G R b s l
/-- One slot turned: the bits, set anew for it, are right again. -/
theorem Fl.mark {S : Nat} {ls ls' : Ls} {F : Nat → Nat} (h : Fl S ls F) (hS : S ≤ 256) {t : Nat} (ht : t < S) (ho : ∀ i, i ≠ t → ls' i = ls i) : Fl S ls' (if ls' t = [] then Bm.dp F t else Bm.pt F t) := by
  split
  · rename_i e
    refine ⟨Bm.dp_wd h.wd t, fun i => ?_⟩
    rw [tb_dp F]
    by_cases hit : t = i
    · subst hit; simp [e]
    · rw [ho i (fun e => hit e.symm)]
      have := h.on i
      simp [hit, this]
  · rename_i e
    refine ⟨Bm.pt_wd h.wd t, fun i => ?_⟩
    rw [Bm.tb_pt]
    by_cases hit : t = i
    · subst hit; simp [e, ht]
    · rw [ho i (fun e => hit e.symm)]
      have := h.on i
      simp [hit, this]
theorem Fl.same {S : Nat} {ls ls' : Ls} {F : Nat → Nat} (h : Fl S ls F) (ho : ∀ i, i < S → ls' i = ls i) : Fl S ls' F :=
  ⟨h.wd, fun i => by
    rw [h.on i]
    constructor
    · rintro ⟨h1, h2⟩; exact ⟨h1, by rw [ho i h1]; exact h2⟩
    · rintro ⟨h1, h2⟩; rw [ho i h1] at h2; exact ⟨h1, h2⟩⟩
section
variable {w w' : World} {Q Z B G R P b : Nat} {s k : Int} {l : List T}
theorem Wh.off {f : Nat → Prop} (q : Wh w Q Z B G R P b s k l) (o : Off f w w') (hf : ∀ i, Fo5 Q Z B G R i → ¬ f i) (h0 : ¬ f 0) : Wh w' Q Z B G R P b s k l := by
  obtain ⟨⟨ls, r, F, h1, h2⟩, h3⟩ := q
  exact ⟨⟨ls, r, F, h1.off o (hf _ (.inl rfl)) (hf _ (.inr (.inl rfl))) (hf _ (.inr (.inr (.inl rfl)))) (hf _ (.inr (.inr (.inr (.inl rfl))))) (hf _ (.inr (.inr (.inr (.inr rfl))))), h2⟩, h3.off o h0⟩
theorem Wh.bel (q : Wh w Q Z B G R P b s k l) (o : Bel w w') : Wh w' Q Z B G R P b s k l := q.off o (fun _ _ e => e) (fun e => e)
theorem Wh.lt (q : Wh w Q Z B G R P b s k l) : Q < w.heap.size ∧ Z < w.heap.size ∧ B < w.heap.size ∧ G < w.heap.size ∧ R < w.heap.size := by
  obtain ⟨⟨ls, r, F, h1, h2⟩, h3⟩ := q
  exact h1.lt
/-- The bits are others. -/
def set4 (w : World) (Q : Nat) (F : Nat → Nat) : World := (((w.setCell ⟨Q, 3, none⟩ (.int .u64 (F 0))).setCell ⟨Q, 3 + 1, none⟩ (.int .u64 (F 1))).setCell ⟨Q, 3 + 2, none⟩ (.int .u64 (F 2))).setCell ⟨Q, 3 + 3, none⟩ (.int .u64 (F 3))
theorem Qw.fill {L S : Nat} {lo : T → Nat} {ls : Ls} {r : Nat → T} {F : Nat → Nat} (q : Qw w Q Z B G R P L lo ls r 52 (hcells Z S s F k) l) (F' : Nat → Nat) : Qw (set4 w Q F') Q Z B G R P L lo ls r 52 (hcells Z S s F' k) l ∧ Off (Only Q) w (set4 w Q F') := by
  obtain ⟨q1, o1⟩ := q.own (i := 3) (v := .int .u64 (F' 0)) (by omega) rfl
  obtain ⟨q2, o2⟩ := q1.own (i := 3 + 1) (v := .int .u64 (F' 1)) (by omega) rfl
  obtain ⟨q3, o3⟩ := q2.own (i := 3 + 2) (v := .int .u64 (F' 2)) (by omega) rfl
  obtain ⟨q4, o4⟩ := q3.own (i := 3 + 3) (v := .int .u64 (F' 3)) (by omega) rfl
  exact ⟨q4, ((o1.then o2).then o3).then o4⟩
end
/-- What is due in a list, and what is left. -/
def dueIn (S : Nat) (s now : Int) (t : Nat) (l : List T) : List T := l.filter fun y => decide (lof S s y = t) && decide (y.a ≤ now)
def leftIn (S : Nat) (s now : Int) (t : Nat) (l : List T) : List T := l.filter fun y => !(decide (lof S s y = t) && decide (y.a ≤ now))
theorem leftIn_sub {S : Nat} {s now : Int} {t : Nat} {l : List T} : ∀ y ∈ leftIn S s now t l, y ∈ l := fun y hy => (List.mem_filter.1 hy).1
end Go.Proofs.YtdoceldofkaapaaGreatDoor.Ha
namespace Go.Proofs.YtdoceldofkaapaaGreatDoor.Ha
open Go.RowKit
theorem ready_any (Q S : Nat) (w : World) (h : w.cell? ⟨Q, 1, none⟩ = some (.int .i64 S)) :
    Calls Tryz.prog 51 #[.pointer (some ⟨Q, 0, none⟩)] w fun e w' => e = .returned (.int .i64 S) ∧ w = w' := by
  go_enter Tryz.func51, Tryz.ntmps51
  go_wp2
  go_ret
  exact ⟨rfl, rfl⟩
/-- The list of a tick. -/
def lofN (S : Nat) (s a : Int) : Nat := if a ≤ s then S else (a % (S : Int)).toNat
theorem lof_eq (S : Nat) (s : Int) (x : T) : lof S s x = lofN S s x.a := rfl
theorem umodS {S : Nat} {a : Int} (h0 : 4 ≤ S) (h1 : S ≤ 256) (ha : Tk a) : (S : Int) ≠ 0 ∧ IntKind.u64.wrap (S : Int) = S ∧ a.tmod (S : Int) = ((a % (S : Int)).toNat : Nat) ∧ IntKind.u64.wrap (((a % (S : Int)).toNat : Nat) : Int) = ((a % (S : Int)).toNat : Nat) ∧ IntKind.i64.wrap (((a % (S : Int)).toNat : Nat) : Int) = ((a % (S : Int)).toNat : Nat) := by
  have h2 := Int.emod_nonneg a (b := (S : Int)) (by omega)
  have h3 := Int.emod_lt_of_pos a (b := (S : Int)) (by omega)
  have h4 : (((a % (S : Int)).toNat : Nat) : Int) = a % (S : Int) := by omega
  refine ⟨by omega, ?_, ?_, ?_, ?_⟩
  · rw [IntKind.wrap_u64]; omega
  · rw [Int.tmod_eq_emod_of_nonneg ha.1, h4]
  · rw [IntKind.wrap_u64]; omega
  · rw [IntKind.wrap_i64]; omega
theorem list_any (Q S : Nat) (s a : Int) (w : World) (h2 : w.cell? ⟨Q, 1, none⟩ = some (.int .i64 S)) (h3 : w.cell? ⟨Q, 2, none⟩ = some (.int .u64 s)) (h0 : 4 ≤ S) (h1 : S ≤ 256) (ha : Tk a) :
    Calls Tryz.prog 72 #[.pointer (some ⟨Q, 0, none⟩), .int .u64 a] w fun e w' => e = .returned (.int .i64 (lofN S s a)) ∧ w = w' := by
  have K := Lib.hid (ready_any Q S w h2)
  unfold lofN
  by_cases h : a ≤ s
  · rw [if_pos h]
    go_enter Tryz.func72, Tryz.ntmps72
    go_wp2_with fail
    with_reducible refine K.out.mono ?_
    rintro e w' ⟨rfl, rfl⟩
    go_wp2
    go_ret
    exact ⟨rfl, rfl⟩
  · rw [if_neg h]
    obtain ⟨m0, m1, m2, m3, m4⟩ := umodS h0 h1 ha
    generalize (a % (S : Int)).toNat = m at *
    generalize hS : (S : Int) = Z at *
    clear K hS
    go_enter Tryz.func72, Tryz.ntmps72
    go_wp2
    go_ret
    exact ⟨rfl, rfl⟩
section
variable {Q Z B G R P L : Nat} {lo : T → Nat} {ls : Ls} {r : Nat → T} {l : List T}
theorem mark_ready {S : Nat} {s k : Int} {F : Nat → Nat} (w : World) (q : Qw w Q Z B G R P L lo ls r 52 (hcells Z (S) (s) (F) k) l) :
    Calls Tryz.prog 74 #[.pointer (some ⟨Q, 0, none⟩), .int .i64 S] w fun e w' => e = .returned (.tuple #[]) ∧ Bel w w' := by
  have c2 : w.cell? ⟨Q, 1, none⟩ = some (.int .i64 S) := q.cell rfl
  have K := Lib.hid (ready_any Q S w c2)
  clear q
  go_enter Tryz.func74, Tryz.ntmps74
  go_wp2_with fail
  with_reducible refine K.out.mono ?_
  rintro e w' ⟨rfl, rfl⟩
  go_wp2
  refine bodyPost_ret (results_none rfl _ _ _) rfl ?_
  exact ⟨rfl, Bel.refl _⟩
theorem pti_nat (F : Nat → Nat) {t : Nat} (h : t < 256) : Bm.pti F (t : Int) = Bm.pt F t := by
  unfold Bm.pti
  rw [if_pos (by omega)]
  simp
theorem dpi_nat (F : Nat → Nat) {t : Nat} (h : t < 256) : Bm.dpi F (t : Int) = Bm.dp F t := by
  unfold Bm.dpi
  rw [if_pos (by omega)]
  simp
set_option maxHeartbeats 1000000 in
theorem mark_slot {S t : Nat} {s k : Int} {F : Nat → Nat} (hL : L = S + 1) (h1 : S ≤ 256) (ht : t < S) (hF : Bm.Wd F) (w : World) (q : Qw w Q Z B G R P L lo ls r 52 (hcells Z (S) (s) (F) k) l) :
    Calls Tryz.prog 74 #[.pointer (some ⟨Q, 0, none⟩), .int .i64 t] w fun e w' => e = .returned (.tuple #[]) ∧ Qw w' Q Z B G R P L lo ls r 52 (hcells Z (S) (s) (if ls t = [] then Bm.dp F t else Bm.pt F t) k) l ∧ Off (Only Q) w w' := by
  have c2 : w.cell? ⟨Q, 1, none⟩ = some (.int .i64 S) := q.cell rfl
  have c0 : w.cell? ⟨Q, 0, none⟩ = some (.pointer (some ⟨Z, 0, none⟩)) := q.cell rfl
  have K := Lib.hid (ready_any Q S w c2)
  have K1 := Lib.hid (some_any (t := t) (by omega) w q.ql)
  have HA := Lib.hid q
  have hne : ((t : Int) == (S : Int)) = false := by simp; omega
  have lQ := q.ltQ
  have KP := Lib.hid (fun w' => Bm.put_any F hF (t : Int) w')
  have KD := Lib.hid (fun w' => Bm.drop_any F hF (t : Int) w')
  rw [pti_nat F (by omega)] at KP
  rw [dpi_nat F (by omega)] at KD
  have fz := q.froz
  have z4 := fz 3
  have z5 := fz (3 + 1)
  have z6 := fz (3 + 2)
  have z7 := fz (3 + 3)
  cases e : ls t with
  | nil =>
    rw [if_pos rfl]
    have h1 : has1 (ls t) = false := by rw [e]; rfl
    rw [h1] at K1
    clear q fz h1
    go_enter Tryz.func74, Tryz.ntmps74
    go_wp2_with fail
    with_reducible refine K.out.mono ?_
    rintro e w' ⟨rfl, rfl⟩
    go_wp2_with fail
    with_reducible refine K1.out.mono ?_
    rintro e w1 ⟨rfl, hb⟩
    have q1 := HA.out.bel hb
    have d4 : w1.cell? ⟨Q, 3, none⟩ = some (.int .u64 (F 0)) := q1.cell rfl
    have d5 : w1.cell? ⟨Q, 3 + 1, none⟩ = some (.int .u64 (F 1)) := q1.cell rfl
    have d6 : w1.cell? ⟨Q, 3 + 2, none⟩ = some (.int .u64 (F 2)) := q1.cell rfl
    have d7 : w1.cell? ⟨Q, 3 + 3, none⟩ = some (.int .u64 (F 3)) := q1.cell rfl
    have lQ1 := q1.ltQ
    have HB1 := Lib.hid hb
    clear hb q1
    go_wp2_with fail
    with_reducible refine (KD.out _).mono ?_
    rintro e w2 ⟨rfl, hb2⟩
    have HB2 := Lib.hid (HB1.out.trans (bm_bel hb2))
    have q2 := HA.out.bel HB2.out
    have z4 := q2.froz 3
    have z5 := q2.froz (3 + 1)
    have z6 := q2.froz (3 + 2)
    have z7 := q2.froz (3 + 3)
    have d4 : w2.cell? ⟨Q, 3, none⟩ = some (.int .u64 (F 0)) := q2.cell rfl
    have d5 : w2.cell? ⟨Q, 3 + 1, none⟩ = some (.int .u64 (F 1)) := q2.cell rfl
    have d6 : w2.cell? ⟨Q, 3 + 2, none⟩ = some (.int .u64 (F 2)) := q2.cell rfl
    have d7 : w2.cell? ⟨Q, 3 + 3, none⟩ = some (.int .u64 (F 3)) := q2.cell rfl
    have lQ2 := q2.ltQ
    obtain ⟨q3, o3⟩ := Qw.fill q2 (Bm.dp F t)
    have HQ3 := Lib.hid q3
    have HO3 : Hid (Off (Only Q) w (set4 w2 Q (Bm.dp F t))) := Lib.hid ((HB2.out.off (Only Q)).then o3)
    clear q2 q3 o3 hb2
    generalize hF2 : Bm.dp F t = F2 at HQ3 HO3 ⊢
    have HF2 := Lib.hid hF2
    clear hF2
    go_wp2
    go_end0
    obtain rfl := HF2.out
    exact ⟨rfl, HQ3.out, HO3.out⟩
  | cons y rest =>
    rw [if_neg (by simp)]
    have h1 : has1 (ls t) = true := by rw [e]; rfl
    rw [h1] at K1
    clear q fz h1
    go_enter Tryz.func74, Tryz.ntmps74
    go_wp2_with fail
    with_reducible refine K.out.mono ?_
    rintro e w' ⟨rfl, rfl⟩
    go_wp2_with fail
    with_reducible refine K1.out.mono ?_
    rintro e w1 ⟨rfl, hb⟩
    have q1 := HA.out.bel hb
    have d4 : w1.cell? ⟨Q, 3, none⟩ = some (.int .u64 (F 0)) := q1.cell rfl
    have d5 : w1.cell? ⟨Q, 3 + 1, none⟩ = some (.int .u64 (F 1)) := q1.cell rfl
    have d6 : w1.cell? ⟨Q, 3 + 2, none⟩ = some (.int .u64 (F 2)) := q1.cell rfl
    have d7 : w1.cell? ⟨Q, 3 + 3, none⟩ = some (.int .u64 (F 3)) := q1.cell rfl
    have lQ1 := q1.ltQ
    have HB1 := Lib.hid hb
    clear hb q1
    go_wp2_with fail
    with_reducible refine (KP.out _).mono ?_
    rintro e w2 ⟨rfl, hb2⟩
    have HB2 := Lib.hid (HB1.out.trans (bm_bel hb2))
    have q2 := HA.out.bel HB2.out
    have z4 := q2.froz 3
    have z5 := q2.froz (3 + 1)
    have z6 := q2.froz (3 + 2)
    have z7 := q2.froz (3 + 3)
    have d4 : w2.cell? ⟨Q, 3, none⟩ = some (.int .u64 (F 0)) := q2.cell rfl
    have d5 : w2.cell? ⟨Q, 3 + 1, none⟩ = some (.int .u64 (F 1)) := q2.cell rfl
    have d6 : w2.cell? ⟨Q, 3 + 2, none⟩ = some (.int .u64 (F 2)) := q2.cell rfl
    have d7 : w2.cell? ⟨Q, 3 + 3, none⟩ = some (.int .u64 (F 3)) := q2.cell rfl
    have lQ2 := q2.ltQ
    obtain ⟨q3, o3⟩ := Qw.fill q2 (Bm.pt F t)
    have HQ3 := Lib.hid q3
    have HO3 : Hid (Off (Only Q) w (set4 w2 Q (Bm.pt F t))) := Lib.hid ((HB2.out.off (Only Q)).then o3)
    clear q2 q3 o3 hb2
    generalize hF2 : Bm.pt F t = F2 at HQ3 HO3 ⊢
    have HF2 := Lib.hid hF2
    clear hF2
    go_wp2
    go_end0
    obtain rfl := HF2.out
    exact ⟨rfl, HQ3.out, HO3.out⟩
end
end Go.Proofs.YtdoceldofkaapaaGreatDoor.Ha
namespace Go.Proofs.YtdoceldofkaapaaGreatDoor.Ha
open Go.RowKit
section
variable {Q Z B G R P b : Nat} {s k : Int} {l : List T}
/-- A list was marked. -/
theorem mark_wh {ls ls' : Ls} {r : Nat → T} {F : Nat → Nat} {l' : List T} {t : Nat} (w : World) (q : Qw w Q Z B G R P (slo b + 1) (lof (slo b) s) ls' r 52 (hcells Z (slo b) (s) (F) k) l') (hF : Fl (slo b) ls F)
    (ht : t < slo b + 1) (ho : ∀ i, i ≠ t → ls' i = ls i) (hr : Rest w Q Z B G R b s l') :
    Calls Tryz.prog 74 #[.pointer (some ⟨Q, 0, none⟩), .int .i64 t] w fun e w' => e = .returned (.tuple #[]) ∧ Wh w' Q Z B G R P b s k l' ∧ Off (Fo Q G R) w w' := by
  obtain ⟨h1, h2⟩ := slo_le hr.hb.2
  by_cases h : t = slo b
  · subst h
    exact (mark_ready w q).mono fun e w' ⟨a1, a2⟩ => ⟨a1, ⟨⟨ls', r, F, q.bel a2, hF.same (fun i hi => ho i (by omega))⟩, hr.off a2 (fun e => e)⟩, a2.off _⟩
  · exact (mark_slot rfl h2 (by omega) hF.wd w q).mono fun e w' ⟨a1, a2, a3⟩ => ⟨a1, ⟨⟨ls', r, _, a2, hF.mark h2 (by omega) ho⟩, hr.off a3 hr.only⟩, a3.foQ⟩
set_option maxHeartbeats 1000000 in
theorem insert_no (x : T) (w : World) (q : Wh w Q Z B G R P b s k l) (hx : Tk x.a) (hn : ¬ insE P l x = 0) :
    Calls Tryz.prog 39 #[.pointer (some ⟨Q, 0, none⟩), .agg #[.int .u64 x.a, .int .u64 x.s, .int .i64 x.p]] w fun e w' => e = .returned (.int .i64 (insE P l x)) ∧ Bel w w' := by
  obtain ⟨⟨ls, r, F, q1, q2⟩, q3⟩ := q
  obtain ⟨h1, h2⟩ := slo_le q3.hb.2
  have HB0 : Hid (Bel w (w.alloc (.cells #[.int .u64 x.a, .int .u64 x.s, .int .i64 x.p] 37))) := Lib.hid ((Bel.refl _).alloc _ _)
  have qa := q1.bel HB0.out
  have qb := q1.bel HB0.out.drew
  have K1 := Lib.hid (list_any Q (slo b) s x.a _ (qa.cell rfl) (qa.cell rfl) h1 h2 hx)
  have K2 := Lib.hid (put_no (lof_lt (by omega) s x) x _ qb.ql hn)
  rw [lof_eq] at K2
  have HBd := Lib.hid HB0.out.drew
  have c0 : (w.alloc (.cells #[.int .u64 x.a, .int .u64 x.s, .int .i64 x.p] 37)).cell? ⟨Q, 0, none⟩ = some (.pointer (some ⟨Z, 0, none⟩)) := qa.cell rfl
  have hne : (insE P l x == 0) = false := by simpa using hn
  have lQ := q1.ltQ
  generalize insE P l x = er at *
  generalize lofN (slo b) s x.a = t at *
  clear q1 q2 q3 qa qb hn
  go_enter Tryz.func39, Tryz.ntmps39
  go_wp2_with fail
  with_reducible refine K1.out.mono ?_
  rintro e w' ⟨rfl, rfl⟩
  go_wp2
  go_region_with (go_at_call 73; (with_reducible refine K2.out.mono ?_); rintro e w1 ⟨rfl, hb⟩)
  all_goals
    go_wp2
    go_ret
    exact ⟨rfl, HBd.out.trans hb⟩
set_option maxHeartbeats 1000000 in
theorem insert_ok (x : T) (w : World) (q : Wh w Q Z B G R P b s k l) (hx : Tk x.a) {j : Nat} (e : x.p = j) (hj : j < P) (hf : fnd l j = none) :
    Calls Tryz.prog 39 #[.pointer (some ⟨Q, 0, none⟩), .agg #[.int .u64 x.a, .int .u64 x.s, .int .i64 x.p]] w fun e w' => e = .returned (.int .i64 0) ∧ Wh w' Q Z B G R P b s k (put l x) ∧ Off (Fo Q G R) w w' := by
  obtain ⟨⟨ls, r, F, q1, q2⟩, q3⟩ := q
  obtain ⟨h1, h2⟩ := slo_le q3.hb.2
  have HB0 : Hid (Bel w (w.alloc (.cells #[.int .u64 x.a, .int .u64 x.s, .int .i64 x.p] 37))) := Lib.hid ((Bel.refl _).alloc _ _)
  have HBd := Lib.hid HB0.out.drew
  have qa := q1.bel HB0.out
  have qb := q1.bel HBd.out
  have HQb := Lib.hid qb
  have c0 : (w.alloc (.cells #[.int .u64 x.a, .int .u64 x.s, .int .i64 x.p] 37)).cell? ⟨Q, 0, none⟩ = some (.pointer (some ⟨Z, 0, none⟩)) := qa.cell rfl
  have hlt := lof_lt (S := slo b) (by omega) s x
  have K1 := Lib.hid (list_any Q (slo b) s x.a _ (qa.cell rfl) (qa.cell rfl) h1 h2 hx)
  have K2 := Lib.hid (put_ok hlt x _ qb.ql e hj hf rfl)
  have KR : Hid (∀ w1, Off (Fo2 G R) (w.alloc (.cells #[.int .u64 x.a, .int .u64 x.s, .int .i64 x.p] 37)).drew w1 → Rest w1 Q Z B G R b s (put l x)) := Lib.hid (fun w1 ho =>
    have r1 : Rest (w.alloc (.cells #[.int .u64 x.a, .int .u64 x.s, .int .i64 x.p] 37)).drew Q Z B G R b s (put l x) := ⟨q3.hb, q3.ts, fun t ht => by
      rcases List.mem_cons.1 ((put_perm l x).mem_iff.1 ht) with rfl | ht
      · exact hx
      · exact q3.tl t ht, (q3.off HBd.out (fun e => e)).tab, q3.zs⟩
    r1.off ho (fun e => by obtain ⟨z1, z2, z3, z4, z5⟩ := q3.zs; rcases e with e | e <;> omega))
  have K3 : Hid (∀ w1, Qw w1 Q Z B G R P (slo b + 1) (lof (slo b) s) (upd ls (lof (slo b) s x) (ls (lof (slo b) s x) ++ [j])) (upT r j x) 52 (hcells Z (slo b) (s) (F) k) (put l x) → Rest w1 Q Z B G R b s (put l x) →
      Calls Tryz.prog 74 #[.pointer (some ⟨Q, 0, none⟩), .int .i64 (lof (slo b) s x : Nat)] w1 fun e w' => e = .returned (.tuple #[]) ∧ Wh w' Q Z B G R P b s k (put l x) ∧ Off (Fo Q G R) w1 w') :=
    Lib.hid (fun w1 k1 k2 => mark_wh w1 k1 q2 hlt (fun i hi => upd_other _ _ hi) k2)
  have lQ := q1.ltQ
  generalize upd ls (lof (slo b) s x) (ls (lof (slo b) s x) ++ [j]) = ls1 at *
  rw [lof_eq] at *
  generalize lofN (slo b) s x.a = t at *
  clear q1 q2 q3 qa qb hf e
  go_enter Tryz.func39, Tryz.ntmps39
  go_wp2_with fail
  with_reducible refine K1.out.mono ?_
  rintro e w' ⟨rfl, rfl⟩
  go_wp2
  go_region_with (go_at_call 73; (with_reducible refine K2.out.mono ?_); rintro e w1 ⟨rfl, hq, ho⟩)
  all_goals
    have KX := Lib.hid (K3.out w1 (HQb.out.put ho hq) (KR.out w1 ho))
    have HO := Lib.hid ((HBd.out.off (Fo Q G R)).then ho.foG)
    clear hq ho
    go_wp2_with fail
    with_reducible refine KX.out.mono ?_
    rintro e w2 ⟨rfl, hq2, ho2⟩
    have HQ2 := Lib.hid hq2
    have HO2 := Lib.hid (HO.out.then ho2)
    clear hq2 ho2
    go_wp2
    go_ret
    exact ⟨rfl, HQ2.out, HO2.out⟩
theorem insert_any (x : T) (w : World) (q : Wh w Q Z B G R P b s k l) (hx : Tk x.a) :
    Calls Tryz.prog 39 #[.pointer (some ⟨Q, 0, none⟩), .agg #[.int .u64 x.a, .int .u64 x.s, .int .i64 x.p]] w fun e w' => e = .returned (.int .i64 (insE P l x)) ∧ Wh w' Q Z B G R P b s k (insL P l x) ∧ Off (Fo Q G R) w w' := by
  by_cases h : insE P l x = 0
  · unfold insL
    rw [if_pos h, h]
    rcases insE_cases P l x with ⟨e, _⟩ | ⟨j, e, hj, (⟨e2, _⟩ | ⟨_, hf⟩)⟩
    · omega
    · omega
    · exact insert_ok x w q hx e hj hf
  · unfold insL
    rw [if_neg h]
    exact (insert_no x w q hx h).mono fun e w' ⟨h1, h2⟩ => ⟨h1, q.bel h2, h2.off _⟩
set_option maxHeartbeats 1000000 in
theorem cancel_no (p : Int) (w : World) (q : Wh w Q Z B G R P b s k l) (hn : ¬ canE P l p = 0) :
    Calls Tryz.prog 40 #[.pointer (some ⟨Q, 0, none⟩), .int .i64 p] w fun e w' => e = .returned (canV default (canE P l p)) ∧ Bel w w' := by
  obtain ⟨⟨ls, r, F, q1, q2⟩, q3⟩ := q
  have HB0 : Hid (Bel w (w.alloc (.cells #[.int .u64 0, .int .u64 0, .int .i64 0] 37))) := Lib.hid ((Bel.refl _).alloc _ _)
  have HN : Hid ((w.alloc (.cells #[.int .u64 0, .int .u64 0, .int .i64 0] 37)).heap[w.heap.size]? = some (.cells #[.int .u64 0, .int .u64 0, .int .i64 0] 37 (0, 0))) := Lib.hid (heap_alloc_new _ _)
  have K1 := Lib.hid (take_no p _ (q1.bel HB0.out).ql hn)
  have hne2 : (canE P l p == 0) = false := by simpa using hn
  have c0 : (w.alloc (.cells #[.int .u64 0, .int .u64 0, .int .i64 0] 37)).cell? ⟨Q, 0, none⟩ = some (.pointer (some ⟨Z, 0, none⟩)) := (q1.bel HB0.out).cell rfl
  have lQ := q1.ltQ
  generalize canE P l p = er at *
  clear q1 q2 q3 hn
  unfold canV at K1
  simp only [default] at K1
  go_enter Tryz.func40, Tryz.ntmps40
  go_wp2_with fail
  with_reducible refine K1.out.mono ?_
  rintro e w1 ⟨rfl, hb⟩
  have HB1 : Hid (Bel w (w1.alloc (.cells #[.int .u64 0, .int .u64 0, .int .i64 0] 37))) := Lib.hid ((HB0.out.trans hb).alloc _ _)
  obtain ⟨⟨b0, b1, b2⟩, f0, f1, f2⟩ := box3 ((hb.alloc #[.int .u64 0, .int .u64 0, .int .i64 0] 37).heap HN.out)
  have HE := Lib.hid (bel3 HB1.out (Nat.le_refl _) (.int .u64 0) (.int .u64 0) (.int .i64 0))
  have lN : w.heap.size < w1.heap.size := by have := hb.size; simp at this; omega
  clear hb
  go_upto_region 2 with (fail)
  generalize w1.alloc (.cells #[.int .u64 0, .int .u64 0, .int .i64 0] 37) = W2 at *
  go_wp2
  exact bodyPost_ret (v := canV default er) (by simp [results, Tryz.results40, go_sem, b0, b1, b2, canV, default]) rfl ⟨rfl, HE.out⟩
set_option maxHeartbeats 2000000 in
theorem cancel_ok {j : Nat} {x : T} (w : World) (q : Wh w Q Z B G R P b s k l) (hf : fnd l j = some x) :
    Calls Tryz.prog 40 #[.pointer (some ⟨Q, 0, none⟩), .int .i64 j] w fun e w' => e = .returned (canV x 0) ∧ Wh w' Q Z B G R P b s k (wo l j) ∧ Off (Fo Q G R) w w' := by
  obtain ⟨⟨ls, r, F, q1, q2⟩, q3⟩ := q
  obtain ⟨h1, h2⟩ := slo_le q3.hb.2
  have HB0 : Hid (Bel w (w.alloc (.cells #[.int .u64 0, .int .u64 0, .int .i64 0] 37))) := Lib.hid ((Bel.refl _).alloc _ _)
  have HN : Hid ((w.alloc (.cells #[.int .u64 0, .int .u64 0, .int .i64 0] 37)).heap[w.heap.size]? = some (.cells #[.int .u64 0, .int .u64 0, .int .i64 0] 37 (0, 0))) := Lib.hid (heap_alloc_new _ _)
  obtain ⟨a, c, hl, k1⟩ := take_ok _ (q1.bel HB0.out).ql hf
  have K1 := Lib.hid k1
  have HQa := Lib.hid (q1.bel HB0.out)
  have c0 : (w.alloc (.cells #[.int .u64 0, .int .u64 0, .int .i64 0] 37)).cell? ⟨Q, 0, none⟩ = some (.pointer (some ⟨Z, 0, none⟩)) := HQa.out.cell rfl
  have hx := (fnd_some hf).1
  have hta := q3.tl x hx
  have hlt := lof_lt (S := slo b) (by omega) s x
  have hsub : ∀ y ∈ wo l j, y ∈ l := fun y hy => (List.mem_filter.1 hy).1
  obtain ⟨lQ, lZ, lB, lG, lR⟩ := q1.lt
  have KR : Hid (∀ w1, Off (Fo2 G R) w w1 → Rest w1 Q Z B G R b s (wo l j)) := Lib.hid (fun w1 ho => (q3.sub hsub).off ho (fun e => by obtain ⟨z1, z2, z3, z4, z5⟩ := q3.zs; rcases e with e | e <;> omega))
  have K3 : Hid (∀ w1, Qw w1 Q Z B G R P (slo b + 1) (lof (slo b) s) (upd ls (lof (slo b) s x) (a ++ c)) (upT r j ⟨0, 0, 0⟩) 52 (hcells Z (slo b) (s) (F) k) (wo l j) → Rest w1 Q Z B G R b s (wo l j) →
      Calls Tryz.prog 74 #[.pointer (some ⟨Q, 0, none⟩), .int .i64 (lof (slo b) s x : Nat)] w1 fun e w' => e = .returned (.tuple #[]) ∧ Wh w' Q Z B G R P b s k (wo l j) ∧ Off (Fo Q G R) w1 w') :=
    Lib.hid (fun w1 k1 k2 => mark_wh w1 k1 q2 hlt (fun i hi => upd_other _ _ hi) k2)
  have K2 : Hid (∀ w1, Qw w1 Q Z B G R P (slo b + 1) (lof (slo b) s) (upd ls (lof (slo b) s x) (a ++ c)) (upT r j ⟨0, 0, 0⟩) 52 (hcells Z (slo b) (s) (F) k) (wo l j) →
      Calls Tryz.prog 72 #[.pointer (some ⟨Q, 0, none⟩), .int .u64 x.a] w1 fun e w' => e = .returned (.int .i64 (lof (slo b) s x : Nat)) ∧ w1 = w') :=
    Lib.hid (fun w1 k1 => list_any Q (slo b) s x.a w1 (k1.cell rfl) (k1.cell rfl) h1 h2 hta)
  generalize upd ls (lof (slo b) s x) (a ++ c) = ls1 at *
  generalize lof (slo b) s x = t at *
  have nN : Hid (¬ w.heap.size = Q ∧ ¬ w.heap.size = G ∧ ¬ w.heap.size = R) := Lib.hid ⟨by omega, by omega, by omega⟩
  have nF : Hid (∀ i, Fo5 Q Z B G R i → ¬ i = w.heap.size) := Lib.hid (fun i e => by rcases e with e | e | e | e | e <;> omega)
  have n0 : Hid (¬ (0 : Nat) = w.heap.size) := Lib.hid (by omega)
  unfold canV at K1
  clear q1 q2 q3 hf hl k1 hx hta hsub hlt
  obtain ⟨xa, xs, xp⟩ := x
  simp only at *
  go_enter Tryz.func40, Tryz.ntmps40
  go_wp2_with fail
  with_reducible refine K1.out.mono ?_
  rintro e w1 ⟨rfl, hq0, ho⟩
  have hq := HQa.out.put ho hq0
  clear hq0
  have hb2 : Bel w1 (w1.alloc (.cells #[.int .u64 xa, .int .u64 xs, .int .i64 xp] 37)) := (Bel.refl _).alloc _ _
  have HO1 : Hid (Off (Fo2 G R) w (w1.alloc (.cells #[.int .u64 xa, .int .u64 xs, .int .i64 xp] 37))) := Lib.hid (((HB0.out.off (Fo2 G R)).then ho).then (hb2.off _))
  have KA := Lib.hid (K2.out _ (hq.bel hb2))
  have KB := Lib.hid (K3.out _ (hq.bel hb2) (KR.out _ HO1.out))
  have HN1 : Hid ((w1.alloc (.cells #[.int .u64 xa, .int .u64 xs, .int .i64 xp] 37)).heap[w.heap.size]? = some (.cells #[.int .u64 0, .int .u64 0, .int .i64 0] 37 (0, 0))) :=
    Lib.hid ((hb2.block _ (by have := ho.size; simp at this; omega) (fun e => e)).trans ((ho.block _ (by simp) (fun e => by have := nN.out; rcases e with e | e <;> omega)).trans HN.out))
  have HM : Hid ((w1.alloc (.cells #[.int .u64 xa, .int .u64 xs, .int .i64 xp] 37)).heap[w1.heap.size]? = some (.cells #[.int .u64 xa, .int .u64 xs, .int .i64 xp] 37 (0, 0))) := Lib.hid (heap_alloc_new _ _)
  have lN : w.heap.size < w1.heap.size := by have := ho.size; simp at this; omega
  have lM : Hid (¬ w1.heap.size = Q ∧ ¬ w1.heap.size = G ∧ ¬ w1.heap.size = R) := Lib.hid ⟨by omega, by omega, by omega⟩
  clear hq ho hb2
  go_wp2_with fail
  with_reducible refine KA.out.mono ?_
  rintro e w2 ⟨rfl, rfl⟩
  go_wp2_with fail
  with_reducible refine KB.out.mono ?_
  rintro e w3 ⟨rfl, hq3, ho3⟩
  have hn3 : w3.heap[w.heap.size]? = some (.cells #[.int .u64 0, .int .u64 0, .int .i64 0] 37 (0, 0)) := (ho3.block _ (by simp; omega) (fun e => by have := nN.out; rcases e with e | e | e <;> omega)).trans HN1.out
  have hm3 : w3.heap[w1.heap.size]? = some (.cells #[.int .u64 xa, .int .u64 xs, .int .i64 xp] 37 (0, 0)) := (ho3.block _ (by simp) (fun e => by have := lM.out; rcases e with e | e | e <;> omega)).trans HM.out
  obtain ⟨⟨b0, b1, b2⟩, f0, f1, f2⟩ := box3 hn3
  obtain ⟨⟨m0, m1, m2⟩, _⟩ := box3 hm3
  have o4 := off3 w3 w.heap.size (.int .u64 xa) (.int .u64 xs) (.int .i64 xp)
  have HQ4 := Lib.hid (hq3.off o4 nF.out n0.out)
  have HO4 := Lib.hid (Off.trans ((HO1.out.mono (fun _ _ e => .inr e)).then ho3) o4 (fun i e => .inr (Nat.le_of_eq e.symm)))
  clear hq3 ho3 hn3 hm3 o4
  go_wp2
  exact bodyPost_ret (v := canV ⟨xa, xs, xp⟩ 0) (by simp [results, Tryz.results40, go_sem, b0, b1, b2, canV]) rfl ⟨rfl, HQ4.out, HO4.out⟩
theorem cancel_any (p : Int) (w : World) (q : Wh w Q Z B G R P b s k l) :
    Calls Tryz.prog 40 #[.pointer (some ⟨Q, 0, none⟩), .int .i64 p] w fun e w' => e = .returned (canV ((fnd l p).getD default) (canE P l p)) ∧ Wh w' Q Z B G R P b s k (wo l p) ∧ Off (Fo Q G R) w w' := by
  rcases canE_cases P l p with ⟨h, hc⟩ | ⟨h, j, rfl, hj, x, hf⟩
  · have hf : fnd l p = none := by
      rcases hc with ⟨_, hk⟩ | ⟨_, _, hf⟩
      · obtain ⟨⟨ls, r, F, q1, q2⟩, q3⟩ := q
        exact q1.ql.is.outside hk
      · exact hf
    rw [hf, wo_none hf]
    exact (cancel_no p w q h).mono fun e w' ⟨h1, h2⟩ => ⟨h1, q.bel h2, h2.off _⟩
  · rw [h, hf]
    exact cancel_ok w q hf
set_option maxHeartbeats 1000000 in
theorem move_no (x : T) (w : World) (q : Wh w Q Z B G R P b s k l) (hn : ¬ canE P l x.p = 0) :
    Calls Tryz.prog 41 #[.pointer (some ⟨Q, 0, none⟩), .agg #[.int .u64 x.a, .int .u64 x.s, .int .i64 x.p]] w fun e w' => e = .returned (.int .i64 (canE P l x.p)) ∧ Bel w w' := by
  have HB0 : Hid (Bel w (w.alloc (.cells #[.int .u64 x.a, .int .u64 x.s, .int .i64 x.p] 37))) := Lib.hid ((Bel.refl _).alloc _ _)
  have K1 := Lib.hid (cancel_no x.p _ (q.bel HB0.out) hn)
  have hne2 : (canE P l x.p == 0) = false := by simpa using hn
  generalize canE P l x.p = er at *
  clear q hn
  unfold canV at K1
  simp only [default] at K1
  obtain ⟨xa, xs, xp⟩ := x
  simp only at *
  go_enter Tryz.func41, Tryz.ntmps41
  go_wp2_with fail
  with_reducible refine K1.out.mono ?_
  rintro e w1 ⟨rfl, hb⟩
  have HB1 := Lib.hid ((HB0.out.trans hb).alloc #[.int .u64 0, .int .u64 0, .int .i64 0] 37)
  clear hb
  go_wp2
  go_ret
  exact ⟨rfl, HB1.out⟩
set_option maxHeartbeats 1000000 in
theorem move_ok (x : T) (w : World) (q : Wh w Q Z B G R P b s k l) (hx : Tk x.a) {j : Nat} {y : T} (e : x.p = j) (hj : j < P) (hf : fnd l j = some y) :
    Calls Tryz.prog 41 #[.pointer (some ⟨Q, 0, none⟩), .agg #[.int .u64 x.a, .int .u64 x.s, .int .i64 x.p]] w fun e w' => e = .returned (.int .i64 0) ∧ Wh w' Q Z B G R P b s k (put (wo l j) x) ∧ Off (Fo Q G R) w w' := by
  have HB0 : Hid (Bel w (w.alloc (.cells #[.int .u64 x.a, .int .u64 x.s, .int .i64 x.p] 37))) := Lib.hid ((Bel.refl _).alloc _ _)
  have HN : Hid ((w.alloc (.cells #[.int .u64 x.a, .int .u64 x.s, .int .i64 x.p] 37)).heap[w.heap.size]? = some (.cells #[.int .u64 x.a, .int .u64 x.s, .int .i64 x.p] 37 (0, 0))) := Lib.hid (heap_alloc_new _ _)
  have K1 := Lib.hid (cancel_ok _ (q.bel HB0.out) hf)
  have K2 : Hid (∀ w1, Wh w1 Q Z B G R P b s k (wo l j) → Calls Tryz.prog 39 #[.pointer (some ⟨Q, 0, none⟩), .agg #[.int .u64 x.a, .int .u64 x.s, .int .i64 x.p]] w1 fun e w' => e = .returned (.int .i64 0) ∧ Wh w' Q Z B G R P b s k (put (wo l j) x) ∧ Off (Fo Q G R) w1 w') :=
    Lib.hid (fun w1 q1 => insert_ok x w1 q1 hx e hj (fnd_wo l j))
  have nN : Hid (¬ w.heap.size = Q ∧ ¬ w.heap.size = G ∧ ¬ w.heap.size = R) := Lib.hid (by
    obtain ⟨⟨ls, r, F, q1, q2⟩, q3⟩ := q
    obtain ⟨lQ, lZ, lB, lG, lR⟩ := q1.lt
    exact ⟨by omega, by omega, by omega⟩)
  have HE := Lib.hid e
  clear q hf e
  unfold canV at K1
  obtain ⟨xa, xs, xp⟩ := x
  simp only at *
  obtain rfl : xp = (j : Int) := HE.out
  clear HE
  go_enter Tryz.func41, Tryz.ntmps41
  go_wp2_with fail
  with_reducible refine K1.out.mono ?_
  rintro e w1 ⟨rfl, hq, ho⟩
  have hb2 : Bel w1 (w1.alloc (.cells #[.int .u64 y.a, .int .u64 y.s, .int .i64 y.p] 37)) := (Bel.refl _).alloc _ _
  have KA := Lib.hid (K2.out _ (hq.bel hb2))
  have hn1 : w1.heap[w.heap.size]? = some (.cells #[.int .u64 xa, .int .u64 xs, .int .i64 (j : Int)] 37 (0, 0)) := (ho.block _ (by simp) (fun e => by have := nN.out; rcases e with e | e | e <;> omega)).trans HN.out
  obtain ⟨⟨b0, b1, b2⟩, f0, f1, f2⟩ := box3 hn1
  have lN : w.heap.size < w1.heap.size := (Array.getElem?_eq_some_iff.1 hn1).1
  have HO1 : Hid (Off (Fo Q G R) w (w1.alloc (.cells #[.int .u64 y.a, .int .u64 y.s, .int .i64 y.p] 37))) := Lib.hid (((HB0.out.off _).then ho).then (hb2.off _))
  clear hq ho hb2 hn1
  obtain ⟨ya, ys, yp⟩ := y
  simp only at *
  go_wp2_with fail
  with_reducible refine KA.out.mono ?_
  rintro e w2 ⟨rfl, hq2, ho2⟩
  have HQ2 := Lib.hid hq2
  have HO2 := Lib.hid (HO1.out.then ho2)
  clear hq2 ho2
  go_wp2
  go_ret
  exact ⟨rfl, HQ2.out, HO2.out⟩
theorem move_any (x : T) (w : World) (q : Wh w Q Z B G R P b s k l) (hx : Tk x.a) :
    Calls Tryz.prog 41 #[.pointer (some ⟨Q, 0, none⟩), .agg #[.int .u64 x.a, .int .u64 x.s, .int .i64 x.p]] w fun e w' => e = .returned (.int .i64 (canE P l x.p)) ∧ Wh w' Q Z B G R P b s k (movL P l x) ∧ Off (Fo Q G R) w w' := by
  unfold movL
  rcases canE_cases P l x.p with ⟨h, hc⟩ | ⟨h, j, e, hj, y, hf⟩
  · rw [if_neg h]
    exact (move_no x w q h).mono fun e w' ⟨h1, h2⟩ => ⟨h1, q.bel h2, h2.off _⟩
  · rw [if_pos h, h, e]
    rw [← e]
    have := move_ok x w q hx e hj hf
    rw [← e] at this
    exact this
end
end Go.Proofs.YtdoceldofkaapaaGreatDoor.Ha
