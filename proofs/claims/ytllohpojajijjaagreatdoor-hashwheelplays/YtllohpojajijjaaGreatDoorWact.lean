/-
  Contracts of a wheel: ready, list, mark.
-/
import Derived.Test.YtllohpojajijjaaGreatDoorWh
set_option linter.unusedVariables false
set_option linter.unusedSimpArgs false
namespace Go.Proofs.YtllohpojajijjaaGreatDoor
open Go.RowKit
theorem ready_any (Q S : Nat) (w : World) (h : w.cell? ⟨Q, 2, none⟩ = some (.int .i64 S)) :
    Calls Tryz.prog 31 #[.pointer (some ⟨Q, 0, none⟩)] w fun e w' => e = .returned (.int .i64 S) ∧ w = w' := by
  go_enter Tryz.func31, Tryz.ntmps31
  go_wp2
  go_ret
  exact ⟨rfl, rfl⟩
/-- The list of a tick. -/
def lofN (S : Nat) (s a : Int) : Nat := if a ≤ s then S else (a % (S : Int)).toNat
theorem lof_eq (S : Nat) (s : Int) (x : T) : lof S s x = lofN S s x.a := rfl
theorem umodS {S : Nat} {a : Int} (h0 : 4 ≤ S) (h1 : S ≤ 256) (ha : Tk a) : (S : Int) ≠ 0 ∧ IntKind.u64.wrap (S : Int) = S ∧ a.tmod (S : Int) = ((a % (S : Int)).toNat : Nat) ∧ IntKind.u64.wrap (((a % (S : Int)).toNat : Nat) : Int) = ((a % (S : Int)).toNat : Nat) ∧ IntKind.i64.wrap (((a % (S : Int)).toNat : Nat) : Int) = ((a % (S : Int)).toNat : Nat) := by
  have h2 := Int.emod_nonneg a (b := (S : Int)) (by omega)
  have h3 := Int.emod_lt_of_pos a (b := (S : Int)) (by omega)
  have h4 : (((a % (S : Int)).toNat : Nat) : Int) = a % (S : Int) := by omega
  refine ⟨by omega, ?_, ?_, ?_, ?_⟩
  · rw [IntKind.wrap_u64]; omega
  · rw [Int.tmod_eq_emod_of_nonneg ha.1, h4]
  · rw [IntKind.wrap_u64]; omega
  · rw [IntKind.wrap_i64]; omega
theorem list_any (Q S : Nat) (s a : Int) (w : World) (h2 : w.cell? ⟨Q, 2, none⟩ = some (.int .i64 S)) (h3 : w.cell? ⟨Q, 3, none⟩ = some (.int .u64 s)) (h0 : 4 ≤ S) (h1 : S ≤ 256) (ha : Tk a) :
    Calls Tryz.prog 35 #[.pointer (some ⟨Q, 0, none⟩), .int .u64 a] w fun e w' => e = .returned (.int .i64 (lofN S s a)) ∧ w = w' := by
  have K := Lib.hid (ready_any Q S w h2)
  unfold lofN
  by_cases h : a ≤ s
  · rw [if_pos h]
    go_enter Tryz.func35, Tryz.ntmps35
    go_wp2_with fail
    with_reducible refine K.out.mono ?_
    rintro e w' ⟨rfl, rfl⟩
    go_wp2
    go_ret
    exact ⟨rfl, rfl⟩
  · rw [if_neg h]
    obtain ⟨m0, m1, m2, m3, m4⟩ := umodS h0 h1 ha
    generalize (a % (S : Int)).toNat = m at *
    generalize hS : (S : Int) = Z at *
    clear K hS
    go_enter Tryz.func35, Tryz.ntmps35
    go_wp2
    go_ret
    exact ⟨rfl, rfl⟩
section
variable {Q B G R P L : Nat} {lo : T → Nat} {ls : Ls} {r : Nat → T} {l : List T}
theorem mark_ready {S : Nat} {s k : Int} {F : Nat → Nat} (w : World) (q : Qp w Q B G R P L lo ls r ⟨S, s, F, k⟩ l) :
    Calls Tryz.prog 37 #[.pointer (some ⟨Q, 0, none⟩), .int .i64 S] w fun e w' => e = .returned (.tuple #[]) ∧ Bel w w' := by
  have c2 : w.cell? ⟨Q, 2, none⟩ = some (.int .i64 S) := q.cell rfl
  have K := Lib.hid (ready_any Q S w c2)
  clear q
  go_enter Tryz.func37, Tryz.ntmps37
  go_wp2_with fail
  with_reducible refine K.out.mono ?_
  rintro e w' ⟨rfl, rfl⟩
  go_wp2
  refine bodyPost_ret (results_none rfl _ _ _) rfl ?_
  exact ⟨rfl, Bel.refl _⟩
theorem pti_nat (F : Nat → Nat) {t : Nat} (h : t < 256) : Bm.pti F (t : Int) = Bm.pt F t := by
  unfold Bm.pti
  rw [if_pos (by omega)]
  simp
theorem dpi_nat (F : Nat → Nat) {t : Nat} (h : t < 256) : Bm.dpi F (t : Int) = Bm.dp F t := by
  unfold Bm.dpi
  rw [if_pos (by omega)]
  simp
set_option maxHeartbeats 1000000 in
theorem mark_slot {S t : Nat} {s k : Int} {F : Nat → Nat} (hL : L = S + 1) (h1 : S ≤ 256) (ht : t < S) (hF : Bm.Wd F) (w : World) (q : Qp w Q B G R P L lo ls r ⟨S, s, F, k⟩ l) :
    Calls Tryz.prog 37 #[.pointer (some ⟨Q, 0, none⟩), .int .i64 t] w fun e w' => e = .returned (.tuple #[]) ∧ Qp w' Q B G R P L lo ls r ⟨S, s, if ls t = [] then Bm.dp F t else Bm.pt F t, k⟩ l ∧ Off (Only Q) w w' := by
  have c2 : w.cell? ⟨Q, 2, none⟩ = some (.int .i64 S) := q.cell rfl
  have c0 := q.head.1
  have K := Lib.hid (ready_any Q S w c2)
  have K1 := Lib.hid (first_qp q (t := t) (by omega))
  have HA := Lib.hid q
  have hne : ((t : Int) == (S : Int)) = false := by simp; omega
  have lQ := q.lt.1
  have KP := Lib.hid (fun w' => Bm.put_any F hF (t : Int) w')
  have KD := Lib.hid (fun w' => Bm.drop_any F hF (t : Int) w')
  rw [pti_nat F (by omega)] at KP
  rw [dpi_nat F (by omega)] at KD
  have fz := q.froz
  have z4 := fz 4
  have z5 := fz (4 + 1)
  have z6 := fz (4 + 2)
  have z7 := fz (4 + 3)
  cases e : ls t with
  | nil =>
    rw [if_pos rfl]
    rw [e] at K1
    clear q fz
    unfold ans at K1
    go_enter Tryz.func37, Tryz.ntmps37
    go_wp2_with fail
    with_reducible refine K.out.mono ?_
    rintro e w' ⟨rfl, rfl⟩
    go_wp2_with fail
    with_reducible refine K1.out.mono ?_
    rintro e w1 ⟨rfl, hb⟩
    have q1 := HA.out.bel hb
    have d4 : w1.cell? ⟨Q, 4, none⟩ = some (.int .u64 (F 0)) := q1.cell rfl
    have d5 : w1.cell? ⟨Q, 4 + 1, none⟩ = some (.int .u64 (F 1)) := q1.cell rfl
    have d6 : w1.cell? ⟨Q, 4 + 2, none⟩ = some (.int .u64 (F 2)) := q1.cell rfl
    have d7 : w1.cell? ⟨Q, 4 + 3, none⟩ = some (.int .u64 (F 3)) := q1.cell rfl
    have lQ1 := q1.lt.1
    have HB1 := Lib.hid hb
    clear hb q1
    go_wp2_with fail
    with_reducible refine (KD.out _).mono ?_
    rintro e w2 ⟨rfl, hb2⟩
    have HB2 := Lib.hid (HB1.out.trans (bm_bel hb2))
    have q2 := HA.out.bel HB2.out
    have z4 := q2.froz 4
    have z5 := q2.froz (4 + 1)
    have z6 := q2.froz (4 + 2)
    have z7 := q2.froz (4 + 3)
    have d4 : w2.cell? ⟨Q, 4, none⟩ = some (.int .u64 (F 0)) := q2.cell rfl
    have d5 : w2.cell? ⟨Q, 4 + 1, none⟩ = some (.int .u64 (F 1)) := q2.cell rfl
    have d6 : w2.cell? ⟨Q, 4 + 2, none⟩ = some (.int .u64 (F 2)) := q2.cell rfl
    have d7 : w2.cell? ⟨Q, 4 + 3, none⟩ = some (.int .u64 (F 3)) := q2.cell rfl
    have lQ2 := q2.lt.1
    obtain ⟨q3, o3⟩ := q2.fill (Bm.dp F t)
    have HQ3 := Lib.hid q3
    have HO3 : Hid (Off (Only Q) w (set4 w2 Q (Bm.dp F t))) := Lib.hid ((HB2.out.off (Only Q)).then o3)
    clear q2 q3 o3 hb2
    generalize hF2 : Bm.dp F t = F2 at HQ3 HO3 ⊢
    have HF2 := Lib.hid hF2
    clear hF2
    go_wp2
    go_end0
    obtain rfl := HF2.out
    exact ⟨rfl, HQ3.out, HO3.out⟩
  | cons y rest =>
    rw [if_neg (by simp)]
    rw [e] at K1
    clear q fz
    unfold ans at K1
    go_enter Tryz.func37, Tryz.ntmps37
    go_wp2_with fail
    with_reducible refine K.out.mono ?_
    rintro e w' ⟨rfl, rfl⟩
    go_wp2_with fail
    with_reducible refine K1.out.mono ?_
    rintro e w1 ⟨rfl, hb⟩
    have q1 := HA.out.bel hb
    have d4 : w1.cell? ⟨Q, 4, none⟩ = some (.int .u64 (F 0)) := q1.cell rfl
    have d5 : w1.cell? ⟨Q, 4 + 1, none⟩ = some (.int .u64 (F 1)) := q1.cell rfl
    have d6 : w1.cell? ⟨Q, 4 + 2, none⟩ = some (.int .u64 (F 2)) := q1.cell rfl
    have d7 : w1.cell? ⟨Q, 4 + 3, none⟩ = some (.int .u64 (F 3)) := q1.cell rfl
    have lQ1 := q1.lt.1
    have HB1 := Lib.hid hb
    clear hb q1
    go_wp2_with fail
    with_reducible refine (KP.out _).mono ?_
    rintro e w2 ⟨rfl, hb2⟩
    have HB2 := Lib.hid (HB1.out.trans (bm_bel hb2))
    have q2 := HA.out.bel HB2.out
    have z4 := q2.froz 4
    have z5 := q2.froz (4 + 1)
    have z6 := q2.froz (4 + 2)
    have z7 := q2.froz (4 + 3)
    have d4 : w2.cell? ⟨Q, 4, none⟩ = some (.int .u64 (F 0)) := q2.cell rfl
    have d5 : w2.cell? ⟨Q, 4 + 1, none⟩ = some (.int .u64 (F 1)) := q2.cell rfl
    have d6 : w2.cell? ⟨Q, 4 + 2, none⟩ = some (.int .u64 (F 2)) := q2.cell rfl
    have d7 : w2.cell? ⟨Q, 4 + 3, none⟩ = some (.int .u64 (F 3)) := q2.cell rfl
    have lQ2 := q2.lt.1
    obtain ⟨q3, o3⟩ := q2.fill (Bm.pt F t)
    have HQ3 := Lib.hid q3
    have HO3 : Hid (Off (Only Q) w (set4 w2 Q (Bm.pt F t))) := Lib.hid ((HB2.out.off (Only Q)).then o3)
    clear q2 q3 o3 hb2
    generalize hF2 : Bm.pt F t = F2 at HQ3 HO3 ⊢
    have HF2 := Lib.hid hF2
    clear hF2
    go_wp2
    go_end0
    obtain rfl := HF2.out
    exact ⟨rfl, HQ3.out, HO3.out⟩
end
end Go.Proofs.YtllohpojajijjaaGreatDoor
