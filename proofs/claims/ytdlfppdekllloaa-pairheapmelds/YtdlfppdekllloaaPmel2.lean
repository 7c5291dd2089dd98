/-
  Contract of Meld.
-/
import Derived.Test.YtdlfppdekllloaaPmeld
import Derived.Deep.Cut
import Derived.Deep.RegionWith
set_option linter.unusedVariables false
set_option linter.unusedSimpArgs false
namespace Go.Proofs.Ytdlfppdekllloaa
open Go.RowKit
/-- What Meld answers. -/
def melE (P R : Nat) (l m : List T) : Int := if P = R then (if (m.any fun x => (fnd l x.p).isSome) = true then 4 else 0) else 1
theorem mt_fnd {P : Nat} {tr ur : Tr} {wh vh : Nat → Option Nat} (hw : Wn P tr wh) (kw : Wn P ur vh) : mt wh vh P = (srt ur.ts).any fun x => (fnd (srt tr.ts) x.p).isSome := by
  cases e : (srt ur.ts).any fun x => (fnd (srt tr.ts) x.p).isSome with
  | true =>
    rw [List.any_eq_true] at e
    obtain ⟨x, hx, hs⟩ := e
    obtain ⟨a, hz⟩ := mem_ts.1 ((srt_perm _).subset hx)
    obtain ⟨k, k1, k2, k3⟩ := kw.at_ _ hz
    have k1 : x.p = k := k1
    rw [k1] at hs
    refine mt_yes k2 (by rw [k3]; rfl) ?_
    rcases hw.place k2 with ⟨_, e2⟩ | ⟨b, t, _, e2, _⟩
    · rw [e2] at hs; cases hs
    · rw [e2]; rfl
  | false =>
    rw [List.any_eq_false] at e
    refine mt_no (fun k hk hs => ?_)
    cases ev : vh k with
    | none => rw [ev] at hs; cases hs
    | some a =>
      obtain ⟨t, t1, t2⟩ := kw.no k hk a ev
      have h1 := e t ((srt_perm _).symm.subset (mem_ts.2 ⟨a, t1⟩))
      rw [t2] at h1
      rcases hw.place hk with ⟨e2, _⟩ | ⟨b, s, _, _, _, e2⟩
      · rw [e2]; rfl
      · rw [e2] at h1; exact absurd rfl h1
theorem mt_of {wh vh : Nat → Option Nat} {P : Nat} (h : mt wh vh P = false) : ∀ i, i < P → (vh i).isSome = true → (wh i).isSome = false := by
  intro i hi hv
  cases e : (wh i).isSome with
  | false => rfl
  | true => rw [mt_yes hi hv e] at h; cases h
set_option maxRecDepth 100000 in
set_option maxHeartbeats 2000000 in
theorem meld_arg (f g : Nat → Prop) (Q S O V P R : Nat) (tr ur : Tr) (wh vh : Nat → Option Nat) (w : World) (h : Hm f w Q S P tr wh) (k : Hm g w O V R ur vh) (hne : ¬ P = R) :
    Calls Try.prog 17 #[pt Q, pt O] w fun e w' => e = .returned (.int .i64 1) ∧ Bel w w' := by
  have c1 := h.head.1.2
  have d1 := k.head.1.2
  have h1 : ((R : Int) != (P : Int)) = true := by simp; omega
  have hs : w.drew.cell? ⟨Q, 1, none⟩ = some (.slice (some ⟨S, 0, none⟩) P P) := c1
  have ht : w.drew.cell? ⟨O, 1, none⟩ = some (.slice (some ⟨V, 0, none⟩) R R) := d1
  clear h k hne
  go_enter Try.func17, Try.ntmps17
  go_wp2
  go_region
  all_goals
    go_wp2
    go_ret
    exact ⟨rfl, (Bel.refl w).drew⟩
set_option maxRecDepth 100000 in
set_option maxHeartbeats 2000000 in
theorem meld_twice (f g : Nat → Prop) (Q S O V P : Nat) (tr ur : Tr) (wh vh : Nat → Option Nat) (w : World) (p : Pr f g w Q S O V P tr ur wh vh) (hP : P ≤ 1024) (hm : mt wh vh P = true) :
    Calls Try.prog 17 #[pt Q, pt O] w fun e w' => e = .returned (.int .i64 4) ∧ Bel w w' := by
  have c1 := p.h.head.1.2
  have d1 := p.k.head.1.2
  have hs : w.drew.cell? ⟨Q, 1, none⟩ = some (.slice (some ⟨S, 0, none⟩) P P) := c1
  have ht : w.drew.cell? ⟨O, 1, none⟩ = some (.slice (some ⟨V, 0, none⟩) P P) := d1
  have K := Lib.hid (fun w' (b : Bel w w') => meets_any f g Q S O V P tr ur wh vh w' (p.h.bel b) (p.k.bel b) hP)
  rw [hm] at K
  clear p hm
  go_enter Try.func17, Try.ntmps17
  go_wp2
  go_region
  all_goals
    go_wp2_with fail
    with_reducible refine (K.out _ (Bel.refl w).drew).mono ?_
    rintro e w1 ⟨rfl, rfl⟩
    go_wp2
    go_ret
    exact ⟨rfl, (Bel.refl w).drew⟩
set_option maxRecDepth 100000 in
set_option maxHeartbeats 4000000 in
theorem meld_ok (f g : Nat → Prop) (Q S O V P : Nat) (tr ur : Tr) (wh vh : Nat → Option Nat) (w : World) (p : Pr f g w Q S O V P tr ur wh vh) (hP : P ≤ 1024) (hm : mt wh vh P = false) (hf : ∀ j, f j → j < w.heap.size) (hg : ∀ j, g j → j < w.heap.size) :
    Calls Try.prog 17 #[pt Q, pt O] w fun e w' => e = .returned (.int .i64 0) ∧ ∃ f' g' : Nat → Prop, (∀ j, f' j → f j ∨ g j) ∧ (∀ j, g' j → g j) ∧ (∀ j, f' j → ¬ g' j) ∧ Qu f' w' Q P (srt (srt tr.ts ++ srt ur.ts)) ∧ Qu g' w' O P [] ∧ Off (fun j => f j ∨ g j) w w' := by
  have c1 := p.h.head.1.2
  have d1 := p.k.head.1.2
  have hs : w.drew.cell? ⟨Q, 1, none⟩ = some (.slice (some ⟨S, 0, none⟩) P P) := c1
  have ht : w.drew.cell? ⟨O, 1, none⟩ = some (.slice (some ⟨V, 0, none⟩) P P) := d1
  have K := Lib.hid (fun w' (b : Bel w w') => meets_any f g Q S O V P tr ur wh vh w' (p.h.bel b) (p.k.bel b) hP)
  rw [hm] at K
  have HM := Lib.hid (mt_of hm)
  have HP := Lib.hid p
  have HF := Lib.hid hf
  have HG := Lib.hid hg
  have ne : ∀ i j, f i → g j → ¬ i = j := fun i j h1 h2 e => p.dj i h1 (e ▸ h2)
  have nSV : ¬ S = V := ne S V p.h.fS p.k.fS
  have nVS : ¬ V = S := fun e => nSV e.symm
  have nQV : ¬ Q = V := ne Q V p.h.fQ p.k.fS
  have nSO : ¬ S = O := ne S O p.h.fS p.k.fQ
  have nQO : ¬ Q = O := ne Q O p.h.fQ p.k.fQ
  have nOQ : ¬ O = Q := fun e => nQO e.symm
  have nQS : ¬ Q = S := p.h.apart.1
  have nOV : ¬ O = V := p.k.apart.1
  have HH : Hid (∀ wr i, Lp w wr S V P wh vh i → wr.cell? ⟨Q, 1, none⟩ = some (.slice (some ⟨S, 0, none⟩) P P) ∧ wr.cell? ⟨O, 1, none⟩ = some (.slice (some ⟨V, 0, none⟩) P P) ∧ wr.cell? ⟨Q, 0, none⟩ = some (ptv tr.rt) ∧ wr.cell? ⟨O, 0, none⟩ = some (ptv ur.rt)) := Lib.hid (fun wr i lp =>
    ⟨lp.off.cell (p := ⟨Q, 1, none⟩) (fun e => by rcases e with e | e; exact nQS e; exact nQV e) c1, lp.off.cell (p := ⟨O, 1, none⟩) (fun e => by rcases e with e | e; exact nSO e.symm; exact nOV e) d1, lp.off.cell (p := ⟨Q, 0, none⟩) (fun e => by rcases e with e | e; exact nQS e; exact nQV e) p.h.head.1.1, lp.off.cell (p := ⟨O, 0, none⟩) (fun e => by rcases e with e | e; exact nSO e.symm; exact nOV e) p.k.head.1.1⟩)
  have L0 : Hid (Lp w w.drew S V P wh vh 0) := Lib.hid ⟨by rw [mg_zero]; exact p.h.hS, by rw [cl_zero]; exact p.k.hS, (Off.refl _ w).drew⟩
  clear p hm hf hg ne
  go_enter Try.func17, Try.ntmps17
  go_wp2
  go_region
  all_goals
    go_wp2_with fail
    with_reducible refine (K.out _ (Bel.refl w).drew).mono ?_
    rintro e w1 ⟨rfl, rfl⟩
    clear c1 d1
    go_wp2
    go_loopw [30] (fun v30 wr => ∃ i : Nat, v30 = .int .i64 i ∧ i ≤ P ∧ Lp w wr S V P wh vh i) (fun v _ => P - (intOf v).toNat)
    case atStart => exact ⟨0, rfl, Nat.zero_le _, L0.out⟩
    case round =>
      clear hs ht L0 K
      obtain ⟨i, rfl, hi, hlp⟩ := hrel
      have HL := Lib.hid hlp
      clear hlp
      by_cases hiP : i < P
      · have b1 : (i : Int) < (P : Int) := by omega
        have v0 : wr.cell? ⟨V, i, none⟩ = some (ptv (vh i)) := by
          rw [cell_of_row wr V _ _ 69 (0, 0) HL.out.v, List.getElem?_toArray, encN_get P _ i hiP]
          unfold cl
          rw [if_neg (by omega)]
        have z1 : wr.frozen? ⟨V, i, none⟩ = false := frozen_of_row wr V _ _ 69 HL.out.v
        have z2 : wr.frozen? ⟨S, i, none⟩ = false := frozen_of_row wr S _ _ 69 HL.out.s
        obtain ⟨sv, s0⟩ : ∃ sv, wr.cell? ⟨S, i, none⟩ = some sv := ⟨_, by rw [cell_of_row wr S _ _ 69 (0, 0) HL.out.s, List.getElem?_toArray]; exact encN_get P _ i hiP⟩
        obtain ⟨c1, d1, _⟩ := HH.out wr i HL.out
        cases ev : vh i with
        | none =>
          rw [ev] at v0
          have v1 : wr.cell? ⟨V, i, none⟩ = some pn := v0
          have HE : Hid (Lp w wr S V P wh vh (i + 1)) := Lib.hid ⟨by rw [← mg_none ev]; exact HL.out.s, by rw [← cl_none ev]; exact HL.out.v, HL.out.off⟩
          clear v0 ev
          go_wp2
          go_roundw
          case rel => exact ⟨i + 1, by go_num, by omega, HE.out⟩
          case measure => simp [intOf]; omega
        | some a =>
          rw [ev] at v0
          have v1 : wr.cell? ⟨V, i, none⟩ = some (pt a) := v0
          have HE := Lib.hid (HL.out.step ev nSV)
          clear v0 ev
          go_wp2
          go_region
          go_wp2
          go_roundw
          case rel => exact ⟨i + 1, by go_num, by omega, HE.out⟩
          case measure => simp [intOf]; omega
      · have b1 : ¬ (i : Int) < (P : Int) := by omega
        obtain rfl : i = P := by omega
        obtain ⟨c1, d1, c0, d0⟩ := HH.out wr i HL.out
        have KM : Hid (Calls Try.prog 37 #[ptv tr.rt, ptv ur.rt, cmpV] wr.drew fun e V3 => ∃ q, e = .returned (.pointer q) ∧ (V3.cell? ⟨Q, 0, none⟩ = some (ptv tr.rt) ∧ V3.frozen? ⟨Q, 0, none⟩ = false) ∧ ((V3.setCell ⟨Q, 0, none⟩ (.pointer q)).cell? ⟨O, 0, none⟩ = some (ptv ur.rt) ∧ (V3.setCell ⟨Q, 0, none⟩ (.pointer q)).frozen? ⟨O, 0, none⟩ = false) ∧
            Hid (∃ f' g' : Nat → Prop, (∀ j, f' j → f j ∨ g j) ∧ (∀ j, g' j → g j) ∧ (∀ j, f' j → ¬ g' j) ∧ Qu f' ((V3.setCell ⟨Q, 0, none⟩ (.pointer q)).setCell ⟨O, 0, none⟩ pn) Q i (srt (srt tr.ts ++ srt ur.ts)) ∧ Qu g' ((V3.setCell ⟨Q, 0, none⟩ (.pointer q)).setCell ⟨O, 0, none⟩ pn) O i [] ∧ Off (fun j => f j ∨ g j) w ((V3.setCell ⟨Q, 0, none⟩ (.pointer q)).setCell ⟨O, 0, none⟩ pn))) := Lib.hid (by
          have p := HP.out
          have nd : (tr.ads ++ ur.ads).Nodup := by
            rw [List.nodup_append]
            exact ⟨p.hw.nd, p.kw.nd, fun a ha b hb e => p.dj a (p.h.ft a ha) (by rw [e]; exact p.k.ft b hb)⟩
          have od : Off (fun k => k = S ∨ k = V) w wr.drew := HL.out.off.drew
          have i1 : Is wr.drew none tr := p.h.is.off od (fun a ha e => by
            rcases e with e | e
            · exact (p.h.apart.2 a ha).2 e
            · exact p.dj a (p.h.ft a ha) (by rw [e]; exact p.k.fS))
          have i2 : Is wr.drew none ur := p.k.is.off od (fun a ha e => by
            rcases e with e | e
            · exact p.dj a (by rw [e]; exact p.h.fS) (p.k.ft a ha)
            · exact (p.k.apart.2 a ha).2 e)
          refine (melded_any tr ur wr.drew p.hr p.kr i1 i2 nd).mono fun e V3 ⟨he, hi3, o⟩ => ?_
          obtain ⟨q, hq⟩ := ptv_is (mel tr ur).rt
          rw [hq] at he
          obtain ⟨e1, e2, e3⟩ := p.fin hP HF.out HG.out HM.out HL.out nd q hq hi3 o
          exact ⟨q, he, e1, e2, Lib.hid e3⟩)
        have c0d : wr.drew.cell? ⟨Q, 0, none⟩ = some (ptv tr.rt) := c0
        have d0d : wr.drew.cell? ⟨O, 0, none⟩ = some (ptv ur.rt) := d0
        clear HP HF HG HM HL HH
        generalize ptv tr.rt = tv at *
        generalize ptv ur.rt = uv at *
        go_wp2
        go_region_with (first | (go_at_call 37; (with_reducible refine (KM.out).mono ?_); rintro e V3 ⟨q, rfl, ⟨k1, k2⟩, ⟨k3, k4⟩, HE⟩))
        all_goals
          go_wp2
          go_ret
          exact ⟨rfl, HE.out⟩
end Go.Proofs.Ytdlfppdekllloaa
