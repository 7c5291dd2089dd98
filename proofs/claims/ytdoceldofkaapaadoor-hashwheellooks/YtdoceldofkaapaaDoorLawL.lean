/-
  The walk of HashwheelLooks.
-/
import Derived.Test.YtdoceldofkaapaaDoorAworks
import Derived.Test.YtdoceldofkaapaaDoorXaj
set_option linter.unusedVariables false
set_option linter.unusedSimpArgs false
namespace Go.Proofs.YtdoceldofkaapaaDoor.Ha
open Go.RowKit
theorem looks_long {Qu : QT} (C : Con Qu) (P bits s : Int) (pa : Option Addr) (N ca : Nat) (now : Int) (w : World) (hT : Bm.Tab w) (h : 60 < N) :
    Calls Tryd.prog 3 #[.int .i64 P, .int .i64 bits, .int .u64 s, .slice pa N ca, .int .u64 now] w fun e w' => e = .returned (.bool true) ∧ Bel w w' := by
  have K := Lib.hid (works_any C w hT)
  have h0 : (60 : Int) < N := by omega
  go_enter Tryd.func3, Tryd.ntmps3
  go_wp2_with fail
  with_reducible refine K.out.mono ?_
  rintro e w1 ⟨rfl, hb⟩
  go_wp2
  go_ret
  exact ⟨rfl, hb⟩
theorem looks_no {Qu : QT} (C : Con Qu) (P bits s : Int) (pa : Option Addr) (N ca : Nat) (now : Int) (w : World) (hT : Bm.Tab w) (hN : N ≤ 60) (h : ¬ ((0 ≤ P ∧ P ≤ 1024) ∧ 1 ≤ bits ∧ bits ≤ 6)) :
    Calls Tryd.prog 3 #[.int .i64 P, .int .i64 bits, .int .u64 s, .slice pa N ca, .int .u64 now] w fun e w' => e = .returned (.bool true) ∧ Bel w w' := by
  have K := Lib.hid (works_any C w hT)
  have KB := Lib.hid (fun w' => built_no C P bits s pa N ca w' h)
  have h0 : ¬ (60 : Int) < N := by omega
  clear h hN
  go_enter Tryd.func3, Tryd.ntmps3
  go_wp2_with fail
  with_reducible refine K.out.mono ?_
  rintro e w1 ⟨rfl, hb⟩
  have HB := Lib.hid hb
  clear hb
  go_wp2_with fail
  with_reducible refine (KB.out _).mono ?_
  rintro e w2 ⟨rfl, hb⟩
  have HB2 := Lib.hid (HB.out.trans hb)
  clear hb
  go_wp2
  go_ret
  exact ⟨rfl, HB2.out⟩
theorem ow_of_bu {Qu : QT} {w w1 : World} {Q P b : Nat} {s : Int} {l : List T} (h : Bu Qu w w1 Q P b s l) : ∃ kk, Ow Qu w Q P b s kk l [] w1 := by
  obtain ⟨⟨f, kk, h1, h2⟩, h3⟩ := h
  exact ⟨kk, ⟨f, h1, h2, fun x hx => by simp at hx⟩, h3, fun x hx => by simp at hx⟩
set_option maxHeartbeats 4000000 in
set_option maxRecDepth 100000 in
theorem looks_yes {Qu : QT} (C : Con Qu) (P b : Nat) (s : Int) (pa : Option Addr) (N ca : Nat) (al : List Ak) (now : Int) (w : World) (hT : Bm.Tab w) (hN : N ≤ 60) (hl : al.length = N) (hK : Aks al) (hA : Lies nof w pa (encK al)) (hP : P ≤ 1024) (hb6 : 1 ≤ b ∧ b ≤ 6) (hs : Tk s) (hnw : Tk now) :
    Calls Tryd.prog 3 #[.int .i64 P, .int .i64 b, .int .u64 s, .slice pa N ca, .int .u64 now] w fun e w' => e = .returned (.bool true) ∧ Bel w w' := by
  have K := Lib.hid (works_any C w hT)
  have KB := Lib.hid (fun w' (h : Bel w w') => built_yes C P b s pa N ca al w' hP hb6 hs hl hN hK (hA.bel h) (tab_bel hT h))
  have KS := Lib.hid (fun w' => slots_any b hb6.2 w')
  have h0 : ¬ (60 : Int) < N := by omega
  have hS := slo_le hb6.2
  have HNw := Lib.hid hnw
  unfold Tk at hnw
  clear hN hA hl hK hP hs
  generalize pla P al = l at *
  generalize pba s al = sb at *
  go_enter Tryd.func3, Tryd.ntmps3
  go_wp2_with fail
  with_reducible refine K.out.mono ?_
  rintro e w1 ⟨rfl, hb⟩
  have HB1 := Lib.hid hb
  clear hb K
  go_wp2_with fail
  with_reducible refine (KB.out _ HB1.out).mono ?_
  rintro e w2 ⟨Q, rfl, hbu⟩
  have hsb := bu_tk C hbu
  have hlen := bu_len C hbu
  obtain ⟨kk, hw⟩ := ow_of_bu hbu
  have T0 := Lib.hid hw
  clear hbu hw KB
  obtain ⟨n, en⟩ : ∃ n, l.length = n := ⟨_, rfl⟩
  obtain ⟨d, ed⟩ : ∃ d, (due l now true).length = d := ⟨_, rfl⟩
  obtain ⟨m, em⟩ : ∃ m, (due l now false).length = m := ⟨_, rfl⟩
  have hdm : d + m = n := by rw [← ed, ← em, ← en]; exact due_len2 l now
  obtain ⟨k, ek⟩ : ∃ k : Nat, lks (slo b) sb now l = k := ⟨_, rfl⟩
  have hk1 : k ≤ n := by rw [← ek, ← en]; exact lks_len _ _ _ _
  have hk2 : k ≤ slo b := by rw [← ek]; exact lks_slots _ _ _ _
  have hk3 : sb < now → (k : Int) ≤ now - sb := fun h => by rw [← ek]; exact lks_ticks (by omega) _ _ _ h
  have hk4 : now ≤ sb → k = 0 := fun h => by rw [← ek]; exact lks_past h
  unfold Tk at hsb
  rw [en] at hlen
  obtain ⟨Zl1, hzl1⟩ := ow_zp C T0.out
  have KL := Lib.hid (ow_len C hzl1 en T0.out)
  go_wp2_with fail
  with_reducible refine KL.out.mono ?_
  rintro e w3 ⟨rfl, hb⟩
  have T1 := Lib.hid (ow_le C T0.out hb)
  clear hb KL T0 hzl1
  go_wp2_with fail
  with_reducible refine (ow_base C T1.out).mono ?_
  rintro e w4 ⟨rfl, hb⟩
  have T2 := Lib.hid (ow_le C T1.out hb)
  clear hb T1
  have KD := Lib.hid (ow_due C (now := now) (k' := (k : Int)) rfl rfl rfl (by rw [ek]) ed HNw.out T2.out)
  go_wp2_with fail
  with_reducible refine KD.out.mono ?_
  rintro e w5 ⟨p5, c5, rfl, _, hw⟩
  have T3 := Lib.hid hw
  clear hw KD T2
  go_wp2_with fail
  with_reducible refine (ow_looked C T3.out).mono ?_
  rintro e w6 ⟨rfl, hb⟩
  have T4 := Lib.hid (ow_le C T3.out hb)
  clear hb T3
  obtain ⟨Zl2, hzl2⟩ := ow_zp C T4.out
  have KL := Lib.hid (ow_len C hzl2 em T4.out)
  have g1 : ¬ (k : Int) < 0 := by omega
  have g2 : ¬ (n : Int) < (k : Int) := by omega
  have g3 : IntKind.i64.wrap ((n : Int) - (d : Int)) = (m : Int) := by rw [show (n : Int) - (d : Int) = (m : Int) from by omega]; exact i64_in _ (by omega) (by omega)
  go_wp2_with fail
  with_reducible refine KL.out.mono ?_
  rintro e w7 ⟨rfl, hb⟩
  have T5 := Lib.hid (ow_le C T4.out hb)
  clear hb KL T4 hzl2
  have KBs := Lib.hid (ow_base C T5.out)
  have HE5 : Hid (Bel w w7) := Lib.hid (HB1.out.trans T5.out.bel)
  have HT5 := Lib.hid (fun w' hb => ow_base C (ow_le C T5.out (w2 := w') hb))
  clear T5
  by_cases hns : now ≤ sb
  · have hk0 := hk4 hns
    have hmx : max sb now = sb := by omega
    rw [hmx] at KBs
    subst hk0
    clear hk1 hk2 hk3 hk4 hmx HT5 ek
    go_wp2_with fail
    with_reducible refine KBs.out.mono ?_
    rintro e w8 ⟨rfl, hb⟩
    have HE := Lib.hid (HE5.out.trans hb)
    clear hb
    go_wp2
    go_ret
    exact ⟨rfl, HE.out⟩
  · have hk0 := hk3 (by omega)
    have hmx : max sb now = now := by omega
    rw [hmx] at KBs
    have g4 : IntKind.u64.wrap (k : Int) = (k : Int) := by rw [IntKind.wrap_u64]; omega
    obtain ⟨df, edf⟩ : ∃ x, now - sb = x := ⟨_, rfl⟩
    have g5 : IntKind.u64.wrap (now - sb) = df := by rw [edf, IntKind.wrap_u64]; omega
    rw [edf] at hk0
    have g6 : ((k : Int) ≤ (slo b : Int)) := by omega
    clear hk1 hk2 hk3 hk4 hmx ek HT5 edf
    go_wp2_with fail
    with_reducible refine (KS.out _).mono ?_
    rintro e w8 ⟨rfl, rfl⟩
    go_wp2_with fail
    with_reducible refine KBs.out.mono ?_
    rintro e w9 ⟨rfl, hb⟩
    have HE := Lib.hid (HE5.out.trans hb)
    clear hb
    go_wp2
    go_ret
    exact ⟨rfl, HE.out⟩
end Go.Proofs.YtdoceldofkaapaaDoor.Ha
