/-
  The walk of HashwheelSoon.
-/
import Derived.Test.YtdoceldofkaapaaDoorAworks
set_option linter.unusedVariables false
set_option linter.unusedSimpArgs false
namespace Go.Proofs.YtdoceldofkaapaaDoor.Ha
open Go.RowKit
theorem soon_no {Qu : QT} (C : Con Qu) (P bits s : Int) (t : T) (on : Int) (w : World) (hT : Bm.Tab w) (h : ¬ ((0 ≤ P ∧ P ≤ 1024) ∧ 1 ≤ bits ∧ bits ≤ 6)) :
    Calls Tryd.prog 4 #[.int .i64 P, .int .i64 bits, .int .u64 s, .agg #[.int .u64 t.a, .int .u64 t.s, .int .i64 t.p], .int .u64 on] w fun e w' => e = .returned (.bool true) ∧ Bel w w' := by
  have K := Lib.hid (works_any C (w.alloc (.cells #[.int .u64 t.a, .int .u64 t.s, .int .i64 t.p] 41)) (tab_bel hT ((Bel.refl _).alloc _ _)))
  have HB : Hid (Bel w (w.alloc (.cells #[.int .u64 t.a, .int .u64 t.s, .int .i64 t.p] 41))) := Lib.hid ((Bel.refl _).alloc _ _)
  have KN := Lib.hid (fun w' => C.qnew_no P bits s w' h)
  clear h
  go_enter Tryd.func4, Tryd.ntmps4
  go_wp2_with fail
  with_reducible refine K.out.mono ?_
  rintro e w1 ⟨rfl, hb⟩
  have HB1 := Lib.hid (HB.out.trans hb)
  clear hb
  go_wp2_with fail
  with_reducible refine (KN.out _).mono ?_
  rintro e w2 ⟨rfl, hb⟩
  have HB2 := Lib.hid (HB1.out.trans hb)
  clear hb
  go_wp2
  go_ret
  exact ⟨rfl, HB2.out⟩
theorem ins_one (P : Nat) (t : T) : (hp P t.p = true ∧ insE P [] t = 0 ∧ insL P [] t = [t]) ∨ (insE P [] t = 1 ∧ insL P [] t = []) := by
  unfold insL insE
  cases h : hp P t.p with
  | true => exact .inl ⟨rfl, rfl, rfl⟩
  | false => exact .inr ⟨rfl, rfl⟩
theorem due_one (t : T) (now : Int) : due [t] now true = (if t.a ≤ now then [t] else []) ∧ due [t] now false = (if t.a ≤ now then [] else [t]) := by
  unfold due
  by_cases h : t.a ≤ now
  · simp [h]
  · simp [h]
/-- Behind the last Due. -/
def Tl5 (Qu : QT) (w : World) (Q P b : Nat) (bx : List (Nat × Obj)) (wx : World) : Prop := ∃ s k, Ow Qu w Q P b s k [] bx wx
set_option maxHeartbeats 8000000 in
set_option maxRecDepth 100000 in
theorem soon_yes {Qu : QT} (C : Con Qu) (P b : Nat) (s : Int) (t : T) (on : Int) (w : World) (hT : Bm.Tab w) (hP : P ≤ 1024) (hb6 : 1 ≤ b ∧ b ≤ 6) (hs : Tk s) (ht : Tk t.a) (hon : Tk on) :
    Calls Tryd.prog 4 #[.int .i64 P, .int .i64 b, .int .u64 s, .agg #[.int .u64 t.a, .int .u64 t.s, .int .i64 t.p], .int .u64 on] w fun e w' => e = .returned (.bool true) ∧ Bel w w' := by
  have HB : Hid (Bel w (w.alloc (tb t))) := Lib.hid ((Bel.refl _).alloc _ _)
  have HN : Hid ((w.alloc (tb t)).heap[w.heap.size]? = some (tb t)) := Lib.hid (heap_alloc_new _ _)
  have KN := Lib.hid (fun w' (hb : Bel w w') => C.qnew_yes P b s w' hP hb6 hs (tab_bel hT hb))
  have HT := Lib.hid hT
  have HTa := Lib.hid ht
  have HOn := Lib.hid hon
  unfold Tk at ht hon
  clear hP hb6 hs
  go_enter Tryd.func4, Tryd.ntmps4
  go_upto_region 1 with (fail)
  generalize w.alloc (tb t) = W at *
  have K := Lib.hid (works_any C W (tab_bel HT.out HB.out))
  go_wp2_with fail
  with_reducible refine K.out.mono ?_
  rintro e w1 ⟨rfl, hb⟩
  have HB1 := Lib.hid (HB.out.trans hb)
  have HN1 := Lib.hid (hb.heap HN.out)
  clear hb HB HN K
  go_wp2_with fail
  with_reducible refine (KN.out _ HB1.out).mono ?_
  rintro e w2 ⟨Q, f, rfl, hq, hf, hb⟩
  obtain ⟨b8, e8⟩ : ∃ b, w.heap.size = b := ⟨_, rfl⟩
  rw [e8] at HN1 ⊢
  have T0 : Hid (Ow Qu w Q P b s 0 [] [(b8, tb t)] w2) := Lib.hid (by
    refine ⟨⟨f, hq, fun k e => Nat.le_trans HB1.out.size (hf k e), fun x hx => ?_⟩, HB1.out.trans hb, fun x hx => ?_⟩
    · simp at hx
      subst hx
      intro e
      have h1 := hf _ e
      have h2 := (Array.getElem?_eq_some_iff.1 HN1.out).1
      simp only at h1
      omega
    · simp at hx
      subst hx
      exact hb.heap HN1.out)
  clear hq hf hb KN HB1 HN1 e8
  obtain ⟨bx, ebx⟩ : ∃ bx, [(b8, tb t)] = bx := ⟨_, rfl⟩
  have m8 : Hid ((b8, tb t) ∈ bx) := Lib.hid (by rw [← ebx]; simp)
  rw [ebx] at T0
  clear ebx
  have NN : Hid (∀ s k l bq w', Ow Qu w Q P b s k l bq w' → (b8, tb t) ∈ bq → w'.cell? ⟨b8, 0, none⟩ = some (.int .u64 t.a) ∧ w'.cell? ⟨b8, 1, none⟩ = some (.int .u64 t.s) ∧ w'.cell? ⟨b8, 2, none⟩ = some (.int .i64 t.p)) := Lib.hid (fun s k l bq w' h h1 => h.c3 h1)
  obtain ⟨a0, a1, a2⟩ := NN.out _ _ _ _ _ T0.out m8.out
  rcases ins_one P t with ⟨hp0, hi1, hi2⟩ | ⟨hi1, hi2⟩
  · have KI := Lib.hid (ow_insert C hi1 hi2 HTa.out T0.out)
    clear hi1 hi2 hp0 T0
    go_wp2_with fail
    with_reducible refine KI.out.mono ?_
    rintro e w3 ⟨rfl, hw⟩
    have T1 := Lib.hid hw
    clear hw KI a0 a1 a2
    obtain ⟨a0, a1, a2⟩ := NN.out _ _ _ _ _ T1.out m8.out
    have FIN : Hid (∀ s' k' w', Ow Qu w Q P b s' k' [t] bx w' → Calls Tryd.prog 11 #[.pointer (some ⟨Q, 0, none⟩), .int .u64 t.a] w' fun e w2 => ∃ p c, e = .returned (.slice p 1 c) ∧ Has w2 p [t] ∧ Tl5 Qu w Q P b bx w2) := Lib.hid (fun s' k' w' h =>
      (ow_due C (now := t.a) (d := [t]) (l' := []) (n := 1) (by rw [(due_one t t.a).1, if_pos (Int.le_refl _)]) (by rw [(due_one t t.a).2, if_pos (Int.le_refl _)]) rfl rfl rfl HTa.out h).mono fun e w2 ⟨p, c, he, hh, ho⟩ => ⟨p, c, he, hh, _, _, ho⟩)
    have FIN2 : Hid (∀ s' k' w' (b9 : Nat), Ow Qu w Q P b s' k' [t] ((b9, tb t) :: bx) w' → Calls Tryd.prog 11 #[.pointer (some ⟨Q, 0, none⟩), .int .u64 t.a] w' fun e w2 => ∃ p c, e = .returned (.slice p 1 c) ∧ Has w2 p [t] ∧ Tl5 Qu w Q P b ((b9, tb t) :: bx) w2) := Lib.hid (fun s' k' w' b9 h =>
      (ow_due C (now := t.a) (d := [t]) (l' := []) (n := 1) (by rw [(due_one t t.a).1, if_pos (Int.le_refl _)]) (by rw [(due_one t t.a).2, if_pos (Int.le_refl _)]) rfl rfl rfl HTa.out h).mono fun e w2 ⟨p, c, he, hh, ho⟩ => ⟨p, c, he, hh, _, _, ho⟩)
    by_cases ho : on < t.a
    · have hdd : decide (on < t.a) = true := decide_eq_true ho
      have hw1 : IntKind.u64.wrap (t.a - 1) = t.a - 1 := by rw [IntKind.wrap_u64]; omega
      have KD := Lib.hid (ow_due C (now := on) (d := []) (l' := [t]) (n := 0) (by rw [(due_one t on).1, if_neg (by omega)]) (by rw [(due_one t on).2, if_neg (by omega)]) rfl rfl rfl HOn.out T1.out)
      have KE : Hid (∀ s' k' w', Ow Qu w Q P b s' k' [t] bx w' → Calls Tryd.prog 11 #[.pointer (some ⟨Q, 0, none⟩), .int .u64 (t.a - 1)] w' fun e w2 => ∃ p c, e = .returned (.slice p 0 c) ∧ ∃ s2 k2, Ow Qu w Q P b s2 k2 [t] bx w2) := Lib.hid (fun s' k' w' h =>
        (ow_due C (now := t.a - 1) (d := []) (l' := [t]) (n := 0) (by rw [(due_one t _).1, if_neg (by omega)]) (by rw [(due_one t _).2, if_neg (by omega)]) rfl rfl rfl ⟨by omega, by omega⟩ h).mono fun e w2 ⟨p, c, he, hh, ho⟩ => ⟨p, c, he, _, _, ho⟩)
      go_wp2_with fail
      with_reducible refine KD.out.mono ?_
      rintro e w4 ⟨p4, c4, rfl, _, hw⟩
      have T2 := Lib.hid hw
      clear hw KD a0 a1 a2
      obtain ⟨a0, a1, a2⟩ := NN.out _ _ _ _ _ T2.out m8.out
      have KE4 := Lib.hid (KE.out _ _ _ T2.out)
      clear KE
      go_wp2_with fail
      with_reducible refine KE4.out.mono ?_
      rintro e w5 ⟨p5, c5, rfl, s5, k5, hw⟩
      have T3 := Lib.hid hw
      clear hw KE4 T2
      obtain ⟨Zl, hzl⟩ := ow_zp C T3.out
      go_wp2_with fail
      with_reducible refine (ow_len C hzl (n := 1) rfl T3.out).mono ?_
      rintro e w6 ⟨rfl, hb⟩
      have T5 := Lib.hid (ow_le C T3.out hb)
      clear hb T3 a0 a1 a2
      go_upto_region 15 with (fail)
      go_cut [17] from 18 (fun v wx => v = .bool true ∧ Tl5 Qu w Q P b bx wx)
      case first =>
        obtain ⟨c0, c1, c2⟩ := NN.out _ _ _ _ _ T5.out m8.out
        have NB : Hid (∀ bq w', Tl5 Qu w Q P b bq w' → (b8, tb t) ∈ bq → w'.cell? ⟨b8, 0, none⟩ = some (.int .u64 t.a) ∧ w'.cell? ⟨b8, 1, none⟩ = some (.int .u64 t.s) ∧ w'.cell? ⟨b8, 2, none⟩ = some (.int .i64 t.p)) := Lib.hid (fun bq w' ⟨_, _, h⟩ h1 => h.c3 h1)
        have A1 := Lib.hid (FIN.out _ _ _ (ow_le C T5.out (Bel.refl w6).drew))
        have T5b := Lib.hid (ow_le C (ow_box C T5.out #[.int .u64 t.a, .int .u64 t.s, .int .i64 t.p] 41) (Bel.refl _).drew)
        have A2 := Lib.hid (FIN2.out _ _ _ _ T5b.out)
        have E1 : Hid (∀ w4 : World, Has (w4.alloc (.cells #[.int .u64 t.a, .int .u64 t.s, .int .i64 t.p] 41)) (some ⟨w4.heap.size, 0, none⟩) [t]) := Lib.hid (fun w4 => has_row (heap_alloc_new _ _) rfl)
        have E2 : Hid (∀ w4 : World, Tl5 Qu w Q P b ((w6.heap.size, tb t) :: bx) w4 → Has w4 (some ⟨w6.heap.size, 0, none⟩) [t] ∧ Tl5 Qu w Q P b bx w4) := Lib.hid (fun w4 ⟨_, _, hk⟩ => ⟨has_row (hk.at_ _ (List.mem_cons_self ..)) rfl, _, _, hk.less⟩)
        have KS : Hid (∀ p q c d w', Has w' p [t] → Has w' q [t] → Calls Tryd.prog 16 #[.slice p 1 c, .slice q 1 d] w' fun e w2 => e = .returned (.bool true) ∧ Bel w' w2) := Lib.hid (fun p q c d w' h1 h2 => same_yes p q c d [t] w' (by simp) h1 h2)
        have LE : Hid (∀ w1 w2, Tl5 Qu w Q P b bx w1 → Bel w1 w2 → Tl5 Qu w Q P b bx w2) := Lib.hid (fun w1 w2 ⟨_, _, h⟩ hb => ⟨_, _, ow_le C h hb⟩)
        have S1 := Lib.hid (NN.out _ _ _ _ _ (ow_le C T5.out (Bel.refl w6).drew) m8.out)
        have S2 := Lib.hid (NN.out _ _ _ _ _ T5b.out (List.mem_cons_of_mem _ m8.out))
        clear FIN FIN2 HTa HOn ht hon
        generalize t.a = ta at *
        generalize t.s = ts at *
        generalize t.p = tp at *
        go_wp2
        go_region_held3 (fun w' => w'.cell? ⟨b8, 0, none⟩ = some (.int .u64 ta) ∧ w'.cell? ⟨b8, 1, none⟩ = some (.int .u64 ts) ∧ w'.cell? ⟨b8, 2, none⟩ = some (.int .i64 tp))
          (first | (with_reducible exact S1.out) | (with_reducible exact S2.out) | (with_reducible exact NB.out _ _ hw3 m8.out) | (with_reducible exact NB.out _ _ hk3.2 m8.out) | (with_reducible exact NB.out _ _ hw4 m8.out) | exact NB.out _ _ (LE.out _ _ hw3 ((Bel.refl _).alloc _ _)) m8.out)
          (first | (go_at_call 11; (with_reducible refine (A1.out).mono ?_); rintro e w8 ⟨q, k, rfl, hq, hw3⟩) | (go_at_call 11; (with_reducible refine (A2.out).mono ?_); rintro e w8 ⟨q, k, rfl, hq, hw3⟩; have hk3 := E2.out _ hw3) | (go_at_call 16; (with_reducible refine (KS.out _ _ _ _ _ (hq.bel ((Bel.refl _).alloc _ _)) (E1.out w8)).mono ?_); rintro e w9 ⟨rfl, hg2⟩; have hw4 := LE.out _ _ hw3 (((Bel.refl w8).alloc #[.int .u64 ta, .int .u64 ts, .int .i64 tp] 41).trans hg2)) | (go_at_call 16; (with_reducible refine (KS.out _ _ _ _ _ hq hk3.1).mono ?_); rintro e w9 ⟨rfl, hg2⟩; have hw4 := LE.out _ _ hk3.2 hg2))
        all_goals
          go_wp2_with fail
          go_meet
          case rel => exact ⟨rfl, hw4⟩
      case rest =>
        obtain ⟨rfl, s6, k6, hw⟩ := hcut
        clear T5 FIN FIN2
        obtain ⟨Zl, hzl⟩ := ow_zp C hw
        go_wp2_with fail
        with_reducible refine (ow_len C hzl (n := 0) rfl hw).mono ?_
        rintro e w6 ⟨rfl, hb⟩
        have HE := Lib.hid (hw.bel.trans hb)
        clear hb
        go_wp2
        go_ret
        exact ⟨rfl, HE.out⟩
    · have hdd : decide (on < t.a) = false := decide_eq_false ho
      have T5 := Lib.hid T1.out
      clear T1
      go_upto_region 15 with (fail)
      clear a0 a1 a2
      go_cut [17] from 18 (fun v wx => v = .bool true ∧ Tl5 Qu w Q P b bx wx)
      case first =>
        obtain ⟨c0, c1, c2⟩ := NN.out _ _ _ _ _ T5.out m8.out
        have NB : Hid (∀ bq w', Tl5 Qu w Q P b bq w' → (b8, tb t) ∈ bq → w'.cell? ⟨b8, 0, none⟩ = some (.int .u64 t.a) ∧ w'.cell? ⟨b8, 1, none⟩ = some (.int .u64 t.s) ∧ w'.cell? ⟨b8, 2, none⟩ = some (.int .i64 t.p)) := Lib.hid (fun bq w' ⟨_, _, h⟩ h1 => h.c3 h1)
        have A1 := Lib.hid (FIN.out _ _ _ (ow_le C T5.out (Bel.refl w3).drew))
        have T5b := Lib.hid (ow_le C (ow_box C T5.out #[.int .u64 t.a, .int .u64 t.s, .int .i64 t.p] 41) (Bel.refl _).drew)
        have A2 := Lib.hid (FIN2.out _ _ _ _ T5b.out)
        have E1 : Hid (∀ w4 : World, Has (w4.alloc (.cells #[.int .u64 t.a, .int .u64 t.s, .int .i64 t.p] 41)) (some ⟨w4.heap.size, 0, none⟩) [t]) := Lib.hid (fun w4 => has_row (heap_alloc_new _ _) rfl)
        have E2 : Hid (∀ w4 : World, Tl5 Qu w Q P b ((w3.heap.size, tb t) :: bx) w4 → Has w4 (some ⟨w3.heap.size, 0, none⟩) [t] ∧ Tl5 Qu w Q P b bx w4) := Lib.hid (fun w4 ⟨_, _, hk⟩ => ⟨has_row (hk.at_ _ (List.mem_cons_self ..)) rfl, _, _, hk.less⟩)
        have KS : Hid (∀ p q c d w', Has w' p [t] → Has w' q [t] → Calls Tryd.prog 16 #[.slice p 1 c, .slice q 1 d] w' fun e w2 => e = .returned (.bool true) ∧ Bel w' w2) := Lib.hid (fun p q c d w' h1 h2 => same_yes p q c d [t] w' (by simp) h1 h2)
        have LE : Hid (∀ w1 w2, Tl5 Qu w Q P b bx w1 → Bel w1 w2 → Tl5 Qu w Q P b bx w2) := Lib.hid (fun w1 w2 ⟨_, _, h⟩ hb => ⟨_, _, ow_le C h hb⟩)
        have S1 := Lib.hid (NN.out _ _ _ _ _ (ow_le C T5.out (Bel.refl w3).drew) m8.out)
        have S2 := Lib.hid (NN.out _ _ _ _ _ T5b.out (List.mem_cons_of_mem _ m8.out))
        clear FIN FIN2 HTa HOn ht hon
        generalize t.a = ta at *
        generalize t.s = ts at *
        generalize t.p = tp at *
        go_wp2
        go_region_held3 (fun w' => w'.cell? ⟨b8, 0, none⟩ = some (.int .u64 ta) ∧ w'.cell? ⟨b8, 1, none⟩ = some (.int .u64 ts) ∧ w'.cell? ⟨b8, 2, none⟩ = some (.int .i64 tp))
          (first | (with_reducible exact S1.out) | (with_reducible exact S2.out) | (with_reducible exact NB.out _ _ hw3 m8.out) | (with_reducible exact NB.out _ _ hk3.2 m8.out) | (with_reducible exact NB.out _ _ hw4 m8.out) | exact NB.out _ _ (LE.out _ _ hw3 ((Bel.refl _).alloc _ _)) m8.out)
          (first | (go_at_call 11; (with_reducible refine (A1.out).mono ?_); rintro e w8 ⟨q, k, rfl, hq, hw3⟩) | (go_at_call 11; (with_reducible refine (A2.out).mono ?_); rintro e w8 ⟨q, k, rfl, hq, hw3⟩; have hk3 := E2.out _ hw3) | (go_at_call 16; (with_reducible refine (KS.out _ _ _ _ _ (hq.bel ((Bel.refl _).alloc _ _)) (E1.out w8)).mono ?_); rintro e w9 ⟨rfl, hg2⟩; have hw4 := LE.out _ _ hw3 (((Bel.refl w8).alloc #[.int .u64 ta, .int .u64 ts, .int .i64 tp] 41).trans hg2)) | (go_at_call 16; (with_reducible refine (KS.out _ _ _ _ _ hq hk3.1).mono ?_); rintro e w9 ⟨rfl, hg2⟩; have hw4 := LE.out _ _ hk3.2 hg2))
        all_goals
          go_wp2_with fail
          go_meet
          case rel => exact ⟨rfl, hw4⟩
      case rest =>
        obtain ⟨rfl, s6, k6, hw⟩ := hcut
        clear T5 FIN FIN2
        obtain ⟨Zl, hzl⟩ := ow_zp C hw
        go_wp2_with fail
        with_reducible refine (ow_len C hzl (n := 0) rfl hw).mono ?_
        rintro e w6 ⟨rfl, hb⟩
        have HE := Lib.hid (hw.bel.trans hb)
        clear hb
        go_wp2
        go_ret
        exact ⟨rfl, HE.out⟩
  · have KI := Lib.hid (ow_insert C hi1 hi2 HTa.out T0.out)
    clear hi1 hi2 T0
    go_wp2_with fail
    with_reducible refine KI.out.mono ?_
    rintro e w3 ⟨rfl, hw⟩
    have T1 := Lib.hid hw
    clear hw KI a0 a1 a2
    obtain ⟨Zl, hzl⟩ := ow_zp C T1.out
    go_wp2_with fail
    with_reducible refine (ow_len C hzl (n := 0) rfl T1.out).mono ?_
    rintro e w4 ⟨rfl, hb⟩
    have HE := Lib.hid (T1.out.bel.trans hb)
    clear hb
    go_wp2
    go_ret
    exact ⟨rfl, HE.out⟩
end Go.Proofs.YtdoceldofkaapaaDoor.Ha
