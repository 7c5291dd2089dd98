/-
  The walk of HierwheelJumps.
-/
import Derived.Test.YtdoceldofkaapaaGreatDoorXaz
import Derived.Deep.CutRange
set_option linter.unusedVariables false
set_option linter.unusedSimpArgs false
namespace Go.Proofs.YtdoceldofkaapaaGreatDoor
open Go.RowKit
theorem due_one (t : T) (now : Int) : due [t] now true = (if t.a ≤ now then [t] else []) ∧ due [t] now false = (if t.a ≤ now then [] else [t]) := by
  unfold due
  by_cases h : t.a ≤ now
  · simp [h]
  · simp [h]
theorem jumps_no {Qu : QT} (C : Con Qu) (bits s a now : Int) (w : World) (hT : Bm.Tab w) (h : ¬ (1 ≤ bits ∧ bits ≤ 6)) :
    Calls Tryz.prog 9 #[.int .i64 bits, .int .u64 s, .int .u64 a, .int .u64 now] w fun e w' => e = .returned (.bool true) ∧ Bel w w' := by
  have K := Lib.hid (works_any C w hT)
  have KN := Lib.hid (fun w' => C.qnew_no 2 bits s w' (fun e => h e.2))
  clear h
  go_enter Tryz.func9, Tryz.ntmps9
  go_wp2_with fail
  with_reducible refine K.out.mono ?_
  rintro e w1 ⟨rfl, hb⟩
  have HB1 := Lib.hid hb
  clear hb
  go_wp2_with fail
  with_reducible refine (KN.out _).mono ?_
  rintro e w2 ⟨rfl, hb⟩
  have HB2 := Lib.hid (HB1.out.trans hb)
  clear hb
  go_wp2
  go_ret
  exact ⟨rfl, HB2.out⟩
abbrev jt (a : Int) : T := ⟨a, 7, 1⟩
/-- Behind the last Due. -/
def Tl6 (Qu : QT) (w : World) (Q b : Nat) (s : Int) (bx : List (Nat × Obj)) (wx : World) : Prop := ∃ k, Ow Qu w Q 2 b s k [] bx wx
set_option maxHeartbeats 8000000 in
set_option maxRecDepth 100000 in
theorem jumps_yes {Qu : QT} (C : Con Qu) (b : Nat) (s a now : Int) (w : World) (hT : Bm.Tab w) (hb6 : 1 ≤ b ∧ b ≤ 6) (hs : Tk s) (ha : Tk a) (hn : Tk now) :
    Calls Tryz.prog 9 #[.int .i64 b, .int .u64 s, .int .u64 a, .int .u64 now] w fun e w' => e = .returned (.bool true) ∧ Bel w w' := by
  have KN := Lib.hid (fun w' (hb : Bel w w') => C.qnew_yes 2 b s w' (by omega) hb6 hs (tab_bel hT hb))
  have e2 : ((2 : Nat) : Int) = 2 := rfl
  rw [e2] at KN
  clear e2
  have K := Lib.hid (works_any C w hT)
  have HAt : Hid (Tk (jt a).a) := Lib.hid ha
  have HNt := Lib.hid hn
  unfold Tk at ha hn hs
  go_enter Tryz.func9, Tryz.ntmps9
  go_wp2_with fail
  with_reducible refine K.out.mono ?_
  rintro e w1 ⟨rfl, hb⟩
  have HB1 := Lib.hid hb
  clear hb K
  go_wp2_with fail
  with_reducible refine (KN.out _ HB1.out).mono ?_
  rintro e w2 ⟨Q, f, rfl, hq, hf, hb⟩
  have T0 := Lib.hid (ow_box C (ow_new C hq (fun k e => Nat.le_trans HB1.out.size (hf k e)) (HB1.out.trans hb)) #[.int .u64 a, .int .u64 7, .int .i64 1] 37)
  clear hq hf hb KN HB1
  go_upto_region 8 with (fail)
  generalize w2.alloc (.cells #[.int .u64 a, .int .u64 7, .int .i64 1] 37) = W2 at *
  generalize w2.heap.size = b12 at *
  obtain ⟨bx, ebx⟩ : ∃ bx : List (Nat × Obj), [(b12, .cells #[.int .u64 a, .int .u64 7, .int .i64 1] 37)] = bx := ⟨_, rfl⟩
  have m12 : Hid ((b12, .cells #[.int .u64 a, .int .u64 7, .int .i64 1] 37) ∈ bx) := Lib.hid (by rw [← ebx]; simp)
  rw [ebx] at T0
  clear ebx
  have NN : Hid (∀ s k l bq w', Ow Qu w Q 2 b s k l bq w' → (b12, .cells #[.int .u64 a, .int .u64 7, .int .i64 1] 37) ∈ bq → w'.cell? ⟨b12, 0, none⟩ = some (.int .u64 a) ∧ w'.cell? ⟨b12, 1, none⟩ = some (.int .u64 7) ∧ w'.cell? ⟨b12, 2, none⟩ = some (.int .i64 1)) := Lib.hid (fun s k l bq w' h h1 => h.c3 h1)
  obtain ⟨a0, a1, a2⟩ := NN.out _ _ _ _ _ T0.out m12.out
  have KI := Lib.hid (ow_insert C (t := jt a) (er := 0) (l' := [jt a]) rfl rfl HAt.out T0.out)
  go_wp2_with fail
  with_reducible refine KI.out.mono ?_
  rintro e w3 ⟨rfl, hw⟩
  have T1 := Lib.hid hw
  clear hw KI a0 a1 a2 T0
  by_cases hle : a ≤ now
  · have KD := Lib.hid (ow_due C (now := now) (d := [jt a]) (l' := []) (n := 1) (by rw [(due_one (jt a) now).1, if_pos hle]) (by rw [(due_one (jt a) now).2, if_pos hle]) rfl rfl rfl HNt.out T1.out)
    go_wp2_with fail
    with_reducible refine KD.out.mono ?_
    rintro e w4 ⟨p4, c4, rfl, hh, hw⟩
    obtain ⟨bb, off, rfl, hrow⟩ := hh.row (by simp)
    obtain ⟨y0, y1, y2⟩ := hrow 0 (by simp)
    simp only [Nat.zero_mul, Nat.add_zero, List.getD_cons_zero] at y0 y1 y2
    have T2 := Lib.hid hw
    clear hw KD hrow hh T1
    obtain ⟨a0, a1, a2⟩ := NN.out _ _ _ _ _ T2.out m12.out
    have hE := eql_yes (jt a) (jt a) rfl
    obtain ⟨Zl, hzl⟩ := ow_zp C T2.out
    have KL := Lib.hid (ow_len C ((Bel.refl w4).drew.cell hzl) (n := 0) rfl (ow_le C T2.out (Bel.refl w4).drew))
    have HS : Hid (∀ w', Bel w4 w' → (w'.cell? ⟨Q, 0, none⟩ = some (.pointer (some ⟨Zl, 0, none⟩)) ∧ w'.cell? ⟨bb, off, none⟩ = some (.int .u64 a) ∧ w'.cell? ⟨bb, off + 1, none⟩ = some (.int .u64 7) ∧ w'.cell? ⟨bb, off + 2, none⟩ = some (.int .i64 1)) ∧ w'.cell? ⟨b12, 0, none⟩ = some (.int .u64 a) ∧ w'.cell? ⟨b12, 1, none⟩ = some (.int .u64 7) ∧ w'.cell? ⟨b12, 2, none⟩ = some (.int .i64 1)) := Lib.hid (fun w' hb => ⟨⟨hb.cell hzl, hb.cell y0, hb.cell y1, hb.cell y2⟩, hb.cell a0, hb.cell a1, hb.cell a2⟩)
    have HD : Hid (Bel w4 w4.drew) := Lib.hid (Bel.refl w4).drew
    have HBw := Lib.hid T2.out.bel
    clear T2
    go_wp2
    go_region_held3 (fun w' => (w'.cell? ⟨Q, 0, none⟩ = some (.pointer (some ⟨Zl, 0, none⟩)) ∧ w'.cell? ⟨bb, off, none⟩ = some (.int .u64 a) ∧ w'.cell? ⟨bb, off + 1, none⟩ = some (.int .u64 7) ∧ w'.cell? ⟨bb, off + 2, none⟩ = some (.int .i64 1)) ∧ w'.cell? ⟨b12, 0, none⟩ = some (.int .u64 a) ∧ w'.cell? ⟨b12, 1, none⟩ = some (.int .u64 7) ∧ w'.cell? ⟨b12, 2, none⟩ = some (.int .i64 1))
      (first | (with_reducible exact HS.out _ HD.out) | exact HS.out _ (HD.out.trans hb5))
      (first | (go_at_call 18; (with_reducible refine KL.out.mono ?_); rintro e w5 ⟨rfl, hb5⟩))
    have HE := Lib.hid (HBw.out.trans (HD.out.trans hb5))
    go_wp2
    go_ret
    exact ⟨rfl, HE.out⟩
  · have KD := Lib.hid (ow_due C (now := now) (d := []) (l' := [jt a]) (n := 0) (by rw [(due_one (jt a) now).1, if_neg hle]) (by rw [(due_one (jt a) now).2, if_neg hle]) rfl rfl rfl HNt.out T1.out)
    go_wp2_with fail
    with_reducible refine KD.out.mono ?_
    rintro e w4 ⟨p4, c4, rfl, hh, hw⟩
    have T2 := Lib.hid hw
    clear hw KD hh T1
    go_wp2_with fail
    with_reducible refine (ow_min C (t := jt a) rfl T2.out).mono ?_
    rintro e w5 ⟨rfl, hb5⟩
    have T3 := Lib.hid (ow_box C (ow_le C T2.out hb5) #[.int .u64 a, .int .u64 7, .int .i64 1] 37)
    clear hb5 T2
    go_upto_region 15 with (fail)
    generalize w5.alloc (.cells #[.int .u64 a, .int .u64 7, .int .i64 1] 37) = W5 at *
    generalize w5.heap.size = b15 at *
    obtain ⟨by_, eby⟩ : ∃ bq : List (Nat × Obj), (b15, .cells #[.int .u64 a, .int .u64 7, .int .i64 1] 37) :: bx = bq := ⟨_, rfl⟩
    have m15 : Hid ((b15, .cells #[.int .u64 a, .int .u64 7, .int .i64 1] 37) ∈ by_) := Lib.hid (by rw [← eby]; simp)
    have m12 : Hid ((b12, .cells #[.int .u64 a, .int .u64 7, .int .i64 1] 37) ∈ by_) := Lib.hid (by rw [← eby]; exact List.mem_cons_of_mem _ m12.out)
    rw [eby] at T3
    clear eby
    obtain ⟨s1, es1⟩ : ∃ x, max s now = x := ⟨_, rfl⟩
    rw [es1] at T3
    generalize (0 : Int) + _ = k1 at T3
    have FIN : Hid (∀ k' bq w', Ow Qu w Q 2 b s1 k' [jt a] bq w' → Calls Tryz.prog 38 #[.pointer (some ⟨Q, 0, none⟩), .int .u64 a] w' fun e w2 => ∃ p c, e = .returned (.slice p 1 c) ∧ Has w2 p [jt a] ∧ Tl6 Qu w Q b (max s1 a) bq w2) := Lib.hid (fun k' bq w' h =>
      (ow_due C (now := a) (d := [jt a]) (l' := []) (n := 1) (by rw [(due_one (jt a) a).1, if_pos (Int.le_refl _)]) (by rw [(due_one (jt a) a).2, if_pos (Int.le_refl _)]) rfl rfl rfl HAt.out h).mono fun e w2 ⟨p, c, he, hh, ho⟩ => ⟨p, c, he, hh, _, ho⟩)
    go_cut [17] from 18 (fun v wx => v = .bool true ∧ Tl6 Qu w Q b (max s1 a) by_ wx)
    case first =>
      obtain ⟨c0, c1, c2⟩ := NN.out _ _ _ _ _ T3.out m12.out
      have NB : Hid (∀ bq w', Tl6 Qu w Q b (max s1 a) bq w' → (b12, .cells #[.int .u64 a, .int .u64 7, .int .i64 1] 37) ∈ bq → w'.cell? ⟨b12, 0, none⟩ = some (.int .u64 a) ∧ w'.cell? ⟨b12, 1, none⟩ = some (.int .u64 7) ∧ w'.cell? ⟨b12, 2, none⟩ = some (.int .i64 1)) := Lib.hid (fun bq w' ⟨_, h⟩ h1 => h.c3 h1)
      have A1 := Lib.hid (FIN.out _ _ _ (ow_le C T3.out (Bel.refl W5).drew))
      have T5b := Lib.hid (ow_le C (ow_box C T3.out #[.int .u64 a, .int .u64 7, .int .i64 1] 37) (Bel.refl _).drew)
      have A2 := Lib.hid (FIN.out _ _ _ T5b.out)
      have E1 : Hid (∀ w4 : World, Has (w4.alloc (.cells #[.int .u64 a, .int .u64 7, .int .i64 1] 37)) (some ⟨w4.heap.size, 0, none⟩) [jt a]) := Lib.hid (fun w4 => has_row (heap_alloc_new _ _) rfl)
      have E2 : Hid (∀ w4 : World, Tl6 Qu w Q b (max s1 a) ((W5.heap.size, .cells #[.int .u64 a, .int .u64 7, .int .i64 1] 37) :: by_) w4 → Has w4 (some ⟨W5.heap.size, 0, none⟩) [jt a] ∧ Tl6 Qu w Q b (max s1 a) by_ w4) := Lib.hid (fun w4 ⟨_, hk⟩ => ⟨has_row (hk.at_ _ (List.mem_cons_self ..)) rfl, _, hk.less⟩)
      have KS : Hid (∀ p q c d w', Has w' p [jt a] → Has w' q [jt a] → Calls Tryz.prog 23 #[.slice p 1 c, .slice q 1 d] w' fun e w2 => e = .returned (.bool true) ∧ Bel w' w2) := Lib.hid (fun p q c d w' h1 h2 => same_yes p q c d [jt a] w' (by simp) h1 h2)
      have LE : Hid (∀ bq w1 w2, Tl6 Qu w Q b (max s1 a) bq w1 → Bel w1 w2 → Tl6 Qu w Q b (max s1 a) bq w2) := Lib.hid (fun bq w1 w2 ⟨_, h⟩ hb => ⟨_, ow_le C h hb⟩)
      have S1 := Lib.hid (NN.out _ _ _ _ _ (ow_le C T3.out (Bel.refl W5).drew) m12.out)
      have S2 := Lib.hid (NN.out _ _ _ _ _ T5b.out (List.mem_cons_of_mem _ m12.out))
      clear FIN HAt HNt ha hn T3
      go_wp2
      go_region_held3 (fun w' => w'.cell? ⟨b12, 0, none⟩ = some (.int .u64 a) ∧ w'.cell? ⟨b12, 1, none⟩ = some (.int .u64 7) ∧ w'.cell? ⟨b12, 2, none⟩ = some (.int .i64 1))
        (first | (with_reducible exact S1.out) | (with_reducible exact S2.out) | (with_reducible exact NB.out _ _ hw3 m12.out) | (with_reducible exact NB.out _ _ hk3.2 m12.out) | (with_reducible exact NB.out _ _ hw4 m12.out) | exact NB.out _ _ (LE.out _ _ _ hw3 ((Bel.refl _).alloc _ _)) m12.out)
        (first | (go_at_call 38; (with_reducible refine (A1.out).mono ?_); rintro e w8 ⟨q, k, rfl, hq, hw3⟩) | (go_at_call 38; (with_reducible refine (A2.out).mono ?_); rintro e w8 ⟨q, k, rfl, hq, hw3⟩; have hk3 := E2.out _ hw3) | (go_at_call 23; (with_reducible refine (KS.out _ _ _ _ _ (hq.bel ((Bel.refl _).alloc _ _)) (E1.out w8)).mono ?_); rintro e w9 ⟨rfl, hg2⟩; have hw4 := LE.out _ _ _ hw3 (((Bel.refl w8).alloc #[.int .u64 a, .int .u64 7, .int .i64 1] 37).trans hg2)) | (go_at_call 23; (with_reducible refine (KS.out _ _ _ _ _ hq hk3.1).mono ?_); rintro e w9 ⟨rfl, hg2⟩; have hw4 := LE.out _ _ _ hk3.2 hg2))
      all_goals
        go_wp2_with fail
        go_meet
        case rel => exact ⟨rfl, hw4⟩
    case rest =>
      obtain ⟨rfl, k6, hw⟩ := hcut
      have T6 := Lib.hid hw
      clear hw T3 FIN NN
      obtain ⟨d0, d1, d2⟩ := T6.out.c3 m12.out
      obtain ⟨d3, d4, d5⟩ := T6.out.c3 m15.out
      have hE := eql_yes (jt a) (jt a) rfl
      obtain ⟨sb, esb⟩ : ∃ x, max s1 a = x := ⟨_, rfl⟩
      rw [esb] at T6
      by_cases hms : a < s
      · obtain rfl : sb = s := by omega
        have hq : (sb == sb) = true := by simp
        have hmx : max a sb = sb := by omega
        clear esb es1 hle
        go_wp2_with fail
        with_reducible refine (ow_base C T6.out).mono ?_
        rintro e w7 ⟨rfl, hb⟩
        have HE := Lib.hid (T6.out.bel.trans hb)
        clear hb
        go_wp2
        go_ret
        exact ⟨rfl, HE.out⟩
      · obtain rfl : sb = a := by omega
        have hq : (sb == sb) = true := by simp
        have hmx : max sb s = sb := by omega
        clear esb es1 hle
        go_wp2_with fail
        with_reducible refine (ow_base C T6.out).mono ?_
        rintro e w7 ⟨rfl, hb⟩
        have HE := Lib.hid (T6.out.bel.trans hb)
        clear hb
        go_wp2
        go_ret
        exact ⟨rfl, HE.out⟩
end Go.Proofs.YtdoceldofkaapaaGreatDoor
