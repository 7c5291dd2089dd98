/-
  Contract of the law's works: the document's example.
  Contract of the document's Same of two that were told.
-/
import Derived.Test.YtdoceldofkaapaaGreatDoorXba
import Derived.Deep.Cut
import Derived.Test.YtdoceldofkaapaaGreatDoorXad
set_option linter.unusedVariables false
set_option linter.unusedSimpArgs false
namespace Go.Proofs.YtdoceldofkaapaaGreatDoor
open Go.RowKit
abbrev xa : T := ⟨4165, 0, 0⟩
abbrev xb : T := ⟨16777216, 0, 1⟩
abbrev xd : T := ⟨16777215, 0, 1⟩
abbrev c3v (w' : World) (b : Nat) (x y z : Int) : Prop := w'.cell? ⟨b, 0, none⟩ = some (.int .u64 x) ∧ w'.cell? ⟨b, 1, none⟩ = some (.int .u64 y) ∧ w'.cell? ⟨b, 2, none⟩ = some (.int .i64 z)
theorem tkn (n : Nat) (h : n ≤ 100000000) : Tk (n : Int) := ⟨by omega, by omega⟩
theorem ow_at {Qu : QT} (C : Con Qu) {w : World} {Q P b : Nat} {s kk : Int} {l : List T} {bx : List (Nat × Obj)} {k x y : Int} {t : T} (e1 : fnd l k = some t) (e2 : lv b s t.a = x) (e3 : sv b s t.a = y) {w1 : World} (h : Ow Qu w Q P b s kk l bx w1) :
    Calls Tryz.prog 30 #[.pointer (some ⟨Q, 0, none⟩), .int .i64 k] w1 fun e w2 => e = .returned (.tuple #[.int .i64 x, .int .i64 y, .bool true]) ∧ Bel w1 w2 := by
  have K := ow_where C (k := k) h
  rw [e1] at K
  simp only [whr, e2, e3] at K
  exact K
theorem v1 : lv 6 0 4165 = 2 ∧ sv 6 0 4165 = 1 := by decide
theorem v2 : lv 6 4096 4165 = 1 ∧ sv 6 4096 4165 = 1 := by decide
theorem v3 : lv 6 4160 4165 = 0 ∧ sv 6 4160 4165 = 5 := by decide
theorem s1 : (0 : Int) + (csc 6 0 4096 [xa] : Int) = 1 := by decide
theorem s2 : (1 : Int) + (csc 6 4096 4160 [xa] : Int) = 2 := by decide
theorem s3 : (2 : Int) + (csc 6 4160 4164 [xa] : Int) = 2 := by decide
theorem k1 : Tk 4096 := tkn 4096 (by omega)
theorem k2 : Tk 4160 := tkn 4160 (by omega)
theorem k3 : Tk 4164 := tkn 4164 (by omega)
theorem s4 : (2 : Int) + (csc 6 4164 4165 [xa] : Int) = 2 := by decide
set_option maxHeartbeats 8000000 in
set_option maxRecDepth 100000 in
theorem works_any {Qu : QT} (C : Con Qu) (w : World) (hT : Bm.Tab w) : Calls Tryz.prog 25 #[] w fun e w' => e = .returned (.bool true) ∧ Bel w w' := by
  have K0 := Lib.hid (C.qnew_yes 2 6 0 w (by omega) (by omega) (tkn 0 (by omega)) hT)
  have e3 : ((2 : Nat) : Int) = 2 := rfl
  have e1 : ((6 : Nat) : Int) = 6 := rfl
  rw [e3, e1] at K0
  clear e3 e1
  go_enter Tryz.func25, Tryz.ntmps25
  go_wp2_with fail
  with_reducible refine K0.out.mono ?_
  rintro e w1 ⟨Q, f, rfl, hq, hf, hb⟩
  have T0 := Lib.hid (ow_new C hq hf hb)
  have H3 := Lib.hid (two_new w1 #[.int .u64 4165, .int .u64 0, .int .i64 0] #[.int .u64 16777216, .int .u64 0, .int .i64 1] 37 37)
  clear hq hf hb K0
  go_upto_region 5 with (fail)
  obtain ⟨W, eW, hB, hz, n3, n4⟩ := H3.out
  rw [eW]
  clear eW H3
  have T1 : Hid (Ow Qu w Q 2 6 0 0 [] [(w1.heap.size, tb xa), (w1.heap.size + 1, tb xb)] W) := Lib.hid (by
    obtain ⟨⟨f, h1, h2, h3⟩, h7, h8⟩ := T0.out
    refine ⟨⟨f, C.bel h1 hB, h2, fun x hx => ?_⟩, h7.trans hB, fun x hx => ?_⟩
    · simp at hx
      intro e
      have := C.lt_ h1 _ e
      rcases hx with rfl | rfl <;> (simp only at this; omega)
    · simp at hx
      rcases hx with rfl | rfl
      · exact n3
      · exact n4)
  clear T0 hB hz n3 n4
  obtain ⟨b4, e4⟩ : ∃ b, w1.heap.size + 1 = b := ⟨_, rfl⟩
  rw [e4] at T1 ⊢
  obtain ⟨b3, e3⟩ : ∃ b, w1.heap.size = b := ⟨_, rfl⟩
  rw [e3] at T1 ⊢
  clear e4 e3
  obtain ⟨bx, ebx⟩ : ∃ bx, [(b3, tb xa), (b4, tb xb)] = bx := ⟨_, rfl⟩
  have m3 : Hid ((b3, tb xa) ∈ bx) := Lib.hid (by rw [← ebx]; simp)
  have m4 : Hid ((b4, tb xb) ∈ bx) := Lib.hid (by rw [← ebx]; simp)
  rw [ebx] at T1
  clear ebx
  have T1d := Lib.hid (ow_le C T1.out (Bel.refl W).drew)
  have NN : Hid (∀ s k l w', Ow Qu w Q 2 6 s k l bx w' → c3v w' b3 4165 0 0 ∧ c3v w' b4 16777216 0 1) := Lib.hid (fun s k l w' h => ⟨h.c3 m3.out, h.c3 m4.out⟩)
  have K1 : Hid (∀ w1, Ow Qu w Q 2 6 0 0 [] bx w1 → Calls Tryz.prog 37 #[.pointer (some ⟨Q, 0, none⟩), .agg #[.int .u64 4165, .int .u64 0, .int .i64 0]] w1 fun e w2 => e = .returned (.int .i64 0) ∧ Ow Qu w Q 2 6 0 0 [xa] bx w2) := Lib.hid (fun w1 h => ow_insert C (t := xa) (by decide) (by decide) (tkn 4165 (by omega)) h)
  have K2 : Hid (∀ w1, Ow Qu w Q 2 6 0 0 [xa] bx w1 → Calls Tryz.prog 37 #[.pointer (some ⟨Q, 0, none⟩), .agg #[.int .u64 16777216, .int .u64 0, .int .i64 1]] w1 fun e w2 => e = .returned (.int .i64 0) ∧ Ow Qu w Q 2 6 0 0 [xa, xb] bx w2) := Lib.hid (fun w1 h => ow_insert C (t := xb) (by decide) (by decide) (tkn 16777216 (by omega)) h)
  go_cut [5, 6] from 34 (fun f g wx => f = .int .i64 0 ∧ g = .int .i64 0 ∧ Ow Qu w Q 2 6 0 0 [xa, xb] bx wx)
  case first =>
    obtain ⟨⟨a0, a1, a2⟩, ⟨c0, c1, c2⟩⟩ := NN.out _ _ _ _ T1.out
    go_wp2
    go_region_held3 (fun w' => c3v w' b3 4165 0 0 ∧ c3v w' b4 16777216 0 1)
      (first | (with_reducible exact NN.out _ _ _ _ T1d.out) | (with_reducible exact NN.out _ _ _ _ hw1) | (with_reducible exact NN.out _ _ _ _ hw2))
      (first | (go_at_call 37; (with_reducible refine (K1.out _ T1d.out).mono ?_); rintro e w2 ⟨rfl, hw1⟩) | (go_at_call 37; (with_reducible refine (K2.out _ hw1).mono ?_); rintro e w3 ⟨rfl, hw2⟩))
    all_goals
      go_wp2_with fail
      go_meet
      case rel => exact ⟨rfl, rfl, hw2⟩
  case rest =>
    obtain ⟨rfl, rfl, hw⟩ := hcut
    clear T1 T1d K1 K2
    have KM := Lib.hid (ow_move C (t := xd) (er := 0) (l' := [xa, xd]) (by decide) (by decide) (tkn 16777215 (by omega)) hw)
    clear hw
    go_wp2_with fail
    with_reducible refine (KM.out).mono ?_
    rintro e V4 ⟨rfl, hw⟩
    have W2 := Lib.hid hw
    clear hw KM
    go_upto_region 7 with (fail)
    go_cut [8] from 34 (fun v wx => v = .bool true ∧ Ow Qu w Q 2 6 0 0 [xa, xd] bx wx)
    case first =>
      obtain ⟨Zp, hzp⟩ := ow_zp C W2.out
      have NB : Hid (∀ w', Bel V4 w' → Bel V4 w' ∧ c3v w' b3 4165 0 0 ∧ w'.cell? ⟨Q, 0, none⟩ = some (.pointer (some ⟨Zp, 0, none⟩))) := Lib.hid (fun w' hb => ⟨hb, (ow_le C W2.out hb).c3 m3.out, hb.cell hzp⟩)
      obtain ⟨_, ⟨a0, a1, a2⟩, _⟩ := NB.out _ (Bel.refl _)
      have A1 := Lib.hid (ow_all C (NB.out _ (Bel.refl V4).drew).2.2 (n := 2) rfl (ow_le C W2.out (Bel.refl V4).drew))
      have A2 := Lib.hid (ow_all C (NB.out _ ((Bel.refl V4).alloc #[.int .u64 4165, .int .u64 0, .int .i64 0, .int .u64 16777215, .int .u64 0, .int .i64 1] 37).drew).2.2 (n := 2) rfl (ow_le C W2.out ((Bel.refl V4).alloc #[.int .u64 4165, .int .u64 0, .int .i64 0, .int .u64 16777215, .int .u64 0, .int .i64 1] 37).drew))
      have E1 : Hid (∀ w4 : World, Has (w4.alloc (.cells #[.int .u64 4165, .int .u64 0, .int .i64 0, .int .u64 16777215, .int .u64 0, .int .i64 1] 37)) (some ⟨w4.heap.size, 0, none⟩) [xa, xd]) := Lib.hid (fun w4 => has_row (heap_alloc_new _ _) rfl)
      have E2 : Hid (∀ w4 : World, Bel (V4.alloc (.cells #[.int .u64 4165, .int .u64 0, .int .i64 0, .int .u64 16777215, .int .u64 0, .int .i64 1] 37)).drew w4 → Has w4 (some ⟨V4.heap.size, 0, none⟩) [xa, xd]) := Lib.hid (fun w4 hg => (has_row (heap_alloc_new _ _) rfl).bel ((Bel.refl _).drew.trans hg))
      have KS : Hid (∀ p q c d w', Has w' p [xa, xd] → Has w' q [xa, xd] → Calls Tryz.prog 23 #[.slice p 2 c, .slice q 2 d] w' fun e w2 => e = .returned (.bool true) ∧ Bel w' w2) := Lib.hid (fun p q c d w' h1 h2 => same_yes p q c d [xa, xd] w' (by decide) h1 h2)
      have BD : Hid (Bel V4 V4.drew) := Lib.hid (Bel.refl V4).drew
      have BA : Hid (Bel V4 (V4.alloc (.cells #[.int .u64 4165, .int .u64 0, .int .i64 0, .int .u64 16777215, .int .u64 0, .int .i64 1] 37)).drew) := Lib.hid ((Bel.refl V4).alloc _ _).drew
      clear NN
      go_wp2
      go_region_held3 (fun w' => Bel V4 w' ∧ c3v w' b3 4165 0 0 ∧ w'.cell? ⟨Q, 0, none⟩ = some (.pointer (some ⟨Zp, 0, none⟩)))
        (first | (with_reducible exact NB.out _ BD.out) | (with_reducible exact NB.out _ BA.out) | exact NB.out _ (Bel.trans (And.left (by assumption)) hg1) | exact NB.out _ (Bel.trans (And.left (by assumption)) hg2) | exact NB.out _ (Bel.alloc (w := w5) (And.left (by assumption)) _ _))
        (first | (go_at_call 24; (with_reducible refine (A1.out).mono ?_); rintro e w5 ⟨q, k, rfl, hq, hg1⟩) | (go_at_call 24; (with_reducible refine (A2.out).mono ?_); rintro e w5 ⟨q, k, rfl, hq, hg1⟩) | (go_at_call 23; (with_reducible refine (KS.out _ _ _ _ _ (hq.bel ((Bel.refl _).alloc _ _)) (E1.out w5)).mono ?_); rintro e w6 ⟨rfl, hg2⟩) | (go_at_call 23; (with_reducible refine (KS.out _ _ _ _ _ hq (E2.out w5 hg1)).mono ?_); rintro e w6 ⟨rfl, hg2⟩))
      all_goals
        go_wp2_with fail
        go_meet
        case rel => exact ⟨rfl, ow_le C W2.out (And.left (by assumption))⟩
    case rest =>
      obtain ⟨rfl, hw⟩ := hcut
      clear W2 NN
      have KC := Lib.hid (ow_cancel C (k := 1) (t := xd) (er := 0) (l' := [xa]) (by decide) (by decide) (by decide) hw)
      unfold canV at KC
      clear hw
      go_wp2_with fail
      with_reducible refine (KC.out).mono ?_
      rintro e w5 ⟨rfl, hw⟩
      have W3 := Lib.hid (ow_box C hw #[.int .u64 16777215, .int .u64 0, .int .i64 1] 37)
      clear hw KC
      go_upto_region 9 with (fail)
      generalize w5.alloc (.cells #[.int .u64 16777215, .int .u64 0, .int .i64 1] 37) = V5 at *
      generalize w5.heap.size = b9 at *
      obtain ⟨by_, eby⟩ : ∃ b, (b9, Obj.cells #[.int .u64 16777215, .int .u64 0, .int .i64 1] 37) :: bx = b := ⟨_, rfl⟩
      rw [eby] at W3
      have m9 : Hid ((b9, tb xd) ∈ by_) := Lib.hid (by rw [← eby]; simp)
      have m3 : Hid ((b3, tb xa) ∈ by_) := Lib.hid (by rw [← eby]; exact List.mem_cons_of_mem _ m3.out)
      clear eby m4
      have NB : Hid (∀ s k l bq w' j t, Ow Qu w Q 2 6 s k l bq w' → (j, tb t) ∈ bq → c3v w' j t.a t.s t.p) := Lib.hid (fun s k l bq w' j t h h1 => h.c3 h1)
      go_wp2_with fail
      with_reducible refine (ow_at C (k := 0) (t := xa) (by decide) v1.1 v1.2 W3.out).mono ?_
      rintro e u1 ⟨rfl, hb⟩
      have X2 := Lib.hid (ow_le C W3.out hb)
      clear hb W3
      go_wp2_with fail
      with_reducible refine (ow_due C (now := 4096) (d := []) (l' := [xa]) (s' := 4096) (k' := 1) (n := 0) (by decide) (by decide) (by decide) s1 rfl k1 X2.out).mono ?_
      rintro e u2 ⟨qu2, cu2, rfl, _, hw⟩
      have X3 := Lib.hid hw
      clear hw X2
      go_wp2_with fail
      with_reducible refine (ow_cascades C (by omega) (by omega) X3.out).mono ?_
      rintro e u3 ⟨rfl, hb⟩
      have X4 := Lib.hid (ow_le C X3.out hb)
      clear hb X3
      go_wp2_with fail
      with_reducible refine (ow_at C (k := 0) (t := xa) (by decide) v2.1 v2.2 X4.out).mono ?_
      rintro e u4 ⟨rfl, hb⟩
      have X5 := Lib.hid (ow_le C X4.out hb)
      clear hb X4
      go_wp2_with fail
      with_reducible refine (ow_due C (now := 4160) (d := []) (l' := [xa]) (s' := 4160) (k' := 2) (n := 0) (by decide) (by decide) (by decide) s2 rfl k2 X5.out).mono ?_
      rintro e u5 ⟨qu5, cu5, rfl, _, hw⟩
      have X6 := Lib.hid hw
      clear hw X5
      go_wp2_with fail
      with_reducible refine (ow_cascades C (by omega) (by omega) X6.out).mono ?_
      rintro e u6 ⟨rfl, hb⟩
      have X7 := Lib.hid (ow_le C X6.out hb)
      clear hb X6
      go_wp2_with fail
      with_reducible refine (ow_at C (k := 0) (t := xa) (by decide) v3.1 v3.2 X7.out).mono ?_
      rintro e u7 ⟨rfl, hb⟩
      have X8 := Lib.hid (ow_le C X7.out hb)
      clear hb X7
      go_wp2_with fail
      with_reducible refine (ow_due C (now := 4164) (d := []) (l' := [xa]) (s' := 4164) (k' := 2) (n := 0) (by decide) (by decide) (by decide) s3 rfl k3 X8.out).mono ?_
      rintro e u8 ⟨qu8, cu8, rfl, _, hw⟩
      have X9 := Lib.hid hw
      clear hw X8
      go_wp2_with fail
      with_reducible refine (ow_cascades C (by omega) (by omega) X9.out).mono ?_
      rintro e u9 ⟨rfl, hb⟩
      have X10 := Lib.hid (ow_le C X9.out hb)
      clear hb X9
      go_wp2_with fail
      with_reducible refine (ow_base C X10.out).mono ?_
      rintro e u10 ⟨rfl, hb⟩
      have X11 := Lib.hid (ow_le C X10.out hb)
      clear hb X10
      go_wp2_with fail
      with_reducible refine (ow_min C (t := xa) rfl X11.out).mono ?_
      rintro e u11 ⟨rfl, hb⟩
      have X12 := Lib.hid (ow_box C (ow_le C X11.out hb) #[.int .u64 4165, .int .u64 0, .int .i64 0] 37)
      clear hb X11
      go_upto_region 16 with (fail)
      generalize u11.alloc (.cells #[.int .u64 4165, .int .u64 0, .int .i64 0] 37) = Z16 at *
      generalize u11.heap.size = b17 at *
      obtain ⟨bu, ebb⟩ : ∃ b, (b17, Obj.cells #[.int .u64 4165, .int .u64 0, .int .i64 0] 37) :: by_ = b := ⟨_, rfl⟩
      rw [ebb] at X12
      have m17 : Hid ((b17, tb xa) ∈ bu) := Lib.hid (by rw [← ebb]; simp)
      have m9 : Hid ((b9, tb xd) ∈ bu) := Lib.hid (by rw [← ebb]; exact List.mem_cons_of_mem _ m9.out)
      have m3 : Hid ((b3, tb xa) ∈ bu) := Lib.hid (by rw [← ebb]; exact List.mem_cons_of_mem _ m3.out)
      clear ebb
      obtain ⟨Zg, hzg⟩ := ow_zp C X12.out
      go_wp2_with fail
      with_reducible refine (ow_get C hzg (k := 0) (t := xa) (by decide) X12.out).mono ?_
      rintro e u12 ⟨rfl, hb⟩
      have X13 := Lib.hid (ow_box C (ow_le C X12.out hb) #[.int .u64 4165, .int .u64 0, .int .i64 0] 37)
      clear hb X12
      go_upto_region 17 with (fail)
      generalize u12.alloc (.cells #[.int .u64 4165, .int .u64 0, .int .i64 0] 37) = Z17 at *
      generalize u12.heap.size = b19 at *
      obtain ⟨bv, ebb⟩ : ∃ b, (b19, Obj.cells #[.int .u64 4165, .int .u64 0, .int .i64 0] 37) :: bu = b := ⟨_, rfl⟩
      rw [ebb] at X13
      have m19 : Hid ((b19, tb xa) ∈ bv) := Lib.hid (by rw [← ebb]; simp)
      have m9 : Hid ((b9, tb xd) ∈ bv) := Lib.hid (by rw [← ebb]; exact List.mem_cons_of_mem _ m9.out)
      have m3 : Hid ((b3, tb xa) ∈ bv) := Lib.hid (by rw [← ebb]; exact List.mem_cons_of_mem _ m3.out)
      have m17 : Hid ((b17, tb xa) ∈ bv) := Lib.hid (by rw [← ebb]; exact List.mem_cons_of_mem _ m17.out)
      clear ebb
      have W7 := X13
      clear X13
      go_cut [21] from 34 (fun v wx => v = .bool true ∧ Ow Qu w Q 2 6 4165 2 [] bv wx)
      case first =>
        obtain ⟨c0, c1, c2⟩ := NB.out _ _ _ _ _ b3 xa W7.out m3.out
        have A1 := Lib.hid (ow_due C (now := 4165) (d := [xa]) (l' := []) (s' := 4165) (k' := 2) (n := 1) (by decide) (by decide) (by decide) s4 rfl (tkn 4165 (by omega)) (ow_le C W7.out (Bel.refl Z17).drew))
        have W7b := Lib.hid (ow_le C (ow_box C W7.out #[.int .u64 4165, .int .u64 0, .int .i64 0] 37) (Bel.refl _).drew)
        have A2 := Lib.hid (ow_due C (now := 4165) (d := [xa]) (l' := []) (s' := 4165) (k' := 2) (n := 1) (by decide) (by decide) (by decide) s4 rfl (tkn 4165 (by omega)) W7b.out)
        have E1 : Hid (∀ w4 : World, Has (w4.alloc (.cells #[.int .u64 4165, .int .u64 0, .int .i64 0] 37)) (some ⟨w4.heap.size, 0, none⟩) [xa]) := Lib.hid (fun w4 => has_row (heap_alloc_new _ _) rfl)
        have E2 : Hid (∀ w4 : World, Ow Qu w Q 2 6 4165 2 [] ((Z17.heap.size, .cells #[.int .u64 4165, .int .u64 0, .int .i64 0] 37) :: bv) w4 → Has w4 (some ⟨Z17.heap.size, 0, none⟩) [xa] ∧ Ow Qu w Q 2 6 4165 2 [] bv w4) := Lib.hid (fun w4 hk => ⟨has_row (hk.at_ _ (List.mem_cons_self ..)) rfl, hk.less⟩)
        have KS : Hid (∀ p q c d w', Has w' p [xa] → Has w' q [xa] → Calls Tryz.prog 23 #[.slice p 1 c, .slice q 1 d] w' fun e w2 => e = .returned (.bool true) ∧ Bel w' w2) := Lib.hid (fun p q c d w' h1 h2 => same_yes p q c d [xa] w' (by decide) h1 h2)
        go_wp2
        go_region_with (first | (go_at_call 38; (with_reducible refine (A1.out).mono ?_); rintro e w8 ⟨q, k, rfl, hq, hw3⟩; have hn3 := NB.out _ _ _ _ _ b3 xa hw3 m3.out; obtain ⟨c0, c1, c2⟩ := hn3) | (go_at_call 38; (with_reducible refine (A2.out).mono ?_); rintro e w8 ⟨q, k, rfl, hq, hw3⟩; have hk3 := E2.out _ hw3; have hn3 := NB.out _ _ _ _ _ b3 xa hk3.2 m3.out; obtain ⟨c0, c1, c2⟩ := hn3) | (go_at_call 23; (with_reducible refine (KS.out _ _ _ _ _ (hq.bel ((Bel.refl _).alloc _ _)) (E1.out w8)).mono ?_); rintro e w9 ⟨rfl, hg2⟩; have hw4 := ow_le C hw3 (((Bel.refl w8).alloc #[.int .u64 4165, .int .u64 0, .int .i64 0] 37).trans hg2)) | (go_at_call 23; (with_reducible refine (KS.out _ _ _ _ _ hq hk3.1).mono ?_); rintro e w9 ⟨rfl, hg2⟩; have hw4 := ow_le C hk3.2 hg2))
        all_goals
          go_wp2_with fail
          go_meet
          case rel => exact ⟨rfl, hw4⟩
      case rest =>
        obtain ⟨rfl, hw⟩ := hcut
        clear W7
        have W10 := Lib.hid hw
        clear hw
        obtain ⟨r0, r1, r2⟩ := NB.out _ _ _ _ _ b9 xd W10.out m9.out
        obtain ⟨r3, r4, r5⟩ := NB.out _ _ _ _ _ b3 xa W10.out m3.out
        obtain ⟨r6, r7, r8⟩ := NB.out _ _ _ _ _ b17 xa W10.out m17.out
        obtain ⟨r9, r10, r11⟩ := NB.out _ _ _ _ _ b19 xa W10.out m19.out
        obtain ⟨Zl, hzl⟩ := ow_zp C W10.out
        have KL := Lib.hid (ow_len C hzl (n := 0) rfl W10.out)
        go_wp2_with fail
        with_reducible refine (KL.out).mono ?_
        rintro e w12 ⟨rfl, hb⟩
        have BE := Lib.hid (W10.out.bel.trans hb)
        clear hb
        go_wp2
        go_ret
        exact ⟨rfl, BE.out⟩
end Go.Proofs.YtdoceldofkaapaaGreatDoor
namespace Go.Proofs.YtdoceldofkaapaaGreatDoor
open Go.RowKit
set_option maxHeartbeats 1000000 in
theorem sameT_any (er : Int) (t : T) (p q : Option Addr) (c d : Nat) (l : List T) (w : World) (hm : l.length ≤ 5000) (h1 : Has w p l) (h2 : Has w q l) :
    Calls Tryz.prog 14 #[tdV er t p l.length c, tdV er t q l.length d] w fun e w' => e = .returned (.bool true) ∧ Bel w w' := by
  have H2 := Lib.hid (two_new w #[.int .i64 er, .int .u64 t.a, .int .u64 t.s, .int .i64 t.p, .slice p l.length c] #[.int .i64 er, .int .u64 t.a, .int .u64 t.s, .int .i64 t.p, .slice q l.length d] 39 39)
  have KS := Lib.hid (fun w' (h : Bel w w') => same_any p q l.length c d l l w' rfl rfl hm (h1.bel h) (h2.bel h))
  rw [decide_eq_true rfl] at KS
  have hE := eql_yes t t rfl
  have hI : (er == er) = true := by simp
  clear h1 h2
  unfold tdV
  go_enter Tryz.func14, Tryz.ntmps14
  go_upto_region 1 with (fail)
  obtain ⟨W, eW, hB, hz, n0, n1⟩ := H2.out
  rw [eW]
  clear H2 eW
  obtain ⟨b1, e1⟩ : ∃ b, w.heap.size + 1 = b := ⟨_, rfl⟩
  rw [e1] at n1 hz ⊢
  have HN0 := Lib.hid n0
  have HN1 := Lib.hid n1
  obtain ⟨⟨x0, x1, x2, x3, x4⟩, _⟩ := box5 n0
  obtain ⟨⟨y0, y1, y2, y3, y4⟩, _⟩ := box5 n1
  have HB := Lib.hid hB
  clear hB n0 n1 e1 hz
  go_wp2_with fail
  with_reducible refine (KS.out _ HB.out).mono ?_
  rintro e w1 ⟨rfl, hb⟩
  have HB1 := Lib.hid (HB.out.trans hb)
  clear x0 x1 x2 x3 x4 y0 y1 y2 y3 y4
  obtain ⟨⟨x0, x1, x2, x3, x4⟩, _⟩ := box5 (hb.heap HN0.out)
  obtain ⟨⟨y0, y1, y2, y3, y4⟩, _⟩ := box5 (hb.heap HN1.out)
  clear hb
  go_wp2
  go_ret
  exact ⟨rfl, HB1.out⟩
end Go.Proofs.YtdoceldofkaapaaGreatDoor
