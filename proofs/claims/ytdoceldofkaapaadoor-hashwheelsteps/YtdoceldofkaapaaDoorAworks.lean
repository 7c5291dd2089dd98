/-
  Contract of the law's works: the document's example.
-/
import Derived.Test.YtdoceldofkaapaaDoorXat
import Derived.Deep.Cut
set_option linter.unusedVariables false
set_option linter.unusedSimpArgs false
namespace Go.Proofs.YtdoceldofkaapaaDoor.Ha
open Go.RowKit
abbrev xa : T := ⟨13, 0, 0⟩
abbrev xb : T := ⟨5, 0, 1⟩
abbrev xc : T := ⟨99, 0, 2⟩
abbrev xd : T := ⟨98, 0, 2⟩
abbrev c3v (w' : World) (b : Nat) (x y z : Int) : Prop := w'.cell? ⟨b, 0, none⟩ = some (.int .u64 x) ∧ w'.cell? ⟨b, 1, none⟩ = some (.int .u64 y) ∧ w'.cell? ⟨b, 2, none⟩ = some (.int .i64 z)
theorem tkn (n : Nat) (h : n ≤ 1000) : Tk (n : Int) := ⟨by omega, by omega⟩
set_option maxHeartbeats 8000000 in
set_option maxRecDepth 100000 in
theorem works_any {Qu : QT} (C : Con Qu) (w : World) (hT : Bm.Tab w) : Calls Tryd.prog 7 #[] w fun e w' => e = .returned (.bool true) ∧ Bel w w' := by
  have K0 := Lib.hid (C.qnew_yes 3 1 0 w (by omega) (by omega) (tkn 0 (by omega)) hT)
  have e3 : ((3 : Nat) : Int) = 3 := rfl
  have e1 : ((1 : Nat) : Int) = 1 := rfl
  rw [e3, e1] at K0
  clear e3 e1
  go_enter Tryd.func7, Tryd.ntmps7
  go_wp2_with fail
  with_reducible refine K0.out.mono ?_
  rintro e w1 ⟨Q, f, rfl, hq, hf, hb⟩
  have T0 := Lib.hid (ow_new C hq hf hb)
  have H3 := Lib.hid (new3 w1 #[.int .u64 13, .int .u64 0, .int .i64 0] #[.int .u64 5, .int .u64 0, .int .i64 1] #[.int .u64 99, .int .u64 0, .int .i64 2] 41 41 41)
  clear hq hf hb K0
  go_upto_region 5 with (fail)
  obtain ⟨W, eW, hB, hz, n3, n4, n5⟩ := H3.out
  rw [eW]
  clear eW H3
  have T1 : Hid (Ow Qu w Q 3 1 0 0 [] [(w1.heap.size, tb xa), (w1.heap.size + 1, tb xb), (w1.heap.size + 1 + 1, tb xc)] W) := Lib.hid (by
    obtain ⟨⟨f, h1, h2, h3⟩, h7, h8⟩ := T0.out
    refine ⟨⟨f, C.bel h1 hB, h2, fun x hx => ?_⟩, h7.trans hB, fun x hx => ?_⟩
    · simp at hx
      intro e
      have := C.lt_ h1 _ e
      rcases hx with rfl | rfl | rfl <;> (simp only at this; omega)
    · simp at hx
      rcases hx with rfl | rfl | rfl
      · exact n3
      · exact n4
      · exact n5)
  clear T0 hB hz n3 n4 n5
  obtain ⟨b5, e5⟩ : ∃ b, w1.heap.size + 1 + 1 = b := ⟨_, rfl⟩
  rw [e5] at T1 ⊢
  obtain ⟨b4, e4⟩ : ∃ b, w1.heap.size + 1 = b := ⟨_, rfl⟩
  rw [e4] at T1 ⊢
  obtain ⟨b3, e3⟩ : ∃ b, w1.heap.size = b := ⟨_, rfl⟩
  rw [e3] at T1 ⊢
  clear e5 e4 e3
  obtain ⟨bx, ebx⟩ : ∃ bx, [(b3, tb xa), (b4, tb xb), (b5, tb xc)] = bx := ⟨_, rfl⟩
  have m3 : Hid ((b3, tb xa) ∈ bx) := Lib.hid (by rw [← ebx]; simp)
  have m4 : Hid ((b4, tb xb) ∈ bx) := Lib.hid (by rw [← ebx]; simp)
  have m5 : Hid ((b5, tb xc) ∈ bx) := Lib.hid (by rw [← ebx]; simp)
  rw [ebx] at T1
  clear ebx
  have T1d := Lib.hid (ow_le C T1.out (Bel.refl W).drew)
  have NN : Hid (∀ s k l w', Ow Qu w Q 3 1 s k l bx w' → c3v w' b3 13 0 0 ∧ c3v w' b4 5 0 1 ∧ c3v w' b5 99 0 2) := Lib.hid (fun s k l w' h => ⟨h.c3 m3.out, h.c3 m4.out, h.c3 m5.out⟩)
  have K1 : Hid (∀ w1, Ow Qu w Q 3 1 0 0 [] bx w1 → Calls Tryd.prog 15 #[.pointer (some ⟨Q, 0, none⟩), .agg #[.int .u64 13, .int .u64 0, .int .i64 0]] w1 fun e w2 => e = .returned (.int .i64 0) ∧ Ow Qu w Q 3 1 0 0 [xa] bx w2) := Lib.hid (fun w1 h => ow_insert C (t := xa) (by decide) (by decide) (tkn 13 (by omega)) h)
  have K2 : Hid (∀ w1, Ow Qu w Q 3 1 0 0 [xa] bx w1 → Calls Tryd.prog 15 #[.pointer (some ⟨Q, 0, none⟩), .agg #[.int .u64 5, .int .u64 0, .int .i64 1]] w1 fun e w2 => e = .returned (.int .i64 0) ∧ Ow Qu w Q 3 1 0 0 [xb, xa] bx w2) := Lib.hid (fun w1 h => ow_insert C (t := xb) (by decide) (by decide) (tkn 5 (by omega)) h)
  have K3 : Hid (∀ w1, Ow Qu w Q 3 1 0 0 [xb, xa] bx w1 → Calls Tryd.prog 15 #[.pointer (some ⟨Q, 0, none⟩), .agg #[.int .u64 99, .int .u64 0, .int .i64 2]] w1 fun e w2 => e = .returned (.int .i64 0) ∧ Ow Qu w Q 3 1 0 0 [xb, xa, xc] bx w2) := Lib.hid (fun w1 h => ow_insert C (t := xc) (by decide) (by decide) (tkn 99 (by omega)) h)
  go_cut [6, 7, 8] from 34 (fun f g h wx => f = .int .i64 0 ∧ g = .int .i64 0 ∧ h = .int .i64 0 ∧ Ow Qu w Q 3 1 0 0 [xb, xa, xc] bx wx)
  case first =>
    obtain ⟨⟨a0, a1, a2⟩, ⟨c0, c1, c2⟩, ⟨d0, d1, d2⟩⟩ := NN.out _ _ _ _ T1.out
    go_wp2
    go_region_held3 (fun w' => c3v w' b3 13 0 0 ∧ c3v w' b4 5 0 1 ∧ c3v w' b5 99 0 2)
      (first | (with_reducible exact NN.out _ _ _ _ T1d.out) | (with_reducible exact NN.out _ _ _ _ hw1) | (with_reducible exact NN.out _ _ _ _ hw2) | (with_reducible exact NN.out _ _ _ _ hw3))
      (first | (go_at_call 15; (with_reducible refine (K1.out _ T1d.out).mono ?_); rintro e w2 ⟨rfl, hw1⟩) | (go_at_call 15; (with_reducible refine (K2.out _ hw1).mono ?_); rintro e w3 ⟨rfl, hw2⟩) | (go_at_call 15; (with_reducible refine (K3.out _ hw2).mono ?_); rintro e w4 ⟨rfl, hw3⟩))
    all_goals
      go_wp2_with fail
      go_meet
      case rel => exact ⟨rfl, rfl, rfl, hw3⟩
  case rest =>
    obtain ⟨rfl, rfl, rfl, hw⟩ := hcut
    clear T1 T1d K1 K2 K3
    have KM := Lib.hid (ow_move C (t := xd) (er := 0) (l' := [xb, xa, xd]) (by decide) (by decide) (tkn 98 (by omega)) hw)
    clear hw
    go_wp2_with fail
    with_reducible refine (KM.out).mono ?_
    rintro e w3 ⟨rfl, hw⟩
    have W1 := Lib.hid hw
    clear hw KM
    go_wp2_with fail
    with_reducible refine (ow_min C (t := xb) rfl W1.out).mono ?_
    rintro e w4 ⟨rfl, hb⟩
    have W2 := Lib.hid (ow_box C (ow_le C W1.out hb) #[.int .u64 5, .int .u64 0, .int .i64 1] 41)
    clear hb W1
    go_upto_region 8 with (fail)
    generalize w4.alloc (.cells #[.int .u64 5, .int .u64 0, .int .i64 1] 41) = V4 at *
    generalize w4.heap.size = b10 at *
    obtain ⟨bz, ebz⟩ : ∃ b, (b10, Obj.cells #[.int .u64 5, .int .u64 0, .int .i64 1] 41) :: bx = b := ⟨_, rfl⟩
    rw [ebz] at W2
    have m10 : Hid ((b10, tb xb) ∈ bz) := Lib.hid (by rw [← ebz]; simp)
    have m3 : Hid ((b3, tb xa) ∈ bz) := Lib.hid (by rw [← ebz]; exact List.mem_cons_of_mem _ m3.out)
    have m4 : Hid ((b4, tb xb) ∈ bz) := Lib.hid (by rw [← ebz]; exact List.mem_cons_of_mem _ m4.out)
    clear ebz NN m5
    go_cut [12] from 34 (fun v wx => v = .bool true ∧ Ow Qu w Q 3 1 0 0 [xb, xa, xd] bz wx)
    case first =>
      obtain ⟨Zp, hzp⟩ := ow_zp C W2.out
      have NB : Hid (∀ w', Bel V4 w' → Bel V4 w' ∧ c3v w' b3 13 0 0 ∧ c3v w' b4 5 0 1 ∧ w'.cell? ⟨Q, 0, none⟩ = some (.pointer (some ⟨Zp, 0, none⟩))) := Lib.hid (fun w' hb => ⟨hb, (ow_le C W2.out hb).c3 m3.out, (ow_le C W2.out hb).c3 m4.out, hb.cell hzp⟩)
      obtain ⟨_, ⟨a0, a1, a2⟩, ⟨c0, c1, c2⟩, _⟩ := NB.out _ (Bel.refl _)
      have A1 := Lib.hid (ow_all C (NB.out _ (Bel.refl V4).drew).2.2.2 (n := 3) rfl (ow_le C W2.out (Bel.refl V4).drew))
      have A2 := Lib.hid (ow_all C (NB.out _ ((Bel.refl V4).alloc #[.int .u64 5, .int .u64 0, .int .i64 1, .int .u64 13, .int .u64 0, .int .i64 0, .int .u64 98, .int .u64 0, .int .i64 2] 41).drew).2.2.2 (n := 3) rfl (ow_le C W2.out ((Bel.refl V4).alloc #[.int .u64 5, .int .u64 0, .int .i64 1, .int .u64 13, .int .u64 0, .int .i64 0, .int .u64 98, .int .u64 0, .int .i64 2] 41).drew))
      have E1 : Hid (∀ w4 : World, Has (w4.alloc (.cells #[.int .u64 5, .int .u64 0, .int .i64 1, .int .u64 13, .int .u64 0, .int .i64 0, .int .u64 98, .int .u64 0, .int .i64 2] 41)) (some ⟨w4.heap.size, 0, none⟩) [xb, xa, xd]) := Lib.hid (fun w4 => has_row (heap_alloc_new _ _) rfl)
      have E2 : Hid (∀ w4 : World, Bel (V4.alloc (.cells #[.int .u64 5, .int .u64 0, .int .i64 1, .int .u64 13, .int .u64 0, .int .i64 0, .int .u64 98, .int .u64 0, .int .i64 2] 41)).drew w4 → Has w4 (some ⟨V4.heap.size, 0, none⟩) [xb, xa, xd]) := Lib.hid (fun w4 hg => (has_row (heap_alloc_new _ _) rfl).bel ((Bel.refl _).drew.trans hg))
      have KS : Hid (∀ p q c d w', Has w' p [xb, xa, xd] → Has w' q [xb, xa, xd] → Calls Tryd.prog 16 #[.slice p 3 c, .slice q 3 d] w' fun e w2 => e = .returned (.bool true) ∧ Bel w' w2) := Lib.hid (fun p q c d w' h1 h2 => same_yes p q c d [xb, xa, xd] w' (by decide) h1 h2)
      have BD : Hid (Bel V4 V4.drew) := Lib.hid (Bel.refl V4).drew
      have BA : Hid (Bel V4 (V4.alloc (.cells #[.int .u64 5, .int .u64 0, .int .i64 1, .int .u64 13, .int .u64 0, .int .i64 0, .int .u64 98, .int .u64 0, .int .i64 2] 41)).drew) := Lib.hid ((Bel.refl V4).alloc _ _).drew
      go_wp2
      go_region_held3 (fun w' => Bel V4 w' ∧ c3v w' b3 13 0 0 ∧ c3v w' b4 5 0 1 ∧ w'.cell? ⟨Q, 0, none⟩ = some (.pointer (some ⟨Zp, 0, none⟩)))
        (first | (with_reducible exact NB.out _ BD.out) | (with_reducible exact NB.out _ BA.out) | exact NB.out _ (Bel.trans (And.left (by assumption)) hg1) | exact NB.out _ (Bel.trans (And.left (by assumption)) hg2) | exact NB.out _ (Bel.alloc (w := w5) (And.left (by assumption)) _ _))
        (first | (go_at_call 20; (with_reducible refine (A1.out).mono ?_); rintro e w5 ⟨q, k, rfl, hq, hg1⟩) | (go_at_call 20; (with_reducible refine (A2.out).mono ?_); rintro e w5 ⟨q, k, rfl, hq, hg1⟩) | (go_at_call 16; (with_reducible refine (KS.out _ _ _ _ _ (hq.bel ((Bel.refl _).alloc _ _)) (E1.out w5)).mono ?_); rintro e w6 ⟨rfl, hg2⟩) | (go_at_call 16; (with_reducible refine (KS.out _ _ _ _ _ hq (E2.out w5 hg1)).mono ?_); rintro e w6 ⟨rfl, hg2⟩))
      all_goals
        go_wp2_with fail
        go_meet
        case rel => exact ⟨rfl, ow_le C W2.out (And.left (by assumption))⟩
    case rest =>
      obtain ⟨rfl, hw⟩ := hcut
      clear W2
      have KC := Lib.hid (ow_cancel C (k := 2) (t := xd) (er := 0) (l' := [xb, xa]) (by decide) (by decide) (by decide) hw)
      unfold canV at KC
      clear hw
      go_wp2_with fail
      with_reducible refine (KC.out).mono ?_
      rintro e w5 ⟨rfl, hw⟩
      have W3 := Lib.hid (ow_box C hw #[.int .u64 98, .int .u64 0, .int .i64 2] 41)
      clear hw KC
      go_upto_region 10 with (fail)
      generalize w5.alloc (.cells #[.int .u64 98, .int .u64 0, .int .i64 2] 41) = V5 at *
      generalize w5.heap.size = b13 at *
      have KD := Lib.hid (ow_due C (now := 4) (d := []) (l' := [xb, xa]) (s' := 4) (k' := 0) (n := 0) (by decide) (by decide) (by decide) (by decide) rfl (tkn 4 (by omega)) W3.out)
      go_wp2_with fail
      with_reducible refine (KD.out).mono ?_
      rintro e w6 ⟨q6, c6, rfl, _, hw⟩
      have W4 := Lib.hid hw
      clear hw KD W3
      go_wp2_with fail
      with_reducible refine (ow_looked C W4.out).mono ?_
      rintro e w7 ⟨rfl, hb⟩
      have W5 := Lib.hid (ow_le C W4.out hb)
      clear hb W4
      go_upto_region 11 with (fail)
      obtain ⟨by_, eby⟩ : ∃ b, (b13, Obj.cells #[.int .u64 98, .int .u64 0, .int .i64 2] 41) :: bz = b := ⟨_, rfl⟩
      rw [eby] at W5
      have m13 : Hid ((b13, tb xd) ∈ by_) := Lib.hid (by rw [← eby]; simp)
      have m10 : Hid ((b10, tb xb) ∈ by_) := Lib.hid (by rw [← eby]; exact List.mem_cons_of_mem _ m10.out)
      have m3 : Hid ((b3, tb xa) ∈ by_) := Lib.hid (by rw [← eby]; exact List.mem_cons_of_mem _ m3.out)
      have m4 : Hid ((b4, tb xb) ∈ by_) := Lib.hid (by rw [← eby]; exact List.mem_cons_of_mem _ m4.out)
      clear eby
      have NB : Hid (∀ s k l bq w' j t, Ow Qu w Q 3 1 s k l bq w' → (j, tb t) ∈ bq → c3v w' j t.a t.s t.p) := Lib.hid (fun s k l bq w' j t h h1 => h.c3 h1)
      go_cut [16] from 34 (fun v wx => v = .bool true ∧ Ow Qu w Q 3 1 6 1 [xa] by_ wx)
      case first =>
        obtain ⟨c0, c1, c2⟩ := NB.out _ _ _ _ _ b4 xb W5.out m4.out
        have A1 := Lib.hid (ow_due C (now := 6) (d := [xb]) (l' := [xa]) (s' := 6) (k' := 1) (n := 1) (by decide) (by decide) (by decide) (by decide) rfl (tkn 6 (by omega)) (ow_le C W5.out (Bel.refl w7).drew))
        have W5b := Lib.hid (ow_le C (ow_box C W5.out #[.int .u64 5, .int .u64 0, .int .i64 1] 41) (Bel.refl _).drew)
        have A2 := Lib.hid (ow_due C (now := 6) (d := [xb]) (l' := [xa]) (s' := 6) (k' := 1) (n := 1) (by decide) (by decide) (by decide) (by decide) rfl (tkn 6 (by omega)) W5b.out)
        have E1 : Hid (∀ w4 : World, Has (w4.alloc (.cells #[.int .u64 5, .int .u64 0, .int .i64 1] 41)) (some ⟨w4.heap.size, 0, none⟩) [xb]) := Lib.hid (fun w4 => has_row (heap_alloc_new _ _) rfl)
        have E2 : Hid (∀ w4 : World, Ow Qu w Q 3 1 6 1 [xa] ((w7.heap.size, .cells #[.int .u64 5, .int .u64 0, .int .i64 1] 41) :: by_) w4 → Has w4 (some ⟨w7.heap.size, 0, none⟩) [xb] ∧ Ow Qu w Q 3 1 6 1 [xa] by_ w4) := Lib.hid (fun w4 hk => ⟨has_row (hk.at_ _ (List.mem_cons_self ..)) rfl, hk.less⟩)
        have KS : Hid (∀ p q c d w', Has w' p [xb] → Has w' q [xb] → Calls Tryd.prog 16 #[.slice p 1 c, .slice q 1 d] w' fun e w2 => e = .returned (.bool true) ∧ Bel w' w2) := Lib.hid (fun p q c d w' h1 h2 => same_yes p q c d [xb] w' (by decide) h1 h2)
        have KK : Hid (∀ w', Ow Qu w Q 3 1 6 1 [xa] by_ w' → Calls Tryd.prog 12 #[.pointer (some ⟨Q, 0, none⟩)] w' fun e w2 => e = .returned (.int .i64 1) ∧ Bel w' w2) := Lib.hid (fun w' h => ow_looked C h)
        go_wp2
        go_region_with (first | (go_at_call 11; (with_reducible refine (A1.out).mono ?_); rintro e w8 ⟨q, k, rfl, hq, hw3⟩; have hn3 := NB.out _ _ _ _ _ b4 xb hw3 m4.out; obtain ⟨c0, c1, c2⟩ := hn3) | (go_at_call 11; (with_reducible refine (A2.out).mono ?_); rintro e w8 ⟨q, k, rfl, hq, hw3⟩; have hk3 := E2.out _ hw3; have hn3 := NB.out _ _ _ _ _ b4 xb hk3.2 m4.out; obtain ⟨c0, c1, c2⟩ := hn3) | (go_at_call 16; (with_reducible refine (KS.out _ _ _ _ _ (hq.bel ((Bel.refl _).alloc _ _)) (E1.out w8)).mono ?_); rintro e w9 ⟨rfl, hg2⟩; have hw4 := ow_le C hw3 (((Bel.refl w8).alloc #[.int .u64 5, .int .u64 0, .int .i64 1] 41).trans hg2)) | (go_at_call 16; (with_reducible refine (KS.out _ _ _ _ _ hq hk3.1).mono ?_); rintro e w9 ⟨rfl, hg2⟩; have hw4 := ow_le C hk3.2 hg2) | (go_at_call 12; (with_reducible refine (KK.out _ hw4).mono ?_); rintro e w10 ⟨rfl, hg5⟩; have hw5 := ow_le C hw4 hg5))
        all_goals
          go_wp2_with fail
          go_meet
          case rel => exact ⟨rfl, hw5⟩
      case rest =>
        obtain ⟨rfl, hw⟩ := hcut
        clear W5
        have W6 := Lib.hid hw
        clear hw
        obtain ⟨Zg, hzg⟩ := ow_zp C W6.out
        go_wp2_with fail
        with_reducible refine (ow_get C hzg (k := 0) (t := xa) (by decide) W6.out).mono ?_
        rintro e w8 ⟨rfl, hb⟩
        have W7 := Lib.hid (ow_box C (ow_le C W6.out hb) #[.int .u64 13, .int .u64 0, .int .i64 0] 41)
        clear hb W6
        go_upto_region 13 with (fail)
        generalize w8.alloc (.cells #[.int .u64 13, .int .u64 0, .int .i64 0] 41) = V8 at *
        generalize w8.heap.size = b17 at *
        obtain ⟨bv, ebv⟩ : ∃ b, (b17, Obj.cells #[.int .u64 13, .int .u64 0, .int .i64 0] 41) :: by_ = b := ⟨_, rfl⟩
        rw [ebv] at W7
        have m17 : Hid ((b17, tb xa) ∈ bv) := Lib.hid (by rw [← ebv]; simp)
        have m13 : Hid ((b13, tb xd) ∈ bv) := Lib.hid (by rw [← ebv]; exact List.mem_cons_of_mem _ m13.out)
        have m10 : Hid ((b10, tb xb) ∈ bv) := Lib.hid (by rw [← ebv]; exact List.mem_cons_of_mem _ m10.out)
        have m3 : Hid ((b3, tb xa) ∈ bv) := Lib.hid (by rw [← ebv]; exact List.mem_cons_of_mem _ m3.out)
        have m4 : Hid ((b4, tb xb) ∈ bv) := Lib.hid (by rw [← ebv]; exact List.mem_cons_of_mem _ m4.out)
        clear ebv
        go_cut [19] from 34 (fun v wx => v = .bool true ∧ Ow Qu w Q 3 1 13 1 [] bv wx)
        case first =>
          obtain ⟨c0, c1, c2⟩ := NB.out _ _ _ _ _ b3 xa W7.out m3.out
          have A1 := Lib.hid (ow_due C (now := 13) (d := [xa]) (l' := []) (s' := 13) (k' := 1) (n := 1) (by decide) (by decide) (by decide) (by decide) rfl (tkn 13 (by omega)) (ow_le C W7.out (Bel.refl V8).drew))
          have W7b := Lib.hid (ow_le C (ow_box C W7.out #[.int .u64 13, .int .u64 0, .int .i64 0] 41) (Bel.refl _).drew)
          have A2 := Lib.hid (ow_due C (now := 13) (d := [xa]) (l' := []) (s' := 13) (k' := 1) (n := 1) (by decide) (by decide) (by decide) (by decide) rfl (tkn 13 (by omega)) W7b.out)
          have E1 : Hid (∀ w4 : World, Has (w4.alloc (.cells #[.int .u64 13, .int .u64 0, .int .i64 0] 41)) (some ⟨w4.heap.size, 0, none⟩) [xa]) := Lib.hid (fun w4 => has_row (heap_alloc_new _ _) rfl)
          have E2 : Hid (∀ w4 : World, Ow Qu w Q 3 1 13 1 [] ((V8.heap.size, .cells #[.int .u64 13, .int .u64 0, .int .i64 0] 41) :: bv) w4 → Has w4 (some ⟨V8.heap.size, 0, none⟩) [xa] ∧ Ow Qu w Q 3 1 13 1 [] bv w4) := Lib.hid (fun w4 hk => ⟨has_row (hk.at_ _ (List.mem_cons_self ..)) rfl, hk.less⟩)
          have KS : Hid (∀ p q c d w', Has w' p [xa] → Has w' q [xa] → Calls Tryd.prog 16 #[.slice p 1 c, .slice q 1 d] w' fun e w2 => e = .returned (.bool true) ∧ Bel w' w2) := Lib.hid (fun p q c d w' h1 h2 => same_yes p q c d [xa] w' (by decide) h1 h2)
          have KK : Hid (∀ w', Ow Qu w Q 3 1 13 1 [] bv w' → Calls Tryd.prog 12 #[.pointer (some ⟨Q, 0, none⟩)] w' fun e w2 => e = .returned (.int .i64 1) ∧ Bel w' w2) := Lib.hid (fun w' h => ow_looked C h)
          go_wp2
          go_region_with (first | (go_at_call 11; (with_reducible refine (A1.out).mono ?_); rintro e w8 ⟨q, k, rfl, hq, hw3⟩; have hn3 := NB.out _ _ _ _ _ b3 xa hw3 m3.out; obtain ⟨c0, c1, c2⟩ := hn3) | (go_at_call 11; (with_reducible refine (A2.out).mono ?_); rintro e w8 ⟨q, k, rfl, hq, hw3⟩; have hk3 := E2.out _ hw3; have hn3 := NB.out _ _ _ _ _ b3 xa hk3.2 m3.out; obtain ⟨c0, c1, c2⟩ := hn3) | (go_at_call 16; (with_reducible refine (KS.out _ _ _ _ _ (hq.bel ((Bel.refl _).alloc _ _)) (E1.out w8)).mono ?_); rintro e w9 ⟨rfl, hg2⟩; have hw4 := ow_le C hw3 (((Bel.refl w8).alloc #[.int .u64 13, .int .u64 0, .int .i64 0] 41).trans hg2)) | (go_at_call 16; (with_reducible refine (KS.out _ _ _ _ _ hq hk3.1).mono ?_); rintro e w9 ⟨rfl, hg2⟩; have hw4 := ow_le C hk3.2 hg2) | (go_at_call 12; (with_reducible refine (KK.out _ hw4).mono ?_); rintro e w10 ⟨rfl, hg5⟩; have hw5 := ow_le C hw4 hg5))
          all_goals
            go_wp2_with fail
            go_meet
            case rel => exact ⟨rfl, hw5⟩
        case rest =>
          obtain ⟨rfl, hw⟩ := hcut
          clear W7
          have KD := Lib.hid (ow_due C (now := 9) (d := []) (l' := []) (s' := 13) (k' := 0) (n := 0) (by decide) (by decide) (by decide) (by decide) rfl (tkn 9 (by omega)) hw)
          clear hw
          go_wp2_with fail
          with_reducible refine (KD.out).mono ?_
          rintro e w9 ⟨q9, c9, rfl, _, hw⟩
          have W8 := Lib.hid hw
          clear hw KD
          go_wp2_with fail
          with_reducible refine (ow_looked C W8.out).mono ?_
          rintro e w10 ⟨rfl, hb⟩
          have W9 := Lib.hid (ow_le C W8.out hb)
          clear hb W8
          go_wp2_with fail
          with_reducible refine (ow_base C W9.out).mono ?_
          rintro e w11 ⟨rfl, hb⟩
          have W10 := Lib.hid (ow_le C W9.out hb)
          clear hb W9
          obtain ⟨r0, r1, r2⟩ := NB.out _ _ _ _ _ b10 xb W10.out m10.out
          obtain ⟨r3, r4, r5⟩ := NB.out _ _ _ _ _ b4 xb W10.out m4.out
          obtain ⟨r6, r7, r8⟩ := NB.out _ _ _ _ _ b13 xd W10.out m13.out
          obtain ⟨r9, r10, r11⟩ := NB.out _ _ _ _ _ b17 xa W10.out m17.out
          obtain ⟨r12, r13, r14⟩ := NB.out _ _ _ _ _ b3 xa W10.out m3.out
          obtain ⟨Zl, hzl⟩ := ow_zp C W10.out
          have KL := Lib.hid (ow_len C hzl (n := 0) rfl W10.out)
          go_wp2_with fail
          with_reducible refine (KL.out).mono ?_
          rintro e w12 ⟨rfl, hb⟩
          have BE := Lib.hid (W10.out.bel.trans hb)
          clear hb
          go_wp2
          go_ret
          exact ⟨rfl, BE.out⟩
end Go.Proofs.YtdoceldofkaapaaDoor.Ha
