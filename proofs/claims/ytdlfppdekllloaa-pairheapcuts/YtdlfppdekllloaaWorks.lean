/-
  Contract of the law's works: two queues, melded, and emptied.
-/
import Derived.Test.YtdlfppdekllloaaTw
import Derived.Deep.Cut
set_option linter.unusedVariables false
set_option linter.unusedSimpArgs false
namespace Go.Proofs.Ytdlfppdekllloaa
open Go.RowKit
abbrev xa : T := ⟨5, 0, 0⟩
abbrev xb : T := ⟨3, 0, 1⟩
abbrev xc : T := ⟨4, 0, 2⟩
abbrev xe : T := ⟨1, 0, 0⟩
abbrev c3v (w' : World) (b : Nat) (x y z : Int) : Prop := w'.cell? ⟨b, 0, none⟩ = some (.int .u64 x) ∧ w'.cell? ⟨b, 1, none⟩ = some (.int .u64 y) ∧ w'.cell? ⟨b, 2, none⟩ = some (.int .i64 z)
set_option maxHeartbeats 8000000 in
set_option maxRecDepth 100000 in
theorem works_any (w : World) : Calls Try.prog 8 #[] w fun e w' => e = .returned (.bool true) ∧ Bel w w' := by
  have K0 := Lib.hid (fun w' => qnew_yes 3 w' (by omega))
  have e3 : ((3 : Nat) : Int) = 3 := rfl
  rw [e3] at K0
  clear e3
  go_enter Try.func8, Try.ntmps8
  go_wp2_with fail
  with_reducible refine (K0.out _).mono ?_
  rintro e w1 ⟨Q, f, rfl, hq, hf, hb⟩
  have HQ := Lib.hid hq
  have HF := Lib.hid hf
  have HB := Lib.hid hb
  clear hq hf hb
  go_wp2_with fail
  with_reducible refine (K0.out _).mono ?_
  rintro e w2 ⟨O, g, rfl, hq2, hf2, hb2⟩
  have T0 := Lib.hid (tw_new HQ.out HF.out HB.out hq2 hf2 hb2)
  have H3 := Lib.hid (new3 w2 #[.int .u64 5, .int .u64 0, .int .i64 0] #[.int .u64 3, .int .u64 0, .int .i64 1] #[.int .u64 4, .int .u64 0, .int .i64 2] 35 35 35)
  clear hq2 hf2 hb2 K0 HQ HF HB
  go_upto_region 6 with (fail)
  obtain ⟨W, eW, hB, hz, n3, n4, n5⟩ := H3.out
  rw [eW]
  clear eW H3
  have T1 : Hid (Tw w Q O 3 3 [] [] [(w2.heap.size, tb xa), (w2.heap.size + 1, tb xb), (w2.heap.size + 1 + 1, tb xc)] W) := Lib.hid (by
    obtain ⟨⟨f, g, h1, h2, h3, h4, h5, h6⟩, h7, h8⟩ := T0.out
    refine ⟨⟨f, g, h1.bel hB, h2.bel hB, h3, h4, h5, fun x hx => ?_⟩, h7.trans hB, fun x hx => ?_⟩
    · simp at hx
      refine ⟨fun e => ?_, fun e => ?_⟩
      · have := h1.lt_ _ e
        rcases hx with rfl | rfl | rfl <;> (simp only at this; omega)
      · have := h2.lt_ _ e
        rcases hx with rfl | rfl | rfl <;> (simp only at this; omega)
    · simp at hx
      rcases hx with rfl | rfl | rfl
      · exact n3
      · exact n4
      · exact n5)
  clear T0 hB hz n3 n4 n5
  obtain ⟨b7, e7⟩ : ∃ b, w2.heap.size + 1 + 1 = b := ⟨_, rfl⟩
  rw [e7] at T1 ⊢
  obtain ⟨b6, e6⟩ : ∃ b, w2.heap.size + 1 = b := ⟨_, rfl⟩
  rw [e6] at T1 ⊢
  obtain ⟨b5, e5⟩ : ∃ b, w2.heap.size = b := ⟨_, rfl⟩
  rw [e5] at T1 ⊢
  clear e5 e6 e7
  obtain ⟨bx, ebx⟩ : ∃ bx, [(b5, tb xa), (b6, tb xb), (b7, tb xc)] = bx := ⟨_, rfl⟩
  have m5 : Hid ((b5, tb xa) ∈ bx) := Lib.hid (by rw [← ebx]; simp)
  have m6 : Hid ((b6, tb xb) ∈ bx) := Lib.hid (by rw [← ebx]; simp)
  have m7 : Hid ((b7, tb xc) ∈ bx) := Lib.hid (by rw [← ebx]; simp)
  rw [ebx] at T1
  clear ebx
  have T1d := Lib.hid (T1.out.le (Bel.refl W).drew)
  have NN : Hid (∀ l m w', Tw w Q O 3 3 l m bx w' → c3v w' b5 5 0 0 ∧ c3v w' b6 3 0 1 ∧ c3v w' b7 4 0 2) := Lib.hid (fun l m w' h => ⟨h.c3 m5.out, h.c3 m6.out, h.c3 m7.out⟩)
  have K1 : Hid (∀ w1, Tw w Q O 3 3 [] [] bx w1 → Calls Try.prog 27 #[.pointer (some ⟨Q, 0, none⟩), .agg #[.int .u64 5, .int .u64 0, .int .i64 0]] w1 fun e w2 => e = .returned (.int .i64 0) ∧ Tw w Q O 3 3 [xa] [] bx w2) := Lib.hid (fun w1 h => tw_insert (t := xa) (by decide) (by decide) h)
  have K2 : Hid (∀ w1, Tw w Q O 3 3 [xa] [] bx w1 → Calls Try.prog 27 #[.pointer (some ⟨Q, 0, none⟩), .agg #[.int .u64 3, .int .u64 0, .int .i64 1]] w1 fun e w2 => e = .returned (.int .i64 0) ∧ Tw w Q O 3 3 [xb, xa] [] bx w2) := Lib.hid (fun w1 h => tw_insert (t := xb) (by decide) (by decide) h)
  have K3 : Hid (∀ w1, Tw w Q O 3 3 [xb, xa] [] bx w1 → Calls Try.prog 27 #[.pointer (some ⟨O, 0, none⟩), .agg #[.int .u64 4, .int .u64 0, .int .i64 2]] w1 fun e w2 => e = .returned (.int .i64 0) ∧ Tw w Q O 3 3 [xb, xa] [xc] bx w2) := Lib.hid (fun w1 h => (tw_insert (t := xc) (l' := [xc]) (er := 0) (by decide) (by decide) h.sw).mono fun e w2 ⟨he, hk⟩ => ⟨he, hk.sw⟩)
  go_cut [8, 9, 10] from 46 (fun f g h wx => f = .int .i64 0 ∧ g = .int .i64 0 ∧ h = .int .i64 0 ∧ Tw w Q O 3 3 [xb, xa] [xc] bx wx)
  case first =>
    obtain ⟨⟨a0, a1, a2⟩, ⟨c0, c1, c2⟩, ⟨d0, d1, d2⟩⟩ := NN.out _ _ _ T1.out
    go_wp2
    go_region_held3 (fun w' => c3v w' b5 5 0 0 ∧ c3v w' b6 3 0 1 ∧ c3v w' b7 4 0 2)
      (first | (with_reducible exact NN.out _ _ _ T1d.out) | (with_reducible exact NN.out _ _ _ hw1) | (with_reducible exact NN.out _ _ _ hw2) | (with_reducible exact NN.out _ _ _ hw3))
      (first | (go_at_call 27; (with_reducible refine (K1.out _ T1d.out).mono ?_); rintro e w2 ⟨rfl, hw1⟩) | (go_at_call 27; (with_reducible refine (K2.out _ hw1).mono ?_); rintro e w3 ⟨rfl, hw2⟩) | (go_at_call 27; (with_reducible refine (K3.out _ hw2).mono ?_); rintro e w4 ⟨rfl, hw3⟩))
    all_goals
      go_wp2_with fail
      go_meet
      case rel => exact ⟨rfl, rfl, rfl, hw3⟩
  case rest =>
    obtain ⟨rfl, rfl, rfl, hw⟩ := hcut
    clear T1 T1d K1 K2 K3
    have KM := Lib.hid (tw_meld (l' := [xb, xc, xa]) (m' := []) (er := 0) (by decide) (by decide) (by decide) hw)
    clear hw
    go_wp2_with fail
    with_reducible refine (KM.out).mono ?_
    rintro e w3 ⟨rfl, hw⟩
    have W1 := Lib.hid hw
    clear hw KM
    go_upto_region 8 with (fail)
    go_cut [12] from 46 (fun v wx => v = .bool true ∧ Tw w Q O 3 3 [xb, xc, xa] [] bx wx)
    case first =>
      have NB : Hid (∀ w', Bel w3 w' → Bel w3 w' ∧ c3v w' b5 5 0 0 ∧ c3v w' b6 3 0 1 ∧ c3v w' b7 4 0 2) := Lib.hid (fun w' hb => ⟨hb, NN.out _ _ _ (W1.out.le hb)⟩)
      obtain ⟨_, ⟨a0, a1, a2⟩, ⟨c0, c1, c2⟩, ⟨d0, d1, d2⟩⟩ := NB.out _ (Bel.refl _)
      have A1 := Lib.hid (tw_all (W1.out.le (Bel.refl w3).drew))
      have A2 := Lib.hid (tw_all (W1.out.le ((Bel.refl w3).alloc #[.int .u64 3, .int .u64 0, .int .i64 1, .int .u64 4, .int .u64 0, .int .i64 2, .int .u64 5, .int .u64 0, .int .i64 0] 35).drew))
      have E1 : Hid (∀ w4 : World, Has (w4.alloc (.cells #[.int .u64 3, .int .u64 0, .int .i64 1, .int .u64 4, .int .u64 0, .int .i64 2, .int .u64 5, .int .u64 0, .int .i64 0] 35)) (some ⟨w4.heap.size, 0, none⟩) [xb, xc, xa]) := Lib.hid (fun w4 => has_row (heap_alloc_new _ _) rfl)
      have E2 : Hid (∀ w4 : World, Bel (w3.alloc (.cells #[.int .u64 3, .int .u64 0, .int .i64 1, .int .u64 4, .int .u64 0, .int .i64 2, .int .u64 5, .int .u64 0, .int .i64 0] 35)).drew w4 → Has w4 (some ⟨w3.heap.size, 0, none⟩) [xb, xc, xa]) := Lib.hid (fun w4 hg => (has_row (heap_alloc_new _ _) rfl).bel ((Bel.refl _).drew.trans hg))
      have KS : Hid (∀ p q c d w', Has w' p [xb, xc, xa] → Has w' q [xb, xc, xa] → Calls Try.prog 23 #[.slice p 3 c, .slice q 3 d] w' fun e w2 => e = .returned (.bool true) ∧ Bel w' w2) := Lib.hid (fun p q c d w' h1 h2 => same_yes p q c d [xb, xc, xa] w' (by decide) h1 h2)
      have BD : Hid (Bel w3 w3.drew) := Lib.hid (Bel.refl w3).drew
      have BA : Hid (Bel w3 (w3.alloc (.cells #[.int .u64 3, .int .u64 0, .int .i64 1, .int .u64 4, .int .u64 0, .int .i64 2, .int .u64 5, .int .u64 0, .int .i64 0] 35)).drew) := Lib.hid ((Bel.refl w3).alloc _ _).drew
      have el : [xb, xc, xa].length = 3 := rfl
      rw [el] at A1 A2
      clear el
      go_wp2
      go_region_held3 (fun w' => Bel w3 w' ∧ c3v w' b5 5 0 0 ∧ c3v w' b6 3 0 1 ∧ c3v w' b7 4 0 2)
        (first | (with_reducible exact NB.out _ BD.out) | (with_reducible exact NB.out _ BA.out) | exact NB.out _ (Bel.trans (And.left (by assumption)) hg1) | exact NB.out _ (Bel.trans (And.left (by assumption)) hg2) | exact NB.out _ (Bel.alloc (w := w4) (And.left (by assumption)) _ _))
        (first | (go_at_call 20; (with_reducible refine (A1.out).mono ?_); rintro e w4 ⟨q, k, rfl, hq, hg1⟩) | (go_at_call 20; (with_reducible refine (A2.out).mono ?_); rintro e w4 ⟨q, k, rfl, hq, hg1⟩) | (go_at_call 23; (with_reducible refine (KS.out _ _ _ _ _ (hq.bel ((Bel.refl _).alloc _ _)) (E1.out w4)).mono ?_); rintro e w5 ⟨rfl, hg2⟩) | (go_at_call 23; (with_reducible refine (KS.out _ _ _ _ _ hq (E2.out w4 hg1)).mono ?_); rintro e w5 ⟨rfl, hg2⟩))
      all_goals
        go_wp2_with fail
        go_meet
        case rel => exact ⟨rfl, W1.out.le (And.left (by assumption))⟩
    case rest =>
      obtain ⟨rfl, hw⟩ := hcut
      clear W1
      have W1 := Lib.hid hw
      clear hw
      have KM := Lib.hid (tw_move (t := xe) (er := 0) (l' := [xe, xb, xc]) (by decide) (by decide) W1.out)
      clear W1
      go_wp2_with fail
      with_reducible refine (KM.out).mono ?_
      rintro e w5 ⟨rfl, hw⟩
      have W2 := Lib.hid hw
      clear hw KM
      go_wp2_with fail
      with_reducible refine (tw_min (t := xe) rfl W2.out).mono ?_
      rintro e w6 ⟨rfl, hb⟩
      have W3 := Lib.hid ((W2.out.le hb).box #[.int .u64 1, .int .u64 0, .int .i64 0] 35)
      clear hb W2
      go_upto_region 11 with (fail)
      generalize w6.alloc (.cells #[.int .u64 1, .int .u64 0, .int .i64 0] 35) = V6 at *
      generalize w6.heap.size = b14 at *
      have KC := Lib.hid (tw_cancel (k := 1) (t := xb) (er := 0) (l' := [xe, xc]) (by decide) (by decide) (by decide) W3.out)
      unfold canV at KC
      clear W3
      go_wp2_with fail
      with_reducible refine (KC.out).mono ?_
      rintro e w7 ⟨rfl, hw⟩
      have W4 := Lib.hid (hw.box #[.int .u64 3, .int .u64 0, .int .i64 1] 35)
      clear hw KC
      go_upto_region 12 with (fail)
      generalize w7.alloc (.cells #[.int .u64 3, .int .u64 0, .int .i64 1] 35) = V7 at *
      generalize w7.heap.size = b16 at *
      go_wp2_with fail
      with_reducible refine (tw_get (k := 2) (t := xc) (by decide) W4.out).mono ?_
      rintro e w8 ⟨rfl, hb⟩
      have W5 := Lib.hid ((W4.out.le hb).box #[.int .u64 4, .int .u64 0, .int .i64 2] 35)
      clear hb W4
      go_upto_region 13 with (fail)
      generalize w8.alloc (.cells #[.int .u64 4, .int .u64 0, .int .i64 2] 35) = V8 at *
      generalize w8.heap.size = b18 at *
      obtain ⟨by_, eby⟩ : ∃ b, (b18, Obj.cells #[.int .u64 4, .int .u64 0, .int .i64 2] 35) :: (b16, Obj.cells #[.int .u64 3, .int .u64 0, .int .i64 1] 35) :: (b14, Obj.cells #[.int .u64 1, .int .u64 0, .int .i64 0] 35) :: bx = b := ⟨_, rfl⟩
      rw [eby] at W5
      have m18 : Hid ((b18, tb xc) ∈ by_) := Lib.hid (by rw [← eby]; simp)
      have m16 : Hid ((b16, tb xb) ∈ by_) := Lib.hid (by rw [← eby]; simp)
      have m14 : Hid ((b14, tb xe) ∈ by_) := Lib.hid (by rw [← eby]; simp)
      have m6 : Hid ((b6, tb xb) ∈ by_) := Lib.hid (by rw [← eby]; exact List.mem_cons_of_mem _ (List.mem_cons_of_mem _ (List.mem_cons_of_mem _ m6.out)))
      have m7 : Hid ((b7, tb xc) ∈ by_) := Lib.hid (by rw [← eby]; exact List.mem_cons_of_mem _ (List.mem_cons_of_mem _ (List.mem_cons_of_mem _ m7.out)))
      clear eby NN m5
      go_cut [20] from 46 (fun v wx => v = .bool true ∧ Tw w Q O 3 3 [] [] by_ wx)
      case first =>
        have NB : Hid (∀ l m bz w', Tw w Q O 3 3 l m bz w' → (b14, tb xe) ∈ bz → (b7, tb xc) ∈ bz → c3v w' b14 1 0 0 ∧ c3v w' b7 4 0 2) := Lib.hid (fun l m bz w' h h1 h2 => ⟨h.c3 h1, h.c3 h2⟩)
        obtain ⟨⟨c0, c1, c2⟩, ⟨d0, d1, d2⟩⟩ := NB.out _ _ _ _ W5.out m14.out m7.out
        have A1 := Lib.hid (tw_due (now := 9) (d := [xe, xc]) (l' := []) (by decide) (by decide) (W5.out.le (Bel.refl V8).drew))
        have W5b := Lib.hid ((W5.out.box #[.int .u64 1, .int .u64 0, .int .i64 0, .int .u64 4, .int .u64 0, .int .i64 2] 35).le (Bel.refl _).drew)
        have A2 := Lib.hid (tw_due (now := 9) (d := [xe, xc]) (l' := []) (by decide) (by decide) W5b.out)
        have E1 : Hid (∀ w4 : World, Has (w4.alloc (.cells #[.int .u64 1, .int .u64 0, .int .i64 0, .int .u64 4, .int .u64 0, .int .i64 2] 35)) (some ⟨w4.heap.size, 0, none⟩) [xe, xc]) := Lib.hid (fun w4 => has_row (heap_alloc_new _ _) rfl)
        have E2 : Hid (∀ w4 : World, Tw w Q O 3 3 [] [] ((V8.heap.size, .cells #[.int .u64 1, .int .u64 0, .int .i64 0, .int .u64 4, .int .u64 0, .int .i64 2] 35) :: by_) w4 → Has w4 (some ⟨V8.heap.size, 0, none⟩) [xe, xc] ∧ Tw w Q O 3 3 [] [] by_ w4) := Lib.hid (fun w4 hk => ⟨has_row (hk.at_ _ (List.mem_cons_self ..)) rfl, hk.less⟩)
        have KS : Hid (∀ p q c d w', Has w' p [xe, xc] → Has w' q [xe, xc] → Calls Try.prog 23 #[.slice p 2 c, .slice q 2 d] w' fun e w2 => e = .returned (.bool true) ∧ Bel w' w2) := Lib.hid (fun p q c d w' h1 h2 => same_yes p q c d [xe, xc] w' (by decide) h1 h2)
        have el : [xe, xc].length = 2 := rfl
        rw [el] at A1 A2
        clear el
        go_wp2
        go_region_with (first | (go_at_call 24; (with_reducible refine (A1.out).mono ?_); rintro e w4 ⟨q, k, rfl, hq, hw3⟩; have hn3 := NB.out _ _ _ _ hw3 m14.out m7.out; obtain ⟨⟨c0, c1, c2⟩, ⟨d0, d1, d2⟩⟩ := hn3) | (go_at_call 24; (with_reducible refine (A2.out).mono ?_); rintro e w4 ⟨q, k, rfl, hq, hw3⟩; have hk3 := E2.out _ hw3; have hn3 := NB.out _ _ _ _ hk3.2 m14.out m7.out; obtain ⟨⟨c0, c1, c2⟩, ⟨d0, d1, d2⟩⟩ := hn3) | (go_at_call 23; (with_reducible refine (KS.out _ _ _ _ _ (hq.bel ((Bel.refl _).alloc _ _)) (E1.out w4)).mono ?_); rintro e w5 ⟨rfl, hg2⟩; have hw4 := hw3.le (((Bel.refl w4).alloc #[.int .u64 1, .int .u64 0, .int .i64 0, .int .u64 4, .int .u64 0, .int .i64 2] 35).trans hg2)) | (go_at_call 23; (with_reducible refine (KS.out _ _ _ _ _ hq hk3.1).mono ?_); rintro e w5 ⟨rfl, hg2⟩; have hw4 := hk3.2.le hg2))
        all_goals
          go_wp2_with fail
          go_meet
          case rel => exact ⟨rfl, hw4⟩
      case rest =>
        obtain ⟨rfl, hw⟩ := hcut
        clear W5
        have W6 := Lib.hid hw
        clear hw
        have HC : Hid (∀ w', Bel wc w' → c3v w' b14 1 0 0 ∧ c3v w' b16 3 0 1 ∧ c3v w' b6 3 0 1 ∧ c3v w' b18 4 0 2 ∧ c3v w' b7 4 0 2) := Lib.hid (fun w' hb => ⟨(W6.out.le hb).c3 m14.out, (W6.out.le hb).c3 m16.out, (W6.out.le hb).c3 m6.out, (W6.out.le hb).c3 m18.out, (W6.out.le hb).c3 m7.out⟩)
        clear m14 m16 m6 m18 m7
        obtain ⟨⟨r0, r1, r2⟩, ⟨r3, r4, r5⟩, ⟨r6, r7, r8⟩, ⟨r9, r10, r11⟩, ⟨r12, r13, r14⟩⟩ := HC.out _ (Bel.refl _)
        have KL := Lib.hid (tw_len (n := 0) rfl W6.out.sw)
        go_wp2_with fail
        with_reducible refine (KL.out).mono ?_
        rintro e w9 ⟨rfl, hb9⟩
        clear r0 r1 r2 r3 r4 r5 r6 r7 r8 r9 r10 r11 r12 r13 r14
        obtain ⟨⟨r0, r1, r2⟩, ⟨r3, r4, r5⟩, ⟨r6, r7, r8⟩, ⟨r9, r10, r11⟩, ⟨r12, r13, r14⟩⟩ := HC.out _ hb9
        have KL2 := Lib.hid (tw_len (n := 0) rfl (W6.out.le hb9))
        have BB := Lib.hid (W6.out.bel.trans hb9)
        clear hb9 KL W6 HC
        go_wp2_with fail
        with_reducible refine (KL2.out).mono ?_
        rintro e w10 ⟨rfl, hb10⟩
        have BE := Lib.hid (BB.out.trans hb10)
        clear hb10
        go_wp2
        go_ret
        exact ⟨rfl, BE.out⟩
end Go.Proofs.Ytdlfppdekllloaa
