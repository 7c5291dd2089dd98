/-
  The walk of HierwheelThree.
-/
import Derived.Test.YtdoceldofkaapaaGreatDoorXaz
set_option linter.unusedVariables false
set_option linter.unusedSimpArgs false
namespace Go.Proofs.YtdoceldofkaapaaGreatDoor
open Go.RowKit
def encU (l : List Int) : List Value := l.flatMap fun x => [.int .u64 x]
theorem encU_len : ∀ l : List Int, (encU l).length = l.length
  | [] => rfl
  | x :: r => by have := encU_len r; unfold encU at this ⊢; rw [List.flatMap_cons, List.length_append, this]; simp; omega
theorem encU_get (l : List Int) (i : Nat) (x : Int) (h : l[i]? = some x) : (encU l)[i]? = some (.int .u64 x) := by
  have := flat_get (fun x : Int => [.int .u64 x]) 1 (fun _ => rfl) l i 0 x h (by omega)
  unfold encU
  simpa using this
theorem row_u {w : World} {b off : Nat} {l : List Int} (h : RowG w b off (encU l)) {i : Nat} {x : Int} (hx : l[i]? = some x) : w.cell? ⟨b, off + i, none⟩ = some (.int .u64 x) := h _ _ (encU_get l i x hx)
theorem lies_u {f : Nat → Prop} {w : World} {p : Option Addr} {l : List Int} (h : Lies f w p (encU l)) {i : Nat} (hi : i < l.length) : ∃ b off, p = some ⟨b, off, none⟩ ∧ ¬ f b ∧ RowG w b off (encU l) :=
  h.row (fun e => by have := encU_len l; rw [e] at this; simp at this; omega)
theorem due_one (t : T) (now : Int) : due [t] now true = (if t.a ≤ now then [t] else []) ∧ due [t] now false = (if t.a ≤ now then [] else [t]) := by
  unfold due
  by_cases h : t.a ≤ now
  · simp [h]
  · simp [h]
theorem csc_due (b : Nat) (s now : Int) (t : T) (h : t.a ≤ now) : csc b s now [t] = 0 := by
  unfold csc
  split
  · rfl
  · rw [(due_one t now).2, if_pos h]; rfl
theorem three_step (b : Nat) (s now : Int) (t : T) (h : now < t.a) :
    (csc b s now [t] = 1 ∧ lv b (max s now) t.a < lv b s t.a ∧ lv b s t.a ≤ 3 ∨ csc b s now [t] = 0 ∧ ¬ (lv b (max s now) t.a < lv b s t.a ∧ lv b s t.a ≤ 3)) ∧ lv b (max s now) t.a ≤ lv b s t.a ∧ csc b s now [t] + pot (lv b (max s now) t.a) ≤ pot (lv b s t.a) := by
  by_cases hle : now ≤ s
  · have e1 : csc b s now [t] = 0 := by unfold csc; rw [if_pos hle]
    have e2 : max s now = s := by omega
    rw [e1, e2]
    exact ⟨.inr ⟨rfl, fun h => by omega⟩, Int.le_refl _, by omega⟩
  · have e2 : max s now = now := by omega
    have e1 : csc b s now [t] = if fall b s now t = true then 1 else 0 := by
      unfold csc
      rw [if_neg hle, (due_one t now).2, if_neg (by omega), List.countP_cons, List.countP_nil]
      omega
    have h1 := pot_falls (c := b) (s := s) (now := now) (by omega) t h
    have h2 := lv_later b s now t.a (by omega)
    have h3 := lv_in b now t.a
    rw [e1, e2]
    refine ⟨?_, h2, h1⟩
    unfold fall
    by_cases hf : lv b now t.a < lv b s t.a ∧ lv b s t.a ≤ 3
    · have h0 : 0 ≤ lv b s t.a := by omega
      rw [if_pos (by simp [h0, hf.1, hf.2])]
      exact .inl ⟨rfl, hf⟩
    · rw [if_neg (fun e => hf (by simp only [Bool.and_eq_true, decide_eq_true_eq] at e; exact ⟨e.2, e.1.2⟩))]
      exact .inr ⟨rfl, hf⟩
theorem three_long {Qu : QT} (C : Con Qu) (bits s : Int) (t : T) (pa : Option Addr) (N ca : Nat) (w : World) (hT : Bm.Tab w) (h : 60 < N) :
    Calls Tryz.prog 6 #[.int .i64 bits, .int .u64 s, .agg #[.int .u64 t.a, .int .u64 t.s, .int .i64 t.p], .slice pa N ca] w fun e w' => e = .returned (.bool true) ∧ Bel w w' := by
  have K := Lib.hid (works_any C (w.alloc (tb t)) (tab_bel hT ((Bel.refl _).alloc _ _)))
  have HB : Hid (Bel w (w.alloc (tb t))) := Lib.hid ((Bel.refl _).alloc _ _)
  have h1 : (60 : Int) < (N : Int) := by omega
  go_enter Tryz.func6, Tryz.ntmps6
  go_wp2_with fail
  with_reducible refine K.out.mono ?_
  rintro e w1 ⟨rfl, hb⟩
  have HB1 := Lib.hid (HB.out.trans hb)
  clear hb
  go_wp2
  go_ret
  exact ⟨rfl, HB1.out⟩
theorem three_no {Qu : QT} (C : Con Qu) (bits s : Int) (t : T) (pa : Option Addr) (N ca : Nat) (w : World) (hT : Bm.Tab w) (hN : N ≤ 60) (h : ¬ (1 ≤ bits ∧ bits ≤ 6)) :
    Calls Tryz.prog 6 #[.int .i64 bits, .int .u64 s, .agg #[.int .u64 t.a, .int .u64 t.s, .int .i64 t.p], .slice pa N ca] w fun e w' => e = .returned (.bool true) ∧ Bel w w' := by
  have K := Lib.hid (works_any C (w.alloc (tb t)) (tab_bel hT ((Bel.refl _).alloc _ _)))
  have HB : Hid (Bel w (w.alloc (tb t))) := Lib.hid ((Bel.refl _).alloc _ _)
  have KN := Lib.hid (fun w' => C.qnew_no 1 bits s w' (fun e => h e.2))
  have h1 : ¬ (60 : Int) < (N : Int) := by omega
  clear h
  go_enter Tryz.func6, Tryz.ntmps6
  go_wp2_with fail
  with_reducible refine K.out.mono ?_
  rintro e w1 ⟨rfl, hb⟩
  have HB1 := Lib.hid (HB.out.trans hb)
  clear hb
  go_wp2_with fail
  with_reducible refine (KN.out _).mono ?_
  rintro e w2 ⟨rfl, hb⟩
  have HB2 := Lib.hid (HB1.out.trans hb)
  clear hb
  go_wp2
  go_ret
  exact ⟨rfl, HB2.out⟩
theorem ins_p1 (t : T) : (t.p = 0 ∧ insE 1 [] t = 0 ∧ insL 1 [] t = [t]) ∨ (¬ t.p = 0 ∧ insE 1 [] t = 1 ∧ insL 1 [] t = []) := by
  unfold insL insE
  cases h : hp 1 t.p with
  | true =>
    refine .inl ⟨?_, rfl, rfl⟩
    by_cases e : t.p = 0
    · exact e
    · rw [hp_no (by omega)] at h; cases h
  | false =>
    refine .inr ⟨fun e => ?_, rfl, rfl⟩
    rw [e] at h
    cases h
set_option maxHeartbeats 8000000 in
set_option maxRecDepth 100000 in
theorem three_yes {Qu : QT} (C : Con Qu) (b : Nat) (s : Int) (t : T) (pa : Option Addr) (N ca : Nat) (us : List Int) (w : World) (hT : Bm.Tab w) (hb6 : 1 ≤ b ∧ b ≤ 6) (hs : Tk s) (ht : Tk t.a) (hN : N ≤ 60) (hl : us.length = N) (hu : ∀ u ∈ us, Tk u) (hA : Lies nof w pa (encU us)) :
    Calls Tryz.prog 6 #[.int .i64 b, .int .u64 s, .agg #[.int .u64 t.a, .int .u64 t.s, .int .i64 t.p], .slice pa N ca] w fun e w' => e = .returned (.bool true) ∧ Bel w w' := by
  have HB : Hid (Bel w (w.alloc (tb t))) := Lib.hid ((Bel.refl _).alloc _ _)
  have HN : Hid ((w.alloc (tb t)).heap[w.heap.size]? = some (tb t)) := Lib.hid (heap_alloc_new _ _)
  have KN := Lib.hid (fun w' (hb : Bel w w') => C.qnew_yes 1 b s w' (by omega) hb6 hs (tab_bel hT hb))
  have e1 : ((1 : Nat) : Int) = 1 := rfl
  rw [e1] at KN
  clear e1
  have HT := Lib.hid hT
  have HTa := Lib.hid ht
  have HA := Lib.hid hA
  have HL := Lib.hid hl
  have HU := Lib.hid hu
  have h1 : ¬ (60 : Int) < (N : Int) := by omega
  clear hb6 hs hA hl hu ht
  go_enter Tryz.func6, Tryz.ntmps6
  go_upto_region 1 with (fail)
  generalize w.alloc (tb t) = W at *
  have K := Lib.hid (works_any C W (tab_bel HT.out HB.out))
  go_wp2_with fail
  with_reducible refine K.out.mono ?_
  rintro e w1 ⟨rfl, hb⟩
  have HB1 := Lib.hid (HB.out.trans hb)
  have HN1 := Lib.hid (hb.heap HN.out)
  clear hb HB HN K
  go_wp2_with fail
  with_reducible refine (KN.out _ HB1.out).mono ?_
  rintro e w2 ⟨Q, f, rfl, hq, hf, hb⟩
  obtain ⟨b6, e6⟩ : ∃ b, w.heap.size = b := ⟨_, rfl⟩
  rw [e6] at HN1 ⊢
  have T0 : Hid (Ow Qu w Q 1 b s 0 [] [(b6, tb t)] w2) := Lib.hid (by
    refine ⟨⟨f, hq, fun k e => Nat.le_trans HB1.out.size (hf k e), fun x hx => ?_⟩, HB1.out.trans hb, fun x hx => ?_⟩
    · simp at hx
      subst hx
      intro e
      have h1 := hf _ e
      have h2 := (Array.getElem?_eq_some_iff.1 HN1.out).1
      simp only at h1
      omega
    · simp at hx
      subst hx
      exact hb.heap HN1.out)
  clear hq hf hb KN HB1 HN1 e6
  obtain ⟨bx, ebx⟩ : ∃ bx, [(b6, tb t)] = bx := ⟨_, rfl⟩
  have m6 : Hid ((b6, tb t) ∈ bx) := Lib.hid (by rw [← ebx]; simp)
  rw [ebx] at T0
  clear ebx
  have NN : Hid (∀ s k l w', Ow Qu w Q 1 b s k l bx w' → w'.cell? ⟨b6, 0, none⟩ = some (.int .u64 t.a) ∧ w'.cell? ⟨b6, 1, none⟩ = some (.int .u64 t.s) ∧ w'.cell? ⟨b6, 2, none⟩ = some (.int .i64 t.p)) := Lib.hid (fun s k l w' h => h.c3 m6.out)
  obtain ⟨a0, a1, a2⟩ := NN.out _ _ _ _ T0.out
  rcases ins_p1 t with ⟨hp0, hi1, hi2⟩ | ⟨hp0, hi1, hi2⟩
  · have KI := Lib.hid (ow_insert C hi1 hi2 HTa.out T0.out)
    have HP0 := Lib.hid hp0
    clear hi1 hi2 hp0 T0
    go_wp2_with fail
    with_reducible refine KI.out.mono ?_
    rintro e w3 ⟨rfl, hw⟩
    have T1 := Lib.hid hw
    clear hw KI a0 a1 a2
    go_wp2_with fail
    with_reducible refine (ow_cascades C (by omega) (by omega) T1.out).mono ?_
    rintro e w4 ⟨rfl, hb⟩
    have T2 := Lib.hid (ow_le C T1.out hb)
    clear hb T1
    have HF0 : Hid (fnd [t] 0 = some t) := Lib.hid (by unfold fnd; rw [List.find?_cons]; rw [decide_eq_true HP0.out])
    have HPT := Lib.hid (pot_le (lv b s t.a))
    go_wp2
    go_loopw [13, 14, 15, 16, 17, 18, 19, 20, 21, 22] (fun v i _ _ _ _ _ _ _ _ wr => ∃ (kk : Int) (j : Nat) (sx : Int), v = .int .i64 kk ∧ i = .int .i64 j ∧ j ≤ N ∧ 0 ≤ kk ∧ kk + (pot (lv b sx t.a) : Int) ≤ 3 ∧ Ow Qu w Q 1 b sx kk [t] bx wr) (fun _ i _ _ _ _ _ _ _ _ _ => N - (intOf i).toNat)
    case atStart => exact ⟨0, 0, s, rfl, rfl, by omega, by omega, by have := HPT.out; omega, T2.out⟩
    case round =>
      obtain ⟨kk, j, sx, rfl, rfl, hj, hk0, hk3, hw⟩ := hrel
      have TW := Lib.hid hw
      clear hw T2 HPT
      by_cases hjn : j < N
      · obtain ⟨bb, off, rfl, _, hr⟩ := lies_u HA.out (i := j) (by rw [HL.out]; exact hjn)
        obtain ⟨u, hu⟩ : ∃ u, us[j]? = some u := ⟨us[j]'(by rw [HL.out]; exact hjn), List.getElem?_eq_getElem _⟩
        have HCU : Hid (∀ w', Bel w w' → w'.cell? ⟨bb, off + j, none⟩ = some (.int .u64 u)) := Lib.hid (fun w' hb => hb.cell (row_u hr hu))
        have hut := HU.out u (List.mem_of_getElem? hu)
        have HUt := Lib.hid hut
        have b3 : (j : Int) < (N : Int) := by omega
        have KW := Lib.hid (ow_at C HF0.out rfl rfl TW.out)
        clear hr hu
        go_wp2_with fail
        with_reducible refine (KW.out).mono ?_
        rintro e w5 ⟨rfl, hb⟩
        have T5 := Lib.hid (ow_le C TW.out hb)
        have c0 := HCU.out _ T5.out.bel
        clear hb TW KW
        by_cases hd : t.a ≤ u
        · have KD := Lib.hid (ow_due C (now := u) (d := [t]) (l' := []) (n := 1) (k' := kk) (by rw [(due_one t u).1, if_pos hd]) (by rw [(due_one t u).2, if_pos hd]) rfl (by rw [csc_due b sx u t hd]; simp) rfl HUt.out T5.out)
          go_wp2_with fail
          with_reducible refine KD.out.mono ?_
          rintro e w6 ⟨p6, c6, rfl, hh, hw⟩
          obtain ⟨br, offr, rfl, hrow⟩ := hh.row (by simp)
          obtain ⟨y0, y1, y2⟩ := hrow 0 (by simp)
          simp only [Nat.zero_mul, Nat.add_zero, List.getD_cons_zero] at y0 y1 y2
          have T6 := Lib.hid hw
          obtain ⟨a0, a1, a2⟩ := NN.out _ _ _ _ T6.out
          have c0 := HCU.out _ T6.out.bel
          have hE := eql_yes t t rfl
          have KC := Lib.hid (ow_cascades C hk0 (by omega) (ow_le C T6.out (Bel.refl w6).drew))
          have HBw := Lib.hid T6.out.bel
          have hkp : kk ≤ 3 := by omega
          have q1 : (kk == kk) = true := by simp
          have HD : Hid (Bel w6 w6.drew) := Lib.hid (Bel.refl w6).drew
          have HS : Hid (∀ w', Bel w6 w' → (w'.cell? ⟨br, offr, none⟩ = some (.int .u64 t.a) ∧ w'.cell? ⟨br, offr + 1, none⟩ = some (.int .u64 t.s) ∧ w'.cell? ⟨br, offr + 2, none⟩ = some (.int .i64 t.p)) ∧ (w'.cell? ⟨b6, 0, none⟩ = some (.int .u64 t.a) ∧ w'.cell? ⟨b6, 1, none⟩ = some (.int .u64 t.s) ∧ w'.cell? ⟨b6, 2, none⟩ = some (.int .i64 t.p)) ∧ w'.cell? ⟨bb, off + j, none⟩ = some (.int .u64 u)) := Lib.hid (fun w' hb => ⟨⟨hb.cell y0, hb.cell y1, hb.cell y2⟩, ⟨hb.cell a0, hb.cell a1, hb.cell a2⟩, hb.cell c0⟩)
          clear hw hrow hh KD T5 T6 hk3 hk0 NN HTa HF0 HP0
          generalize t.a = ta at *
          generalize t.s = ts at *
          generalize t.p = tp at *
          go_wp2
          go_region_held3 (fun w' => (w'.cell? ⟨br, offr, none⟩ = some (.int .u64 ta) ∧ w'.cell? ⟨br, offr + 1, none⟩ = some (.int .u64 ts) ∧ w'.cell? ⟨br, offr + 2, none⟩ = some (.int .i64 tp)) ∧ (w'.cell? ⟨b6, 0, none⟩ = some (.int .u64 ta) ∧ w'.cell? ⟨b6, 1, none⟩ = some (.int .u64 ts) ∧ w'.cell? ⟨b6, 2, none⟩ = some (.int .i64 tp)) ∧ w'.cell? ⟨bb, off + j, none⟩ = some (.int .u64 u))
            (first | (with_reducible exact HS.out _ HD.out) | exact HS.out _ (HD.out.trans hb7))
            (first | (go_at_call 33; (with_reducible refine KC.out.mono ?_); rintro e w7 ⟨rfl, hb7⟩))
          have HE := Lib.hid (HBw.out.trans (HD.out.trans hb7))
          go_wp2
          go_ret
          exact ⟨rfl, HE.out⟩
        · obtain ⟨hst1, hst2, hst3⟩ := three_step b sx u t (by omega)
          have KD := Lib.hid (ow_due C (now := u) (d := []) (l' := [t]) (n := 0) (by rw [(due_one t u).1, if_neg hd]) (by rw [(due_one t u).2, if_neg hd]) rfl rfl rfl HUt.out T5.out)
          obtain ⟨cs, ecs⟩ : ∃ c, csc b sx u [t] = c := ⟨_, rfl⟩
          obtain ⟨sy, esy⟩ : ∃ c, max sx u = c := ⟨_, rfl⟩
          rw [ecs] at hst1 hst3 KD
          rw [esy] at hst1 hst2 hst3 KD
          clear ecs esy
          go_wp2_with fail
          with_reducible refine KD.out.mono ?_
          rintro e w6 ⟨p6, c6, rfl, hh, hw⟩
          have T6 := Lib.hid hw
          clear hw hh KD T5 c0
          have KW := Lib.hid (ow_at C HF0.out rfl rfl T6.out)
          go_wp2_with fail
          with_reducible refine (KW.out).mono ?_
          rintro e w7 ⟨rfl, hb⟩
          have T7 := Lib.hid (ow_le C T6.out hb)
          clear hb T6 KW
          go_wp2_with fail
          with_reducible refine (ow_cascades C (by omega) (by omega) T7.out).mono ?_
          rintro e w8 ⟨rfl, hb⟩
          have T8 := Lib.hid (ow_le C T7.out hb)
          clear hb T7
          have HP8 : Hid (0 ≤ kk + (cs : Int) ∧ kk + (cs : Int) + (pot (lv b sy t.a) : Int) ≤ 3) := Lib.hid (by omega)
          obtain ⟨k8, ek8⟩ : ∃ k, kk + (cs : Int) = k := ⟨_, rfl⟩
          rw [ek8] at T8 HP8 ⊢
          have hm : ¬ lv b sx t.a < lv b sy t.a := by omega
          have hk1 : ¬ k8 < kk := by omega
          have hwr : IntKind.i64.wrap (kk + 1) = kk + 1 := by rw [IntKind.wrap_i64]; omega
          have HNX : Hid (0 ≤ k8 ∧ k8 + (pot (lv b sy t.a) : Int) ≤ 3 ∧ Ow Qu w Q 1 b sy k8 [t] bx w8) := Lib.hid ⟨HP8.out.1, HP8.out.2, T8.out⟩
          clear HP8 T8 hst2 hst3 hk3 hd
          generalize sv b sx t.a = v2 at *
          generalize sv b sy t.a = v3 at *
          rcases hst1 with ⟨hc1, hl1, hl2⟩ | ⟨hc0, hl⟩
          · have hk2 : ¬ kk + 1 < k8 := by omega
            have q1 : (k8 == kk + 1) = true := by simp; omega
            clear hc1 ek8
            obtain ⟨m0, em0⟩ : ∃ m, lv b sx t.a = m := ⟨_, rfl⟩
            obtain ⟨m1, em1⟩ : ∃ m, lv b sy t.a = m := ⟨_, rfl⟩
            rw [em0, em1] at hm hl1
            rw [em0] at hl2 ⊢
            rw [em1]
            clear em0 em1
            go_wp2
            go_roundw
            case rel => exact ⟨k8, j + 1, sy, rfl, by go_num, by omega, HNX.out.1, HNX.out.2.1, HNX.out.2.2⟩
            case measure => simp [intOf]; omega
          · have hk2 : ¬ kk + 1 < k8 := by omega
            have q1 : (k8 == kk + 1) = false := by simp; omega
            clear hc0 ek8
            obtain ⟨m0, em0⟩ : ∃ m, lv b sx t.a = m := ⟨_, rfl⟩
            obtain ⟨m1, em1⟩ : ∃ m, lv b sy t.a = m := ⟨_, rfl⟩
            rw [em0, em1] at hm hl
            rw [em0]
            rw [em1]
            clear em0 em1
            by_cases hl1 : m1 < m0
            · have hl2 : ¬ m0 ≤ 3 := fun e => hl ⟨hl1, e⟩
              clear hl
              go_wp2
              go_roundw
              case rel => exact ⟨k8, j + 1, sy, rfl, by go_num, by omega, HNX.out.1, HNX.out.2.1, HNX.out.2.2⟩
              case measure => simp [intOf]; omega
            · clear hl
              go_wp2
              go_roundw
              case rel => exact ⟨k8, j + 1, sy, rfl, by go_num, by omega, HNX.out.1, HNX.out.2.1, HNX.out.2.2⟩
              case measure => simp [intOf]; omega
      · have b3 : ¬ (j : Int) < (N : Int) := by omega
        have hkp : kk ≤ 3 := by omega
        obtain ⟨Zl, hzl⟩ := ow_zp C TW.out
        go_wp2_with fail
        with_reducible refine (ow_len C hzl (n := 1) rfl TW.out).mono ?_
        rintro e w6 ⟨rfl, hb⟩
        have HE := Lib.hid (TW.out.bel.trans hb)
        clear hb TW
        go_wp2
        go_ret
        exact ⟨rfl, HE.out⟩
  · have KI := Lib.hid (ow_insert C hi1 hi2 HTa.out T0.out)
    clear hi1 hi2 T0
    go_wp2_with fail
    with_reducible refine KI.out.mono ?_
    rintro e w3 ⟨rfl, hw⟩
    have HE := Lib.hid hw.bel
    clear hw KI a0 a1 a2
    go_wp2
    go_ret
    exact ⟨rfl, HE.out⟩
end Go.Proofs.YtdoceldofkaapaaGreatDoor
