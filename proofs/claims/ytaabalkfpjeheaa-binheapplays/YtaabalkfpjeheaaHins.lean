/-
  Contracts of Insert, Cancel and Move.
-/
import Derived.Test.YtaabalkfpjeheaaHq
namespace Go.Proofs.Ytaabalkfpjeheaa
open Go.RowKit
theorem perm_at : ∀ (l : List T) (i : Nat) (hi : i < l.length), l.Perm (l[i] :: l.eraseIdx i)
  | [], i, hi => by simp at hi
  | x :: r, 0, _ => List.Perm.refl _
  | x :: r, i + 1, hi => ((perm_at r i (by simpa using hi)).cons x).trans (List.Perm.swap _ _ _)
set_option maxHeartbeats 1000000 in
theorem insert_no (f : Nat → Prop) (Q P : Nat) (l : List T) (t : T) (er ix : Int) (w : World) (h : Qu f w Q P l) (K : ∀ w', Bel w w' → Calls Try.prog 33 #[.pointer (some ⟨Q, 0, none⟩), .int .i64 t.p] w' fun e w2 => e = .returned (.tuple #[.int .i64 ix, .int .i64 er]) ∧ w' = w2)
    (r : Int) (hr : er = 0 ∧ r = 4 ∨ er = 1 ∧ r = 1) :
    Calls Try.prog 22 #[.pointer (some ⟨Q, 0, none⟩), .agg #[.int .u64 t.a, .int .u64 t.s, .int .i64 t.p]] w fun e w' => e = .returned (.int .i64 r) ∧ ∃ f', (∀ j, f' j → f j ∨ (w.heap.size ≤ j ∧ j < w'.heap.size)) ∧ Qu f' w' Q P l ∧ Off f w w' := by
  have K := Lib.hid K
  have HB : Hid (Bel w (w.alloc (.cells #[.int .u64 t.a, .int .u64 t.s, .int .i64 t.p] 25))) := Lib.hid ((Bel.refl _).alloc _ _)
  have HN : Hid ((w.alloc (.cells #[.int .u64 t.a, .int .u64 t.s, .int .i64 t.p] 25)).heap[w.heap.size]? = some (.cells #[.int .u64 t.a, .int .u64 t.s, .int .i64 t.p] 25 (0, 0))) := Lib.hid (heap_alloc_new _ _)
  have HE : Hid (∃ f', (∀ j, f' j → f j ∨ (w.heap.size ≤ j ∧ j < (w.alloc (.cells #[.int .u64 t.a, .int .u64 t.s, .int .i64 t.p] 25)).heap.size)) ∧ Qu f' (w.alloc (.cells #[.int .u64 t.a, .int .u64 t.s, .int .i64 t.p] 25)) Q P l ∧ Off f w (w.alloc (.cells #[.int .u64 t.a, .int .u64 t.s, .int .i64 t.p] 25))) := Lib.hid ⟨f, fun j e => .inl e, h.bel HB.out, HB.out.off f⟩
  clear h
  rcases hr with ⟨rfl, rfl⟩ | ⟨rfl, rfl⟩
  all_goals
    go_enter Try.func22, Try.ntmps22
    go_upto_region 1 with (fail)
    generalize w.alloc (.cells #[.int .u64 t.a, .int .u64 t.s, .int .i64 t.p] 25) = W at *
    obtain ⟨⟨b0, b1, b2⟩, _⟩ := box3 HN.out
    go_wp2_with fail
    with_reducible refine (K.out _ HB.out).mono ?_
    rintro e w1 ⟨rfl, rfl⟩
    go_wp2
    go_ret
    exact ⟨rfl, HE.out⟩
set_option maxHeartbeats 1000000 in
theorem insert_ok (f : Nat → Prop) (Q P : Nat) (l : List T) (t : T) (k : Nat) (w : World) (h : Qu f w Q P l) (ht : t.p = k) (hk : k < P) (hf : fnd l k = none) :
    Calls Try.prog 22 #[.pointer (some ⟨Q, 0, none⟩), .agg #[.int .u64 t.a, .int .u64 t.s, .int .i64 t.p]] w fun e w' => e = .returned (.int .i64 0) ∧ ∃ f', (∀ j, f' j → f j ∨ (w.heap.size ≤ j ∧ j < w'.heap.size)) ∧ Qu f' w' Q P (put l t) ∧ Off f w w' := by
  obtain ⟨⟨C, S, p, cap, hh, wh, h1, h2, h3, rfl⟩, hP, hl⟩ := h
  have hno : wh k = -1 := by
    rcases h2.place hk with ⟨e, _⟩ | ⟨i, _, _, _, e⟩
    · exact e
    · rw [hf] at e; cases e
  have HB : Hid (Bel w (w.alloc (.cells #[.int .u64 t.a, .int .u64 t.s, .int .i64 t.p] 25))) := Lib.hid ((Bel.refl _).alloc _ _)
  have HN : Hid ((w.alloc (.cells #[.int .u64 t.a, .int .u64 t.s, .int .i64 t.p] 25)).heap[w.heap.size]? = some (.cells #[.int .u64 t.a, .int .u64 t.s, .int .i64 t.p] 25 (0, 0))) := Lib.hid (heap_alloc_new _ _)
  have K1 := Lib.hid (fun w' (b : Bel w w') => find_no' f Q C S P p cap hh wh k w' (h1.bel b) hk hno)
  rw [← ht] at K1
  have K2 := Lib.hid (fun w' (b : Bel w w') => push_any f Q C S P p cap hh wh t k w' (h1.bel b) h2 h3 hP ht hk hno (fun j e => Nat.lt_of_lt_of_le (hl j e) b.size))
  have HP : Hid (∀ l' : List T, l'.Perm (hh ++ [t]) → srt l' = put (srt hh) t) := Lib.hid (fun l' pe => by rw [srt_same pe, srt_snoc])
  have HL := Lib.hid hl
  clear h1 h2 h3 ht hf hno hl
  go_enter Try.func22, Try.ntmps22
  go_upto_region 1 with (fail)
  generalize w.alloc (.cells #[.int .u64 t.a, .int .u64 t.s, .int .i64 t.p] 25) = W at *
  obtain ⟨⟨b0, b1, b2⟩, _⟩ := box3 HN.out
  go_wp2_with fail
  with_reducible refine (K1.out _ HB.out).mono ?_
  rintro e w1 ⟨rfl, rfl⟩
  obtain ⟨c9, e9⟩ : ∃ b, w.heap.size = b := ⟨_, rfl⟩
  rw [e9] at b0 b1 b2 ⊢
  have HX : Hid (¬ f c9) := Lib.hid (fun e => by have := HL.out _ e; omega)
  go_wp2
  go_region_held3 (fun w' => w'.cell? ⟨c9, 0, none⟩ = some (.int .u64 t.a) ∧ w'.cell? ⟨c9, 1, none⟩ = some (.int .u64 t.s) ∧ w'.cell? ⟨c9, 2, none⟩ = some (.int .i64 t.p)) (first | exact ⟨b0, b1, b2⟩ | exact ⟨((Off.refl f W).drew.then ho).cell HX.out b0, ((Off.refl f W).drew.then ho).cell HX.out b1, ((Off.refl f W).drew.then ho).cell HX.out b2⟩)
    (first | (go_at_call 36; (with_reducible refine (K2.out _ HB.out.drew).mono ?_); rintro e w2 ⟨rfl, f', p', cap', l', wh', hff, hm, hw, hhp, hpe, ho⟩))
  have HE : Hid (∃ f', (∀ j, f' j → f j ∨ (w.heap.size ≤ j ∧ j < w2.heap.size)) ∧ Qu f' w2 Q P (put (srt hh) t) ∧ Off f w w2) := Lib.hid (by
    refine ⟨f', fun j e => ?_, ⟨⟨C, S, p', cap', l', wh', hm, hw, hhp, HP.out l' hpe⟩, hP, fun j e => ?_⟩, (HB.out.drew.off f).then ho⟩
    · rcases hff j e with e | e
      · exact .inl e
      · exact .inr ⟨Nat.le_trans HB.out.drew.size e.1, e.2⟩
    · rcases hff j e with e | e
      · exact Nat.lt_of_lt_of_le (HL.out j e) ((HB.out.drew.off f).then ho).size
      · exact e.2)
  clear hff hm hw hhp hpe ho
  go_wp2
  go_ret
  exact ⟨rfl, HE.out⟩
theorem insert_any (f : Nat → Prop) (Q P : Nat) (l : List T) (t : T) (w : World) (h : Qu f w Q P l) :
    Calls Try.prog 22 #[.pointer (some ⟨Q, 0, none⟩), .agg #[.int .u64 t.a, .int .u64 t.s, .int .i64 t.p]] w fun e w' => e = .returned (.int .i64 (insE P l t)) ∧ ∃ f', (∀ j, f' j → f j ∨ (w.heap.size ≤ j ∧ j < w'.heap.size)) ∧ Qu f' w' Q P (insL P l t) ∧ Off f w w' := by
  rcases insE_cases P l t with ⟨e, hk⟩ | ⟨k, ek, hk, ⟨e, x, hx⟩ | ⟨e, hx⟩⟩
  · have e2 : insL P l t = l := by unfold insL; rw [e]; rfl
    rw [e, e2]
    obtain ⟨⟨C, S, p, cap, hh, wh, h1, h2, h3, h4⟩, _⟩ := id h
    exact insert_no f Q P l t 1 (-1) w h (fun w' b => find_out f Q C S P p cap hh wh t.p w' (h1.bel b) hk) 1 (.inr ⟨rfl, rfl⟩)
  · have e2 : insL P l t = l := by unfold insL; rw [e]; rfl
    rw [e, e2]
    obtain ⟨⟨C, S, p, cap, hh, wh, h1, h2, h3, h4⟩, _⟩ := id h
    rcases h2.place hk with ⟨_, n⟩ | ⟨i, i1, i2, i3, i4⟩
    · rw [h4, hx] at n; cases n
    · exact insert_no f Q P l t 0 i w h (fun w' b => by rw [ek]; exact find_at f Q C S P p cap hh wh k i w' (h1.bel b) hk i2) 4 (.inl ⟨rfl, rfl⟩)
  · have e2 : insL P l t = put l t := by unfold insL; rw [e]; rfl
    rw [e, e2]
    exact insert_ok f Q P l t k w h ek hk hx
set_option maxHeartbeats 1000000 in
theorem cancel_no (f : Nat → Prop) (Q P : Nat) (l : List T) (k er ix : Int) (w : World) (hne : ¬ er = 0) (h : Qu f w Q P l) (K : ∀ w', Bel w w' → Calls Try.prog 33 #[.pointer (some ⟨Q, 0, none⟩), .int .i64 k] w' fun e w2 => e = .returned (.tuple #[.int .i64 ix, .int .i64 er]) ∧ w' = w2) :
    Calls Try.prog 23 #[.pointer (some ⟨Q, 0, none⟩), .int .i64 k] w fun e w' => e = .returned (canV default er) ∧ Qu f w' Q P l ∧ Off f w w' := by
  have K := Lib.hid K
  have HB : Hid (Bel w (w.alloc (.cells #[.int .u64 0, .int .u64 0, .int .i64 0] 25))) := Lib.hid ((Bel.refl _).alloc _ _)
  have HN : Hid ((w.alloc (.cells #[.int .u64 0, .int .u64 0, .int .i64 0] 25)).heap[w.heap.size]? = some (.cells #[.int .u64 0, .int .u64 0, .int .i64 0] 25 (0, 0))) := Lib.hid (heap_alloc_new _ _)
  have hne2 : (er != 0) = true := by simpa using hne
  have H := Lib.hid h
  clear h hne
  unfold canV
  simp only [default]
  go_enter Try.func23, Try.ntmps23
  go_upto_region 1 with (fail)
  generalize w.alloc (.cells #[.int .u64 0, .int .u64 0, .int .i64 0] 25) = W at *
  obtain ⟨⟨b0, b1, b2⟩, f0, f1, f2⟩ := box3 HN.out
  go_wp2_with fail
  with_reducible refine (K.out _ HB.out).mono ?_
  rintro e w1 ⟨rfl, rfl⟩
  have HE := Lib.hid (bel3 HB.out (Nat.le_refl _) (.int .u64 0) (.int .u64 0) (.int .i64 0))
  go_wp2
  exact bodyPost_ret (v := .tuple #[.agg #[.int .u64 0, .int .u64 0, .int .i64 0], .int .i64 er]) (by simp [results, Try.results23, go_sem, b0, b1, b2]) rfl ⟨rfl, H.out.bel HE.out, HE.out.off f⟩
set_option maxHeartbeats 1000000 in
theorem cancel_ok (f : Nat → Prop) (Q P : Nat) (l : List T) (k : Nat) (x : T) (w : World) (h : Qu f w Q P l) (hk : k < P) (hx : fnd l k = some x) :
    Calls Try.prog 23 #[.pointer (some ⟨Q, 0, none⟩), .int .i64 k] w fun e w' => e = .returned (canV x 0) ∧ Qu f w' Q P (wo l k) ∧ Off f w w' := by
  obtain ⟨⟨C, S, p, cap, hh, wh, h1, h2, h3, rfl⟩, hP, hl⟩ := h
  obtain ⟨i, i1, i2, i3, i4⟩ : ∃ i : Nat, i < hh.length ∧ wh k = i ∧ (gt hh i).p = k ∧ gt hh i = x := by
    rcases h2.place hk with ⟨_, e⟩ | ⟨i, a, b, c, e⟩
    · rw [hx] at e; cases e
    · rw [hx] at e; injection e with e; exact ⟨i, a, b, c, e.symm⟩
  have HB : Hid (Bel w (w.alloc (.cells #[.int .u64 0, .int .u64 0, .int .i64 0] 25))) := Lib.hid ((Bel.refl _).alloc _ _)
  have HN : Hid ((w.alloc (.cells #[.int .u64 0, .int .u64 0, .int .i64 0] 25)).heap[w.heap.size]? = some (.cells #[.int .u64 0, .int .u64 0, .int .i64 0] 25 (0, 0))) := Lib.hid (heap_alloc_new _ _)
  have K1 := Lib.hid (fun w' (b : Bel w w') => find_at f Q C S P p cap hh wh k i w' (h1.bel b) hk i2)
  have K2 := Lib.hid (fun w' (b : Bel w w') => take_any f Q C S P p cap hh wh i w' (h1.bel b) h2 h3 hP i1 (fun j e => Nat.lt_of_lt_of_le (hl j e) b.size))
  have HW : Hid (∀ l' : List T, hh.Perm (x :: l') → srt l' = wo (srt hh) k) := Lib.hid (fun l' pe => by have := h2.without i1 (by rw [i4]; exact pe); rw [i3] at this; exact this)
  rw [i4] at K2
  have HL := Lib.hid hl
  clear h1 h2 h3 hx i1 i2 i3 i4 hl
  unfold canV
  go_enter Try.func23, Try.ntmps23
  go_upto_region 1 with (fail)
  generalize w.alloc (.cells #[.int .u64 0, .int .u64 0, .int .i64 0] 25) = W at *
  go_wp2_with fail
  with_reducible refine (K1.out _ HB.out).mono ?_
  rintro e w1 ⟨rfl, rfl⟩
  go_wp2_with fail
  with_reducible refine (K2.out _ HB.out).mono ?_
  rintro e w2 ⟨rfl, ⟨l', wh', hm, hw, hhp, hpe⟩, ho⟩
  obtain ⟨c9, e9⟩ : ∃ b, w.heap.size = b := ⟨_, rfl⟩
  rw [e9] at HN ⊢
  have HX : Hid (¬ f c9) := Lib.hid (fun e => by have := HL.out _ e; omega)
  have lW : c9 < W.heap.size := (Array.getElem?_eq_some_iff.1 HN.out).1
  obtain ⟨⟨b0, b1, b2⟩, f0, f1, f2⟩ := box3 ((ho.block _ lW HX.out).trans HN.out)
  have HE : Hid (∀ W', Off (fun j => j = c9) w2 W' → Qu f W' Q P (wo (srt hh) k) ∧ Off f w W') := Lib.hid (fun W' o => by
    have o2 : Off f w W' := Off.trans ((HB.out.off f).then ho) o (fun i e => .inr (by have : i = c9 := e; omega))
    exact ⟨⟨⟨C, S, p, cap, l', wh', hm.off o (fun i hi e => HX.out (by rw [← show i = c9 from e]; exact hi)), hw, hhp, HW.out l' hpe⟩, hP, fun j e => Nat.lt_of_lt_of_le (HL.out j e) o2.size⟩, o2⟩)
  clear hm hw hhp hpe ho
  go_wp2
  exact bodyPost_ret (v := .tuple #[.agg #[.int .u64 x.a, .int .u64 x.s, .int .i64 x.p], .int .i64 0]) (by simp [results, Try.results23, go_sem, b0, b1, b2]) rfl ⟨rfl, HE.out _ (off3 _ _ _ _ _)⟩
theorem cancel_any (f : Nat → Prop) (Q P : Nat) (l : List T) (k : Int) (w : World) (h : Qu f w Q P l) :
    Calls Try.prog 23 #[.pointer (some ⟨Q, 0, none⟩), .int .i64 k] w fun e w' => e = .returned (canV ((fnd l k).getD default) (canE P l k)) ∧ Qu f w' Q P (wo l k) ∧ Off f w w' := by
  obtain ⟨⟨C, S, p, cap, hh, wh, h1, h2, h3, h4⟩, _⟩ := id h
  rcases canE_cases P l k with ⟨_, ⟨e, hk⟩ | ⟨e, hk, hf⟩⟩ | ⟨e, j, rfl, hj, x, hx⟩
  · have hf : fnd l k = none := by rw [← h4]; exact h2.outside hk
    rw [e, hf, wo_none hf]
    exact cancel_no f Q P l k 1 (-1) w (by decide) h (fun w' b => find_out f Q C S P p cap hh wh k w' (h1.bel b) hk)
  · rw [e, hf, wo_none hf]
    obtain ⟨j, rfl, hj⟩ := hp_nat hk
    rcases h2.place hj with ⟨e1, e2⟩ | ⟨i, i1, i2, i3, i4⟩
    · exact cancel_no f Q P l j 5 (-1) w (by decide) h (fun w' b => find_no' f Q C S P p cap hh wh j w' (h1.bel b) hj e1)
    · rw [h4, hf] at i4; cases i4
  · rw [e, hx]
    exact cancel_ok f Q P l j x w h hj hx
set_option maxHeartbeats 1000000 in
theorem move_no (f : Nat → Prop) (Q P : Nat) (l : List T) (t : T) (er ix : Int) (w : World) (hne : ¬ er = 0) (h : Qu f w Q P l) (K : ∀ w', Bel w w' → Calls Try.prog 33 #[.pointer (some ⟨Q, 0, none⟩), .int .i64 t.p] w' fun e w2 => e = .returned (.tuple #[.int .i64 ix, .int .i64 er]) ∧ w' = w2) :
    Calls Try.prog 25 #[.pointer (some ⟨Q, 0, none⟩), .agg #[.int .u64 t.a, .int .u64 t.s, .int .i64 t.p]] w fun e w' => e = .returned (.int .i64 er) ∧ Qu f w' Q P l ∧ Off f w w' := by
  have K := Lib.hid K
  have HB : Hid (Bel w (w.alloc (.cells #[.int .u64 t.a, .int .u64 t.s, .int .i64 t.p] 25))) := Lib.hid ((Bel.refl _).alloc _ _)
  have HN : Hid ((w.alloc (.cells #[.int .u64 t.a, .int .u64 t.s, .int .i64 t.p] 25)).heap[w.heap.size]? = some (.cells #[.int .u64 t.a, .int .u64 t.s, .int .i64 t.p] 25 (0, 0))) := Lib.hid (heap_alloc_new _ _)
  have hne2 : (er != 0) = true := by simpa using hne
  have H := Lib.hid h
  clear h hne
  go_enter Try.func25, Try.ntmps25
  go_upto_region 1 with (fail)
  generalize w.alloc (.cells #[.int .u64 t.a, .int .u64 t.s, .int .i64 t.p] 25) = W at *
  obtain ⟨⟨b0, b1, b2⟩, _⟩ := box3 HN.out
  go_wp2_with fail
  with_reducible refine (K.out _ HB.out).mono ?_
  rintro e w1 ⟨rfl, rfl⟩
  go_wp2
  go_ret
  exact ⟨rfl, H.out.bel HB.out, HB.out.off f⟩
set_option maxHeartbeats 1000000 in
theorem move_ok (f : Nat → Prop) (Q P : Nat) (l : List T) (t : T) (k : Nat) (x : T) (w : World) (h : Qu f w Q P l) (ht : t.p = k) (hk : k < P) (hx : fnd l k = some x) :
    Calls Try.prog 25 #[.pointer (some ⟨Q, 0, none⟩), .agg #[.int .u64 t.a, .int .u64 t.s, .int .i64 t.p]] w fun e w' => e = .returned (.int .i64 0) ∧ Qu f w' Q P (put (wo l t.p) t) ∧ Off f w w' := by
  obtain ⟨⟨C, S, p, cap, hh, wh, h1, h2, h3, rfl⟩, hP, hl⟩ := h
  obtain ⟨i, i1, i2, i3, i4⟩ : ∃ i : Nat, i < hh.length ∧ wh k = i ∧ (gt hh i).p = k ∧ gt hh i = x := by
    rcases h2.place hk with ⟨_, e⟩ | ⟨i, a, b, c, e⟩
    · rw [hx] at e; cases e
    · rw [hx] at e; injection e with e; exact ⟨i, a, b, c, e.symm⟩
  have HB : Hid (Bel w (w.alloc (.cells #[.int .u64 t.a, .int .u64 t.s, .int .i64 t.p] 25))) := Lib.hid ((Bel.refl _).alloc _ _)
  have HN : Hid ((w.alloc (.cells #[.int .u64 t.a, .int .u64 t.s, .int .i64 t.p] 25)).heap[w.heap.size]? = some (.cells #[.int .u64 t.a, .int .u64 t.s, .int .i64 t.p] 25 (0, 0))) := Lib.hid (heap_alloc_new _ _)
  have K1 := Lib.hid (fun w' (b : Bel w w') => find_at f Q C S P p cap hh wh k i w' (h1.bel b) hk i2)
  rw [← ht] at K1
  have K2 := Lib.hid (fun w' (b : Bel w w') => replace_any f Q C S P p cap hh wh i t w' (h1.bel b) h2 h3 hP i1 (by rw [ht, i3]))
  have HP : Hid (∀ l' : List T, l'.Perm (hh.set i t) → srt l' = put (wo (srt hh) t.p) t) := Lib.hid (fun l' pe => by
    have hs : hh.Perm (gt hh i :: hh.eraseIdx i) := by
      rw [gt_mem hh i i1]
      exact perm_at hh i i1
    have hw := h2.without i1 hs
    rw [i3, ← ht] at hw
    rw [← hw]
    have ps : (hh.set i t).Perm (hh.eraseIdx i ++ [t]) := by
      have h5 : (hh.set i t).Perm ((hh.set i t)[i]'(by rw [List.length_set]; exact i1) :: (hh.set i t).eraseIdx i) := perm_at _ i (by rw [List.length_set]; exact i1)
      rw [List.getElem_set_self, List.eraseIdx_set_eq] at h5
      exact h5.trans (perm_last _ t).symm
    rw [srt_same (pe.trans ps), srt_snoc])
  have HL := Lib.hid hl
  clear h1 h2 h3 ht hx i1 i2 i3 i4 hl
  go_enter Try.func25, Try.ntmps25
  go_upto_region 1 with (fail)
  generalize w.alloc (.cells #[.int .u64 t.a, .int .u64 t.s, .int .i64 t.p] 25) = W at *
  obtain ⟨⟨b0, b1, b2⟩, _⟩ := box3 HN.out
  go_wp2_with fail
  with_reducible refine (K1.out _ HB.out).mono ?_
  rintro e w1 ⟨rfl, rfl⟩
  obtain ⟨c9, e9⟩ : ∃ b, w.heap.size = b := ⟨_, rfl⟩
  rw [e9] at b0 b1 b2 ⊢
  have HX : Hid (¬ f c9) := Lib.hid (fun e => by have := HL.out _ e; omega)
  go_wp2
  go_region_held3 (fun w' => w'.cell? ⟨c9, 0, none⟩ = some (.int .u64 t.a) ∧ w'.cell? ⟨c9, 1, none⟩ = some (.int .u64 t.s) ∧ w'.cell? ⟨c9, 2, none⟩ = some (.int .i64 t.p)) (first | exact ⟨b0, b1, b2⟩ | exact ⟨((Off.refl f W).drew.then hs.off).cell HX.out b0, ((Off.refl f W).drew.then hs.off).cell HX.out b1, ((Off.refl f W).drew.then hs.off).cell HX.out b2⟩)
    (first | (go_at_call 41; (with_reducible refine (K2.out _ HB.out.drew).mono ?_); rintro e w2 ⟨rfl, l', wh', hhp, hs⟩))
  have HE : Hid (Qu f w2 Q P (put (wo (srt hh) t.p) t) ∧ Off f w w2) := Lib.hid (by
    have o2 : Off f w w2 := (HB.out.drew.off f).then hs.off
    exact ⟨⟨⟨C, S, p, cap, l', wh', hs.hm, hs.wh, hhp, HP.out l' hs.perm⟩, hP, fun j e => Nat.lt_of_lt_of_le (HL.out j e) o2.size⟩, o2⟩)
  clear hhp hs
  go_wp2
  go_ret
  exact ⟨rfl, HE.out⟩
theorem move_any (f : Nat → Prop) (Q P : Nat) (l : List T) (t : T) (w : World) (h : Qu f w Q P l) :
    Calls Try.prog 25 #[.pointer (some ⟨Q, 0, none⟩), .agg #[.int .u64 t.a, .int .u64 t.s, .int .i64 t.p]] w fun e w' => e = .returned (.int .i64 (canE P l t.p)) ∧ Qu f w' Q P (movL P l t) ∧ Off f w w' := by
  obtain ⟨⟨C, S, p, cap, hh, wh, h1, h2, h3, h4⟩, _⟩ := id h
  rcases canE_cases P l t.p with ⟨_, ⟨e, hk⟩ | ⟨e, hk, hf⟩⟩ | ⟨e, j, ej, hj, x, hx⟩
  · have e2 : movL P l t = l := by unfold movL; rw [e]; rfl
    rw [e, e2]
    exact move_no f Q P l t 1 (-1) w (by decide) h (fun w' b => find_out f Q C S P p cap hh wh t.p w' (h1.bel b) hk)
  · have e2 : movL P l t = l := by unfold movL; rw [e]; rfl
    rw [e, e2]
    obtain ⟨j, ej, hj⟩ := hp_nat hk
    rcases h2.place hj with ⟨e1, _⟩ | ⟨i, i1, i2, i3, i4⟩
    · exact move_no f Q P l t 5 (-1) w (by decide) h (fun w' b => by rw [ej]; exact find_no' f Q C S P p cap hh wh j w' (h1.bel b) hj e1)
    · rw [ej] at hf; rw [h4, hf] at i4; cases i4
  · have e2 : movL P l t = put (wo l t.p) t := by unfold movL; rw [e]; rfl
    rw [e, e2]
    exact move_ok f Q P l t j x w h ej hj hx
end Go.Proofs.Ytaabalkfpjeheaa
