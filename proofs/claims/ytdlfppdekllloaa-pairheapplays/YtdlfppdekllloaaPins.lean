/-
  Contracts of Insert, Cancel, Move and Due.
-/
import Derived.Test.YtdlfppdekllloaaPtake
set_option linter.unusedVariables false
set_option linter.unusedSimpArgs false
namespace Go.Proofs.Ytdlfppdekllloaa
open Go.RowKit
theorem Be.qu {f : Nat → Prop} {w : World} {Q S P : Nat} {tr : Tr} {wh : Nat → Option Nat} {l : List T} (h : Be f w Q S P tr wh) (hP : P ≤ 1024) (hl : srt tr.ts = l) (hf : ∀ k, f k → k < w.heap.size) : Qu f w Q P l := ⟨⟨S, tr, wh, h.hm, h.wn, h.root, h.ho, hl⟩, hP, hf⟩
theorem srt_put {l m : List T} {t : T} (p : m.Perm (t :: l)) : srt m = put (srt l) t := by
  rw [srt_same (p.trans (List.perm_append_comm (l₁ := [t]))), srt_snoc]
set_option maxHeartbeats 1000000 in
theorem insert_no (f : Nat → Prop) (Q P : Nat) (l : List T) (t : T) (er : Int) (pv : Option Addr) (w : World) (h : Qu f w Q P l) (K : ∀ w', Bel w w' → Calls Try.prog 51 #[pt Q, .int .i64 t.p] w' fun e w2 => e = .returned (.tuple #[.pointer pv, .int .i64 er]) ∧ w' = w2)
    (r : Int) (hr : er = 0 ∧ r = 4 ∨ er = 1 ∧ r = 1) :
    Calls Try.prog 27 #[.pointer (some ⟨Q, 0, none⟩), .agg #[.int .u64 t.a, .int .u64 t.s, .int .i64 t.p]] w fun e w' => e = .returned (.int .i64 r) ∧ ∃ f', (∀ j, f' j → f j ∨ (w.heap.size ≤ j ∧ j < w'.heap.size)) ∧ Qu f' w' Q P l ∧ Off f w w' := by
  have K := Lib.hid K
  have HB : Hid (Bel w (w.alloc (.cells #[.int .u64 t.a, .int .u64 t.s, .int .i64 t.p] 35))) := Lib.hid ((Bel.refl _).alloc _ _)
  have HN : Hid ((w.alloc (.cells #[.int .u64 t.a, .int .u64 t.s, .int .i64 t.p] 35)).heap[w.heap.size]? = some (.cells #[.int .u64 t.a, .int .u64 t.s, .int .i64 t.p] 35 (0, 0))) := Lib.hid (heap_alloc_new _ _)
  have HE : Hid (∃ f', (∀ j, f' j → f j ∨ (w.heap.size ≤ j ∧ j < (w.alloc (.cells #[.int .u64 t.a, .int .u64 t.s, .int .i64 t.p] 35)).heap.size)) ∧ Qu f' (w.alloc (.cells #[.int .u64 t.a, .int .u64 t.s, .int .i64 t.p] 35)) Q P l ∧ Off f w (w.alloc (.cells #[.int .u64 t.a, .int .u64 t.s, .int .i64 t.p] 35))) := Lib.hid ⟨f, fun j e => .inl e, h.bel HB.out, HB.out.off f⟩
  clear h
  rcases hr with ⟨rfl, rfl⟩ | ⟨rfl, rfl⟩
  all_goals
    go_enter Try.func27, Try.ntmps27
    go_upto_region 1 with (fail)
    generalize w.alloc (.cells #[.int .u64 t.a, .int .u64 t.s, .int .i64 t.p] 35) = W at *
    obtain ⟨⟨b0, b1, b2⟩, _⟩ := box3 HN.out
    go_wp2_with fail
    with_reducible refine (K.out _ HB.out).mono ?_
    rintro e w1 ⟨rfl, rfl⟩
    go_wp2
    go_ret
    exact ⟨rfl, HE.out⟩
set_option maxHeartbeats 1000000 in
theorem insert_ok (f : Nat → Prop) (Q P : Nat) (l : List T) (t : T) (k : Nat) (w : World) (h : Qu f w Q P l) (ht : t.p = k) (hk : k < P) (hf : fnd l k = none) :
    Calls Try.prog 27 #[.pointer (some ⟨Q, 0, none⟩), .agg #[.int .u64 t.a, .int .u64 t.s, .int .i64 t.p]] w fun e w' => e = .returned (.int .i64 0) ∧ ∃ f', (∀ j, f' j → f j ∨ (w.heap.size ≤ j ∧ j < w'.heap.size)) ∧ Qu f' w' Q P (put l t) ∧ Off f w w' := by
  obtain ⟨⟨S, tr, wh, h1, h2, h3, h4, rfl⟩, hP, hl⟩ := h
  have hno : wh k = none := by
    rcases h2.place hk with ⟨e, _⟩ | ⟨a, x, _, _, _, e⟩
    · exact e
    · rw [hf] at e; cases e
  have HB : Hid (Bel w (w.alloc (.cells #[.int .u64 t.a, .int .u64 t.s, .int .i64 t.p] 35))) := Lib.hid ((Bel.refl _).alloc _ _)
  have HN : Hid ((w.alloc (.cells #[.int .u64 t.a, .int .u64 t.s, .int .i64 t.p] 35)).heap[w.heap.size]? = some (.cells #[.int .u64 t.a, .int .u64 t.s, .int .i64 t.p] 35 (0, 0))) := Lib.hid (heap_alloc_new _ _)
  have K1 := Lib.hid (fun w' (b : Bel w w') => find_no' f Q S P tr wh k w' (h1.bel b) hk hno)
  rw [← ht] at K1
  have K2 := Lib.hid (fun w' (b : Bel w w') => put_any f Q S P tr wh t k w' (h1.bel b) h2 h3 h4 ht hk hno (fun j e => Nat.lt_of_lt_of_le (hl j e) b.size))
  have HL := Lib.hid hl
  clear h1 h2 h3 h4 ht hf hno hl
  go_enter Try.func27, Try.ntmps27
  go_upto_region 1 with (fail)
  generalize w.alloc (.cells #[.int .u64 t.a, .int .u64 t.s, .int .i64 t.p] 35) = W at *
  obtain ⟨⟨b0, b1, b2⟩, _⟩ := box3 HN.out
  go_wp2_with fail
  with_reducible refine (K1.out _ HB.out).mono ?_
  rintro e w1 ⟨rfl, rfl⟩
  go_wp2_with fail
  with_reducible refine (K2.out _ HB.out).mono ?_
  rintro e w2 ⟨rfl, f', tr', wh', hff, hbe, hpe, hoo⟩
  have HE : Hid (∃ f', (∀ j, f' j → f j ∨ (w.heap.size ≤ j ∧ j < w2.heap.size)) ∧ Qu f' w2 Q P (put (srt tr.ts) t) ∧ Off f w w2) := Lib.hid (by
    have o2 : Off f w w2 := (HB.out.off f).then hoo
    have hs := HB.out.size
    refine ⟨f', fun j e => ?_, hbe.qu hP (srt_put hpe) (fun j e => ?_), o2⟩
    · rcases hff j e with e | e
      · exact .inl e
      · exact .inr ⟨by omega, e.2⟩
    · rcases hff j e with e | e
      · exact Nat.lt_of_lt_of_le (HL.out j e) o2.size
      · exact e.2)
  clear hff hbe hpe hoo
  go_wp2
  go_ret
  exact ⟨rfl, HE.out⟩
theorem insert_any (f : Nat → Prop) (Q P : Nat) (l : List T) (t : T) (w : World) (h : Qu f w Q P l) :
    Calls Try.prog 27 #[.pointer (some ⟨Q, 0, none⟩), .agg #[.int .u64 t.a, .int .u64 t.s, .int .i64 t.p]] w fun e w' => e = .returned (.int .i64 (insE P l t)) ∧ ∃ f', (∀ j, f' j → f j ∨ (w.heap.size ≤ j ∧ j < w'.heap.size)) ∧ Qu f' w' Q P (insL P l t) ∧ Off f w w' := by
  obtain ⟨⟨S, tr, wh, h1, h2, h3, h4, h5⟩, _⟩ := id h
  rcases insE_cases P l t with ⟨e, hk⟩ | ⟨k, ek, hk, ⟨e, x, hx⟩ | ⟨e, hf⟩⟩
  · have e2 : insL P l t = l := by unfold insL; rw [e]; rfl
    rw [e, e2]
    exact insert_no f Q P l t 1 none w h (fun w' b => find_out f Q S P tr wh t.p w' (h1.bel b) hk) 1 (.inr ⟨rfl, rfl⟩)
  · have e2 : insL P l t = l := by unfold insL; rw [e]; rfl
    rw [e, e2]
    rcases h2.place hk with ⟨_, e1⟩ | ⟨a, y, i1, i2, i3, i4⟩
    · rw [h5, hx] at e1; cases e1
    · exact insert_no f Q P l t 0 (some ⟨a, 0, none⟩) w h (fun w' b => by rw [ek]; exact find_at f Q S P tr wh k a w' (h1.bel b) hk i2) 4 (.inl ⟨rfl, rfl⟩)
  · have e2 : insL P l t = put l t := by unfold insL; rw [e]; rfl
    rw [e, e2]
    exact insert_ok f Q P l t k w h ek hk hf
set_option maxHeartbeats 1000000 in
theorem cancel_no (f : Nat → Prop) (Q P : Nat) (l : List T) (k er : Int) (w : World) (hne : ¬ er = 0) (h : Qu f w Q P l) (K : ∀ w', Bel w w' → Calls Try.prog 51 #[pt Q, .int .i64 k] w' fun e w2 => e = .returned (.tuple #[pn, .int .i64 er]) ∧ w' = w2) :
    Calls Try.prog 25 #[.pointer (some ⟨Q, 0, none⟩), .int .i64 k] w fun e w' => e = .returned (canV default er) ∧ Qu f w' Q P l ∧ Off f w w' := by
  have K := Lib.hid K
  have HB : Hid (Bel w (w.alloc (.cells #[.int .u64 0, .int .u64 0, .int .i64 0] 35))) := Lib.hid ((Bel.refl _).alloc _ _)
  have HN : Hid ((w.alloc (.cells #[.int .u64 0, .int .u64 0, .int .i64 0] 35)).heap[w.heap.size]? = some (.cells #[.int .u64 0, .int .u64 0, .int .i64 0] 35 (0, 0))) := Lib.hid (heap_alloc_new _ _)
  have hne2 : (er != 0) = true := by simpa using hne
  have H := Lib.hid h
  clear h hne
  unfold canV
  simp only [default]
  go_enter Try.func25, Try.ntmps25
  go_upto_region 1 with (fail)
  generalize w.alloc (.cells #[.int .u64 0, .int .u64 0, .int .i64 0] 35) = W at *
  obtain ⟨⟨b0, b1, b2⟩, f0, f1, f2⟩ := box3 HN.out
  go_wp2_with fail
  with_reducible refine (K.out _ HB.out).mono ?_
  rintro e w1 ⟨rfl, rfl⟩
  have HE := Lib.hid (bel3 HB.out (Nat.le_refl _) (.int .u64 0) (.int .u64 0) (.int .i64 0))
  go_wp2
  exact bodyPost_ret (v := .tuple #[.agg #[.int .u64 0, .int .u64 0, .int .i64 0], .int .i64 er]) (by simp [results, Try.results25, go_sem, b0, b1, b2]) rfl ⟨rfl, H.out.bel HE.out, HE.out.off f⟩
set_option maxHeartbeats 1000000 in
theorem cancel_ok (f : Nat → Prop) (Q P : Nat) (l : List T) (k : Nat) (x : T) (w : World) (h : Qu f w Q P l) (hk : k < P) (hx : fnd l k = some x) :
    Calls Try.prog 25 #[.pointer (some ⟨Q, 0, none⟩), .int .i64 k] w fun e w' => e = .returned (canV x 0) ∧ Qu f w' Q P (wo l k) ∧ Off f w w' := by
  obtain ⟨⟨S, tr, wh, h1, h2, h3, h4, rfl⟩, hP, hl⟩ := h
  obtain ⟨a, i1, i2, i3⟩ : ∃ a : Nat, (a, x) ∈ tr.ps ∧ wh k = some a ∧ x.p = k := by
    rcases h2.place hk with ⟨_, e⟩ | ⟨a, y, a1, a2, a3, e⟩
    · rw [hx] at e; cases e
    · rw [hx] at e; injection e with e; subst e; exact ⟨a, a1, a2, a3⟩
  have HB : Hid (Bel w (w.alloc (.cells #[.int .u64 0, .int .u64 0, .int .i64 0] 35))) := Lib.hid ((Bel.refl _).alloc _ _)
  have HN : Hid ((w.alloc (.cells #[.int .u64 0, .int .u64 0, .int .i64 0] 35)).heap[w.heap.size]? = some (.cells #[.int .u64 0, .int .u64 0, .int .i64 0] 35 (0, 0))) := Lib.hid (heap_alloc_new _ _)
  have K1 := Lib.hid (fun w' (b : Bel w w') => find_at f Q S P tr wh k a w' (h1.bel b) hk i2)
  have K2 := Lib.hid (fun w' (b : Bel w w') => take_any f Q S P tr wh a x k w' (h1.bel b) h2 h3 h4 hP i1 i3 hk (fun j e => Nat.lt_of_lt_of_le (hl j e) b.size))
  have HW : Hid (∀ tr' : Tr, tr.ps.Perm ((a, x) :: tr'.ps) → srt tr'.ts = wo (srt tr.ts) k) := Lib.hid (fun tr' pe => by
    have := h2.without (t := x) (m := tr'.ts) (pe.map (fun z : Nat × T => z.2))
    rw [i3] at this
    exact this)
  have HL := Lib.hid hl
  clear h1 h2 h3 h4 hx i1 i2 i3 hl
  unfold canV
  go_enter Try.func25, Try.ntmps25
  go_upto_region 1 with (fail)
  generalize w.alloc (.cells #[.int .u64 0, .int .u64 0, .int .i64 0] 35) = W at *
  go_wp2_with fail
  with_reducible refine (K1.out _ HB.out).mono ?_
  rintro e w1 ⟨rfl, rfl⟩
  go_wp2_with fail
  with_reducible refine (K2.out _ HB.out).mono ?_
  rintro e w2 ⟨rfl, tr', hbe, hpe, ho⟩
  obtain ⟨c9, e9⟩ : ∃ b, w.heap.size = b := ⟨_, rfl⟩
  rw [e9] at HN ⊢
  have HX : Hid (¬ f c9) := Lib.hid (fun e => by have := HL.out _ e; omega)
  have lW : c9 < W.heap.size := (Array.getElem?_eq_some_iff.1 HN.out).1
  obtain ⟨⟨b0, b1, b2⟩, f0, f1, f2⟩ := box3 ((ho.block _ lW HX.out).trans HN.out)
  have HE : Hid (∀ W', Off (fun j => j = c9) w2 W' → Qu f W' Q P (wo (srt tr.ts) k) ∧ Off f w W') := Lib.hid (fun W' o => by
    have o2 : Off f w W' := Off.trans ((HB.out.off f).then ho) o (fun i e => .inr (by have : i = c9 := e; omega))
    exact ⟨⟨⟨S, tr', _, hbe.hm.off o (fun i hi e => HX.out (by rw [← show i = c9 from e]; exact hi)), hbe.wn, hbe.root, hbe.ho, HW.out tr' hpe⟩, hP, fun j e => Nat.lt_of_lt_of_le (HL.out j e) o2.size⟩, o2⟩)
  clear hbe hpe ho
  go_wp2
  exact bodyPost_ret (v := .tuple #[.agg #[.int .u64 x.a, .int .u64 x.s, .int .i64 x.p], .int .i64 0]) (by simp [results, Try.results25, go_sem, b0, b1, b2]) rfl ⟨rfl, HE.out _ (off3 _ _ _ _ _)⟩
theorem cancel_any (f : Nat → Prop) (Q P : Nat) (l : List T) (k : Int) (w : World) (h : Qu f w Q P l) :
    Calls Try.prog 25 #[.pointer (some ⟨Q, 0, none⟩), .int .i64 k] w fun e w' => e = .returned (canV ((fnd l k).getD default) (canE P l k)) ∧ Qu f w' Q P (wo l k) ∧ Off f w w' := by
  obtain ⟨⟨S, tr, wh, h1, h2, h3, h4, h5⟩, _⟩ := id h
  rcases canE_cases P l k with ⟨_, ⟨e, hk⟩ | ⟨e, hk, hf⟩⟩ | ⟨e, j, rfl, hj, x, hx⟩
  · have hf : fnd l k = none := by rw [← h5]; exact h2.outside hk
    rw [e, hf, wo_none hf]
    exact cancel_no f Q P l k 1 w (by decide) h (fun w' b => find_out f Q S P tr wh k w' (h1.bel b) hk)
  · rw [e, hf, wo_none hf]
    obtain ⟨j, rfl, hj⟩ := hp_nat hk
    rcases h2.place hj with ⟨e1, e2⟩ | ⟨a, y, i1, i2, i3, i4⟩
    · exact cancel_no f Q P l j 5 w (by decide) h (fun w' b => find_no' f Q S P tr wh j w' (h1.bel b) hj e1)
    · rw [h5, hf] at i4; cases i4
  · rw [e, hx]
    exact cancel_ok f Q P l j x w h hj hx
set_option maxHeartbeats 1000000 in
theorem move_no (f : Nat → Prop) (Q P : Nat) (l : List T) (t : T) (er : Int) (w : World) (hne : ¬ er = 0) (h : Qu f w Q P l) (K : ∀ w', Bel w w' → Calls Try.prog 51 #[pt Q, .int .i64 t.p] w' fun e w2 => e = .returned (.tuple #[pn, .int .i64 er]) ∧ w' = w2) :
    Calls Try.prog 28 #[.pointer (some ⟨Q, 0, none⟩), .agg #[.int .u64 t.a, .int .u64 t.s, .int .i64 t.p]] w fun e w' => e = .returned (.int .i64 er) ∧ Qu f w' Q P l ∧ Off f w w' := by
  have K := Lib.hid K
  have HB : Hid (Bel w (w.alloc (.cells #[.int .u64 t.a, .int .u64 t.s, .int .i64 t.p] 35))) := Lib.hid ((Bel.refl _).alloc _ _)
  have HN : Hid ((w.alloc (.cells #[.int .u64 t.a, .int .u64 t.s, .int .i64 t.p] 35)).heap[w.heap.size]? = some (.cells #[.int .u64 t.a, .int .u64 t.s, .int .i64 t.p] 35 (0, 0))) := Lib.hid (heap_alloc_new _ _)
  have hne2 : (er != 0) = true := by simpa using hne
  have H := Lib.hid h
  clear h hne
  go_enter Try.func28, Try.ntmps28
  go_upto_region 1 with (fail)
  generalize w.alloc (.cells #[.int .u64 t.a, .int .u64 t.s, .int .i64 t.p] 35) = W at *
  obtain ⟨⟨b0, b1, b2⟩, _⟩ := box3 HN.out
  go_wp2_with fail
  with_reducible refine (K.out _ HB.out).mono ?_
  rintro e w1 ⟨rfl, rfl⟩
  go_wp2
  go_ret
  exact ⟨rfl, H.out.bel HB.out, HB.out.off f⟩
set_option maxHeartbeats 1000000 in
theorem move_ok (f : Nat → Prop) (Q P : Nat) (l : List T) (t : T) (k : Nat) (x : T) (w : World) (h : Qu f w Q P l) (ht : t.p = k) (hk : k < P) (hx : fnd l k = some x) :
    Calls Try.prog 28 #[.pointer (some ⟨Q, 0, none⟩), .agg #[.int .u64 t.a, .int .u64 t.s, .int .i64 t.p]] w fun e w' => e = .returned (.int .i64 0) ∧ ∃ f', (∀ j, f' j → f j ∨ (w.heap.size ≤ j ∧ j < w'.heap.size)) ∧ Qu f' w' Q P (put (wo l t.p) t) ∧ Off f w w' := by
  obtain ⟨⟨S, tr, wh, h1, h2, h3, h4, rfl⟩, hP, hl⟩ := h
  obtain ⟨a, i1, i2, i3⟩ : ∃ a : Nat, (a, x) ∈ tr.ps ∧ wh k = some a ∧ x.p = k := by
    rcases h2.place hk with ⟨_, e⟩ | ⟨a, y, a1, a2, a3, e⟩
    · rw [hx] at e; cases e
    · rw [hx] at e; injection e with e; subst e; exact ⟨a, a1, a2, a3⟩
  have HB : Hid (Bel w (w.alloc (.cells #[.int .u64 t.a, .int .u64 t.s, .int .i64 t.p] 35))) := Lib.hid ((Bel.refl _).alloc _ _)
  have HN : Hid ((w.alloc (.cells #[.int .u64 t.a, .int .u64 t.s, .int .i64 t.p] 35)).heap[w.heap.size]? = some (.cells #[.int .u64 t.a, .int .u64 t.s, .int .i64 t.p] 35 (0, 0))) := Lib.hid (heap_alloc_new _ _)
  have K1 := Lib.hid (fun w' (b : Bel w w') => find_at f Q S P tr wh k a w' (h1.bel b) hk i2)
  rw [← ht] at K1
  have K2 := Lib.hid (fun w' (b : Bel w w') => take_any f Q S P tr wh a x k w' (h1.bel b) h2 h3 h4 hP i1 i3 hk (fun j e => Nat.lt_of_lt_of_le (hl j e) b.size))
  have K3 := Lib.hid (fun tr' w' (hbe : Be f w' Q S P tr' (upN wh k none)) (hlt : ∀ j, f j → j < w'.heap.size) => put_any f Q S P tr' (upN wh k none) t k w' hbe.hm hbe.wn hbe.root hbe.ho ht hk (by unfold upN; rw [if_pos rfl]) hlt)
  have HW : Hid (∀ tr' : Tr, tr.ps.Perm ((a, x) :: tr'.ps) → srt tr'.ts = wo (srt tr.ts) t.p) := Lib.hid (fun tr' pe => by
    have := h2.without (t := x) (m := tr'.ts) (pe.map (fun z : Nat × T => z.2))
    rw [i3, ← ht] at this
    exact this)
  have HL := Lib.hid hl
  clear h1 h2 h3 h4 ht hx i1 i2 i3 hl
  go_enter Try.func28, Try.ntmps28
  go_upto_region 1 with (fail)
  generalize w.alloc (.cells #[.int .u64 t.a, .int .u64 t.s, .int .i64 t.p] 35) = W at *
  obtain ⟨⟨b0, b1, b2⟩, _⟩ := box3 HN.out
  go_wp2_with fail
  with_reducible refine (K1.out _ HB.out).mono ?_
  rintro e w1 ⟨rfl, rfl⟩
  obtain ⟨c9, e9⟩ : ∃ b, w.heap.size = b := ⟨_, rfl⟩
  rw [e9] at b0 b1 b2 HN ⊢
  have HX : ¬ f c9 := fun e => by have := HL.out _ e; omega
  go_wp2_with fail
  with_reducible refine (K2.out _ HB.out).mono ?_
  rintro e w2 ⟨rfl, tr', hbe, hpe, ho⟩
  have d0 := ho.cell (p := ⟨c9, 0, none⟩) HX b0
  have d1 := ho.cell (p := ⟨c9, 1, none⟩) HX b1
  have d2 := ho.cell (p := ⟨c9, 2, none⟩) HX b2
  have o2 : Off f w w2 := (HB.out.off f).then ho
  have K4 := Lib.hid (K3.out tr' w2 hbe (fun j e => Nat.lt_of_lt_of_le (HL.out j e) o2.size))
  have HPE := Lib.hid hpe
  have HO2 := Lib.hid o2
  clear hbe hpe ho o2 b0 b1 b2 K2 K3 HX
  go_wp2_with fail
  with_reducible refine (K4.out).mono ?_
  rintro e w3 ⟨rfl, f', tr3, wh3, hff, hbe, hpe, hoo⟩
  have HE : Hid (∃ f', (∀ j, f' j → f j ∨ (w.heap.size ≤ j ∧ j < w3.heap.size)) ∧ Qu f' w3 Q P (put (wo (srt tr.ts) t.p) t) ∧ Off f w w3) := Lib.hid (by
    have o3 : Off f w w3 := HO2.out.then hoo
    have hs := HO2.out.size
    refine ⟨f', fun j e => ?_, hbe.qu hP (by rw [srt_put hpe, HW.out tr' HPE.out]) (fun j e => ?_), o3⟩
    · rcases hff j e with e | e
      · exact .inl e
      · exact .inr ⟨by omega, e.2⟩
    · rcases hff j e with e | e
      · exact Nat.lt_of_lt_of_le (HL.out j e) o3.size
      · exact e.2)
  clear hff hbe hpe hoo d0 d1 d2
  go_wp2
  go_ret
  exact ⟨rfl, HE.out⟩
theorem move_any (f : Nat → Prop) (Q P : Nat) (l : List T) (t : T) (w : World) (h : Qu f w Q P l) :
    Calls Try.prog 28 #[.pointer (some ⟨Q, 0, none⟩), .agg #[.int .u64 t.a, .int .u64 t.s, .int .i64 t.p]] w fun e w' => e = .returned (.int .i64 (canE P l t.p)) ∧ ∃ f', (∀ j, f' j → f j ∨ (w.heap.size ≤ j ∧ j < w'.heap.size)) ∧ Qu f' w' Q P (movL P l t) ∧ Off f w w' := by
  obtain ⟨⟨S, tr, wh, h1, h2, h3, h4, h5⟩, _⟩ := id h
  rcases canE_cases P l t.p with ⟨_, ⟨e, hk⟩ | ⟨e, hk, hf⟩⟩ | ⟨e, j, ej, hj, x, hx⟩
  · have e2 : movL P l t = l := by unfold movL; rw [e]; rfl
    rw [e, e2]
    exact (move_no f Q P l t 1 w (by decide) h (fun w' b => find_out f Q S P tr wh t.p w' (h1.bel b) hk)).mono fun e w' ⟨he, hq, ho⟩ => ⟨he, f, fun j e => .inl e, hq, ho⟩
  · have e2 : movL P l t = l := by unfold movL; rw [e]; rfl
    rw [e, e2]
    obtain ⟨j, ej, hj⟩ := hp_nat hk
    rcases h2.place hj with ⟨e1, _⟩ | ⟨a, y, i1, i2, i3, i4⟩
    · exact (move_no f Q P l t 5 w (by decide) h (fun w' b => by rw [ej]; exact find_no' f Q S P tr wh j w' (h1.bel b) hj e1)).mono fun e w' ⟨he, hq, ho⟩ => ⟨he, f, fun j e => .inl e, hq, ho⟩
    · rw [ej] at hf; rw [h5, hf] at i4; cases i4
  · have e2 : movL P l t = put (wo l t.p) t := by unfold movL; rw [e]; rfl
    rw [e, e2]
    exact move_ok f Q P l t j x w h ej hj hx
end Go.Proofs.Ytdlfppdekllloaa
