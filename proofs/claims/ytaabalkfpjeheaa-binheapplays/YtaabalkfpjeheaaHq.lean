/-
  A queue is a list of timers in order; contracts of find, Get, Min, Len and All.
-/
import Derived.Test.YtaabalkfpjeheaaHpush
import Derived.Test.YtaabalkfpjeheaaHtake
import Derived.Test.YtaabalkfpjeheaaSort
namespace Go.Proofs.Ytaabalkfpjeheaa
open Go.RowKit
/-- A queue is that list; its blocks are in f. -/
structure Qu (f : Nat → Prop) (w : World) (Q P : Nat) (l : List T) : Prop where
  ex : ∃ C S p cap h wh, Hm f w Q C S P p cap h wh ∧ Wh P h wh ∧ Hp h ∧ srt h = l
  hP : P ≤ 1024
  lt_ : ∀ k, f k → k < w.heap.size
theorem Qu.off {f g : Nat → Prop} {w w' : World} {Q P : Nat} {l : List T} (h : Qu f w Q P l) (k : Off g w w') (hg : ∀ i, f i → ¬ g i) : Qu f w' Q P l := by
  obtain ⟨⟨C, S, p, cap, hh, wh, h1, h2⟩, h3, h4⟩ := h
  exact ⟨⟨C, S, p, cap, hh, wh, h1.off k hg, h2⟩, h3, fun i e => Nat.lt_of_lt_of_le (h4 i e) k.size⟩
theorem Qu.bel {f : Nat → Prop} {w w' : World} {Q P : Nat} {l : List T} (h : Qu f w Q P l) (k : Bel w w') : Qu f w' Q P l := h.off k (fun _ _ e => e)
theorem Qu.so {f : Nat → Prop} {w : World} {Q P : Nat} {l : List T} (h : Qu f w Q P l) : So l := by
  obtain ⟨⟨_, _, _, _, hh, _, _, _, _, rfl⟩, _⟩ := h
  exact srt_so hh
theorem Qu.len {f : Nat → Prop} {w : World} {Q P : Nat} {l : List T} (h : Qu f w Q P l) : l.length ≤ P := by
  obtain ⟨⟨_, _, _, _, hh, _, _, h2, _, rfl⟩, _⟩ := h
  rw [srt_len]; exact h2.len
theorem Qu.ltQ {f : Nat → Prop} {w : World} {Q P : Nat} {l : List T} (h : Qu f w Q P l) : Q < w.heap.size := by
  obtain ⟨⟨_, _, _, _, hh, _, h1, _⟩, _⟩ := h
  exact h1.ltQ
theorem Wh.place {P : Nat} {h : List T} {wh : Nat → Int} (hw : Wh P h wh) {k : Nat} (hk : k < P) : (wh k = -1 ∧ fnd (srt h) k = none) ∨ ∃ i : Nat, i < h.length ∧ wh k = i ∧ (gt h i).p = k ∧ fnd (srt h) k = some (gt h i) := by
  rcases hw.no k hk with e | ⟨i, h1, h2, h3⟩
  · exact .inl ⟨e, hw.isNot e⟩
  · refine .inr ⟨i, h1, h2, h3, ?_⟩
    have := hw.isAt h1
    rw [h3] at this
    exact this
/-- Each place is of one timer at most. -/
theorem Qu.places {f : Nat → Prop} {w : World} {Q P : Nat} {l : List T} (h : Qu f w Q P l) : (l.map T.p).Nodup ∧ ∀ t ∈ l, hp P t.p = true := by
  obtain ⟨⟨_, _, _, _, hh, wh, _, h2, _, rfl⟩, _⟩ := h
  refine ⟨?_, fun t ht => ?_⟩
  · have nd : (hh.map T.p).Nodup := by
      rw [List.nodup_iff_pairwise_ne, List.pairwise_iff_getElem]
      intro a b ha hb hab e
      simp at ha hb
      simp only [List.getElem_map] at e
      rw [← gt_mem hh a ha, ← gt_mem hh b hb] at e
      have := h2.inj ha hb e
      omega
    exact ((srt_perm hh).map T.p).nodup_iff.2 nd
  · obtain ⟨i, hi, rfl⟩ := mem_gt ((srt_perm hh).subset ht)
    obtain ⟨k, k1, k2, _⟩ := h2.at_ i hi
    rw [k1]
    exact hp_yes k2
theorem find_out (f : Nat → Prop) (Q C S P : Nat) (p : Option Addr) (cap : Nat) (l : List T) (wh : Nat → Int) (k : Int) (w : World) (h : Hm f w Q C S P p cap l wh) (hk : hp P k = false) :
    Calls Try.prog 33 #[.pointer (some ⟨Q, 0, none⟩), .int .i64 k] w fun e w' => e = .returned (.tuple #[.int .i64 (-1), .int .i64 1]) ∧ w = w' := by
  have c2 := h.head.2.2.1
  by_cases h0 : k < 0
  · clear h hk
    go_enter Try.func33, Try.ntmps33
    go_wp2
    exact bodyPost_ret (v := .tuple #[.int .i64 (-1), .int .i64 1]) (by simp [results, Try.results33, go_sem]) rfl ⟨rfl, rfl⟩
  · have h1 : (P : Int) ≤ k := by
      unfold hp at hk
      simp at hk
      omega
    clear h hk
    go_enter Try.func33, Try.ntmps33
    go_wp2
    exact bodyPost_ret (v := .tuple #[.int .i64 (-1), .int .i64 1]) (by simp [results, Try.results33, go_sem]) rfl ⟨rfl, rfl⟩
theorem find_no' (f : Nat → Prop) (Q C S P : Nat) (p : Option Addr) (cap : Nat) (l : List T) (wh : Nat → Int) (k : Nat) (w : World) (h : Hm f w Q C S P p cap l wh) (hk : k < P) (hn : wh k = -1) :
    Calls Try.prog 33 #[.pointer (some ⟨Q, 0, none⟩), .int .i64 k] w fun e w' => e = .returned (.tuple #[.int .i64 (-1), .int .i64 5]) ∧ w = w' := by
  have c2 := h.head.2.2.1
  have s0 := h.stands hk
  rw [hn] at s0
  have h1 : ¬ (P : Int) ≤ k := by omega
  have h2 : (k : Int) < P := by omega
  clear h hn
  go_enter Try.func33, Try.ntmps33
  go_wp2
  exact bodyPost_ret (v := .tuple #[.int .i64 (-1), .int .i64 5]) (by simp [results, Try.results33, go_sem]) rfl ⟨rfl, rfl⟩
theorem find_at (f : Nat → Prop) (Q C S P : Nat) (p : Option Addr) (cap : Nat) (l : List T) (wh : Nat → Int) (k i : Nat) (w : World) (h : Hm f w Q C S P p cap l wh) (hk : k < P) (hn : wh k = i) :
    Calls Try.prog 33 #[.pointer (some ⟨Q, 0, none⟩), .int .i64 k] w fun e w' => e = .returned (.tuple #[.int .i64 i, .int .i64 0]) ∧ w = w' := by
  have c2 := h.head.2.2.1
  have s0 := h.stands hk
  rw [hn] at s0
  have h1 : ¬ (P : Int) ≤ k := by omega
  have h2 : (k : Int) < P := by omega
  have h3 : ((i : Int) == -1) = false := by simp
  clear h hn
  go_enter Try.func33, Try.ntmps33
  go_wp2
  exact bodyPost_ret (v := .tuple #[.int .i64 i, .int .i64 0]) (by simp [results, Try.results33, go_sem]) rfl ⟨rfl, rfl⟩
theorem len_any (f : Nat → Prop) (Q P : Nat) (l : List T) (w : World) (h : Qu f w Q P l) :
    Calls Try.prog 20 #[.pointer (some ⟨Q, 0, none⟩)] w fun e w' => e = .returned (.int .i64 l.length) ∧ w = w' := by
  obtain ⟨⟨C, S, p, cap, hh, wh, h1, _, _, rfl⟩, _⟩ := h
  have c0 := h1.head.1
  rw [srt_len]
  clear h1
  go_enter Try.func20, Try.ntmps20
  go_wp2
  go_ret
  exact ⟨rfl, rfl⟩
theorem all_any (f : Nat → Prop) (Q P : Nat) (l : List T) (w : World) (h : Qu f w Q P l) :
    Calls Try.prog 19 #[.pointer (some ⟨Q, 0, none⟩)] w fun e w' => OutN w w' e l ∧ Bel w w' := by
  obtain ⟨⟨C, S, p, cap, hh, wh, h1, h2, _, rfl⟩, hP, _⟩ := h
  have c0 := h1.head.1
  have hl := h2.len
  have K := Lib.hid (sort_any p hh.length cap hh w rfl (by omega) (by
    obtain ⟨q, c, e, _, _, hq⟩ := h1.own.slice
    injection e with e1 e2 e3
    subst e1
    exact hq))
  clear h1 h2
  go_enter Try.func19, Try.ntmps19
  go_wp2_with fail
  with_reducible refine (K.out).mono ?_
  rintro e w1 ⟨⟨q, c, rfl, hc, hq⟩, hb⟩
  have HQ := Lib.hid hq
  have HB := Lib.hid hb
  clear hq hb
  go_wp2
  go_ret
  exact ⟨⟨q, c, rfl, hc, HQ.out⟩, HB.out⟩
set_option maxHeartbeats 1000000 in
theorem min_any (f : Nat → Prop) (Q P : Nat) (l : List T) (w : World) (h : Qu f w Q P l) :
    Calls Try.prog 16 #[.pointer (some ⟨Q, 0, none⟩)] w fun e w' => e = .returned (ansT l.head?) ∧ Bel w w' := by
  have K := Lib.hid (fun w' (b : Bel w w') => len_any f Q P l w' (h.bel b))
  have HB : Hid (Bel w (w.alloc (.cells #[.int .u64 0, .int .u64 0, .int .i64 0] 25))) := Lib.hid ((Bel.refl _).alloc _ _)
  have HN : Hid ((w.alloc (.cells #[.int .u64 0, .int .u64 0, .int .i64 0] 25)).heap[w.heap.size]? = some (.cells #[.int .u64 0, .int .u64 0, .int .i64 0] 25 (0, 0))) := Lib.hid (heap_alloc_new _ _)
  obtain ⟨⟨C, S, p, cap, hh, wh, h1, h2, h3, rfl⟩, hP, _⟩ := h
  rw [srt_len] at K
  rw [srt_head? h3]
  have H1 := Lib.hid (h1.bel HB.out)
  cases hh with
  | nil =>
    clear h1 h2 h3
    simp only [List.length_nil] at K
    go_enter Try.func16, Try.ntmps16
    go_upto_region 1 with (fail)
    generalize w.alloc (.cells #[.int .u64 0, .int .u64 0, .int .i64 0] 25) = W at *
    obtain ⟨⟨b0, b1, b2⟩, f0, f1, f2⟩ := box3 HN.out
    go_wp2_with fail
    with_reducible refine (K.out _ HB.out).mono ?_
    rintro e w1 ⟨rfl, rfl⟩
    have HE := Lib.hid (bel3 HB.out (Nat.le_refl _) (.int .u64 0) (.int .u64 0) (.int .i64 0))
    go_wp2
    exact bodyPost_ret (v := ansT none) (by simp [results, Try.results16, go_sem, b0, b1, b2, ansT]) rfl ⟨rfl, HE.out⟩
  | cons x r =>
    obtain ⟨g, cur, rfl, _⟩ := h1.row (by simp)
    have hx := h1.at (i := 0) (by simp) rfl
    have hn : (((x :: r).length : Int) == 0) = false := by simp; omega
    have hn2 : (0 : Int) < ((x :: r).length : Int) := by simp
    have c0 := H1.out.head.1
    have hx := H1.out.at (i := 0) (x := x) (by simp) rfl
    simp only [Nat.zero_mul, Nat.zero_add] at hx
    obtain ⟨⟨x0, x1, x2⟩, _⟩ := hx
    clear h1 h2 h3
    generalize (x :: r).length = n at *
    go_enter Try.func16, Try.ntmps16
    go_upto_region 1 with (fail)
    generalize w.alloc (.cells #[.int .u64 0, .int .u64 0, .int .i64 0] 25) = W at *
    obtain ⟨⟨b0, b1, b2⟩, f0, f1, f2⟩ := box3 HN.out
    go_wp2_with fail
    with_reducible refine (K.out _ HB.out).mono ?_
    rintro e w1 ⟨rfl, rfl⟩
    have HE := Lib.hid (bel3 HB.out (Nat.le_refl _) (.int .u64 x.a) (.int .u64 x.s) (.int .i64 x.p))
    go_wp2
    exact bodyPost_ret (v := ansT (some x)) (by simp [results, Try.results16, go_sem, b0, b1, b2, ansT]) rfl ⟨rfl, HE.out⟩
set_option maxHeartbeats 1000000 in
theorem get_no (f : Nat → Prop) (Q P : Nat) (l : List T) (k er ix : Int) (w : World) (hne : ¬ er = 0) (K : ∀ w', Bel w w' → Calls Try.prog 33 #[.pointer (some ⟨Q, 0, none⟩), .int .i64 k] w' fun e w2 => e = .returned (.tuple #[.int .i64 ix, .int .i64 er]) ∧ w' = w2) (hf : fnd l k = none) :
    Calls Try.prog 14 #[.pointer (some ⟨Q, 0, none⟩), .int .i64 k] w fun e w' => e = .returned (ansT (fnd l k)) ∧ Bel w w' := by
  rw [hf]
  have K := Lib.hid K
  have HB : Hid (Bel w (w.alloc (.cells #[.int .u64 0, .int .u64 0, .int .i64 0] 25))) := Lib.hid ((Bel.refl _).alloc _ _)
  have HN : Hid ((w.alloc (.cells #[.int .u64 0, .int .u64 0, .int .i64 0] 25)).heap[w.heap.size]? = some (.cells #[.int .u64 0, .int .u64 0, .int .i64 0] 25 (0, 0))) := Lib.hid (heap_alloc_new _ _)
  have hne2 : (er != 0) = true := by simpa using hne
  clear hf hne
  go_enter Try.func14, Try.ntmps14
  go_upto_region 1 with (fail)
  generalize w.alloc (.cells #[.int .u64 0, .int .u64 0, .int .i64 0] 25) = W at *
  obtain ⟨⟨b0, b1, b2⟩, f0, f1, f2⟩ := box3 HN.out
  go_wp2_with fail
  with_reducible refine (K.out _ HB.out).mono ?_
  rintro e w1 ⟨rfl, rfl⟩
  have HE := Lib.hid (bel3 HB.out (Nat.le_refl _) (.int .u64 0) (.int .u64 0) (.int .i64 0))
  go_wp2
  exact bodyPost_ret (v := ansT none) (by simp [results, Try.results14, go_sem, b0, b1, b2, ansT]) rfl ⟨rfl, HE.out⟩
set_option maxHeartbeats 1000000 in
theorem get_any (f : Nat → Prop) (Q P : Nat) (l : List T) (k : Int) (w : World) (h : Qu f w Q P l) :
    Calls Try.prog 14 #[.pointer (some ⟨Q, 0, none⟩), .int .i64 k] w fun e w' => e = .returned (ansT (fnd l k)) ∧ Bel w w' := by
  obtain ⟨⟨C, S, p, cap, hh, wh, h1, h2, h3, rfl⟩, hP, _⟩ := h
  cases hk : hp P k with
  | false => exact get_no f Q P _ k 1 (-1) w (by decide) (fun w' b => find_out f Q C S P p cap hh wh k w' (h1.bel b) hk) (h2.outside hk)
  | true =>
    obtain ⟨j, rfl, hj⟩ := hp_nat hk
    rcases h2.place hj with ⟨e1, e2⟩ | ⟨i, i1, i2, i3, i4⟩
    · exact get_no f Q P _ j 5 (-1) w (by decide) (fun w' b => find_no' f Q C S P p cap hh wh j w' (h1.bel b) hj e1) e2
    · rw [i4]
      obtain ⟨x, hx⟩ : ∃ x, gt hh i = x := ⟨_, rfl⟩
      rw [hx]
      have HB : Hid (Bel w (w.alloc (.cells #[.int .u64 0, .int .u64 0, .int .i64 0] 25))) := Lib.hid ((Bel.refl _).alloc _ _)
      have HN : Hid ((w.alloc (.cells #[.int .u64 0, .int .u64 0, .int .i64 0] 25)).heap[w.heap.size]? = some (.cells #[.int .u64 0, .int .u64 0, .int .i64 0] 25 (0, 0))) := Lib.hid (heap_alloc_new _ _)
      have K := Lib.hid (fun w' (b : Bel w w') => find_at f Q C S P p cap hh wh j i w' (h1.bel b) hj i2)
      obtain ⟨g, cur, rfl, _⟩ := h1.row (by omega)
      have c0 := (h1.bel HB.out).head.1
      obtain ⟨⟨x0, x1, x2⟩, _⟩ := (h1.bel HB.out).at i1 hx
      have hi : (i : Int) < (hh.length : Int) := by omega
      clear h1 h2 h3 hk i1 i2 i3 i4 hx
      generalize hh.length = n at *
      go_enter Try.func14, Try.ntmps14
      go_upto_region 1 with (fail)
      generalize w.alloc (.cells #[.int .u64 0, .int .u64 0, .int .i64 0] 25) = W at *
      obtain ⟨⟨b0, b1, b2⟩, f0, f1, f2⟩ := box3 HN.out
      go_wp2_with fail
      with_reducible refine (K.out _ HB.out).mono ?_
      rintro e w1 ⟨rfl, rfl⟩
      have HE := Lib.hid (bel3 HB.out (Nat.le_refl _) (.int .u64 x.a) (.int .u64 x.s) (.int .i64 x.p))
      go_wp2
      exact bodyPost_ret (v := ansT (some x)) (by simp [results, Try.results14, go_sem, b0, b1, b2, ansT]) rfl ⟨rfl, HE.out⟩
end Go.Proofs.Ytaabalkfpjeheaa
