/-
  Contract of the law's do: an act of the program's chains and of the document's: they answer the same.
-/
import Derived.Test.YtdeiknfaehpheaaBoth
namespace Go.Proofs.Ytdeiknfaehpheaa
open Go.RowKit
/-- What do's boxes hold. -/
abbrev three (w : World) (P : Nat) (p : Option Addr) (L c : Nat) (a : Ac) : World := ((w.alloc (.cells #[.int .i64 P, .slice p L c] 27)).alloc (.cells #[.int .i64 a.k, .int .i64 a.a, .int .i64 a.b] 33)).alloc (.cells #[.int .i64 0, .slice none 0 0] 27)
theorem three_bel (w : World) (P : Nat) (p : Option Addr) (L c : Nat) (a : Ac) : Bel w (three w P p L c a) := (((Bel.refl w).alloc _ _).alloc _ _).alloc _ _
theorem box3 {w : World} {T : Nat} {a b c : Value} {t : TypeId} (h : w.heap[T]? = some (.cells #[a, b, c] t (0, 0))) : w.cell? ⟨T, 0, none⟩ = some a ∧ w.cell? ⟨T, 1, none⟩ = some b ∧ w.cell? ⟨T, 2, none⟩ = some c := by
  refine ⟨?_, ?_, ?_⟩ <;> (rw [cell_of_row w T _ _ t (0, 0) h]; rfl)
theorem three_cells (w : World) (G P : Nat) (p : Option Addr) (L c : Nat) (a : Ac) (hG : G < w.heap.size) (w' : World) (h : Off (Only G) (three w P p L c a) w') :
    (w'.cell? ⟨w.heap.size, 0, none⟩ = some (.int .i64 P) ∧ w'.cell? ⟨w.heap.size, 1, none⟩ = some (.slice p L c)) ∧ (w'.cell? ⟨w.heap.size + 1, 0, none⟩ = some (.int .i64 a.k) ∧ w'.cell? ⟨w.heap.size + 1, 1, none⟩ = some (.int .i64 a.a) ∧ w'.cell? ⟨w.heap.size + 1, 2, none⟩ = some (.int .i64 a.b)) ∧
    (w'.cell? ⟨w.heap.size + 1 + 1, 0, none⟩ = some (.int .i64 0) ∧ w'.cell? ⟨w.heap.size + 1 + 1, 1, none⟩ = some (.slice none 0 0)) ∧ (w'.frozen? ⟨w.heap.size + 1 + 1, 0, none⟩ = false ∧ w'.frozen? ⟨w.heap.size + 1 + 1, 1, none⟩ = false) ∧ w.heap.size + 1 + 1 < w'.heap.size ∧
    w'.heap[w.heap.size + 1 + 1]? = some (.cells #[.int .i64 0, .slice none 0 0] 27 (0, 0)) := by
  have e1 : (w.alloc (.cells #[.int .i64 P, .slice p L c] 27)).heap.size = w.heap.size + 1 := by simp
  have e2 : ((w.alloc (.cells #[.int .i64 P, .slice p L c] 27)).alloc (.cells #[.int .i64 a.k, .int .i64 a.a, .int .i64 a.b] 33)).heap.size = w.heap.size + 1 + 1 := by simp
  have e3 : (three w P p L c a).heap.size = w.heap.size + 1 + 1 + 1 := by simp
  have h1 : (three w P p L c a).heap[w.heap.size]? = some (.cells #[.int .i64 P, .slice p L c] 27) := by rw [Below.heap_alloc _ _ _ (by omega), Below.heap_alloc _ _ _ (by omega), heap_alloc_new]
  have h2 : (three w P p L c a).heap[w.heap.size + 1]? = some (.cells #[.int .i64 a.k, .int .i64 a.a, .int .i64 a.b] 33) := by rw [Below.heap_alloc _ _ _ (by omega), ← e1, heap_alloc_new]
  have h3 : (three w P p L c a).heap[w.heap.size + 1 + 1]? = some (.cells #[.int .i64 0, .slice none 0 0] 27) := by rw [← e2, heap_alloc_new]
  have b1 := box2 ((h.block _ (by omega) (show ¬ w.heap.size = G by omega)).trans h1)
  have b2 := box3 ((h.block _ (by omega) (show ¬ w.heap.size + 1 = G by omega)).trans h2)
  have b4 := (h.block _ (by omega) (show ¬ w.heap.size + 1 + 1 = G by omega)).trans h3
  have b3 := box2 b4
  have hz := h.size
  exact ⟨b1.1, b2, b3.1, b3.2, by omega, b4⟩
set_option maxHeartbeats 2000000 in
theorem do_append (f : Nat → Prop) (B G P L : Nat) (ls : Ls) (a : Ac) (p : Option Addr) (c : Nat) (w : World) (hC : Ch w B G P L ls) (hR : RefIn f w p L ls) (hfG : f G) (hf : ∀ j, f j → j < w.heap.size) (hc : L ≤ c) (hk : a.k = 0) :
    Calls Try.prog 10 #[.pointer (some ⟨B, 0, none⟩), rv P p L c, .agg #[.int .i64 a.k, .int .i64 a.a, .int .i64 a.b]] w fun e w' => ∃ ls' p' c', e = .returned (.tuple #[rv P p' L c', .bool true]) ∧ L ≤ c' ∧ Ch w' B G P L ls' ∧ RefIn f w' p' L ls' ∧ Off (Only G) w w' := by
  obtain ⟨er, ls', hp, hr⟩ := append_both P L ls hC.hP hC.hL hC.good a.a a.b
  have hG := hC.ltG.1
  have hB3 := three_bel w P p L c a
  have HP := Lib.hid (hp _ B G (hC.bel hB3))
  have HR := Lib.hid (fun w' p c (h : RefIn f w' p L ls) (hz : w.heap.size ≤ w'.heap.size) (hc : L ≤ c) => hr f w' p c h (fun j hj => Nat.lt_of_lt_of_le (hf j hj) hz) hc)
  simp only [List.size_toArray, List.append_toArray, List.cons_append, List.nil_append] at HP HR
  have TC := Lib.hid (three_cells w G P p L c a hG)
  have TB := Lib.hid hB3
  have RF := Lib.hid hR
  have FG := Lib.hid hfG
  have BL := Lib.hid hC.ltG.2.1
  clear hC hR hfG hf hp hr hB3
  unfold rv three at *
  have k0 : (a.k == 0) = true := by rw [hk]; rfl
  clear hk
  go_enter Try.func10, Try.ntmps10
  go_wp2_with fail
  with_reducible refine HP.out.mono ?_
  rintro e w1 ⟨rfl, hc1, ho1⟩
  obtain ⟨⟨d0, d1⟩, ⟨a0, a1, a2⟩, _⟩ := TC.out _ ho1
  have HC1 := Lib.hid hc1
  have HO1 := Lib.hid ho1
  have hz1 : w.heap.size ≤ w1.heap.size := Nat.le_trans TB.out.size ho1.size
  have RF1 := Lib.hid ((RF.out.bel TB.out).off ho1 (fun i e => by rw [show i = G from e]; exact FG.out))
  clear hc1 ho1
  go_wp2_with fail
  with_reducible refine (HR.out _ _ _ RF1.out hz1 hc).mono ?_
  rintro e w2 ⟨p2, c2, rfl, hc2, hr2, hb2⟩
  have HR2 := Lib.hid hr2
  have HB2 := Lib.hid hb2
  have HC2 := Lib.hid (HC1.out.bel hb2)
  have HO2 := Lib.hid (HO1.out.thenB hb2)
  clear hr2 hb2 d0 d1 a0 a1 a2
  go_upto_region 5 with (fail)
  have e9 := (box2 (heap_alloc_new w2 (.cells #[.int .i64 P, .slice p2 L c2] 27))).1
  have HB9 : Hid (Bel w2 (w2.alloc (.cells #[.int .i64 P, .slice p2 L c2] 27))) := Lib.hid ((Bel.refl w2).alloc _ _)
  obtain ⟨y0, y1⟩ := e9
  generalize w2.alloc (.cells #[.int .i64 P, .slice p2 L c2] 27) = W9 at *
  obtain ⟨_, _, ⟨e0, e1⟩, ⟨g0, g1⟩, hz, hh⟩ := TC.out _ (HO2.out.thenB HB9.out)
  have hE : ((er : Int) == er) = true := by simp
  go_wp2
  have hO := off2 W9 (w.heap.size + 1 + 1) (.int .i64 P) (.slice p2 L c2)
  have hlt := HC2.out.ltG
  refine bodyPost_ret (v := .tuple #[.agg #[.int .i64 P, .slice p2 L c2], .bool true]) (by simp [results, Try.results10, go_sem, e0, e1]) rfl ⟨ls', p2, c2, rfl, hc2, (HC1.out.bel (HB2.out.trans HB9.out)).off hO ?_ (show ¬ G = w.heap.size + 1 + 1 by omega), (HR2.out.bel HB9.out).apart hO hh, ?_⟩
  · intro e
    have h1 : B = w.heap.size + 1 + 1 := e
    have h2 := BL.out
    omega
  · exact Off.trans (Off.trans (TB.out.off (Only G)) (HO2.out.thenB HB9.out) (fun i e => .inl e)) hO (fun i e => .inr (by omega))
set_option maxHeartbeats 2000000 in
theorem do_insert (f : Nat → Prop) (B G P L : Nat) (ls : Ls) (a : Ac) (p : Option Addr) (c : Nat) (w : World) (hC : Ch w B G P L ls) (hR : RefIn f w p L ls) (hfG : f G) (hf : ∀ j, f j → j < w.heap.size) (hc : L ≤ c) (hk : a.k = 1) :
    Calls Try.prog 10 #[.pointer (some ⟨B, 0, none⟩), rv P p L c, .agg #[.int .i64 a.k, .int .i64 a.a, .int .i64 a.b]] w fun e w' => ∃ ls' p' c', e = .returned (.tuple #[rv P p' L c', .bool true]) ∧ L ≤ c' ∧ Ch w' B G P L ls' ∧ RefIn f w' p' L ls' ∧ Off (Only G) w w' := by
  obtain ⟨er, ls', hp, hr⟩ := insert_both P L ls hC.hP hC.hL hC.good a.a a.b
  have hG := hC.ltG.1
  have hB3 := three_bel w P p L c a
  have HP := Lib.hid (hp _ B G (hC.bel hB3))
  have HR := Lib.hid (fun w' p c (h : RefIn f w' p L ls) (hz : w.heap.size ≤ w'.heap.size) (hc : L ≤ c) => hr f w' p c h (fun j hj => Nat.lt_of_lt_of_le (hf j hj) hz) hc)
  simp only [List.size_toArray, List.append_toArray, List.cons_append, List.nil_append] at HP HR
  have TC := Lib.hid (three_cells w G P p L c a hG)
  have TB := Lib.hid hB3
  have RF := Lib.hid hR
  have FG := Lib.hid hfG
  have BL := Lib.hid hC.ltG.2.1
  clear hC hR hfG hf hp hr hB3
  unfold rv three at *
  have k0 : (a.k == 0) = false := by rw [hk]; rfl
  have k1 : (a.k == 1) = true := by rw [hk]; rfl
  clear hk
  go_enter Try.func10, Try.ntmps10
  go_wp2_with fail
  with_reducible refine HP.out.mono ?_
  rintro e w1 ⟨rfl, hc1, ho1⟩
  obtain ⟨⟨d0, d1⟩, ⟨a0, a1, a2⟩, _⟩ := TC.out _ ho1
  have HC1 := Lib.hid hc1
  have HO1 := Lib.hid ho1
  have hz1 : w.heap.size ≤ w1.heap.size := Nat.le_trans TB.out.size ho1.size
  have RF1 := Lib.hid ((RF.out.bel TB.out).off ho1 (fun i e => by rw [show i = G from e]; exact FG.out))
  clear hc1 ho1
  go_wp2_with fail
  with_reducible refine (HR.out _ _ _ RF1.out hz1 hc).mono ?_
  rintro e w2 ⟨p2, c2, rfl, hc2, hr2, hb2⟩
  have HR2 := Lib.hid hr2
  have HB2 := Lib.hid hb2
  have HC2 := Lib.hid (HC1.out.bel hb2)
  have HO2 := Lib.hid (HO1.out.thenB hb2)
  clear hr2 hb2 d0 d1 a0 a1 a2
  go_upto_region 9 with (fail)
  have e9 := (box2 (heap_alloc_new w2 (.cells #[.int .i64 P, .slice p2 L c2] 27))).1
  have HB9 : Hid (Bel w2 (w2.alloc (.cells #[.int .i64 P, .slice p2 L c2] 27))) := Lib.hid ((Bel.refl w2).alloc _ _)
  obtain ⟨y0, y1⟩ := e9
  generalize w2.alloc (.cells #[.int .i64 P, .slice p2 L c2] 27) = W9 at *
  obtain ⟨_, _, ⟨e0, e1⟩, ⟨g0, g1⟩, hz, hh⟩ := TC.out _ (HO2.out.thenB HB9.out)
  have hE : ((er : Int) == er) = true := by simp
  go_wp2
  have hO := off2 W9 (w.heap.size + 1 + 1) (.int .i64 P) (.slice p2 L c2)
  have hlt := HC2.out.ltG
  refine bodyPost_ret (v := .tuple #[.agg #[.int .i64 P, .slice p2 L c2], .bool true]) (by simp [results, Try.results10, go_sem, e0, e1]) rfl ⟨ls', p2, c2, rfl, hc2, (HC1.out.bel (HB2.out.trans HB9.out)).off hO ?_ (show ¬ G = w.heap.size + 1 + 1 by omega), (HR2.out.bel HB9.out).apart hO hh, ?_⟩
  · intro e
    have h1 : B = w.heap.size + 1 + 1 := e
    have h2 := BL.out
    omega
  · exact Off.trans (Off.trans (TB.out.off (Only G)) (HO2.out.thenB HB9.out) (fun i e => .inl e)) hO (fun i e => .inr (by omega))
set_option maxHeartbeats 2000000 in
theorem do_drop (f : Nat → Prop) (B G P L : Nat) (ls : Ls) (a : Ac) (p : Option Addr) (c : Nat) (w : World) (hC : Ch w B G P L ls) (hR : RefIn f w p L ls) (hfG : f G) (hf : ∀ j, f j → j < w.heap.size) (hc : L ≤ c) (hk : a.k = 2) :
    Calls Try.prog 10 #[.pointer (some ⟨B, 0, none⟩), rv P p L c, .agg #[.int .i64 a.k, .int .i64 a.a, .int .i64 a.b]] w fun e w' => ∃ ls' p' c', e = .returned (.tuple #[rv P p' L c', .bool true]) ∧ L ≤ c' ∧ Ch w' B G P L ls' ∧ RefIn f w' p' L ls' ∧ Off (Only G) w w' := by
  obtain ⟨er, ls', hp, hr⟩ := drop_both P L ls hC.hP hC.hL hC.good a.a
  have hG := hC.ltG.1
  have hB3 := three_bel w P p L c a
  have HP := Lib.hid (hp _ B G (hC.bel hB3))
  have HR := Lib.hid (fun w' p c (h : RefIn f w' p L ls) (hz : w.heap.size ≤ w'.heap.size) (hc : L ≤ c) => hr f w' p c h (fun j hj => Nat.lt_of_lt_of_le (hf j hj) hz) hc)
  simp only [List.size_toArray, List.append_toArray, List.cons_append, List.nil_append] at HP HR
  have TC := Lib.hid (three_cells w G P p L c a hG)
  have TB := Lib.hid hB3
  have RF := Lib.hid hR
  have FG := Lib.hid hfG
  have BL := Lib.hid hC.ltG.2.1
  clear hC hR hfG hf hp hr hB3
  unfold rv three at *
  have k0 : (a.k == 0) = false := by rw [hk]; rfl
  have k1 : (a.k == 1) = false := by rw [hk]; rfl
  have k2 : (a.k == 2) = true := by rw [hk]; rfl
  clear hk
  go_enter Try.func10, Try.ntmps10
  go_wp2_with fail
  with_reducible refine HP.out.mono ?_
  rintro e w1 ⟨rfl, hc1, ho1⟩
  obtain ⟨⟨d0, d1⟩, ⟨a0, a1, a2⟩, _⟩ := TC.out _ ho1
  have HC1 := Lib.hid hc1
  have HO1 := Lib.hid ho1
  have hz1 : w.heap.size ≤ w1.heap.size := Nat.le_trans TB.out.size ho1.size
  have RF1 := Lib.hid ((RF.out.bel TB.out).off ho1 (fun i e => by rw [show i = G from e]; exact FG.out))
  clear hc1 ho1
  go_wp2_with fail
  with_reducible refine (HR.out _ _ _ RF1.out hz1 hc).mono ?_
  rintro e w2 ⟨p2, c2, rfl, hc2, hr2, hb2⟩
  have HR2 := Lib.hid hr2
  have HB2 := Lib.hid hb2
  have HC2 := Lib.hid (HC1.out.bel hb2)
  have HO2 := Lib.hid (HO1.out.thenB hb2)
  clear hr2 hb2 d0 d1 a0 a1 a2
  go_upto_region 13 with (fail)
  have e9 := (box2 (heap_alloc_new w2 (.cells #[.int .i64 P, .slice p2 L c2] 27))).1
  have HB9 : Hid (Bel w2 (w2.alloc (.cells #[.int .i64 P, .slice p2 L c2] 27))) := Lib.hid ((Bel.refl w2).alloc _ _)
  obtain ⟨y0, y1⟩ := e9
  generalize w2.alloc (.cells #[.int .i64 P, .slice p2 L c2] 27) = W9 at *
  obtain ⟨_, _, ⟨e0, e1⟩, ⟨g0, g1⟩, hz, hh⟩ := TC.out _ (HO2.out.thenB HB9.out)
  have hE : ((er : Int) == er) = true := by simp
  go_wp2
  have hO := off2 W9 (w.heap.size + 1 + 1) (.int .i64 P) (.slice p2 L c2)
  have hlt := HC2.out.ltG
  refine bodyPost_ret (v := .tuple #[.agg #[.int .i64 P, .slice p2 L c2], .bool true]) (by simp [results, Try.results10, go_sem, e0, e1]) rfl ⟨ls', p2, c2, rfl, hc2, (HC1.out.bel (HB2.out.trans HB9.out)).off hO ?_ (show ¬ G = w.heap.size + 1 + 1 by omega), (HR2.out.bel HB9.out).apart hO hh, ?_⟩
  · intro e
    have h1 : B = w.heap.size + 1 + 1 := e
    have h2 := BL.out
    omega
  · exact Off.trans (Off.trans (TB.out.off (Only G)) (HO2.out.thenB HB9.out) (fun i e => .inl e)) hO (fun i e => .inr (by omega))
set_option maxHeartbeats 2000000 in
theorem do_splice (f : Nat → Prop) (B G P L : Nat) (ls : Ls) (a : Ac) (p : Option Addr) (c : Nat) (w : World) (hC : Ch w B G P L ls) (hR : RefIn f w p L ls) (hfG : f G) (hf : ∀ j, f j → j < w.heap.size) (hc : L ≤ c) (hk : a.k = 3) :
    Calls Try.prog 10 #[.pointer (some ⟨B, 0, none⟩), rv P p L c, .agg #[.int .i64 a.k, .int .i64 a.a, .int .i64 a.b]] w fun e w' => ∃ ls' p' c', e = .returned (.tuple #[rv P p' L c', .bool true]) ∧ L ≤ c' ∧ Ch w' B G P L ls' ∧ RefIn f w' p' L ls' ∧ Off (Only G) w w' := by
  obtain ⟨er, ls', hp, hr⟩ := splice_both P L ls hC.hP hC.hL hC.good a.a a.b
  have hG := hC.ltG.1
  have hB3 := three_bel w P p L c a
  have HP := Lib.hid (hp _ B G (hC.bel hB3))
  have HR := Lib.hid (fun w' p c (h : RefIn f w' p L ls) (hz : w.heap.size ≤ w'.heap.size) (hc : L ≤ c) => hr f w' p c h (fun j hj => Nat.lt_of_lt_of_le (hf j hj) hz) hc)
  simp only [List.size_toArray, List.append_toArray, List.cons_append, List.nil_append] at HP HR
  have TC := Lib.hid (three_cells w G P p L c a hG)
  have TB := Lib.hid hB3
  have RF := Lib.hid hR
  have FG := Lib.hid hfG
  have BL := Lib.hid hC.ltG.2.1
  clear hC hR hfG hf hp hr hB3
  unfold rv three at *
  have k0 : (a.k == 0) = false := by rw [hk]; rfl
  have k1 : (a.k == 1) = false := by rw [hk]; rfl
  have k2 : (a.k == 2) = false := by rw [hk]; rfl
  have k3 : (a.k == 3) = true := by rw [hk]; rfl
  clear hk
  go_enter Try.func10, Try.ntmps10
  go_wp2_with fail
  with_reducible refine HP.out.mono ?_
  rintro e w1 ⟨rfl, hc1, ho1⟩
  obtain ⟨⟨d0, d1⟩, ⟨a0, a1, a2⟩, _⟩ := TC.out _ ho1
  have HC1 := Lib.hid hc1
  have HO1 := Lib.hid ho1
  have hz1 : w.heap.size ≤ w1.heap.size := Nat.le_trans TB.out.size ho1.size
  have RF1 := Lib.hid ((RF.out.bel TB.out).off ho1 (fun i e => by rw [show i = G from e]; exact FG.out))
  clear hc1 ho1
  go_wp2_with fail
  with_reducible refine (HR.out _ _ _ RF1.out hz1 hc).mono ?_
  rintro e w2 ⟨p2, c2, rfl, hc2, hr2, hb2⟩
  have HR2 := Lib.hid hr2
  have HB2 := Lib.hid hb2
  have HC2 := Lib.hid (HC1.out.bel hb2)
  have HO2 := Lib.hid (HO1.out.thenB hb2)
  clear hr2 hb2 d0 d1 a0 a1 a2
  go_upto_region 17 with (fail)
  have e9 := (box2 (heap_alloc_new w2 (.cells #[.int .i64 P, .slice p2 L c2] 27))).1
  have HB9 : Hid (Bel w2 (w2.alloc (.cells #[.int .i64 P, .slice p2 L c2] 27))) := Lib.hid ((Bel.refl w2).alloc _ _)
  obtain ⟨y0, y1⟩ := e9
  generalize w2.alloc (.cells #[.int .i64 P, .slice p2 L c2] 27) = W9 at *
  obtain ⟨_, _, ⟨e0, e1⟩, ⟨g0, g1⟩, hz, hh⟩ := TC.out _ (HO2.out.thenB HB9.out)
  have hE : ((er : Int) == er) = true := by simp
  go_wp2
  have hO := off2 W9 (w.heap.size + 1 + 1) (.int .i64 P) (.slice p2 L c2)
  have hlt := HC2.out.ltG
  refine bodyPost_ret (v := .tuple #[.agg #[.int .i64 P, .slice p2 L c2], .bool true]) (by simp [results, Try.results10, go_sem, e0, e1]) rfl ⟨ls', p2, c2, rfl, hc2, (HC1.out.bel (HB2.out.trans HB9.out)).off hO ?_ (show ¬ G = w.heap.size + 1 + 1 by omega), (HR2.out.bel HB9.out).apart hO hh, ?_⟩
  · intro e
    have h1 : B = w.heap.size + 1 + 1 := e
    have h2 := BL.out
    omega
  · exact Off.trans (Off.trans (TB.out.off (Only G)) (HO2.out.thenB HB9.out) (fun i e => .inl e)) hO (fun i e => .inr (by omega))
theorem do_else (f : Nat → Prop) (B G P L : Nat) (ls : Ls) (a : Ac) (p : Option Addr) (c : Nat) (w : World) (hC : Ch w B G P L ls) (hR : RefIn f w p L ls) (hfG : f G) (hf : ∀ j, f j → j < w.heap.size) (hc : L ≤ c) (hk : ¬ (a.k = 0 ∨ a.k = 1 ∨ a.k = 2 ∨ a.k = 3)) :
    Calls Try.prog 10 #[.pointer (some ⟨B, 0, none⟩), rv P p L c, .agg #[.int .i64 a.k, .int .i64 a.a, .int .i64 a.b]] w fun e w' => ∃ ls' p' c', e = .returned (.tuple #[rv P p' L c', .bool true]) ∧ L ≤ c' ∧ Ch w' B G P L ls' ∧ RefIn f w' p' L ls' ∧ Off (Only G) w w' := by
  have hG := hC.ltG.1
  have BL := Lib.hid hC.ltG.2.1
  have TC := Lib.hid (three_cells w G P p L c a hG)
  have TB := Lib.hid (three_bel w P p L c a)
  have RF := Lib.hid hR
  have HC := Lib.hid hC
  have k0 : (a.k == 0) = false := by simp; omega
  have k1 : (a.k == 1) = false := by simp; omega
  have k2 : (a.k == 2) = false := by simp; omega
  have k3 : (a.k == 3) = false := by simp; omega
  clear hC hR hfG hf hk
  unfold rv three at *
  go_enter Try.func10, Try.ntmps10
  go_upto_region 1 with (fail)
  generalize hW : ((w.alloc (.cells #[.int .i64 P, .slice p L c] 27)).alloc (.cells #[.int .i64 a.k, .int .i64 a.a, .int .i64 a.b] 33)).alloc (.cells #[.int .i64 0, .slice none 0 0] 27) = W at *
  obtain ⟨⟨d0, d1⟩, ⟨a0, a1, a2⟩, ⟨e0, e1⟩, ⟨g0, g1⟩, hz, hh⟩ := TC.out _ (Off.refl _ W)
  clear hW
  go_wp2
  have hO := off2 W (w.heap.size + 1 + 1) (.int .i64 P) (.slice p L c)
  refine bodyPost_ret (v := .tuple #[.agg #[.int .i64 P, .slice p L c], .bool true]) (by simp [results, Try.results10, go_sem, e0, e1]) rfl ⟨ls, p, c, rfl, hc, (HC.out.bel TB.out).off hO ?_ (show ¬ G = w.heap.size + 1 + 1 by omega), (RF.out.bel TB.out).apart hO hh, ?_⟩
  · intro e
    have h1 : B = w.heap.size + 1 + 1 := e
    have h2 := BL.out
    omega
  · exact Off.trans (TB.out.off (Only G)) hO (fun i e => .inr (by omega))
theorem do_any (f : Nat → Prop) (B G P L : Nat) (ls : Ls) (a : Ac) (p : Option Addr) (c : Nat) (w : World) (hC : Ch w B G P L ls) (hR : RefIn f w p L ls) (hfG : f G) (hf : ∀ j, f j → j < w.heap.size) (hc : L ≤ c) :
    Calls Try.prog 10 #[.pointer (some ⟨B, 0, none⟩), rv P p L c, .agg #[.int .i64 a.k, .int .i64 a.a, .int .i64 a.b]] w fun e w' => ∃ ls' p' c', e = .returned (.tuple #[rv P p' L c', .bool true]) ∧ L ≤ c' ∧ Ch w' B G P L ls' ∧ RefIn f w' p' L ls' ∧ Off (Only G) w w' := by
  by_cases h0 : a.k = 0
  · exact do_append f B G P L ls a p c w hC hR hfG hf hc h0
  by_cases h1 : a.k = 1
  · exact do_insert f B G P L ls a p c w hC hR hfG hf hc h1
  by_cases h2 : a.k = 2
  · exact do_drop f B G P L ls a p c w hC hR hfG hf hc h2
  by_cases h3 : a.k = 3
  · exact do_splice f B G P L ls a p c w hC hR hfG hf hc h3
  · exact do_else f B G P L ls a p c w hC hR hfG hf hc (by omega)
end Go.Proofs.Ytdeiknfaehpheaa
