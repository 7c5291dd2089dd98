/-
  Contracts of newPlaceQueue and New: a wheel of new blocks.
-/
import Derived.Test.YtllohpojajijjaaGreatDoorWop
import Derived.Test.YtllohpojajijjaaGreatDoorNew
set_option linter.unusedVariables false
set_option linter.unusedSimpArgs false
namespace Go.Proofs.YtllohpojajijjaaGreatDoor
open Go.RowKit
theorem made43 (N : Nat) : madeCells (Value.agg #[.int .u64 0, .int .u64 0, .int .i64 0]).cells (N * 3) = (encQ N (fun _ => ⟨0, 0, 0⟩)).toArray := by
  apply Array.toList_inj.1
  refine encQ_ext (by simp [madeCells]) (fun i j hi hj => ?_)
  have hlt : i * 3 + j < N * 3 := by omega
  unfold madeCells
  rw [Array.getElem?_toList, Array.getElem?_map, Array.getElem?_range]
  simp only [hlt, if_true, Option.map_some]
  obtain rfl | rfl | rfl : j = 0 ∨ j = 1 ∨ j = 2 := by omega
  all_goals simp [Value.cells, enc]
theorem make43 (N : Nat) (hN : N ≤ 2048) (w : World) : (Instr.makeSlice 29 (.int .i64 (N : Int)) (.int .i64 (N : Int))).run Tryz.prog w = .ok (.slice (some ⟨w.heap.size, 0, none⟩) N N) (w.alloc (.cells (encQ N (fun _ => ⟨0, 0, 0⟩)).toArray 37)) := by
  obtain ⟨i, hi, hz, hs, hb⟩ := info_parts info37
  have h := run_make (P := Tryz.prog) w 29 37 i _ Tryz.underlying29 hi hz .i64 .i64 (N : Int) (N : Int) (by omega) (Int.le_refl _) (by rw [hb]; omega) (by omega)
  rw [hs, Int.toNat_natCast, made43] at h
  exact h
theorem nplace_no (P : Int) (L : Nat) (hL : L ≤ 257) (w : World) (h : ¬ (0 ≤ P ∧ P ≤ 1024)) :
    Calls Tryz.prog 23 #[.int .i64 P, .int .i64 L] w fun e w' => e = .returned (.tuple #[.agg #[.pointer none, .slice none 0 0], .int .i64 1]) ∧ Bel w w' := by
  have hb0 : Bel w (w.alloc (.cells #[.pointer none, .slice none 0 0] 50)) := (Bel.refl _).alloc _ _
  have K := Lib.hid (new_no P L (w.alloc (.cells #[.pointer none, .slice none 0 0] 50)) (fun e => h ⟨e.1, e.2.1⟩))
  have HB0 := Lib.hid hb0
  clear h hb0
  go_enter Tryz.func23, Tryz.ntmps23
  go_wp2_with fail
  with_reducible refine K.out.mono ?_
  rintro e w1 ⟨rfl, rfl⟩
  go_wp2
  exact bodyPost_ret (v := .tuple #[.agg #[.pointer none, .slice none 0 0], .int .i64 1]) (by simp [results, Tryz.results23, go_sem]) rfl ⟨rfl, HB0.out⟩
theorem nplace_yes (P L : Nat) (w : World) (hP : P ≤ 1024) (hL : L ≤ 257) :
    Calls Tryz.prog 23 #[.int .i64 P, .int .i64 L] w fun e w' => ∃ B G R g, e = .returned (.tuple #[.agg #[.pointer (some ⟨B, 0, none⟩), .slice (some ⟨R, 0, none⟩) P P], .int .i64 0]) ∧ Chn w' B G P L g ∧ NewG P L g ∧ w'.heap[R]? = some (.cells (encQ P (fun _ => ⟨0, 0, 0⟩)).toArray 37 (0, 0)) ∧ Bel w w' ∧ w.heap.size ≤ B ∧ w.heap.size ≤ G ∧ w.heap.size ≤ R := by
  have hb0 : Bel w (w.alloc (.cells #[.pointer none, .slice none 0 0] 50)) := (Bel.refl _).alloc _ _
  have HN0 : Hid ((w.alloc (.cells #[.pointer none, .slice none 0 0] 50)).heap[w.heap.size]? = some (.cells #[.pointer none, .slice none 0 0] 50 (0, 0))) := Lib.hid (heap_alloc_new _ _)
  have K := Lib.hid (new_yes P L (w.alloc (.cells #[.pointer none, .slice none 0 0] 50)) hP (by omega))
  have HB0 := Lib.hid hb0
  have hmk := make43 P (by omega)
  generalize hc : (encQ P (fun _ => ⟨0, 0, 0⟩)).toArray = C0 at *
  clear hc hb0
  go_enter Tryz.func23, Tryz.ntmps23
  go_wp2_with fail
  with_reducible refine K.out.mono ?_
  rintro e w1 ⟨B, G, g, rfl, hch, hg, hb, hB, hG⟩
  obtain ⟨⟨x0, x1⟩, y0, y1⟩ := box2 (hb.heap HN0.out)
  have lN : w.heap.size < w1.heap.size := by have := hb.size; simp at this; omega
  have HB1 := Lib.hid (HB0.out.trans hb)
  have HCH := Lib.hid hch
  have HG := Lib.hid hg
  have hz := hb.size
  simp at hB hG
  have HGE : Hid (w.heap.size + 1 ≤ B ∧ w.heap.size + 1 ≤ G) := Lib.hid ⟨by omega, by omega⟩
  have HFIN : Hid (∀ u v, Chn (((w1.setCell ⟨w.heap.size, 0, none⟩ u).setCell ⟨w.heap.size, 1, none⟩ v).alloc (.cells C0 37)) B G P L g ∧ (((w1.setCell ⟨w.heap.size, 0, none⟩ u).setCell ⟨w.heap.size, 1, none⟩ v).alloc (.cells C0 37)).heap[w1.heap.size]? = some (.cells C0 37 (0, 0)) ∧ Bel w (((w1.setCell ⟨w.heap.size, 0, none⟩ u).setCell ⟨w.heap.size, 1, none⟩ v).alloc (.cells C0 37))) := Lib.hid (fun u v => by
    have o2 := off2 w1 w.heap.size u v
    obtain ⟨g1, g2⟩ := HGE.out
    have hch2 := HCH.out.off o2 (fun e => by have : B = w.heap.size := e; omega) (fun e => by have : G = w.heap.size := e; omega)
    refine ⟨hch2.bel ((Bel.refl _).alloc _ _), ?_, ((HB1.out.setCell (p := ⟨w.heap.size, 0, none⟩) (Nat.le_refl _) u).setCell (p := ⟨w.heap.size, 1, none⟩) (Nat.le_refl _) v).alloc _ _⟩
    have h5 := heap_alloc_new ((w1.setCell ⟨w.heap.size, 0, none⟩ u).setCell ⟨w.heap.size, 1, none⟩ v) (.cells C0 37)
    simpa [World.setCell] using h5)
  have HCE : Hid (∀ u v, (((w1.setCell ⟨w.heap.size, 0, none⟩ u).setCell ⟨w.heap.size, 1, none⟩ v).alloc (.cells C0 37)).heap[w.heap.size]? = some (.cells #[u, v] 50 (0, 0))) := Lib.hid (fun u v => by
    have e1 := heap_setCell_same w1 w.heap.size 0 _ 50 u (hb.heap HN0.out)
    have e2 := heap_setCell_same _ w.heap.size 1 _ 50 v e1
    rw [Below.heap_alloc _ _ _ (by simp [World.setCell]; omega)]
    exact e2)
  clear hch hg hb hB hG hz
  go_upto_region 4 with (fail)
  go_wp2
  obtain ⟨⟨d0, d1⟩, _⟩ := box2 (HCE.out (.pointer (some ⟨B, 0, none⟩)) (.slice (some ⟨w1.heap.size, 0, none⟩) P P))
  refine bodyPost_ret (v := .tuple #[.agg #[.pointer (some ⟨B, 0, none⟩), .slice (some ⟨w1.heap.size, 0, none⟩) P P], .int .i64 0]) (by simp [results, Tryz.results23, go_sem, d0, d1]) rfl ?_
  obtain ⟨f1, f2, f3⟩ := HFIN.out (.pointer (some ⟨B, 0, none⟩)) (.slice (some ⟨w1.heap.size, 0, none⟩) P P)
  exact ⟨B, G, w1.heap.size, g, rfl, f1, HG.out, f2, f3, by have := HGE.out; omega, by have := HGE.out; omega, by omega⟩
theorem qnew_bits (P b s : Int) (w : World) (h : ¬ (1 ≤ b ∧ b ≤ 6)) :
    Calls Tryz.prog 5 #[.int .i64 P, .int .i64 b, .int .u64 s] w fun e w' => e = .returned (.tuple #[.pointer none, .int .i64 1]) ∧ Bel w w' := by
  by_cases h1 : b < 1
  · clear h
    go_enter Tryz.func5, Tryz.ntmps5
    go_wp2
    go_ret2
    exact ⟨rfl, Bel.refl _⟩
  · have h2 : 6 < b := by omega
    clear h
    go_enter Tryz.func5, Tryz.ntmps5
    go_wp2
    go_ret2
    exact ⟨rfl, Bel.refl _⟩
theorem qnew_place (P s : Int) (bn : Nat) (hb : 1 ≤ bn ∧ bn ≤ 6) (w : World) (hP : ¬ (0 ≤ P ∧ P ≤ 1024)) :
    Calls Tryz.prog 5 #[.int .i64 P, .int .i64 (bn : Nat), .int .u64 s] w fun e w' => e = .returned (.tuple #[.pointer none, .int .i64 1]) ∧ Bel w w' := by
  have K : ∀ L : Nat, L ≤ 257 → Calls Tryz.prog 23 #[.int .i64 P, .int .i64 (L : Nat)] w fun e w' => e = .returned (.tuple #[.agg #[.pointer none, .slice none 0 0], .int .i64 1]) ∧ Bel w w' := fun L hL => nplace_no P L hL w hP
  clear hP
  have hc : bn = 1 ∨ bn = 2 ∨ bn = 3 ∨ bn = 4 ∨ bn = 5 ∨ bn = 6 := by omega
  clear hb
  rcases hc with rfl | rfl | rfl | rfl | rfl | rfl
  · have K1 := K 9 (by omega)
    rw [show ((9 : Nat) : Int) = 9 from rfl] at K1
    have K2 := Lib.hid K1
    clear K K1
    go_enter Tryz.func5, Tryz.ntmps5
    go_wp2_with fail
    with_reducible refine K2.out.mono ?_
    rintro e w1 ⟨rfl, hb⟩
    have HB := Lib.hid (hb.alloc #[.pointer none, .slice none 0 0] 50)
    clear hb
    go_wp2
    go_ret2
    exact ⟨rfl, HB.out⟩
  · have K1 := K 17 (by omega)
    rw [show ((17 : Nat) : Int) = 17 from rfl] at K1
    have K2 := Lib.hid K1
    clear K K1
    go_enter Tryz.func5, Tryz.ntmps5
    go_wp2_with fail
    with_reducible refine K2.out.mono ?_
    rintro e w1 ⟨rfl, hb⟩
    have HB := Lib.hid (hb.alloc #[.pointer none, .slice none 0 0] 50)
    clear hb
    go_wp2
    go_ret2
    exact ⟨rfl, HB.out⟩
  · have K1 := K 33 (by omega)
    rw [show ((33 : Nat) : Int) = 33 from rfl] at K1
    have K2 := Lib.hid K1
    clear K K1
    go_enter Tryz.func5, Tryz.ntmps5
    go_wp2_with fail
    with_reducible refine K2.out.mono ?_
    rintro e w1 ⟨rfl, hb⟩
    have HB := Lib.hid (hb.alloc #[.pointer none, .slice none 0 0] 50)
    clear hb
    go_wp2
    go_ret2
    exact ⟨rfl, HB.out⟩
  · have K1 := K 65 (by omega)
    rw [show ((65 : Nat) : Int) = 65 from rfl] at K1
    have K2 := Lib.hid K1
    clear K K1
    go_enter Tryz.func5, Tryz.ntmps5
    go_wp2_with fail
    with_reducible refine K2.out.mono ?_
    rintro e w1 ⟨rfl, hb⟩
    have HB := Lib.hid (hb.alloc #[.pointer none, .slice none 0 0] 50)
    clear hb
    go_wp2
    go_ret2
    exact ⟨rfl, HB.out⟩
  · have K1 := K 129 (by omega)
    rw [show ((129 : Nat) : Int) = 129 from rfl] at K1
    have K2 := Lib.hid K1
    clear K K1
    go_enter Tryz.func5, Tryz.ntmps5
    go_wp2_with fail
    with_reducible refine K2.out.mono ?_
    rintro e w1 ⟨rfl, hb⟩
    have HB := Lib.hid (hb.alloc #[.pointer none, .slice none 0 0] 50)
    clear hb
    go_wp2
    go_ret2
    exact ⟨rfl, HB.out⟩
  · have K1 := K 257 (by omega)
    rw [show ((257 : Nat) : Int) = 257 from rfl] at K1
    have K2 := Lib.hid K1
    clear K K1
    go_enter Tryz.func5, Tryz.ntmps5
    go_wp2_with fail
    with_reducible refine K2.out.mono ?_
    rintro e w1 ⟨rfl, hb⟩
    have HB := Lib.hid (hb.alloc #[.pointer none, .slice none 0 0] 50)
    clear hb
    go_wp2
    go_ret2
    exact ⟨rfl, HB.out⟩
theorem qnew_no (P b s : Int) (w : World) (h : ¬ ((0 ≤ P ∧ P ≤ 1024) ∧ 1 ≤ b ∧ b ≤ 6)) :
    Calls Tryz.prog 5 #[.int .i64 P, .int .i64 b, .int .u64 s] w fun e w' => e = .returned (.tuple #[.pointer none, .int .i64 1]) ∧ Bel w w' := by
  by_cases hb : 1 ≤ b ∧ b ≤ 6
  · obtain ⟨bn, rfl⟩ : ∃ bn : Nat, b = bn := ⟨b.toNat, by omega⟩
    exact qnew_place P s bn (by omega) w (fun e => h ⟨e, hb⟩)
  · exact qnew_bits P b s w hb
theorem qnew_body (P S : Nat) (s : Int) (w : World) (hP : P ≤ 1024) (hS : S ≤ 256) (b : Nat) (hbS : slo b = S) (hb : 1 ≤ b ∧ b ≤ 6) (hs : Tk s) (hT : Bm.Tab w) {w1 : World} {B G R : Nat} {g : Rg} (hc : Chn w1 B G P (S + 1) g) (hg : NewG P (S + 1) g)
    (hR : w1.heap[R]? = some (.cells (encQ P (fun _ => ⟨0, 0, 0⟩)).toArray 37 (0, 0))) (h1 : Bel w w1) (hB : w.heap.size ≤ B) (hG : w.heap.size ≤ G) (hRR : w.heap.size ≤ R) {w2 : World} {Q : Nat} (h2 : Bel w1 w2)
    (hQ : w2.heap[Q]? = some (.cells #[.pointer (some ⟨B, 0, none⟩), .slice (some ⟨R, 0, none⟩) P P, .int .i64 (S : Nat), .int .u64 s, .int .u64 0, .int .u64 0, .int .u64 0, .int .u64 0, .int .i64 0] 54 (0, 0))) (hQQ : w.heap.size ≤ Q) :
    Wh w2 Q B G R P b s 0 [] := by
  subst hbS
  have hz : 0 < w.heap.size := by
    have := World.block_lt_of_cell? w _ (hT 0 (by omega))
    simpa using this
  have hb12 := h1.trans h2
  refine ⟨⟨fun _ => [], fun _ => ⟨0, 0, 0⟩, fun _ => 0, ⟨⟨g, ⟨hQ, hc.bel h2, h2.heap hR⟩, rep_new hg⟩, ⟨fun x hx => by simp at hx, fun t _ i hi => by simp at hi, List.nodup_nil, List.Pairwise.nil⟩, hP, by omega⟩, ⟨fun k => by simp, fun i => by simp [Bm.tb]⟩⟩, ⟨hb, hs, fun t ht => by simp at ht, fun j hj => hb12.cell (hT j hj), by omega, by omega, by omega, by omega⟩⟩
theorem qnew_yes (P b : Nat) (s : Int) (w : World) (hP : P ≤ 1024) (hb : 1 ≤ b ∧ b ≤ 6) (hs : Tk s) (hT : Bm.Tab w) :
    Calls Tryz.prog 5 #[.int .i64 P, .int .i64 b, .int .u64 s] w fun e w' => ∃ Q B G R, e = .returned (.tuple #[.pointer (some ⟨Q, 0, none⟩), .int .i64 0]) ∧ Wh w' Q B G R P b s 0 [] ∧ (∀ k, Fo4 Q B G R k → w.heap.size ≤ k) ∧ Bel w w' := by
  have K : ∀ L : Nat, L ≤ 257 → Calls Tryz.prog 23 #[.int .i64 P, .int .i64 (L : Nat)] w fun e w' => ∃ B G R g, e = .returned (.tuple #[.agg #[.pointer (some ⟨B, 0, none⟩), .slice (some ⟨R, 0, none⟩) P P], .int .i64 0]) ∧ Chn w' B G P L g ∧ NewG P L g ∧ w'.heap[R]? = some (.cells (encQ P (fun _ => ⟨0, 0, 0⟩)).toArray 37 (0, 0)) ∧ Bel w w' ∧ w.heap.size ≤ B ∧ w.heap.size ≤ G ∧ w.heap.size ≤ R := fun L hL => nplace_yes P L w hP hL
  have KB := Lib.hid (fun (S : Nat) (hS : S ≤ 256) (hbS : slo b = S) (w1 w2 : World) (B G R Q : Nat) (g : Rg) hc hg hR h1 hB hG hRR h2 hQ hQQ => qnew_body (w1 := w1) (w2 := w2) (B := B) (G := G) (R := R) (Q := Q) (g := g) P S s w hP hS b hbS hb hs hT hc hg hR h1 hB hG hRR h2 hQ hQQ)
  have hcs : b = 1 ∨ b = 2 ∨ b = 3 ∨ b = 4 ∨ b = 5 ∨ b = 6 := by omega
  clear hb hs hT
  rcases hcs with rfl | rfl | rfl | rfl | rfl | rfl
  · have K1 := K 9 (by omega)
    rw [show ((9 : Nat) : Int) = 9 from rfl] at K1
    have K2 := Lib.hid K1
    clear K K1
    go_enter Tryz.func5, Tryz.ntmps5
    go_wp2_with fail
    with_reducible refine K2.out.mono ?_
    rintro e w1 ⟨B, G, R, g, rfl, hc, hg, hR, h1, hB, hG, hRR⟩
    have HX : Hid (Bel w1 ((w1.alloc (.cells #[.pointer (some ⟨B, 0, none⟩), .slice (some ⟨R, 0, none⟩) P P] 50)).alloc (.cells #[.pointer (some ⟨B, 0, none⟩), .slice (some ⟨R, 0, none⟩) P P, .int .i64 8, .int .u64 s, .int .u64 0, .int .u64 0, .int .u64 0, .int .u64 0, .int .i64 0] 54)) ∧ Wh ((w1.alloc (.cells #[.pointer (some ⟨B, 0, none⟩), .slice (some ⟨R, 0, none⟩) P P] 50)).alloc (.cells #[.pointer (some ⟨B, 0, none⟩), .slice (some ⟨R, 0, none⟩) P P, .int .i64 8, .int .u64 s, .int .u64 0, .int .u64 0, .int .u64 0, .int .u64 0, .int .i64 0] 54)) (w1.heap.size + 1) B G R P 1 s 0 []) := Lib.hid (by
      have hb2 : Bel w1 ((w1.alloc (.cells #[.pointer (some ⟨B, 0, none⟩), .slice (some ⟨R, 0, none⟩) P P] 50)).alloc (.cells #[.pointer (some ⟨B, 0, none⟩), .slice (some ⟨R, 0, none⟩) P P, .int .i64 8, .int .u64 s, .int .u64 0, .int .u64 0, .int .u64 0, .int .u64 0, .int .i64 0] 54)) := ((Bel.refl w1).alloc _ _).alloc _ _
      have h5 := heap_alloc_new (w1.alloc (.cells #[.pointer (some ⟨B, 0, none⟩), .slice (some ⟨R, 0, none⟩) P P] 50)) (.cells #[.pointer (some ⟨B, 0, none⟩), .slice (some ⟨R, 0, none⟩) P P, .int .i64 8, .int .u64 s, .int .u64 0, .int .u64 0, .int .u64 0, .int .u64 0, .int .i64 0] 54)
      rw [World.size_alloc] at h5
      exact ⟨hb2, KB.out 8 (by omega) rfl w1 _ B G R _ g hc hg hR h1 hB hG hRR hb2 h5 (by have := h1.size; omega)⟩)
    have HG : Hid (Bel w w1 ∧ w.heap.size ≤ B ∧ w.heap.size ≤ G ∧ w.heap.size ≤ R) := Lib.hid ⟨h1, hB, hG, hRR⟩
    clear hc hg hR h1 hB hG hRR
    go_wp2
    go_ret2
    refine ⟨_, _, _, _, rfl, HX.out.2, fun k e => ?_, HG.out.1.trans HX.out.1⟩
    obtain ⟨g1, g2, g3, g4⟩ := HG.out
    have := g1.size
    rcases e with e | e | e | e <;> omega
  · have K1 := K 17 (by omega)
    rw [show ((17 : Nat) : Int) = 17 from rfl] at K1
    have K2 := Lib.hid K1
    clear K K1
    go_enter Tryz.func5, Tryz.ntmps5
    go_wp2_with fail
    with_reducible refine K2.out.mono ?_
    rintro e w1 ⟨B, G, R, g, rfl, hc, hg, hR, h1, hB, hG, hRR⟩
    have HX : Hid (Bel w1 ((w1.alloc (.cells #[.pointer (some ⟨B, 0, none⟩), .slice (some ⟨R, 0, none⟩) P P] 50)).alloc (.cells #[.pointer (some ⟨B, 0, none⟩), .slice (some ⟨R, 0, none⟩) P P, .int .i64 16, .int .u64 s, .int .u64 0, .int .u64 0, .int .u64 0, .int .u64 0, .int .i64 0] 54)) ∧ Wh ((w1.alloc (.cells #[.pointer (some ⟨B, 0, none⟩), .slice (some ⟨R, 0, none⟩) P P] 50)).alloc (.cells #[.pointer (some ⟨B, 0, none⟩), .slice (some ⟨R, 0, none⟩) P P, .int .i64 16, .int .u64 s, .int .u64 0, .int .u64 0, .int .u64 0, .int .u64 0, .int .i64 0] 54)) (w1.heap.size + 1) B G R P 2 s 0 []) := Lib.hid (by
      have hb2 : Bel w1 ((w1.alloc (.cells #[.pointer (some ⟨B, 0, none⟩), .slice (some ⟨R, 0, none⟩) P P] 50)).alloc (.cells #[.pointer (some ⟨B, 0, none⟩), .slice (some ⟨R, 0, none⟩) P P, .int .i64 16, .int .u64 s, .int .u64 0, .int .u64 0, .int .u64 0, .int .u64 0, .int .i64 0] 54)) := ((Bel.refl w1).alloc _ _).alloc _ _
      have h5 := heap_alloc_new (w1.alloc (.cells #[.pointer (some ⟨B, 0, none⟩), .slice (some ⟨R, 0, none⟩) P P] 50)) (.cells #[.pointer (some ⟨B, 0, none⟩), .slice (some ⟨R, 0, none⟩) P P, .int .i64 16, .int .u64 s, .int .u64 0, .int .u64 0, .int .u64 0, .int .u64 0, .int .i64 0] 54)
      rw [World.size_alloc] at h5
      exact ⟨hb2, KB.out 16 (by omega) rfl w1 _ B G R _ g hc hg hR h1 hB hG hRR hb2 h5 (by have := h1.size; omega)⟩)
    have HG : Hid (Bel w w1 ∧ w.heap.size ≤ B ∧ w.heap.size ≤ G ∧ w.heap.size ≤ R) := Lib.hid ⟨h1, hB, hG, hRR⟩
    clear hc hg hR h1 hB hG hRR
    go_wp2
    go_ret2
    refine ⟨_, _, _, _, rfl, HX.out.2, fun k e => ?_, HG.out.1.trans HX.out.1⟩
    obtain ⟨g1, g2, g3, g4⟩ := HG.out
    have := g1.size
    rcases e with e | e | e | e <;> omega
  · have K1 := K 33 (by omega)
    rw [show ((33 : Nat) : Int) = 33 from rfl] at K1
    have K2 := Lib.hid K1
    clear K K1
    go_enter Tryz.func5, Tryz.ntmps5
    go_wp2_with fail
    with_reducible refine K2.out.mono ?_
    rintro e w1 ⟨B, G, R, g, rfl, hc, hg, hR, h1, hB, hG, hRR⟩
    have HX : Hid (Bel w1 ((w1.alloc (.cells #[.pointer (some ⟨B, 0, none⟩), .slice (some ⟨R, 0, none⟩) P P] 50)).alloc (.cells #[.pointer (some ⟨B, 0, none⟩), .slice (some ⟨R, 0, none⟩) P P, .int .i64 32, .int .u64 s, .int .u64 0, .int .u64 0, .int .u64 0, .int .u64 0, .int .i64 0] 54)) ∧ Wh ((w1.alloc (.cells #[.pointer (some ⟨B, 0, none⟩), .slice (some ⟨R, 0, none⟩) P P] 50)).alloc (.cells #[.pointer (some ⟨B, 0, none⟩), .slice (some ⟨R, 0, none⟩) P P, .int .i64 32, .int .u64 s, .int .u64 0, .int .u64 0, .int .u64 0, .int .u64 0, .int .i64 0] 54)) (w1.heap.size + 1) B G R P 3 s 0 []) := Lib.hid (by
      have hb2 : Bel w1 ((w1.alloc (.cells #[.pointer (some ⟨B, 0, none⟩), .slice (some ⟨R, 0, none⟩) P P] 50)).alloc (.cells #[.pointer (some ⟨B, 0, none⟩), .slice (some ⟨R, 0, none⟩) P P, .int .i64 32, .int .u64 s, .int .u64 0, .int .u64 0, .int .u64 0, .int .u64 0, .int .i64 0] 54)) := ((Bel.refl w1).alloc _ _).alloc _ _
      have h5 := heap_alloc_new (w1.alloc (.cells #[.pointer (some ⟨B, 0, none⟩), .slice (some ⟨R, 0, none⟩) P P] 50)) (.cells #[.pointer (some ⟨B, 0, none⟩), .slice (some ⟨R, 0, none⟩) P P, .int .i64 32, .int .u64 s, .int .u64 0, .int .u64 0, .int .u64 0, .int .u64 0, .int .i64 0] 54)
      rw [World.size_alloc] at h5
      exact ⟨hb2, KB.out 32 (by omega) rfl w1 _ B G R _ g hc hg hR h1 hB hG hRR hb2 h5 (by have := h1.size; omega)⟩)
    have HG : Hid (Bel w w1 ∧ w.heap.size ≤ B ∧ w.heap.size ≤ G ∧ w.heap.size ≤ R) := Lib.hid ⟨h1, hB, hG, hRR⟩
    clear hc hg hR h1 hB hG hRR
    go_wp2
    go_ret2
    refine ⟨_, _, _, _, rfl, HX.out.2, fun k e => ?_, HG.out.1.trans HX.out.1⟩
    obtain ⟨g1, g2, g3, g4⟩ := HG.out
    have := g1.size
    rcases e with e | e | e | e <;> omega
  · have K1 := K 65 (by omega)
    rw [show ((65 : Nat) : Int) = 65 from rfl] at K1
    have K2 := Lib.hid K1
    clear K K1
    go_enter Tryz.func5, Tryz.ntmps5
    go_wp2_with fail
    with_reducible refine K2.out.mono ?_
    rintro e w1 ⟨B, G, R, g, rfl, hc, hg, hR, h1, hB, hG, hRR⟩
    have HX : Hid (Bel w1 ((w1.alloc (.cells #[.pointer (some ⟨B, 0, none⟩), .slice (some ⟨R, 0, none⟩) P P] 50)).alloc (.cells #[.pointer (some ⟨B, 0, none⟩), .slice (some ⟨R, 0, none⟩) P P, .int .i64 64, .int .u64 s, .int .u64 0, .int .u64 0, .int .u64 0, .int .u64 0, .int .i64 0] 54)) ∧ Wh ((w1.alloc (.cells #[.pointer (some ⟨B, 0, none⟩), .slice (some ⟨R, 0, none⟩) P P] 50)).alloc (.cells #[.pointer (some ⟨B, 0, none⟩), .slice (some ⟨R, 0, none⟩) P P, .int .i64 64, .int .u64 s, .int .u64 0, .int .u64 0, .int .u64 0, .int .u64 0, .int .i64 0] 54)) (w1.heap.size + 1) B G R P 4 s 0 []) := Lib.hid (by
      have hb2 : Bel w1 ((w1.alloc (.cells #[.pointer (some ⟨B, 0, none⟩), .slice (some ⟨R, 0, none⟩) P P] 50)).alloc (.cells #[.pointer (some ⟨B, 0, none⟩), .slice (some ⟨R, 0, none⟩) P P, .int .i64 64, .int .u64 s, .int .u64 0, .int .u64 0, .int .u64 0, .int .u64 0, .int .i64 0] 54)) := ((Bel.refl w1).alloc _ _).alloc _ _
      have h5 := heap_alloc_new (w1.alloc (.cells #[.pointer (some ⟨B, 0, none⟩), .slice (some ⟨R, 0, none⟩) P P] 50)) (.cells #[.pointer (some ⟨B, 0, none⟩), .slice (some ⟨R, 0, none⟩) P P, .int .i64 64, .int .u64 s, .int .u64 0, .int .u64 0, .int .u64 0, .int .u64 0, .int .i64 0] 54)
      rw [World.size_alloc] at h5
      exact ⟨hb2, KB.out 64 (by omega) rfl w1 _ B G R _ g hc hg hR h1 hB hG hRR hb2 h5 (by have := h1.size; omega)⟩)
    have HG : Hid (Bel w w1 ∧ w.heap.size ≤ B ∧ w.heap.size ≤ G ∧ w.heap.size ≤ R) := Lib.hid ⟨h1, hB, hG, hRR⟩
    clear hc hg hR h1 hB hG hRR
    go_wp2
    go_ret2
    refine ⟨_, _, _, _, rfl, HX.out.2, fun k e => ?_, HG.out.1.trans HX.out.1⟩
    obtain ⟨g1, g2, g3, g4⟩ := HG.out
    have := g1.size
    rcases e with e | e | e | e <;> omega
  · have K1 := K 129 (by omega)
    rw [show ((129 : Nat) : Int) = 129 from rfl] at K1
    have K2 := Lib.hid K1
    clear K K1
    go_enter Tryz.func5, Tryz.ntmps5
    go_wp2_with fail
    with_reducible refine K2.out.mono ?_
    rintro e w1 ⟨B, G, R, g, rfl, hc, hg, hR, h1, hB, hG, hRR⟩
    have HX : Hid (Bel w1 ((w1.alloc (.cells #[.pointer (some ⟨B, 0, none⟩), .slice (some ⟨R, 0, none⟩) P P] 50)).alloc (.cells #[.pointer (some ⟨B, 0, none⟩), .slice (some ⟨R, 0, none⟩) P P, .int .i64 128, .int .u64 s, .int .u64 0, .int .u64 0, .int .u64 0, .int .u64 0, .int .i64 0] 54)) ∧ Wh ((w1.alloc (.cells #[.pointer (some ⟨B, 0, none⟩), .slice (some ⟨R, 0, none⟩) P P] 50)).alloc (.cells #[.pointer (some ⟨B, 0, none⟩), .slice (some ⟨R, 0, none⟩) P P, .int .i64 128, .int .u64 s, .int .u64 0, .int .u64 0, .int .u64 0, .int .u64 0, .int .i64 0] 54)) (w1.heap.size + 1) B G R P 5 s 0 []) := Lib.hid (by
      have hb2 : Bel w1 ((w1.alloc (.cells #[.pointer (some ⟨B, 0, none⟩), .slice (some ⟨R, 0, none⟩) P P] 50)).alloc (.cells #[.pointer (some ⟨B, 0, none⟩), .slice (some ⟨R, 0, none⟩) P P, .int .i64 128, .int .u64 s, .int .u64 0, .int .u64 0, .int .u64 0, .int .u64 0, .int .i64 0] 54)) := ((Bel.refl w1).alloc _ _).alloc _ _
      have h5 := heap_alloc_new (w1.alloc (.cells #[.pointer (some ⟨B, 0, none⟩), .slice (some ⟨R, 0, none⟩) P P] 50)) (.cells #[.pointer (some ⟨B, 0, none⟩), .slice (some ⟨R, 0, none⟩) P P, .int .i64 128, .int .u64 s, .int .u64 0, .int .u64 0, .int .u64 0, .int .u64 0, .int .i64 0] 54)
      rw [World.size_alloc] at h5
      exact ⟨hb2, KB.out 128 (by omega) rfl w1 _ B G R _ g hc hg hR h1 hB hG hRR hb2 h5 (by have := h1.size; omega)⟩)
    have HG : Hid (Bel w w1 ∧ w.heap.size ≤ B ∧ w.heap.size ≤ G ∧ w.heap.size ≤ R) := Lib.hid ⟨h1, hB, hG, hRR⟩
    clear hc hg hR h1 hB hG hRR
    go_wp2
    go_ret2
    refine ⟨_, _, _, _, rfl, HX.out.2, fun k e => ?_, HG.out.1.trans HX.out.1⟩
    obtain ⟨g1, g2, g3, g4⟩ := HG.out
    have := g1.size
    rcases e with e | e | e | e <;> omega
  · have K1 := K 257 (by omega)
    rw [show ((257 : Nat) : Int) = 257 from rfl] at K1
    have K2 := Lib.hid K1
    clear K K1
    go_enter Tryz.func5, Tryz.ntmps5
    go_wp2_with fail
    with_reducible refine K2.out.mono ?_
    rintro e w1 ⟨B, G, R, g, rfl, hc, hg, hR, h1, hB, hG, hRR⟩
    have HX : Hid (Bel w1 ((w1.alloc (.cells #[.pointer (some ⟨B, 0, none⟩), .slice (some ⟨R, 0, none⟩) P P] 50)).alloc (.cells #[.pointer (some ⟨B, 0, none⟩), .slice (some ⟨R, 0, none⟩) P P, .int .i64 256, .int .u64 s, .int .u64 0, .int .u64 0, .int .u64 0, .int .u64 0, .int .i64 0] 54)) ∧ Wh ((w1.alloc (.cells #[.pointer (some ⟨B, 0, none⟩), .slice (some ⟨R, 0, none⟩) P P] 50)).alloc (.cells #[.pointer (some ⟨B, 0, none⟩), .slice (some ⟨R, 0, none⟩) P P, .int .i64 256, .int .u64 s, .int .u64 0, .int .u64 0, .int .u64 0, .int .u64 0, .int .i64 0] 54)) (w1.heap.size + 1) B G R P 6 s 0 []) := Lib.hid (by
      have hb2 : Bel w1 ((w1.alloc (.cells #[.pointer (some ⟨B, 0, none⟩), .slice (some ⟨R, 0, none⟩) P P] 50)).alloc (.cells #[.pointer (some ⟨B, 0, none⟩), .slice (some ⟨R, 0, none⟩) P P, .int .i64 256, .int .u64 s, .int .u64 0, .int .u64 0, .int .u64 0, .int .u64 0, .int .i64 0] 54)) := ((Bel.refl w1).alloc _ _).alloc _ _
      have h5 := heap_alloc_new (w1.alloc (.cells #[.pointer (some ⟨B, 0, none⟩), .slice (some ⟨R, 0, none⟩) P P] 50)) (.cells #[.pointer (some ⟨B, 0, none⟩), .slice (some ⟨R, 0, none⟩) P P, .int .i64 256, .int .u64 s, .int .u64 0, .int .u64 0, .int .u64 0, .int .u64 0, .int .i64 0] 54)
      rw [World.size_alloc] at h5
      exact ⟨hb2, KB.out 256 (by omega) rfl w1 _ B G R _ g hc hg hR h1 hB hG hRR hb2 h5 (by have := h1.size; omega)⟩)
    have HG : Hid (Bel w w1 ∧ w.heap.size ≤ B ∧ w.heap.size ≤ G ∧ w.heap.size ≤ R) := Lib.hid ⟨h1, hB, hG, hRR⟩
    clear hc hg hR h1 hB hG hRR
    go_wp2
    go_ret2
    refine ⟨_, _, _, _, rfl, HX.out.2, fun k e => ?_, HG.out.1.trans HX.out.1⟩
    obtain ⟨g1, g2, g3, g4⟩ := HG.out
    have := g1.size
    rcases e with e | e | e | e <;> omega
end Go.Proofs.YtllohpojajijjaaGreatDoor
