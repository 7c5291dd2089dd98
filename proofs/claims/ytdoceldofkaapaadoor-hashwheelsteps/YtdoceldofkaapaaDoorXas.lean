/-
  Contracts of a wheel: Base and Looked.
  Contract of placed.New.
  Contract of hashwheel.New.
-/
import Derived.Test.YtdoceldofkaapaaDoorXao
import Derived.Test.YtdoceldofkaapaaDoorPx
import Derived.Test.YtdoceldofkaapaaDoorXam
import Derived.Test.YtdoceldofkaapaaDoorNew
import Derived.Test.YtdoceldofkaapaaDoorAop
set_option linter.unusedVariables false
set_option linter.unusedSimpArgs false
namespace Go.Proofs.YtdoceldofkaapaaDoor.Ha
open Go.RowKit
variable {Q Z B G R P b : Nat} {s k : Int} {l : List T}
theorem Wh.cellB {w : World} (q : Wh w Q Z B G R P b s k l) : w.cell? ⟨Q, 2, none⟩ = some (.int .u64 s) := by
  obtain ⟨⟨ls, r, F, q1, q2⟩, q3⟩ := q
  exact q1.cell rfl
theorem base_any (w : World) (q : Wh w Q Z B G R P b s k l) :
    Calls Tryd.prog 10 #[.pointer (some ⟨Q, 0, none⟩)] w fun e w' => e = .returned (.int .u64 s) ∧ Bel w w' := by
  have c3 := q.cellB
  clear q
  go_enter Tryd.func10, Tryd.ntmps10
  go_wp2
  go_ret
  exact ⟨rfl, Bel.refl _⟩
theorem Wh.cellK {w : World} (q : Wh w Q Z B G R P b s k l) : w.cell? ⟨Q, 7, none⟩ = some (.int .i64 k) := by
  obtain ⟨⟨ls, r, F, q1, q2⟩, q3⟩ := q
  exact q1.cell rfl
theorem looked_any (w : World) (q : Wh w Q Z B G R P b s k l) :
    Calls Tryd.prog 12 #[.pointer (some ⟨Q, 0, none⟩)] w fun e w' => e = .returned (.int .i64 k) ∧ Bel w w' := by
  have c3 := q.cellK
  clear q
  go_enter Tryd.func12, Tryd.ntmps12
  go_wp2
  go_ret
  exact ⟨rfl, Bel.refl _⟩
end Go.Proofs.YtdoceldofkaapaaDoor.Ha
namespace Go.Proofs.YtdoceldofkaapaaDoor
open Go.RowKit
theorem made37 (N : Nat) : madeCells (Value.agg #[.int .u64 0, .int .u64 0, .int .i64 0]).cells (N * 3) = (encQ N (fun _ => ⟨0, 0, 0⟩)).toArray := by
  apply Array.toList_inj.1
  refine encQ_ext (by simp [madeCells]) (fun i j hi hj => ?_)
  have hlt : i * 3 + j < N * 3 := by omega
  unfold madeCells
  rw [Array.getElem?_toList, Array.getElem?_map, Array.getElem?_range]
  simp only [hlt, if_true, Option.map_some]
  obtain rfl | rfl | rfl : j = 0 ∨ j = 1 ∨ j = 2 := by omega
  all_goals simp [Value.cells, enc]
theorem make37 (N : Nat) (hN : N ≤ 2048) (w : World) : (Instr.makeSlice 36 (.int .i64 (N : Int)) (.int .i64 (N : Int))).run Tryd.prog w = .ok (.slice (some ⟨w.heap.size, 0, none⟩) N N) (w.alloc (.cells (encQ N (fun _ => ⟨0, 0, 0⟩)).toArray 41)) := by
  obtain ⟨i, hi, hz, hs, hb⟩ := info_parts info41
  have h := run_make (P := Tryd.prog) w 36 41 i _ Tryd.underlying36 hi hz .i64 .i64 (N : Int) (N : Int) (by omega) (Int.le_refl _) (by rw [hb]; omega) (by omega)
  rw [hs, Int.toNat_natCast, made37] at h
  exact h
theorem pnew_no (P : Int) (L : Nat) (hL : L ≤ 258) (w : World) (h : ¬ (0 ≤ P ∧ P ≤ 1024)) :
    Calls Tryd.prog 30 #[.int .i64 P, .int .i64 L] w fun e w' => e = .returned (.tuple #[.pointer none, .int .i64 1]) ∧ w = w' := by
  have K := Lib.hid (new_no P L w (fun e => h ⟨e.1, e.2.1⟩))
  clear h
  go_enter Tryd.func30, Tryd.ntmps30
  go_wp2_with fail
  with_reducible refine K.out.mono ?_
  rintro e w1 ⟨rfl, rfl⟩
  go_wp2
  go_ret2
  exact ⟨rfl, rfl⟩
theorem pnew_yes (P L : Nat) (w : World) (hP : P ≤ 1024) (hL : L ≤ 258) :
    Calls Tryd.prog 30 #[.int .i64 P, .int .i64 L] w fun e w' => ∃ Z B G R, e = .returned (.tuple #[.pointer (some ⟨Z, 0, none⟩), .int .i64 0]) ∧ (∀ lo : T → Nat, Qp w' Z B G R P L lo (fun _ => []) (fun _ => ⟨0, 0, 0⟩) []) ∧ Bel w w' ∧ w.heap.size ≤ Z ∧ w.heap.size ≤ B ∧ w.heap.size ≤ G ∧ w.heap.size ≤ R := by
  have K := Lib.hid (new_yes P L w hP (by omega))
  have hmk := make37 P (by omega)
  have HPL := Lib.hid (And.intro hP hL)
  generalize hc : (encQ P (fun _ => ⟨0, 0, 0⟩)).toArray = C0 at *
  have HC0 := Lib.hid hc
  clear hc
  go_enter Tryd.func30, Tryd.ntmps30
  go_wp2_with fail
  with_reducible refine K.out.mono ?_
  rintro e w1 ⟨B, G, g, rfl, hch, hg, hb, hB, hG⟩
  have HB1 := Lib.hid hb
  have HCH := Lib.hid hch
  have HG := Lib.hid hg
  have HGE : Hid (w.heap.size ≤ B ∧ w.heap.size ≤ G) := Lib.hid ⟨hB, hG⟩
  clear hch hg hb hB hG
  have HF : Hid (∀ lo : T → Nat, Qp ((w1.alloc (.cells C0 41)).alloc (.cells #[.pointer (some ⟨B, 0, none⟩), .slice (some ⟨w1.heap.size, 0, none⟩) P P] 78)) (w1.heap.size + 1) B G w1.heap.size P L lo (fun _ => []) (fun _ => ⟨0, 0, 0⟩) []) := Lib.hid (fun lo => by
    have hr : (w1.alloc (.cells C0 41)).heap[w1.heap.size]? = some (.cells C0 41 (0, 0)) := heap_alloc_new _ _
    have hz := heap_alloc_new (w1.alloc (.cells C0 41)) (.cells #[.pointer (some ⟨B, 0, none⟩), .slice (some ⟨w1.heap.size, 0, none⟩) P P] 78)
    rw [World.size_alloc] at hz
    have hb2 : Bel (w1.alloc (.cells C0 41)) ((w1.alloc (.cells C0 41)).alloc (.cells #[.pointer (some ⟨B, 0, none⟩), .slice (some ⟨w1.heap.size, 0, none⟩) P P] 78)) := (Bel.refl _).alloc _ _
    refine ⟨⟨g, ⟨hz, HCH.out.bel (((Bel.refl w1).alloc _ _).trans hb2), ?_⟩, rep_new HG.out⟩, ⟨fun x hx => by simp at hx, fun t _ i hi => by simp at hi, List.nodup_nil, List.Pairwise.nil⟩, HPL.out.1, by have := HPL.out.2; omega⟩
    rw [HC0.out]
    exact hb2.heap hr)
  have HE : Hid (Bel w ((w1.alloc (.cells C0 41)).alloc (.cells #[.pointer (some ⟨B, 0, none⟩), .slice (some ⟨w1.heap.size, 0, none⟩) P P] 78))) := Lib.hid ((HB1.out.alloc _ _).alloc _ _)
  go_upto_region 4 with (fail)
  go_wp2
  go_ret2
  refine ⟨w1.heap.size + 1, B, G, w1.heap.size, by simp, HF.out, HE.out, ?_, HGE.out.1, HGE.out.2, HB1.out.size⟩
  have := HB1.out.size
  omega
end Go.Proofs.YtdoceldofkaapaaDoor
namespace Go.Proofs.YtdoceldofkaapaaDoor.Ha
open Go.RowKit
theorem qnew_bits (P b s : Int) (w : World) (h : ¬ (1 ≤ b ∧ b ≤ 6)) :
    Calls Tryd.prog 14 #[.int .i64 P, .int .i64 b, .int .u64 s] w fun e w' => e = .returned (.tuple #[.pointer none, .int .i64 1]) ∧ Bel w w' := by
  by_cases h1 : b < 1
  · clear h
    go_enter Tryd.func14, Tryd.ntmps14
    go_wp2
    go_ret2
    exact ⟨rfl, Bel.refl _⟩
  · have h2 : 6 < b := by omega
    clear h
    go_enter Tryd.func14, Tryd.ntmps14
    go_wp2
    go_ret2
    exact ⟨rfl, Bel.refl _⟩
theorem shl_slo {b S : Nat} (hb : b ≤ 6) (hS : slo b = S) : wrap64 (4 * (2 : Int) ^ b) = (S : Int) := by
  subst hS
  have : b = 0 ∨ b = 1 ∨ b = 2 ∨ b = 3 ∨ b = 4 ∨ b = 5 ∨ b = 6 := by omega
  rcases this with rfl | rfl | rfl | rfl | rfl | rfl | rfl <;> (simp [slo]; first | rfl | (unfold wrap64; decide) | simp [wrap64] | (unfold wrap64; omega))
theorem qnew_place (P s : Int) (b : Nat) (hb : 1 ≤ b ∧ b ≤ 6) (w : World) (hP : ¬ (0 ≤ P ∧ P ≤ 1024)) :
    Calls Tryd.prog 14 #[.int .i64 P, .int .i64 (b : Nat), .int .u64 s] w fun e w' => e = .returned (.tuple #[.pointer none, .int .i64 1]) ∧ Bel w w' := by
  obtain ⟨S, hS⟩ : ∃ S, slo b = S := ⟨_, rfl⟩
  have hsh := shl_slo hb.2 hS
  have hSb := slo_le hb.2
  rw [hS] at hSb
  have K1 := pnew_no P (S + 1) (by omega) w hP
  rw [show (((S + 1 : Nat) : Int)) = (S : Int) + 1 by omega] at K1
  have K := Lib.hid K1
  have h1 : ¬ (b : Int) < 1 := by omega
  have h2 : ¬ (6 : Int) < b := by omega
  clear K1 hP hb hS
  go_enter Tryd.func14, Tryd.ntmps14
  go_wp2_with fail
  with_reducible refine K.out.mono ?_
  rintro e w1 ⟨rfl, rfl⟩
  go_wp2
  go_ret2
  exact ⟨rfl, Bel.refl _⟩
theorem qnew_no (P b s : Int) (w : World) (h : ¬ ((0 ≤ P ∧ P ≤ 1024) ∧ 1 ≤ b ∧ b ≤ 6)) :
    Calls Tryd.prog 14 #[.int .i64 P, .int .i64 b, .int .u64 s] w fun e w' => e = .returned (.tuple #[.pointer none, .int .i64 1]) ∧ Bel w w' := by
  by_cases hb : 1 ≤ b ∧ b ≤ 6
  · obtain ⟨bn, rfl⟩ : ∃ bn : Nat, b = bn := ⟨b.toNat, by omega⟩
    exact qnew_place P s bn (by omega) w (fun e => h ⟨e, hb⟩)
  · exact qnew_bits P b s w hb
theorem qnew_yes (P b : Nat) (s : Int) (w : World) (hP : P ≤ 1024) (hb : 1 ≤ b ∧ b ≤ 6) (hs : Tk s) (hT : Bm.Tab w) :
    Calls Tryd.prog 14 #[.int .i64 P, .int .i64 b, .int .u64 s] w fun e w' => ∃ Q Z B G R, e = .returned (.tuple #[.pointer (some ⟨Q, 0, none⟩), .int .i64 0]) ∧ Wh w' Q Z B G R P b s 0 [] ∧ (∀ k, Fo5 Q Z B G R k → w.heap.size ≤ k) ∧ Bel w w' := by
  obtain ⟨S, hS⟩ : ∃ S, slo b = S := ⟨_, rfl⟩
  have hsh := shl_slo hb.2 hS
  have hSb := slo_le hb.2
  rw [hS] at hSb
  have K1 := pnew_yes P (S + 1) w hP (by omega)
  rw [show (((S + 1 : Nat) : Int)) = (S : Int) + 1 by omega] at K1
  have K := Lib.hid K1
  have HT := Lib.hid hT
  have HBS := Lib.hid (And.intro hb hs)
  have HS := Lib.hid hS
  have h1 : ¬ (b : Int) < 1 := by omega
  have h2 : ¬ (6 : Int) < b := by omega
  clear K1 hP hb hS hs hT
  go_enter Tryd.func14, Tryd.ntmps14
  go_wp2_with fail
  with_reducible refine K.out.mono ?_
  rintro e w1 ⟨Z, B, G, R, rfl, hq, hb, hZ, hB, hG, hR⟩
  have HQ := Lib.hid hq
  have HB1 := Lib.hid hb
  have HG : Hid (w.heap.size ≤ Z ∧ w.heap.size ≤ B ∧ w.heap.size ≤ G ∧ w.heap.size ≤ R) := Lib.hid ⟨hZ, hB, hG, hR⟩
  clear hq hb hZ hB hG hR K
  have HX : Hid (Wh (w1.alloc (.cells #[.pointer (some ⟨Z, 0, none⟩), .int .i64 S, .int .u64 s, .int .u64 0, .int .u64 0, .int .u64 0, .int .u64 0, .int .i64 0] 34)) w1.heap.size Z B G R P b s 0 [] ∧ Bel w1 (w1.alloc (.cells #[.pointer (some ⟨Z, 0, none⟩), .int .i64 S, .int .u64 s, .int .u64 0, .int .u64 0, .int .u64 0, .int .u64 0, .int .i64 0] 34))) := Lib.hid (by
    obtain ⟨g1, g2, g3, g4⟩ := HG.out
    obtain ⟨hbb, hss⟩ := HBS.out
    have hz0 : 0 < w.heap.size := by
      have := World.block_lt_of_cell? w _ (HT.out 0 (by omega))
      simpa using this
    have hzz := HB1.out.size
    have hb2 : Bel w1 (w1.alloc (.cells #[.pointer (some ⟨Z, 0, none⟩), .int .i64 S, .int .u64 s, .int .u64 0, .int .u64 0, .int .u64 0, .int .u64 0, .int .i64 0] 34)) := (Bel.refl w1).alloc _ _
    have hn := heap_alloc_new w1 (.cells #[.pointer (some ⟨Z, 0, none⟩), .int .i64 S, .int .u64 s, .int .u64 0, .int .u64 0, .int .u64 0, .int .u64 0, .int .i64 0] 34)
    refine ⟨⟨⟨fun _ => [], fun _ => ⟨0, 0, 0⟩, fun _ => 0, ⟨?_, ?_, rfl, by decide⟩, ⟨fun k => by simp, fun i => by simp [Bm.tb]⟩⟩, ⟨hbb, hss, fun t ht => by simp at ht, fun j hj => hb2.cell (HB1.out.cell (HT.out j hj)), by omega, by omega, by omega, by omega, by omega⟩⟩, hb2⟩
    · rw [HS.out]; exact hn
    · rw [HS.out]; exact (HQ.out _).bel hb2)
  go_wp2
  go_ret2
  refine ⟨_, _, _, _, _, rfl, HX.out.1, fun k e => ?_, HB1.out.trans HX.out.2⟩
  obtain ⟨g1, g2, g3, g4⟩ := HG.out
  have := HB1.out.size
  rcases e with e | e | e | e | e <;> omega
end Go.Proofs.YtdoceldofkaapaaDoor.Ha
