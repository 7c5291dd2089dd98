/-
  Contract of a queue's New.
-/
import Derived.Test.YtmkpnojojkgmiaaActs
namespace Go.Proofs.Ytmkpnojojkgmiaa
open Go.RowKit
theorem made38 (N : Nat) : madeCells (Value.agg #[.int .u64 0, .int .u64 0, .int .i64 0]).cells (N * 3) = (encQ N (fun _ => ⟨0, 0, 0⟩)).toArray := by
  apply Array.toList_inj.1
  rw [List.toList_toArray]
  refine encQ_ext (by unfold madeCells; simp) (fun i j hi hj => ?_)
  have hlt : i * 3 + j < N * 3 := by omega
  have hm : (i * 3 + j) % 3 = j := by omega
  unfold madeCells
  rw [Array.getElem?_toList, Array.getElem?_map, Array.getElem?_range]
  simp only [hlt, if_true, Option.map_some]
  obtain rfl | rfl | rfl : j = 0 ∨ j = 1 ∨ j = 2 := by omega
  all_goals simp [Value.cells, enc]
theorem make38 (N : Nat) (hN : N ≤ 2048) (w : World) : (Instr.makeSlice 25 (.int .i64 (N : Int)) (.int .i64 (N : Int))).run Try.prog w = .ok (.slice (some ⟨w.heap.size, 0, none⟩) N N) (w.alloc (.cells (encQ N (fun _ => ⟨0, 0, 0⟩)).toArray 38)) := by
  obtain ⟨i, hi, hz, hs, hb⟩ := info_parts info38
  have h := run_make (P := Try.prog) w 25 38 i _ Try.underlying25 hi hz .i64 .i64 (N : Int) (N : Int) (by omega) (Int.le_refl _) (by rw [hb]; omega) (by omega)
  rw [hs, Int.toNat_natCast, made38] at h
  exact h
theorem qnew_no (P : Int) (w : World) (h : ¬ (0 ≤ P ∧ P ≤ 1024)) :
    Calls Try.prog 19 #[.int .i64 P] w fun e w' => e = .returned (.tuple #[.pointer none, .int .i64 1]) ∧ w = w' := by
  have K := Lib.hid (new_no P 1 w (fun e => h ⟨e.1, e.2.1⟩))
  clear h
  go_enter Try.func19, Try.ntmps19
  go_wp2_with fail
  with_reducible refine K.out.mono ?_
  rintro e w1 ⟨rfl, rfl⟩
  go_wp2
  go_ret2
  exact ⟨rfl, rfl⟩
/-- A queue of new blocks. -/
structure Fresh (w w' : World) (Q B G R P : Nat) (l : List T) : Prop where
  qu : Qu w' Q B G R P l
  bel : Bel w w'
  geQ : w.heap.size ≤ Q
  geB : w.heap.size ≤ B
  geG : w.heap.size ≤ G
  geR : w.heap.size ≤ R
theorem qnew_yes (P : Nat) (w : World) (hP : P ≤ 1024) :
    Calls Try.prog 19 #[.int .i64 P] w fun e w' => ∃ Q B G R, e = .returned (.tuple #[.pointer (some ⟨Q, 0, none⟩), .int .i64 0]) ∧ Fresh w w' Q B G R P [] := by
  have k0 := new_yes P 1 w hP (by omega)
  rw [show ((1 : Nat) : Int) = 1 from rfl] at k0
  have K := Lib.hid k0
  clear k0
  have hmk := make38 P (by omega)
  generalize hc : (encQ P (fun _ => ⟨0, 0, 0⟩)).toArray = C0 at *
  have HC := Lib.hid hc
  clear hc
  go_enter Try.func19, Try.ntmps19
  go_wp2_with fail
  with_reducible refine K.out.mono ?_
  rintro e w1 ⟨B, G, g, rfl, hch, hg, hb, hB, hG⟩
  have HF : Hid (Fresh w ((w1.alloc (.cells C0 38)).alloc (.cells #[.pointer (some ⟨B, 0, none⟩), .slice (some ⟨w1.heap.size, 0, none⟩) P P] 69)) (w1.heap.size + 1) B G w1.heap.size P []) := Lib.hid (by
    have hb2 : Bel w1 ((w1.alloc (.cells C0 38)).alloc (.cells #[.pointer (some ⟨B, 0, none⟩), .slice (some ⟨w1.heap.size, 0, none⟩) P P] 69)) := ((Bel.refl w1).alloc _ _).alloc _ _
    have h1 := heap_alloc_new (w1.alloc (.cells C0 38)) (.cells #[.pointer (some ⟨B, 0, none⟩), .slice (some ⟨w1.heap.size, 0, none⟩) P P] 69)
    have l1 := hch.ltB
    have l2 := hch.ltG
    have l3 := hb.size
    refine ⟨⟨⟨g, fun _ => ⟨0, 0, 0⟩, ⟨by simpa using h1, hch.bel hb2, ?_, by omega, by omega, by omega, by omega⟩, ⟨rep_new hg, fun t ht => by simp at ht, List.Pairwise.nil⟩⟩, hP⟩, hb.trans hb2, by omega, hB, hG, by omega⟩
    rw [Below.heap_alloc _ _ _ (by simp), heap_alloc_new, HC.out])
  clear hch hg hb hB hG
  go_wp2
  go_ret2
  exact ⟨_, _, _, _, rfl, HF.out⟩
end Go.Proofs.Ytmkpnojojkgmiaa
