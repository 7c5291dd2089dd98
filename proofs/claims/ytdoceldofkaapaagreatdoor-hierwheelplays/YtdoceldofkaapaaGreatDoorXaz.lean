/-
  Contracts of placed.New and of hierwheel.New.
  A wheel of four levels is what the laws want of a queue.
-/
import Derived.Test.YtdoceldofkaapaaGreatDoorXas
import Derived.Test.YtdoceldofkaapaaGreatDoorXal
import Derived.Test.YtdoceldofkaapaaGreatDoorXax
import Derived.Test.YtdoceldofkaapaaGreatDoorXay
import Derived.Test.YtdoceldofkaapaaGreatDoorXaj
set_option linter.unusedVariables false
set_option linter.unusedSimpArgs false
namespace Go.Proofs.YtdoceldofkaapaaGreatDoor
open Go.RowKit
theorem made37 (N : Nat) : madeCells (Value.agg #[.int .u64 0, .int .u64 0, .int .i64 0]).cells (N * 3) = (encQ N (fun _ => ⟨0, 0, 0⟩)).toArray := by
  apply Array.toList_inj.1
  refine encQ_ext (by simp [madeCells]) (fun i j hi hj => ?_)
  have hlt : i * 3 + j < N * 3 := by omega
  unfold madeCells
  rw [Array.getElem?_toList, Array.getElem?_map, Array.getElem?_range]
  simp only [hlt, if_true, Option.map_some]
  obtain rfl | rfl | rfl : j = 0 ∨ j = 1 ∨ j = 2 := by omega
  all_goals simp [Value.cells, enc]
theorem make37 (N : Nat) (hN : N ≤ 2048) (w : World) : (Instr.makeSlice 29 (.int .i64 (N : Int)) (.int .i64 (N : Int))).run Tryz.prog w = .ok (.slice (some ⟨w.heap.size, 0, none⟩) N N) (w.alloc (.cells (encQ N (fun _ => ⟨0, 0, 0⟩)).toArray 37)) := by
  obtain ⟨i, hi, hz, hs, hb⟩ := info_parts info37
  have h := run_make (P := Tryz.prog) w 29 37 i _ Tryz.underlying29 hi hz .i64 .i64 (N : Int) (N : Int) (by omega) (Int.le_refl _) (by rw [hb]; omega) (by omega)
  rw [hs, Int.toNat_natCast, made37] at h
  exact h
theorem pnew_no (P : Int) (L : Nat) (hL : L ≤ 258) (w : World) (h : ¬ (0 ≤ P ∧ P ≤ 1024)) :
    Calls Tryz.prog 43 #[.int .i64 P, .int .i64 L] w fun e w' => e = .returned (.tuple #[.pointer none, .int .i64 1]) ∧ w = w' := by
  have K := Lib.hid (new_no P L w (fun e => h ⟨e.1, e.2.1⟩))
  clear h
  go_enter Tryz.func43, Tryz.ntmps43
  go_wp2_with fail
  with_reducible refine K.out.mono ?_
  rintro e w1 ⟨rfl, rfl⟩
  go_wp2
  go_ret2
  exact ⟨rfl, rfl⟩
theorem pnew_yes (P L : Nat) (w : World) (hP : P ≤ 1024) (hL : L ≤ 258) :
    Calls Tryz.prog 43 #[.int .i64 P, .int .i64 L] w fun e w' => ∃ Z B G R, e = .returned (.tuple #[.pointer (some ⟨Z, 0, none⟩), .int .i64 0]) ∧ (∀ lo : T → Nat, Qp w' Z B G R P L lo (fun _ => []) (fun _ => ⟨0, 0, 0⟩) []) ∧ Bel w w' ∧ w.heap.size ≤ Z ∧ w.heap.size ≤ B ∧ w.heap.size ≤ G ∧ w.heap.size ≤ R := by
  have K := Lib.hid (new_yes P L w hP (by omega))
  have hmk := make37 P (by omega)
  have HPL := Lib.hid (And.intro hP hL)
  generalize hc : (encQ P (fun _ => ⟨0, 0, 0⟩)).toArray = C0 at *
  have HC0 := Lib.hid hc
  clear hc
  go_enter Tryz.func43, Tryz.ntmps43
  go_wp2_with fail
  with_reducible refine K.out.mono ?_
  rintro e w1 ⟨B, G, g, rfl, hch, hg, hb, hB, hG⟩
  have HB1 := Lib.hid hb
  have HCH := Lib.hid hch
  have HG := Lib.hid hg
  have HGE : Hid (w.heap.size ≤ B ∧ w.heap.size ≤ G) := Lib.hid ⟨hB, hG⟩
  clear hch hg hb hB hG
  have HF : Hid (∀ lo : T → Nat, Qp ((w1.alloc (.cells C0 37)).alloc (.cells #[.pointer (some ⟨B, 0, none⟩), .slice (some ⟨w1.heap.size, 0, none⟩) P P] 99)) (w1.heap.size + 1) B G w1.heap.size P L lo (fun _ => []) (fun _ => ⟨0, 0, 0⟩) []) := Lib.hid (fun lo => by
    have hr : (w1.alloc (.cells C0 37)).heap[w1.heap.size]? = some (.cells C0 37 (0, 0)) := heap_alloc_new _ _
    have hz := heap_alloc_new (w1.alloc (.cells C0 37)) (.cells #[.pointer (some ⟨B, 0, none⟩), .slice (some ⟨w1.heap.size, 0, none⟩) P P] 99)
    rw [World.size_alloc] at hz
    have hb2 : Bel (w1.alloc (.cells C0 37)) ((w1.alloc (.cells C0 37)).alloc (.cells #[.pointer (some ⟨B, 0, none⟩), .slice (some ⟨w1.heap.size, 0, none⟩) P P] 99)) := (Bel.refl _).alloc _ _
    refine ⟨⟨g, ⟨hz, HCH.out.bel (((Bel.refl w1).alloc _ _).trans hb2), ?_⟩, rep_new HG.out⟩, ⟨fun x hx => by simp at hx, fun t _ i hi => by simp at hi, List.nodup_nil, List.Pairwise.nil⟩, HPL.out.1, by have := HPL.out.2; omega⟩
    rw [HC0.out]
    exact hb2.heap hr)
  have HE : Hid (Bel w ((w1.alloc (.cells C0 37)).alloc (.cells #[.pointer (some ⟨B, 0, none⟩), .slice (some ⟨w1.heap.size, 0, none⟩) P P] 99))) := Lib.hid ((HB1.out.alloc _ _).alloc _ _)
  go_upto_region 4 with (fail)
  go_wp2
  go_ret2
  refine ⟨w1.heap.size + 1, B, G, w1.heap.size, by simp, HF.out, HE.out, ?_, HGE.out.1, HGE.out.2, HB1.out.size⟩
  have := HB1.out.size
  omega
theorem hnew_bits (P b s : Int) (w : World) (h : ¬ (1 ≤ b ∧ b ≤ 6)) :
    Calls Tryz.prog 26 #[.int .i64 P, .int .i64 b, .int .u64 s] w fun e w' => e = .returned (.tuple #[.pointer none, .int .i64 1]) ∧ Bel w w' := by
  by_cases h1 : b < 1
  · clear h
    go_enter Tryz.func26, Tryz.ntmps26
    go_wp2
    go_ret2
    exact ⟨rfl, Bel.refl _⟩
  · have h2 : 6 < b := by omega
    clear h
    go_enter Tryz.func26, Tryz.ntmps26
    go_wp2
    go_ret2
    exact ⟨rfl, Bel.refl _⟩
theorem shl_pow {b S : Nat} (hb : b ≤ 6) (hS : 2 ^ b = S) : wrap64 ((2 : Int) ^ b) = (S : Int) := by
  subst hS
  have : b = 0 ∨ b = 1 ∨ b = 2 ∨ b = 3 ∨ b = 4 ∨ b = 5 ∨ b = 6 := by omega
  rcases this with rfl | rfl | rfl | rfl | rfl | rfl | rfl <;> (simp; first | rfl | (unfold wrap64; decide) | simp [wrap64] | (unfold wrap64; omega))
theorem hnew_place (P s : Int) (b : Nat) (hb : 1 ≤ b ∧ b ≤ 6) (w : World) (hP : ¬ (0 ≤ P ∧ P ≤ 1024)) :
    Calls Tryz.prog 26 #[.int .i64 P, .int .i64 (b : Nat), .int .u64 s] w fun e w' => e = .returned (.tuple #[.pointer none, .int .i64 1]) ∧ Bel w w' := by
  obtain ⟨S, hS⟩ : ∃ S, 2 ^ b = S := ⟨_, rfl⟩
  have hsh := shl_pow hb.2 hS
  have hSb := pow_le hb.2
  rw [hS] at hSb
  have K1 := pnew_no P (2 + 4 * S) (by omega) w hP
  rw [show (((2 + 4 * S : Nat) : Int)) = 2 + 4 * (S : Int) by omega] at K1
  have K := Lib.hid K1
  have h1 : ¬ (b : Int) < 1 := by omega
  have h2 : ¬ (6 : Int) < b := by omega
  clear K1 hP hb hS
  go_enter Tryz.func26, Tryz.ntmps26
  go_wp2_with fail
  with_reducible refine K.out.mono ?_
  rintro e w1 ⟨rfl, rfl⟩
  go_wp2
  go_ret2
  exact ⟨rfl, Bel.refl _⟩
theorem hnew_no (P b s : Int) (w : World) (h : ¬ ((0 ≤ P ∧ P ≤ 1024) ∧ 1 ≤ b ∧ b ≤ 6)) :
    Calls Tryz.prog 26 #[.int .i64 P, .int .i64 b, .int .u64 s] w fun e w' => e = .returned (.tuple #[.pointer none, .int .i64 1]) ∧ Bel w w' := by
  by_cases hb : 1 ≤ b ∧ b ≤ 6
  · obtain ⟨bn, rfl⟩ : ∃ bn : Nat, b = bn := ⟨b.toNat, by omega⟩
    exact hnew_place P s bn (by omega) w (fun e => h ⟨e, hb⟩)
  · exact hnew_bits P b s w hb
/-- The lists of the first m levels' slots 0. -/
def fstM (S m i : Nat) : Int := if i < m then 2 + (i : Int) * S else 0
theorem rcells_fst {Z b S : Nat} {s : Int} (m : Nat) (hm : m < 4) : (rcells Z b (fstM S m) (fun _ _ => 0) s 0).toArray.setIfInBounds (1 + m * 5) (.int .i64 (2 + (m : Int) * S)) = (rcells Z b (fstM S (m + 1)) (fun _ _ => 0) s 0).toArray := by
  obtain rfl | rfl | rfl | rfl : m = 0 ∨ m = 1 ∨ m = 2 ∨ m = 3 := by omega
  all_goals simp [rcells, fstM]
theorem hnew_yes (P b : Nat) (s : Int) (w : World) (hP : P ≤ 1024) (hb : 1 ≤ b ∧ b ≤ 6) (hs : Tk s) (hT : Bm.Tab w) :
    Calls Tryz.prog 26 #[.int .i64 P, .int .i64 b, .int .u64 s] w fun e w' => ∃ Q Z B G R, e = .returned (.tuple #[.pointer (some ⟨Q, 0, none⟩), .int .i64 0]) ∧ Wr w' Q Z B G R P b s 0 [] ∧ (∀ k, Fo5 Q Z B G R k → w.heap.size ≤ k) ∧ Bel w w' := by
  obtain ⟨S, hS⟩ : ∃ S, 2 ^ b = S := ⟨_, rfl⟩
  have hsh := shl_pow hb.2 hS
  have hSb := pow_le hb.2
  rw [hS] at hSb
  have K1 := pnew_yes P (2 + 4 * S) w hP (by omega)
  rw [show (((2 + 4 * S : Nat) : Int)) = 2 + 4 * (S : Int) by omega] at K1
  have K := Lib.hid K1
  have HT := Lib.hid hT
  have HBS := Lib.hid (And.intro hb hs)
  have HS := Lib.hid hS
  have h1 : ¬ (b : Int) < 1 := by omega
  have h2 : ¬ (6 : Int) < b := by omega
  clear K1 hP hb hS hs hT
  go_enter Tryz.func26, Tryz.ntmps26
  go_wp2_with fail
  with_reducible refine K.out.mono ?_
  rintro e w1 ⟨Z, B, G, R, rfl, hq, hb, hZ, hB, hG, hR⟩
  have HQ := Lib.hid hq
  have HB1 := Lib.hid hb
  have HG : Hid (w.heap.size ≤ Z ∧ w.heap.size ≤ B ∧ w.heap.size ≤ G ∧ w.heap.size ≤ R) := Lib.hid ⟨hZ, hB, hG, hR⟩
  clear hq hb hZ hB hG hR K
  have HN : Hid ((w1.alloc (.cells (rcells Z b (fstM S 0) (fun _ _ => 0) s 0).toArray 78)).heap[w1.heap.size]? = some (.cells (rcells Z b (fstM S 0) (fun _ _ => 0) s 0).toArray 78 (0, 0))) := Lib.hid (heap_alloc_new _ _)
  have HO : Hid (Bel w1 (w1.alloc (.cells (rcells Z b (fstM S 0) (fun _ _ => 0) s 0).toArray 78))) := Lib.hid ((Bel.refl _).alloc _ _)
  go_upto_region 9 with (fail)
  rw [show (Obj.cells #[.pointer (some ⟨Z, 0, none⟩), .int .i64 0, .int .u64 0, .int .u64 0, .int .u64 0, .int .u64 0, .int .i64 0, .int .u64 0, .int .u64 0, .int .u64 0, .int .u64 0, .int .i64 0, .int .u64 0, .int .u64 0, .int .u64 0, .int .u64 0, .int .i64 0, .int .u64 0, .int .u64 0, .int .u64 0, .int .u64 0, .int .i64 b, .int .u64 s, .int .i64 0] 78) = .cells (rcells Z b (fstM S 0) (fun _ _ => 0) s 0).toArray 78 from rfl]
  have HQ1 := Lib.hid (fun lo => (HQ.out lo).bel HO.out)
  have HZ1 := Lib.hid HB1.out.size
  have HB2 := Lib.hid (HB1.out.trans HO.out)
  obtain ⟨Q, hQ⟩ : ∃ Q, w1.heap.size = Q := ⟨_, rfl⟩
  rw [hQ] at HN HZ1 ⊢
  clear HQ HB1
  generalize w1.alloc (.cells (rcells Z b (fstM S 0) (fun _ _ => 0) s 0).toArray 78) = W at *
  go_loopw [12, 37] (fun _ v wr => ∃ m : Nat, v = .int .i64 m ∧ m ≤ 4 ∧ wr.heap[Q]? = some (.cells (rcells Z b (fstM S m) (fun _ _ => 0) s 0).toArray 78 (0, 0)) ∧ Off (Only Q) W wr) (fun _ v _ => 4 - (intOf v).toNat)
  case atStart => exact ⟨0, rfl, by omega, HN.out, Off.refl _ _⟩
  case round =>
    obtain ⟨m, rfl, hm, hh, hoff⟩ := hrel
    have HH := Lib.hid hh
    have HOF := Lib.hid hoff
    have lQ : Q < wr.heap.size := (Array.getElem?_eq_some_iff.1 hh).1
    clear hh hoff
    by_cases hlt : m < 4
    · have hfr : ∀ j, wr.frozen? ⟨Q, j, none⟩ = false := fun j => frozen_of_row wr Q j _ 78 HH.out
      have hce : ∃ v, wr.cell? ⟨Q, 1 + m * 5, none⟩ = some v := ⟨_, by
        rw [cell_of_row wr Q _ _ 78 (0, 0) HH.out]
        obtain rfl | rfl | rfl | rfl : m = 0 ∨ m = 1 ∨ m = 2 ∨ m = 3 := by omega
        all_goals rfl⟩
      have HNX : Hid ((wr.setCell ⟨Q, 1 + m * 5, none⟩ (.int .i64 (2 + (m : Int) * S))).heap[Q]? = some (.cells (rcells Z b (fstM S (m + 1)) (fun _ _ => 0) s 0).toArray 78 (0, 0))) := Lib.hid (by
        have e := heap_setCell_same wr Q (1 + m * 5) _ 78 (.int .i64 (2 + (m : Int) * S)) HH.out
        rw [rcells_fst m hlt] at e
        exact e)
      have HOX : Hid (Off (Only Q) W (wr.setCell ⟨Q, 1 + m * 5, none⟩ (.int .i64 (2 + (m : Int) * S)))) := Lib.hid (HOF.out.then (Off.setCell (Off.refl (Only Q) wr) (p := ⟨Q, 1 + m * 5, none⟩) (.inl rfl) _))
      obtain ⟨v0, hv0⟩ := hce
      have hf0 := hfr (1 + m * 5)
      have hmS : (m : Int) * S ≤ 3 * 64 := by
        obtain rfl | rfl | rfl | rfl : m = 0 ∨ m = 1 ∨ m = 2 ∨ m = 3 := by omega
        all_goals omega
      have hmS0 : 0 ≤ (m : Int) * S := by
        obtain rfl | rfl | rfl | rfl : m = 0 ∨ m = 1 ∨ m = 2 ∨ m = 3 := by omega
        all_goals omega
      clear hfr HH HOF
      go_wp2
      go_roundw
      case rel => exact ⟨m + 1, by go_num, by omega, HNX.out, HOX.out⟩
      case measure => simp [intOf]; omega
    · obtain rfl : m = 4 := by omega
      go_wp2
      go_ret2
      obtain ⟨hbb, hss⟩ := HBS.out
      obtain ⟨g1, g2, g3, g4⟩ := HG.out
      have hz0 : 0 < w.heap.size := by
        have := World.block_lt_of_cell? w _ (HT.out 0 (by omega))
        simpa using this
      have hzz := HZ1.out
      have hty : ∀ i x t, W.heap[i]? = some (.cells x t (0, 0)) → t ≠ 78 → ¬ Only Q i := fun i x t h ht e => by
        have e2 : i = Q := e
        rw [e2, HN.out] at h
        injection h with h
        injection h with _ h _
        exact ht h.symm
      obtain ⟨⟨g, q1, _⟩, _⟩ := HQ1.out (lw b s)
      have hqf : Qp wr Z B G R P (2 + 4 * 2 ^ b) (lw b s) (fun _ => []) (fun _ => ⟨0, 0, 0⟩) [] := by
        rw [HS.out]
        exact (HQ1.out (lw b s)).off HOF.out (hty _ _ _ q1.hZ (by decide)) (hty _ _ _ q1.ch.hB (by decide)) (hty _ _ _ q1.ch.hG (by decide)) (hty _ _ _ q1.hR (by decide))
      have hcf : rcells Z b (fstM S 4) (fun _ _ => 0) s 0 = rcells Z b (fst4 b) (fun _ _ => 0) s 0 := by
        have e : ∀ i, i < 4 → fstM S 4 i = fst4 b i := fun i hi => by
          unfold fstM fst4
          rw [if_pos hi, HS.out]
          push_cast
          rfl
        unfold rcells
        rw [e 0 (by omega), e 1 (by omega), e 2 (by omega), e 3 (by omega)]
      have hhq := HH.out
      rw [hcf] at hhq
      refine ⟨Q, Z, B, G, R, by simp, ⟨⟨fun _ => [], fun _ => ⟨0, 0, 0⟩, fun _ _ => 0, ⟨hhq, hqf, rfl, by decide⟩, ⟨fun m _ k => by simp, fun m _ i => by simp [Bm.tb]⟩, List.Pairwise.nil⟩, ⟨hbb, hss, fun t ht => by simp at ht, fun j hj => HOF.out.cell (p := ⟨0, j, none⟩) (fun e => by have : (0 : Nat) = Q := e; omega) (HB2.out.cell (HT.out j hj)), by omega, by omega, by omega, by omega, by omega⟩⟩, fun k e => ?_, ?_⟩
      · rcases e with e | e | e | e | e <;> omega
      · exact HOF.out.bel HB2.out (fun i e => by have : i = Q := e; omega)
end Go.Proofs.YtdoceldofkaapaaGreatDoor
namespace Go.Proofs.YtdoceldofkaapaaGreatDoor
open Go.RowKit
/-- A wheel, its five blocks in f. -/
def Qu : QT := fun f w Q P b s k l => ∃ Z B G R, Wr w Q Z B G R P b s (IntKind.i64.wrap k) l ∧ f = Fo5 Q Z B G R
theorem foI {Q Z B G R : Nat} {a b : World} (h : Off (Fo Q G R) a b) : Off (Fo5 Q Z B G R) a b := h.mono (fun _ _ e => by
  rcases e with e | e | e
  · exact .inl e
  · exact .inr (.inr (.inr (.inl e)))
  · exact .inr (.inr (.inr (.inr e))))
theorem wr_lt {w : World} {Q Z B G R P b : Nat} {s k : Int} {l : List T} (q : Wr w Q Z B G R P b s k l) {j : Nat} (hj : Fo5 Q Z B G R j) : j < w.heap.size := by
  obtain ⟨l1, l2, l3, l4, l5⟩ := q.lt
  rcases hj with rfl | rfl | rfl | rfl | rfl <;> assumption
theorem grw_same (f : Nat → Prop) (w w' : World) : Grw f f w w' := fun _ e => .inl e
theorem wrap_add (a b : Int) : IntKind.i64.wrap (IntKind.i64.wrap a + b) = IntKind.i64.wrap (a + b) := by
  rw [IntKind.wrap_i64, IntKind.wrap_i64, IntKind.wrap_i64]; omega
theorem ptr_one {w : World} {Q Z Z' : Nat} (h : w.cell? ⟨Q, 0, none⟩ = some (.pointer (some ⟨Z, 0, none⟩))) (k : w.cell? ⟨Q, 0, none⟩ = some (.pointer (some ⟨Z', 0, none⟩))) : Z = Z' := by
  rw [h] at k
  injection k with k
  injection k with k
  injection k with k
  injection k
theorem con : Con Qu where
  off := by
    rintro f g w w' Q P b s k l ⟨Z, B, G, R, h, rfl⟩ o hf h0
    exact ⟨Z, B, G, R, h.off o hf h0, rfl⟩
  lt_ := by
    rintro f w Q P b s k l ⟨Z, B, G, R, h, rfl⟩ j hj
    exact wr_lt h hj
  z := by
    rintro f w Q P b s k l ⟨Z, B, G, R, h, rfl⟩ e
    obtain ⟨z1, z2, z3, z4, z5⟩ := h.re.zs
    rcases e with e | e | e | e | e <;> omega
  pos := by
    rintro f w Q P b s k l ⟨Z, B, G, R, h, rfl⟩
    have := h.lt.1
    omega
  so := by
    rintro f w Q P b s k l ⟨Z, B, G, R, h, rfl⟩
    exact h.so
  len := by
    rintro f w Q P b s k l ⟨Z, B, G, R, ⟨⟨ls, r, F, q1, q2, q4⟩, q3⟩, rfl⟩
    exact q1.ql.is.len
  hP := by
    rintro f w Q P b s k l ⟨Z, B, G, R, ⟨⟨ls, r, F, q1, q2, q4⟩, q3⟩, rfl⟩
    exact q1.ql.hP
  hb := by
    rintro f w Q P b s k l ⟨Z, B, G, R, h, rfl⟩
    exact h.re.hb
  base := by
    rintro f w Q P b s k l ⟨Z, B, G, R, h, rfl⟩
    exact h.re.ts
  ticks := by
    rintro f w Q P b s k l ⟨Z, B, G, R, h, rfl⟩
    exact h.re.tl
  places := by
    rintro f w Q P b s k l ⟨Z, B, G, R, h, rfl⟩
    obtain ⟨h1, h2, _⟩ := h.plc
    refine ⟨h1, fun t ht => ?_⟩
    obtain ⟨j, e, hj⟩ := h2 t ht
    unfold hp
    rw [e]
    simp [hj]
  zp := by
    rintro f w Q P b s k l ⟨Z, B, G, R, h, rfl⟩
    exact ⟨Z, h.cells.1⟩
  qnew_no := hnew_no
  qnew_yes := by
    intro P b s w hP hb hs hT
    refine (hnew_yes P b s w hP hb hs hT).mono ?_
    rintro e w' ⟨Q, Z, B, G, R, h1, h2, h3, h4⟩
    exact ⟨Q, Fo5 Q Z B G R, h1, ⟨Z, B, G, R, h2, rfl⟩, h3, h4⟩
  insert := by
    rintro f Q P b s k l t w ⟨Z, B, G, R, h, rfl⟩ ht
    refine (rins_any t w h ht).mono ?_
    rintro e w' ⟨h1, h2, h3⟩
    exact ⟨h1, _, grw_same _ _ _, ⟨Z, B, G, R, h2, rfl⟩, foI h3⟩
  cancel := by
    rintro f Q P b s k l p w ⟨Z, B, G, R, h, rfl⟩
    refine (rcan_any p w h).mono ?_
    rintro e w' ⟨h1, h2, h3⟩
    exact ⟨h1, _, grw_same _ _ _, ⟨Z, B, G, R, h2, rfl⟩, foI h3⟩
  move := by
    rintro f Q P b s k l t w ⟨Z, B, G, R, h, rfl⟩ ht
    refine (rmov_any t w h ht).mono ?_
    rintro e w' ⟨h1, h2, h3⟩
    exact ⟨h1, _, grw_same _ _ _, ⟨Z, B, G, R, h2, rfl⟩, foI h3⟩
  due := by
    rintro f Q P b s k l now w ⟨Z, B, G, R, h, rfl⟩ hn
    refine (hdue_any now w h hn).mono ?_
    rintro e w' ⟨⟨p, c, h1, h2, h5⟩, h3, h4⟩
    rw [wrap_add] at h3
    refine ⟨p, c, _, h1, h2, h5.mono ?_, grw_same _ _ _, ⟨Z, B, G, R, h3, rfl⟩, foI h4⟩
    rintro j _ (e | e)
    · exact e
    · exact wr_lt h e
  get := by
    rintro f Q Z' P b s k l p w ⟨Z, B, G, R, ⟨⟨ls, r, F, q1, q2, q4⟩, q3⟩, rfl⟩ hz
    obtain rfl := ptr_one hz (q1.cell rfl)
    exact get_any p w q1.ql
  min := by
    rintro f Q P b s k l w ⟨Z, B, G, R, h, rfl⟩
    exact rmin_any w h
  count := by
    rintro f Q Z' P b s k l w ⟨Z, B, G, R, ⟨⟨ls, r, F, q1, q2, q4⟩, q3⟩, rfl⟩ hz
    obtain rfl := ptr_one hz (q1.cell rfl)
    exact count_any w q1.ql
  all := by
    rintro f Q Z' P b s k l w ⟨Z, B, G, R, ⟨⟨ls, r, F, q1, q2, q4⟩, q3⟩, rfl⟩ hz
    obtain rfl := ptr_one hz (q1.cell rfl)
    refine (all_any w q1.ql).mono ?_
    rintro e w' ⟨⟨p, c, h1, h2, h5⟩, h4⟩
    exact ⟨p, c, h1, h2, h5, h4⟩
  based := by
    rintro f Q P b s k l w ⟨Z, B, G, R, h, rfl⟩
    exact hbase_any w h
  cascades := by
    rintro f Q P b s k l w ⟨Z, B, G, R, h, rfl⟩ k0 k9
    have K := hcasc_any w h
    rw [show IntKind.i64.wrap k = k by rw [IntKind.wrap_i64]; omega] at K
    exact K
  where_ := by
    rintro f Q P b s k l p w ⟨Z, B, G, R, h, rfl⟩
    refine (hwhere_any p w h).mono ?_
    rintro e w' ⟨h1, h2⟩
    refine ⟨h1.trans ?_, h2⟩
    cases fnd l p <;> rfl
end Go.Proofs.YtdoceldofkaapaaGreatDoor
