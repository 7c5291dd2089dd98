/-
  Contract of the law's built: a queue behind acts.
-/
import Derived.Test.YtdlfppdekllloaaDo
import Derived.Test.YtdlfppdekllloaaPdue
set_option linter.unusedVariables false
set_option linter.unusedSimpArgs false
namespace Go.Proofs.Ytdlfppdekllloaa
open Go.RowKit
/-- The list behind acts. -/
def pla (P : Nat) (al : List Ak) : List T := al.foldl (fun l a => stL P l a) []
theorem pla_next (P : Nat) (al : List Ak) (m : Nat) (a : Ak) (h : al[m]? = some a) : pla P (al.take (m + 1)) = stL P (pla P (al.take m)) a := by
  obtain ⟨h1, h2⟩ := List.getElem?_eq_some_iff.1 h
  unfold pla
  rw [List.take_succ_eq_append_getElem h1, List.foldl_append, h2]
  rfl
theorem built_no (P : Int) (pa : Option Addr) (N ca : Nat) (w : World) (h : ¬ (0 ≤ P ∧ P ≤ 1024)) :
    Calls Try.prog 15 #[.int .i64 P, .slice pa N ca] w fun e w' => e = .returned (.tuple #[.pointer none, .int .i64 1]) ∧ w = w' := by
  have K := Lib.hid (qnew_no P w h)
  clear h
  by_cases h0 : (0 : Int) < N
  · go_enter Try.func15, Try.ntmps15
    go_wp2_with fail
    with_reducible refine K.out.mono ?_
    rintro e w1 ⟨rfl, rfl⟩
    go_wp2
    go_loopw [8] (fun v wr => v = .int .i64 0 ∧ wr = w) (fun _ _ => 0)
    case atStart => exact ⟨rfl, rfl⟩
    case round =>
      obtain ⟨rfl, rfl⟩ := hrel
      go_wp2
      exact bodyPost_ret (v := .tuple #[.pointer none, .int .i64 1]) (by simp [results, Try.results15, go_sem]) rfl ⟨rfl, rfl⟩
  · go_enter Try.func15, Try.ntmps15
    go_wp2_with fail
    with_reducible refine K.out.mono ?_
    rintro e w1 ⟨rfl, rfl⟩
    go_wp2
    go_loopw [8] (fun v wr => v = .int .i64 0 ∧ wr = w) (fun _ _ => 0)
    case atStart => exact ⟨rfl, rfl⟩
    case round =>
      obtain ⟨rfl, rfl⟩ := hrel
      go_wp2
      exact bodyPost_ret (v := .tuple #[.pointer none, .int .i64 1]) (by simp [results, Try.results15, go_sem]) rfl ⟨rfl, rfl⟩
/-- A queue of new blocks. -/
structure Bu (w w' : World) (Q P : Nat) (l : List T) : Prop where
  ex : ∃ f, Qu f w' Q P l ∧ ∀ k, f k → w.heap.size ≤ k
  bel : Bel w w'
set_option maxHeartbeats 1000000 in
theorem built_yes (P : Nat) (pa : Option Addr) (N ca : Nat) (al : List Ak) (w : World) (hP : P ≤ 1024) (hl : al.length = N) (hN : N ≤ 60) (hA : Lies nof w pa (encK al)) :
    Calls Try.prog 15 #[.int .i64 P, .slice pa N ca] w fun e w' => ∃ Q, e = .returned (.tuple #[.pointer (some ⟨Q, 0, none⟩), .int .i64 0]) ∧ Bu w w' Q P (pla P al) := by
  have K := Lib.hid (qnew_yes P w hP)
  have HA := Lib.hid hA
  have HL := Lib.hid hl
  clear hA hl
  go_enter Try.func15, Try.ntmps15
  go_wp2_with fail
  with_reducible refine K.out.mono ?_
  rintro e w1 ⟨Q, f, rfl, hq, hf, hb⟩
  have B0 : Hid (Bu w w1 Q P (pla P (al.take 0))) := Lib.hid ⟨⟨f, hq, hf⟩, hb⟩
  clear hq hf hb K
  go_wp2
  go_loopw [8] (fun v wr => ∃ i : Nat, v = .int .i64 i ∧ i ≤ N ∧ Bu w wr Q P (pla P (al.take i))) (fun v _ => N - (intOf v).toNat)
  case atStart => exact ⟨0, rfl, by omega, B0.out⟩
  case round =>
    obtain ⟨i, rfl, hi, hbu⟩ := hrel
    have HBU := Lib.hid hbu
    clear hbu B0
    by_cases h : i < N
    · obtain ⟨b, off, rfl, _, hr⟩ := lies_ak HA.out (i := i) (by rw [HL.out]; exact h)
      obtain ⟨a, ha⟩ : ∃ a, al[i]? = some a := ⟨al[i]'(by rw [HL.out]; exact h), List.getElem?_eq_getElem _⟩
      have cx := row_ak (hr.off (f := nof) (fun e => e) HBU.out.bel) ha
      obtain ⟨x0, x1, x2, x3, x4⟩ := cx
      have hnx := pla_next P al i a ha
      have KD : Hid (Calls Try.prog 13 #[.pointer (some ⟨Q, 0, none⟩), .agg #[.int .i64 a.k, .int .u64 a.t.a, .int .u64 a.t.s, .int .i64 a.t.p, .int .u64 a.now]] wr fun e w' => ∃ v, e = .returned v ∧ Bu w w' Q P (pla P (al.take (i + 1)))) := Lib.hid (by
        obtain ⟨⟨f, h1, h2⟩, h3⟩ := HBU.out
        refine (do_any f Q P _ a wr h1).mono fun e w' ⟨p, c, he, ⟨f', hf', hq', _⟩, ho⟩ => ⟨_, he, ?_⟩
        rw [hnx]
        refine ⟨⟨f', hq', fun k e => ?_⟩, Off.trans h3 ho (fun i e => .inr (h2 i e))⟩
        rcases hf' k e with e | e
        · exact h2 k e
        · exact Nat.le_trans h3.size e.1)
      have b1 : (i : Int) < (N : Int) := by omega
      clear hr ha hnx
      generalize a.k = ak at *
      generalize a.t.a = aa at *
      generalize a.t.s = asq at *
      generalize a.t.p = ap at *
      generalize a.now = an at *
      go_wp2_with fail
      with_reducible refine (KD.out).mono ?_
      rintro e w2 ⟨v, rfl, hbu⟩
      have HBU2 := Lib.hid hbu
      clear hbu x0 x1 x2 x3 x4 KD
      go_wp2
      go_roundw
      case rel => exact ⟨i + 1, by go_num, by omega, HBU2.out⟩
      case measure => simp [intOf]; omega
    · have HE : Hid (Bu w wr Q P (pla P al)) := Lib.hid (by
        have := HBU.out
        rw [List.take_of_length_le (by rw [HL.out]; omega)] at this
        exact this)
      have b1 : ¬ (i : Int) < (N : Int) := by omega
      go_wp2
      exact bodyPost_ret (v := .tuple #[.pointer (some ⟨Q, 0, none⟩), .int .i64 0]) (by simp [results, Try.results15, go_sem]) rfl ⟨Q, rfl, HE.out⟩
end Go.Proofs.Ytdlfppdekllloaa
