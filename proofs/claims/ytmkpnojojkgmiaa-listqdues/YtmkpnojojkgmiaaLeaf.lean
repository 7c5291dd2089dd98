/-
  Contracts of chain's small calls: hasPlace, hasList, isIn, end, forward, backward, alone, join, put.
-/
import Derived.Test.YtmkpnojojkgmiaaFrame
import Derived.Deep.QuietTactic
import Derived.BigQuiet
import Derived.RegionTactic
import Derived.StillTailTactics
import Derived.Deep.Cut
namespace Go.Proofs.Ytmkpnojojkgmiaa
open Go.RowKit
/-- Is there such a place? -/
def hp (P : Nat) (i : Int) : Bool := decide (0 ≤ i) && decide (i < P)
theorem hp_nat {P : Nat} {i : Int} (h : hp P i = true) : ∃ k : Nat, i = k ∧ k < P := by
  unfold hp at h
  simp only [Bool.and_eq_true, decide_eq_true_eq] at h
  exact ⟨i.toNat, by omega, by omega⟩
theorem hp_yes {P k : Nat} (h : k < P) : hp P k = true := by unfold hp; simp; omega
theorem hp_no {P : Nat} {i : Int} (h : ¬ (0 ≤ i ∧ i < P)) : hp P i = false := by unfold hp; simp; omega
theorem hasPlace_any (B : Nat) (P : Nat) (i : Int) (w : World) (h : w.cell? ⟨B, 0, none⟩ = some (.int .i64 P)) :
    Calls Try.prog 47 #[.pointer (some ⟨B, 0, none⟩), .int .i64 i] w fun e w' => e = .returned (.bool (hp P i)) ∧ w = w' := by
  unfold hp
  by_cases h0 : 0 ≤ i
  · go_enter Try.func47, Try.ntmps47
    go_wp2
    go_ret
    exact ⟨ret_bool (by simp [h0]), rfl⟩
  · go_enter Try.func47, Try.ntmps47
    go_wp2
    go_ret
    exact ⟨ret_bool (by simp; omega), rfl⟩
theorem end_any (B : Nat) (P : Nat) (i : Nat) (w : World) (h : w.cell? ⟨B, 0, none⟩ = some (.int .i64 P)) (hP : P ≤ 1024) (hi : i ≤ 1024) :
    Calls Try.prog 44 #[.pointer (some ⟨B, 0, none⟩), .int .i64 i] w fun e w' => e = .returned (.int .i64 ((P + i : Nat) : Int)) ∧ w = w' := by
  go_enter Try.func44, Try.ntmps44
  go_wp2
  go_ret
  exact ⟨ret_int (by omega), rfl⟩
theorem hasList_any (B : Nat) (P L : Nat) (p : Option Addr) (i : Int) (w : World) (h : w.cell? ⟨B, 0, none⟩ = some (.int .i64 P)) (h1 : w.cell? ⟨B, 1, none⟩ = some (.slice p (P + L) (P + L))) (hP : P ≤ 1024) (hL : L ≤ 1024) :
    Calls Try.prog 42 #[.pointer (some ⟨B, 0, none⟩), .int .i64 i] w fun e w' => e = .returned (.bool (hp L i)) ∧ ∃ k, w' = w.drewN k := by
  have hs : IntKind.i64.wrap ((P + L : Nat) - (P : Int)) = L := by rw [i64_in _ (by omega) (by omega)]; omega
  unfold hp
  generalize P + L = N at *
  by_cases h0 : 0 ≤ i
  · have hd : decide (0 ≤ i) = true := decide_eq_true h0
    go_enter Try.func42, Try.ntmps42
    go_wp2
    go_quiet (fail)
    go_wp2
    go_ret
    exact ⟨ret_bool (by simp [hd]), _, rfl⟩
  · have hd : decide (0 ≤ i) = false := decide_eq_false h0
    go_enter Try.func42, Try.ntmps42
    go_wp2
    go_quiet (fail)
    go_wp2
    go_ret
    exact ⟨ret_bool (by simp [hd]), _, rfl⟩
theorem isIn_any (B G P L : Nat) (g : Rg) (k : Nat) (w : World) (h : Chn w B G P L g) (hk : k < P + L) (hs : P + L ≤ 2048) :
    Calls Try.prog 48 #[.pointer (some ⟨B, 0, none⟩), .int .i64 k] w fun e w' => e = .returned (.bool (!decide ((g k).li = -1))) ∧ w = w' := by
  obtain ⟨c0, c1⟩ := h.head
  obtain ⟨a0, a1, a2, _⟩ := h.at hk
  generalize (g k).li = v at *
  generalize P + L = N at *
  clear h
  go_enter Try.func48, Try.ntmps48
  go_wp2
  go_ret
  exact ⟨ret_bool rfl, rfl⟩
theorem forward_any (a b : Int) (w : World) :
    Calls Try.prog 45 #[.agg #[.int .i64 a, .int .i64 b]] w fun e w' => e = .returned (.int .i64 b) ∧ Bel w w' := by
  go_enter Try.func45, Try.ntmps45
  go_wp2
  go_ret
  exact ⟨rfl, (Bel.refl _).alloc _ _⟩
theorem backward_any (a b : Int) (w : World) :
    Calls Try.prog 68 #[.agg #[.int .i64 a, .int .i64 b]] w fun e w' => e = .returned (.int .i64 a) ∧ Bel w w' := by
  go_enter Try.func68, Try.ntmps68
  go_wp2
  go_ret
  exact ⟨rfl, (Bel.refl _).alloc _ _⟩
theorem alone_any (w : World) :
    Calls Try.prog 50 #[] w fun e w' => e = .returned (.agg #[.int .i64 (-1), .int .i64 (-1), .int .i64 (-1)]) ∧ Bel w w' := by
  go_enter Try.func50, Try.ntmps50
  go_wp2
  refine bodyPost_ret (v := .agg #[.int .i64 (-1), .int .i64 (-1), .int .i64 (-1)]) (by simp [results, Try.results50, go_sem]) rfl ⟨rfl, ?_⟩
  exact (Bel.refl _).alloc _ _
theorem join_any (B G P L : Nat) (g : Rg) (a b : Nat) (w : World) (h : Chn w B G P L g) (ha : a < P + L) (hb : b < P + L) (hs : P + L ≤ 2048) :
    Calls Try.prog 49 #[.pointer (some ⟨B, 0, none⟩), .int .i64 a, .int .i64 b] w fun e w' => e = .returned (.tuple #[]) ∧ Chn w' B G P L (joinG g a b) ∧ Off (Only G) w w' := by
  obtain ⟨c0, c1⟩ := h.head
  obtain ⟨_, a1, _, fz⟩ := h.at ha
  obtain ⟨k1, o1⟩ := h.putB ha b
  obtain ⟨b0, _, _, fz2⟩ := k1.at hb
  obtain ⟨k2, o2⟩ := k1.putA hb a
  obtain ⟨d0, d1⟩ := k1.head
  have HR : Hid (Chn ((w.setCell ⟨G, a * 3 + 1, none⟩ (.int .i64 b)).setCell ⟨G, b * 3, none⟩ (.int .i64 a)) B G P L (joinG g a b) ∧ Off (Only G) w ((w.setCell ⟨G, a * 3 + 1, none⟩ (.int .i64 b)).setCell ⟨G, b * 3, none⟩ (.int .i64 a))) := Lib.hid ⟨k2, o1.then o2⟩
  have z1 := fz (a * 3 + 1)
  have z2 := fz2 (b * 3)
  generalize (g a).bh = u at *
  generalize (upB g a b b).ah = u2 at *
  clear k1 k2 h o1 o2 fz fz2
  generalize P + L = N at *
  go_enter Try.func49, Try.ntmps49
  go_upto_region 2 with (fail)
  generalize hW : w.setCell ⟨G, a * 3 + 1, none⟩ (.int .i64 b) = W at *
  clear hW
  go_wp2
  go_end0
  exact ⟨rfl, HR.out⟩
end Go.Proofs.Ytmkpnojojkgmiaa
