/-
  The walk of SlabPlays.
-/
import Derived.Test.YtlohpccfanmiiaaPlay
namespace Go.Proofs.Ytlohpccfanmiiaa
open Go.RowKit
theorem plays_long (P G : Int) (pa : Option Addr) (N ca : Nat) (w : World) (h : 60 < N) :
    Calls Try.prog 3 #[.int .i64 P, .int .i64 G, .slice pa N ca] w fun e w' => e = .returned (.bool true) ∧ Bel w w' := by
  have h' : (60 : Int) < N := by omega
  go_enter Try.func3, Try.ntmps3
  go_wp2_with fail
  with_reducible refine (works_any _).mono ?_
  rintro e w1 ⟨rfl, hb⟩
  go_wp2
  go_ret
  exact ⟨rfl, hb⟩
theorem plays_no (P G : Int) (pa : Option Addr) (N ca : Nat) (w : World) (h : N ≤ 60) (hP : ¬ (0 ≤ P ∧ P ≤ 1024 ∧ 1 ≤ G ∧ G ≤ 65535)) :
    Calls Try.prog 3 #[.int .i64 P, .int .i64 G, .slice pa N ca] w fun e w' => e = .returned (.bool true) ∧ Bel w w' := by
  have h' : ¬ (60 : Int) < N := by omega
  have K1 := Lib.hid (fun w => new_no P G w hP)
  have K2 := Lib.hid (fun w => rnew_no P G w hP)
  clear hP
  go_enter Try.func3, Try.ntmps3
  go_wp2_with fail
  with_reducible refine (works_any _).mono ?_
  rintro e w1 ⟨rfl, hb⟩
  have HB := Lib.hid hb
  clear hb
  go_wp2_with fail
  with_reducible refine (K1.out _).mono ?_
  rintro e w2 ⟨rfl, rfl⟩
  go_wp2_with fail
  with_reducible refine (K2.out _).mono ?_
  rintro e w3 ⟨rfl, hb⟩
  have HB3 := Lib.hid (HB.out.trans hb)
  clear hb
  go_wp2
  go_ret
  exact ⟨rfl, HB3.out.alloc _ _⟩
set_option maxHeartbeats 2000000 in
set_option maxRecDepth 100000 in
theorem plays_yes (P G : Int) (pa : Option Addr) (N ca : Nat) (l : List Ac) (w : World) (h : N ≤ 60) (hl : l.length = N) (hA : Lies nof w pa (encA l)) (h0 : 0 ≤ P) (h1 : P ≤ 1024) (h2 : 1 ≤ G) (h3 : G ≤ 65535) :
    Calls Try.prog 3 #[.int .i64 P, .int .i64 G, .slice pa N ca] w fun e w' => e = .returned (.bool true) ∧ Bel w w' := by
  have h' : ¬ (60 : Int) < N := by omega
  have HA := Lib.hid hA
  have HL := Lib.hid hl
  clear hA hl
  go_enter Try.func3, Try.ntmps3
  go_wp2_with fail
  with_reducible refine (works_any _).mono ?_
  rintro e w1 ⟨rfl, hb⟩
  have HB := Lib.hid hb
  clear hb
  go_wp2_with fail
  with_reducible refine (new_ok P G _ h0 h1 h2 h3).mono ?_
  rintro e w2 ⟨B, f, rfl, hS, hb, hf⟩
  have W2 : Hid (Way w1 B f (newS P G) w2) := Lib.hid ⟨hS, hb, hf⟩
  clear hS hb hf
  go_wp2_with fail
  with_reducible refine (rnew_yes P G _ h0 h1 h2 h3).mono ?_
  rintro e w3 ⟨rfl, hb⟩
  have W3 := Lib.hid ((W2.out.bel hb).bel ((Bel.refl w3).alloc #[.int .i64 P, .int .i64 G, .slice none 0 0, .slice none 0 0, .slice none 0 0] 31))
  clear hb
  have KP := Lib.hid (play_any w1 B f (newS P G) (newR P G) ⟨none, 0, none, 0, none, 0⟩ none pa 0 0 N ca [] l _ W3.out (wf_new P G h0 h1 h2 h3) (sim_new P G) (Tkn.nil _ _ _) ⟨Nat.le_refl _, Nat.le_refl _, Nat.le_refl _, Lies.nil _ _ _, Lies.nil _ _ _, Lies.nil _ _ _⟩ HL.out h (by omega) (HA.out.bel HB.out))
  unfold rv newR at KP
  simp only [List.length_nil] at KP
  go_wp2_with fail
  with_reducible refine (KP.out).mono ?_
  rintro e w4 ⟨f', S', R', x', p', n', c', tk', rfl, hw, _⟩
  have W4 := Lib.hid (HB.out.trans hw.off)
  clear hw
  unfold rv
  go_wp2
  go_ret
  exact ⟨rfl, W4.out.alloc _ _⟩
end Go.Proofs.Ytlohpccfanmiiaa
