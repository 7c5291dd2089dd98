/-
  The walk of ListqPlays.
-/
import Derived.Test.YtmkpnojojkgmiaaMadeOk
import Derived.Test.YtmkpnojojkgmiaaAlike
namespace Go.Proofs.Ytmkpnojojkgmiaa
open Go.RowKit
theorem plays_long (P : Int) (pa : Option Addr) (N ca : Nat) (k : Int) (w : World) (h : 60 < N) :
    Calls Try.prog 3 #[.int .i64 P, .slice pa N ca, .int .i64 k] w fun e w' => e = .returned (.bool true) ∧ Bel w w' := by
  have h' : (60 : Int) < N := by omega
  go_enter Try.func3, Try.ntmps3
  go_wp2_with fail
  with_reducible refine (works_any _).mono ?_
  rintro e w1 ⟨rfl, hb⟩
  go_wp2
  go_ret
  exact ⟨rfl, hb⟩
theorem plays_no (P : Int) (pa : Option Addr) (N ca : Nat) (k : Int) (w : World) (h : N ≤ 60) (hP : ¬ (0 ≤ P ∧ P ≤ 1024)) :
    Calls Try.prog 3 #[.int .i64 P, .slice pa N ca, .int .i64 k] w fun e w' => e = .returned (.bool true) ∧ Bel w w' := by
  have h' : ¬ (60 : Int) < N := by omega
  have K := Lib.hid (fun w => made_no P pa N ca w hP)
  clear hP
  go_enter Try.func3, Try.ntmps3
  go_wp2_with fail
  with_reducible refine (works_any _).mono ?_
  rintro e w1 ⟨rfl, hb⟩
  have HB := Lib.hid hb
  clear hb
  go_wp2_with fail
  with_reducible refine (K.out _).mono ?_
  rintro e w2 ⟨rfl, hb⟩
  have HB2 := Lib.hid (HB.out.trans (hb.alloc #[.int .i64 0, .slice none 0 0] 27))
  clear hb
  go_wp2
  go_ret
  exact ⟨rfl, HB2.out⟩
set_option maxHeartbeats 1000000 in
theorem plays_yes (P : Nat) (pa : Option Addr) (N ca : Nat) (al : List Ak) (k : Int) (w : World) (h : N ≤ 60) (hl : al.length = N) (hA : Lies nof w pa (encK al)) (hP : P ≤ 1024) :
    Calls Try.prog 3 #[.int .i64 P, .slice pa N ca, .int .i64 k] w fun e w' => e = .returned (.bool true) ∧ Bel w w' := by
  have h' : ¬ (60 : Int) < N := by omega
  have K := Lib.hid (fun w' (hb : Bel w w') => made_yes P pa N ca al w' hP hl h (hA.bel hb))
  clear hl hA
  go_enter Try.func3, Try.ntmps3
  go_wp2_with fail
  with_reducible refine (works_any _).mono ?_
  rintro e w1 ⟨rfl, hb⟩
  have HB := Lib.hid hb
  clear hb
  go_wp2_with fail
  with_reducible refine (K.out _ HB.out).mono ?_
  rintro e w2 ⟨Q, B, G, R, p, c, rfl, hF, hli, hc⟩
  generalize pla P al = l at *
  have HBA : Hid (Bel w2 (w2.alloc (.cells #[.int .i64 P, .slice p l.length c] 27))) := Lib.hid ((Bel.refl _).alloc _ _)
  have M9 := Lib.hid (heap_alloc_new w2 (.cells #[.int .i64 P, .slice p l.length c] 27))
  have KA := Lib.hid (alike_any Q B G R P l p c k _ (hF.qu.bel HBA.out) (hli.bel HBA.out) hF.qu.len)
  have HB2 := Lib.hid ((HB.out.trans hF.bel).trans HBA.out)
  clear hF hli hc K
  go_upto_region 7 with (fail)
  generalize w2.alloc (.cells #[.int .i64 P, .slice p l.length c] 27) = W at *
  obtain ⟨⟨y0, y1⟩, _⟩ := box2 M9.out
  go_wp2_with fail
  with_reducible refine KA.out.mono ?_
  rintro e w3 ⟨rfl, hb⟩
  have HB3 := Lib.hid (HB2.out.trans hb)
  clear hb
  go_wp2
  go_ret
  exact ⟨rfl, HB3.out⟩
end Go.Proofs.Ytmkpnojojkgmiaa
