/-
  Contract of the document's Same of two that were told.
-/
import Derived.Test.YtdoceldofkaapaaGreatDoorXad
set_option linter.unusedVariables false
set_option linter.unusedSimpArgs false
namespace Go.Proofs.YtdoceldofkaapaaGreatDoor
open Go.RowKit
set_option maxHeartbeats 1000000 in
theorem sameT_any (er : Int) (t : T) (p q : Option Addr) (c d : Nat) (l : List T) (w : World) (hm : l.length ≤ 5000) (h1 : Has w p l) (h2 : Has w q l) :
    Calls Tryz.prog 14 #[tdV er t p l.length c, tdV er t q l.length d] w fun e w' => e = .returned (.bool true) ∧ Bel w w' := by
  have H2 := Lib.hid (two_new w #[.int .i64 er, .int .u64 t.a, .int .u64 t.s, .int .i64 t.p, .slice p l.length c] #[.int .i64 er, .int .u64 t.a, .int .u64 t.s, .int .i64 t.p, .slice q l.length d] 39 39)
  have KS := Lib.hid (fun w' (h : Bel w w') => same_any p q l.length c d l l w' rfl rfl hm (h1.bel h) (h2.bel h))
  rw [decide_eq_true rfl] at KS
  have hE := eql_yes t t rfl
  have hI : (er == er) = true := by simp
  clear h1 h2
  unfold tdV
  go_enter Tryz.func14, Tryz.ntmps14
  go_upto_region 1 with (fail)
  obtain ⟨W, eW, hB, hz, n0, n1⟩ := H2.out
  rw [eW]
  clear H2 eW
  obtain ⟨b1, e1⟩ : ∃ b, w.heap.size + 1 = b := ⟨_, rfl⟩
  rw [e1] at n1 hz ⊢
  have HN0 := Lib.hid n0
  have HN1 := Lib.hid n1
  obtain ⟨⟨x0, x1, x2, x3, x4⟩, _⟩ := box5 n0
  obtain ⟨⟨y0, y1, y2, y3, y4⟩, _⟩ := box5 n1
  have HB := Lib.hid hB
  clear hB n0 n1 e1 hz
  go_wp2_with fail
  with_reducible refine (KS.out _ HB.out).mono ?_
  rintro e w1 ⟨rfl, hb⟩
  have HB1 := Lib.hid (HB.out.trans hb)
  clear x0 x1 x2 x3 x4 y0 y1 y2 y3 y4
  obtain ⟨⟨x0, x1, x2, x3, x4⟩, _⟩ := box5 (hb.heap HN0.out)
  obtain ⟨⟨y0, y1, y2, y3, y4⟩, _⟩ := box5 (hb.heap HN1.out)
  clear hb
  go_wp2
  go_ret
  exact ⟨rfl, HB1.out⟩
end Go.Proofs.YtdoceldofkaapaaGreatDoor
