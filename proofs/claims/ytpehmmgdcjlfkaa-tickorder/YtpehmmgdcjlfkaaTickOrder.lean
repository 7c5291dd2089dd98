/-
  Proved: whatever three timers it is given, TickOrder returns true, and the input reads as it did. Conditions: none.
-/
import Derived.Test.YtpehmmgdcjlfkaaRows
import Derived.Test.YtpehmmgdcjlfkaaLawThree
import Derived.WalkKit
import Derived.ProofKit
import Derived.OpenShut
import Derived.Lib.SmallJoins
namespace Go.Proofs.Ytpehmmgdcjlfkaa.tickOrder
open Go.ChangeShapes Go.WideShapes Go.ChangeAt Go.RowKit Go.Joins

theorem own : ownKnob Try.prog.godebug = none := by kernel_rfl
theorem cells33 : Try.prog.cellsOf 33 = 3 := by kernel_rfl

/-- A timer by value, opened. -/
theorem open_timer {H : Type} {enc : TypeId × Value → H} {w : World} {base : Nat} {spare : Nat → Bool} {held : Bool} {r : Reach} {b0 : Nat} {v : Value} {d : DataW H} {p : List MemPlace}
    (hv : Value.okWide Try.prog w r b0 33 v) (h : DataW.Trod enc Try.prog w base spare held 33 v d p) :
    ∃ a s q : Int, v = .agg #[.int .u64 a, .int .u64 s, .int .i64 q] ∧ d = .agg [.lit (.int .u64 a), .lit (.int .u64 s), .lit (.int .i64 q)] ∧ p = [] ∧
      (Lit.int .u64 a).wf = true ∧ (Lit.int .u64 s).wf = true ∧ (Lit.int .i64 q).wf = true := by
  obtain ⟨c0, c1, c2, y0, y1, y2, m, rfl, rfl, rfl, hy0, hy1, hy2⟩ := open_agg3 Try.underlying33 (by kernel_rfl) cells33 hv h
  obtain ⟨a, e0, rfl, wa⟩ := DataW.trod_int Try.underlying22 hy0
  obtain ⟨s, e1, rfl, ws⟩ := DataW.trod_int Try.underlying22 hy1
  obtain ⟨q, e2, rfl, wq⟩ := DataW.trod_int Try.underlying3 hy2
  simp at e0 e1 e2
  subst e0 e1 e2
  exact ⟨a, s, q, rfl, rfl, rfl, wa, ws, wq⟩
/-- A timer by value, shut. -/
theorem shut_timer {H : Type} {enc : TypeId × Value → H} {w : World} {base : Nat} {spare : Nat → Bool} {held : Bool} {a s q : Int}
    (wa : (Lit.int .u64 a).wf = true) (ws : (Lit.int .u64 s).wf = true) (wq : (Lit.int .i64 q).wf = true) :
    DataW.Trod enc Try.prog w base spare held 33 (.agg #[.int .u64 a, .int .u64 s, .int .i64 q]) (.agg [.lit (.int .u64 a), .lit (.int .u64 s), .lit (.int .i64 q)]) [] :=
  shut_agg3 (y0 := (.lit (.int .u64 a), [])) (y1 := (.lit (.int .u64 s), [])) (y2 := (.lit (.int .i64 q), [])) Try.underlying33 (by kernel_rfl) cells33
    ⟨1, by simp [DataW.trod, Try.underlying22, wa]⟩ ⟨1, by simp [DataW.trod, Try.underlying22, ws]⟩ ⟨1, by simp [DataW.trod, Try.underlying3, wq]⟩

set_option maxRecDepth 100000 in
theorem lifted (os : Os) (started : os.Started) (H : Type) (enc : TypeId × Value → H) :
    ReturnsInHanded {} Try.checked os 7 .any (Rows.tickOrderSpec.pre6 enc Try.prog Try.f7 Rows.tickOrderRow.domain false) (Rows.tickOrderSpec.post enc Try.prog Try.f7 false true false false) := by
  refine returnsInHanded_of_change (C := Try.checked) own started (by kernel_rfl) Try.func7
    (ChangeSpec.witness6 (enc := enc) (C := Try.checked) false ⟨#[], #[.agg #[.int .u64 0, .int .u64 0, .int .i64 0], .agg #[.int .u64 0, .int .u64 0, .int .i64 0], .agg #[.int .u64 0, .int .u64 0, .int .i64 0]], []⟩ 8 (by kernel_rfl) (by kernel_rfl) (by kernel_rfl) (by kernel_rfl)) ?_
  intro W base args ds gs before hval0 hW hcnd _
  have hval : ∀ (j : Nat) t v, Try.f7.params[j]? = some t → args[j]? = some v → Value.okWide Try.prog W .any base t v := hval0
  have hW' := hW
  obtain ⟨p, q, hA0, hV, rfl, hfz, hnd⟩ := hW
  have hA : DataW.TrodAll enc Try.prog W 0 (fun _ => true) true Try.f7.params.toList args.toList ds p := hA0
  rw [Try.params7] at hA hval
  obtain ⟨v0, vs0, d0, ds0, p0, q0, hargs, rfl, rfl, h0, r0⟩ := trodAll_cons hA
  obtain ⟨v1, vs1, d1, ds1, p1, q1, rfl, rfl, rfl, h1, r1⟩ := trodAll_cons r0
  obtain ⟨v2, vs2, d2, ds2, p2, q2, rfl, rfl, rfl, h2, r2⟩ := trodAll_cons r1
  obtain ⟨rfl, rfl, rfl⟩ := trodAll_nil r2
  obtain rfl : args = #[v0, v1, v2] := by cases args; simp_all
  obtain ⟨rfl, rfl⟩ := trodVars_none hV
  obtain ⟨a1, s1, l1, rfl, rfl, rfl, wa1, ws1, wl1⟩ := open_timer (hval 0 33 v0 rfl rfl) h0
  obtain ⟨a2, s2, l2, rfl, rfl, rfl, wa2, ws2, wl2⟩ := open_timer (hval 1 33 v1 rfl rfl) h1
  obtain ⟨a3, s3, l3, rfl, rfl, rfl, wa3, ws3, wl3⟩ := open_timer (hval 2 33 v2 rfl rfl) h2
  clear hA0 hval0
  simp only [List.append_nil] at hW'
  refine (order_walk a1 s1 l1 a2 s2 l2 a3 s3 l3 W).mono fun e W' ⟨he, hg⟩ => ?_
  subst he
  exact ⟨_, rfl, post_of_same (pa := []) (pv := []) hW' (fun _ _ _ => (trodAll_cons_mk (shut_bool Try.underlying4 _) trodAll_mk0))
    (fun sp _ => (trodAll_cons_mk (shut_timer wa1 ws1 wl1) (trodAll_cons_mk (shut_timer wa2 ws2 wl2) (trodAll_cons_mk (shut_timer wa3 ws3 wl3) trodAll_mk0)))) (fun _ _ => rfl) rfl
    (hg.frame _) hg.2.1 (ok_one (by kernel_rfl) rfl (okWide_bool_mk Try.underlying4 _))⟩

theorem over : Rows.tickOrderRow.holds Try.pinned (OpenSpec.ofChange Rows.tickOrderSpec) :=
  OpenClaim.holds_of_wide 7 Try.f7 rfl rfl rfl rfl rfl rfl rfl ⟨rfl, rfl, rfl, rfl, rfl⟩ rfl rfl rfl rfl rfl (by kernel_rfl) Try.func7 (by kernel_rfl)
    (of_decide_eq_true (by kernel_rfl)) (by unfold Func.isWrapper; first | (rw [if_pos (by decide +kernel)]; kernel_rfl) | (rw [if_neg (by decide +kernel)]; exact ⟨rfl, rfl⟩))
    (fun os started H enc _ => lifted os started H enc)
end Go.Proofs.Ytpehmmgdcjlfkaa.tickOrder
namespace Go.Proofs.Ytpehmmgdcjlfkaa
theorem tickOrder_holds : Rows.TickOrderSaid := tickOrder.over
end Go.Proofs.Ytpehmmgdcjlfkaa
