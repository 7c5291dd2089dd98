/-
  Contract of a queue's Move.
-/
import Derived.Test.YtmkpnojojkgmiaaInsert
namespace Go.Proofs.Ytmkpnojojkgmiaa
open Go.RowKit
theorem canE_cases (P : Nat) (l : List T) (k : Int) : (¬ canE P l k = 0 ∧ (canE P l k = 1 ∧ hp P k = false ∨ canE P l k = 5 ∧ hp P k = true ∧ fnd l k = none)) ∨ (canE P l k = 0 ∧ ∃ j : Nat, k = j ∧ j < P ∧ ∃ x, fnd l j = some x) := by
  unfold canE
  cases hk : hp P k with
  | false => exact .inl ⟨by simp, .inl ⟨rfl, rfl⟩⟩
  | true =>
    obtain ⟨j, rfl, hj⟩ := hp_nat hk
    cases hf : fnd l j with
    | none => exact .inl ⟨by simp, .inr ⟨rfl, rfl, rfl⟩⟩
    | some x => exact .inr ⟨rfl, j, rfl, hj, x, hf⟩
theorem insE_wo {P : Nat} {l : List T} {t : T} {j : Nat} (e : t.p = j) (hj : j < P) : insE P (wo l t.p) t = 0 := by
  unfold insE
  rw [fnd_wo, e, hp_yes hj]
  rfl
set_option maxHeartbeats 1000000 in
theorem move_any (Q B G R P : Nat) (l : List T) (t : T) (w : World) (h : Qu w Q B G R P l) :
    Calls Try.prog 16 #[.pointer (some ⟨Q, 0, none⟩), .agg #[.int .u64 t.a, .int .u64 t.s, .int .i64 t.p]] w fun e w' => e = .returned (.int .i64 (canE P l t.p)) ∧ Qu w' Q B G R P (movL P l t) ∧ Off (Foot G R) w w' := by
  have HB0 : Hid (Bel w (w.alloc (.cells #[.int .u64 t.a, .int .u64 t.s, .int .i64 t.p] 38))) := Lib.hid ((Bel.refl _).alloc _ _)
  have HN : Hid ((w.alloc (.cells #[.int .u64 t.a, .int .u64 t.s, .int .i64 t.p] 38)).heap[w.heap.size]? = some (.cells #[.int .u64 t.a, .int .u64 t.s, .int .i64 t.p] 38 (0, 0))) := Lib.hid (heap_alloc_new _ _)
  have KC := Lib.hid (cancel_any Q B G R P l t.p _ (h.bel HB0.out))
  have HNF : Hid (¬ Foot G R w.heap.size) := Lib.hid (by
    obtain ⟨⟨g, r, h1, _⟩, _⟩ := h
    have := h1.ltR
    have := h1.ch.ltG
    intro e
    rcases e with e | e <;> omega)
  have hc := canE_cases P l t.p
  have HM : Hid (¬ canE P l t.p = 0 → wo l t.p = movL P l t) := Lib.hid (fun hn => by
    unfold movL
    rw [if_neg hn]
    rcases hc with ⟨_, ⟨_, hk⟩ | ⟨_, _, hf⟩⟩ | ⟨h0, _⟩
    · refine wo_none ?_
      obtain ⟨⟨g, r, h1, h2⟩, _⟩ := h
      exact h2.outside hk
    · exact wo_none hf
    · exact absurd h0 hn)
  unfold canV at KC
  clear h
  generalize ((fnd l t.p).getD default).a = c0 at *
  generalize ((fnd l t.p).getD default).s = c1 at *
  generalize ((fnd l t.p).getD default).p = c2 at *
  rcases hc with ⟨hn, _⟩ | ⟨hz, j, e, hj, x, hf⟩
  · have hM := Lib.hid (HM.out hn)
    have hn2 : (canE P l t.p == 0) = false := by simpa using hn
    clear HM hn
    generalize canE P l t.p = er at *
    go_enter Try.func16, Try.ntmps16
    go_wp2_with fail
    with_reducible refine KC.out.mono ?_
    rintro e w1 ⟨rfl, hq, ho⟩
    have HQ := Lib.hid (hq.bel ((Bel.refl w1).alloc #[.int .u64 c0, .int .u64 c1, .int .i64 c2] 38))
    have HO := Lib.hid ((((HB0.out.off (Foot G R)).then ho)).alloc #[.int .u64 c0, .int .u64 c1, .int .i64 c2] 38)
    clear hq ho
    rw [hM.out] at HQ
    go_wp2
    go_ret
    exact ⟨rfl, HQ.out, HO.out⟩
  · have hI := insE_wo (l := l) e hj
    have KI := Lib.hid (fun w' (h : Qu w' Q B G R P (wo l t.p)) => insert_any Q B G R P (wo l t.p) t w' h)
    have eL : insL P (wo l t.p) t = movL P l t := by unfold insL movL; rw [if_pos hI, if_pos hz]
    rw [eL, hI] at KI
    rw [hz] at KC ⊢
    clear HM hf hI eL hz e
    go_enter Try.func16, Try.ntmps16
    go_wp2_with fail
    with_reducible refine KC.out.mono ?_
    rintro e w1 ⟨rfl, hq, ho⟩
    have HBA : Hid (Bel w1 (w1.alloc (.cells #[.int .u64 c0, .int .u64 c1, .int .i64 c2] 38))) := Lib.hid ((Bel.refl w1).alloc _ _)
    have HQ := Lib.hid (hq.bel HBA.out)
    have HO := Lib.hid (((HB0.out.off (Foot G R)).then ho).thenB HBA.out)
    have HN1 : Hid (w1.heap[w.heap.size]? = some (.cells #[.int .u64 t.a, .int .u64 t.s, .int .i64 t.p] 38 (0, 0))) := Lib.hid ((ho.block _ (by simp) HNF.out).trans HN.out)
    clear hq ho
    go_upto_region 2 with (fail)
    generalize w1.alloc (.cells #[.int .u64 c0, .int .u64 c1, .int .i64 c2] 38) = W2 at *
    obtain ⟨⟨x0, x1, x2⟩, _⟩ := box3 (HBA.out.heap HN1.out)
    go_wp2_with fail
    with_reducible refine (KI.out _ HQ.out).mono ?_
    rintro e w3 ⟨rfl, hq3, ho3⟩
    have HQ3 := Lib.hid hq3
    have HO3 := Lib.hid (HO.out.then ho3)
    clear hq3 ho3
    go_wp2
    go_ret
    exact ⟨rfl, HQ3.out, HO3.out⟩
end Go.Proofs.Ytmkpnojojkgmiaa
