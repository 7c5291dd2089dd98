/-
  The walk of SlabWears.
-/
import Derived.Test.YtlohpccfanmiiaaWorks
namespace Go.Proofs.Ytlohpccfanmiiaa
open Go.RowKit
/-- A slab of one place that was taken and freed m times. -/
def sw (G : Int) (m : Nat) : St := if m = 0 then newS 1 G else ⟨1, G, [⟨m, false⟩], if (m : Int) < G then [0] else []⟩
/-- The same, taken once more. -/
def sx (G : Int) (m : Nat) : St := ⟨1, G, [⟨m + 1, true⟩], []⟩
theorem sw_take (G : Int) (m : Nat) (h : (m : Int) < G) : takeS (sw G m) = (⟨0, m + 1⟩, 0, sx G m) := by
  unfold sw sx
  by_cases h0 : m = 0
  · subst h0
    rfl
  · rw [if_neg h0]
    unfold takeS
    simp [h]
theorem sx_free (G : Int) (m : Nat) : freeA (sx G m) ⟨0, m + 1⟩ = (0, sw G (m + 1)) := by
  have h : (sx G m).tk[0]? = some ⟨(m : Int) + 1, true⟩ := rfl
  have h2 := freeA_yes h
  have e : (⟨((0 : Nat) : Int), (m : Int) + 1⟩ : Hd) = ⟨0, m + 1⟩ := rfl
  rw [e] at h2
  rw [h2]
  unfold freeS sx sw
  simp
theorem wf_sw (G : Int) (h1 : 1 ≤ G) (h2 : G ≤ 65535) : ∀ m : Nat, (m : Int) ≤ G → Wf (sw G m)
  | 0, _ => wf_new 1 G (by decide) (by decide) h1 h2
  | m + 1, h => by
    have ih := wf_sw G h1 h2 m (by omega)
    have h3 := wf_take ih
    rw [sw_take G m (by omega)] at h3
    have h4 := wf_free h3 ⟨0, m + 1⟩
    rw [sx_free] at h4
    exact h4
theorem wf_sx (G : Int) (h1 : 1 ≤ G) (h2 : G ≤ 65535) (m : Nat) (h : (m : Int) < G) : Wf (sx G m) := by
  have h3 := wf_take (wf_sw G h1 h2 m (by omega))
  rw [sw_take G m h] at h3
  exact h3
theorem sw_full (m : Nat) (h : 1 ≤ m) : takeS (sw m m) = (⟨0, 0⟩, 6, sw m m) := by
  unfold sw
  rw [if_neg (by omega)]
  unfold takeS
  simp
theorem sw_worn (m : Nat) (h : 1 ≤ m) : wornS (sw m m) = 1 := by
  unfold sw
  rw [if_neg (by omega)]
  unfold wornS leftS lenS
  simp
theorem wears_no (G : Int) (w : World) (h : ¬ (1 ≤ G ∧ G ≤ 65535)) : Calls Try.prog 6 #[.int .i64 G] w fun e w' => e = .returned (.bool true) ∧ Bel w w' := by
  have K := Lib.hid (fun w' => new_no 1 G w' (fun e => h ⟨e.2.2.1, e.2.2.2⟩))
  clear h
  go_enter Try.func6, Try.ntmps6
  go_wp2_with fail
  with_reducible refine (works_any _).mono ?_
  rintro e w1 ⟨rfl, hb⟩
  have HB := Lib.hid hb
  clear hb
  go_wp2_with fail
  with_reducible refine (K.out _).mono ?_
  rintro e w2 ⟨rfl, rfl⟩
  go_wp2
  go_ret
  exact ⟨rfl, HB.out⟩
theorem wears_big (G : Int) (w : World) (h1 : 300 < G) (h2 : G ≤ 65535) : Calls Try.prog 6 #[.int .i64 G] w fun e w' => e = .returned (.bool true) ∧ Bel w w' := by
  go_enter Try.func6, Try.ntmps6
  go_wp2_with fail
  with_reducible refine (works_any _).mono ?_
  rintro e w1 ⟨rfl, hb⟩
  have HB := Lib.hid hb
  clear hb
  go_wp2_with fail
  with_reducible refine (new_ok 1 G _ (by decide) (by decide) (by omega) h2).mono ?_
  rintro e w2 ⟨B, f, rfl, _, hb, _⟩
  have HB := Lib.hid (HB.out.trans hb)
  clear hb
  go_wp2
  go_ret
  exact ⟨rfl, HB.out⟩
set_option maxHeartbeats 2000000 in
theorem wears_yes (G : Nat) (w : World) (h1 : 1 ≤ G) (h2 : G ≤ 300) : Calls Try.prog 6 #[.int .i64 G] w fun e w' => e = .returned (.bool true) ∧ Bel w w' := by
  have hd : decide (300 < G) = false := decide_eq_false (by omega)
  go_enter Try.func6, Try.ntmps6
  go_wp2_with fail
  with_reducible refine (works_any _).mono ?_
  rintro e w1 ⟨rfl, hb⟩
  have HB := Lib.hid hb
  clear hb
  go_wp2_with fail
  with_reducible refine (new_ok 1 G _ (by decide) (by decide) (by omega) (by omega)).mono ?_
  rintro e w2 ⟨B, f, rfl, hS, hb, hf⟩
  have W2 : Hid (Way w1 B f (sw G 0) w2) := Lib.hid ⟨hS, hb, hf⟩
  clear hS hb hf
  go_wp2
  go_loopw [6] (fun v wr => ∃ m : Nat, v = .int .i64 (m + 1) ∧ m ≤ G ∧ ∃ f, Way w1 B f (sw G m) wr) (fun v _ => G + 1 - (intOf v).toNat)
  case atStart => exact ⟨0, rfl, by omega, f, W2.out⟩
  case round =>
    obtain ⟨m, rfl, hi, fm, hw⟩ := hrel
    have HW := Lib.hid hw
    clear hw
    by_cases hlt : m < G
    · have hle : decide ((m : Int) + 1 ≤ (G : Int)) = true := decide_eq_true (by omega)
      have HF := Lib.hid (wf_sw G (by omega) (by omega) m (by omega))
      have HF2 := Lib.hid (wf_sx G (by omega) (by omega) m (by omega))
      have HT := Lib.hid (sw_take G m (by omega))
      have HX := Lib.hid (sx_free G m)
      go_wp2_with fail
      with_reducible refine (do_take HF.out HT.out B fm _ HW.out.sl).mono ?_
      rintro e w3 ⟨rfl, f3, hs, hst⟩
      have W3 := Lib.hid ((HW.out.steps hs hst).bel ((Bel.refl w3).alloc #[.int .i64 0, .int .i64 (m + 1)] 38))
      have KA := Lib.hid (Keep.new (.cells #[.int .i64 0, .int .i64 (m + 1)] 38) hs.lt)
      clear hs hst
      go_wp2_with fail
      with_reducible refine (do_free (q := ⟨0, m + 1⟩) HF2.out HX.out B f3 _ W3.out.sl).mono ?_
      rintro e w4 ⟨rfl, f4, hs, hst⟩
      have W4 := Lib.hid (W3.out.steps hs hst)
      obtain ⟨⟨a0, a1⟩, _⟩ := box2 (KA.out.steps hst).2
      clear hs hst
      go_wp2
      go_roundw
      case rel => exact ⟨m + 1, by go_num, by omega, f4, W4.out⟩
      case measure => simp [intOf]; omega
    · obtain rfl : m = G := by omega
      have hle : decide ((m : Int) + 1 ≤ (m : Int)) = false := decide_eq_false (by omega)
      have HF := Lib.hid (wf_sw m (by omega) (by omega) m (by omega))
      have HT := Lib.hid (sw_full m h1)
      have HWo := Lib.hid (sw_worn m h1)
      go_wp2_with fail
      with_reducible refine (do_take HF.out HT.out B fm _ HW.out.sl).mono ?_
      rintro e w3 ⟨rfl, f3, hs, hst⟩
      have W3 := Lib.hid ((HW.out.steps hs hst).bel ((Bel.refl w3).alloc #[.int .i64 0, .int .i64 0] 38))
      clear hs hst
      go_wp2_with fail
      with_reducible refine (do_worn HF.out HWo.out B f3 _ W3.out.sl).mono ?_
      rintro e w4 ⟨rfl, hb⟩
      have W4 := Lib.hid (W3.out.bel hb)
      clear hb
      go_wp2
      go_ret
      exact ⟨rfl, HB.out.trans W4.out.off⟩
end Go.Proofs.Ytlohpccfanmiiaa
