/-
  The walk of BitmapTwo: whatever two bits and whatever number it is given, it returns true and turns nothing that was there.
-/
import Derived.Test.YthgiknkglnagbaaDoorEndIn
namespace Go.Proofs.YthgiknkglnagbaaDoor
open Go.RowKit

theorem held_two {w0 w w' : World} {N M : Nat} {x0 x1 x2 x3 y0 y1 y2 y3 : Int} (hg : Bel w w')
    (h : Bel w0 w ∧ Box w N x0 x1 x2 x3 ∧ Box w M y0 y1 y2 y3) : Bel w0 w' ∧ Box w' N x0 x1 x2 x3 ∧ Box w' M y0 y1 y2 y3 := ⟨h.1.trans hg, h.2.1.bel hg, h.2.2.bel hg⟩
theorem size_of {xs ys : Array Value} {n : Nat} {v : Value} (h1 : xs[n]? = ys[n]?) (h2 : xs[n + 1]? = ys[n + 1]?) (e1 : ys[n]? = some v) (e2 : ys[n + 1]? = none) : xs.size = n + 1 := by
  rw [e1] at h1
  rw [e2] at h2
  have := (Array.getElem?_eq_some_iff.1 h1).1
  have := Array.getElem?_eq_none_iff.1 h2
  omega
set_option maxRecDepth 100000 in
set_option maxHeartbeats 4000000 in
theorem two_core (A B C E : Nat → Nat) (i n1 n2 n3 n4 m : Int) (x y : Bool) (w : World) (hT : Tab w) (hs1 : IntKind.i64.wrap (n1 + n2) = m) (hs2 : IntKind.i64.wrap (n3 + n4) = m) (KRa : Hid (∀ w, Calls Tryd.prog 11 #[.agg #[.int .u64 (A 0), .int .u64 (A 1), .int .u64 (A 2), .int .u64 (A 3)], .int .i64 i] w fun e w' => e = .returned (.bool x) ∧ Bel w w')) (KRb : Hid (∀ w, Calls Tryd.prog 11 #[.agg #[.int .u64 (B 0), .int .u64 (B 1), .int .u64 (B 2), .int .u64 (B 3)], .int .i64 i] w fun e w' => e = .returned (.bool y) ∧ Bel w w')) (KBo : Hid (∀ w, Calls Tryd.prog 21 #[.agg #[.int .u64 (A 0), .int .u64 (A 1), .int .u64 (A 2), .int .u64 (A 3)], .agg #[.int .u64 (B 0), .int .u64 (B 1), .int .u64 (B 2), .int .u64 (B 3)]] w fun e w' => e = .returned (.agg #[.int .u64 (C 0), .int .u64 (C 1), .int .u64 (C 2), .int .u64 (C 3)]) ∧ Bel w w')) (KEi : Hid (∀ w, Calls Tryd.prog 22 #[.agg #[.int .u64 (A 0), .int .u64 (A 1), .int .u64 (A 2), .int .u64 (A 3)], .agg #[.int .u64 (B 0), .int .u64 (B 1), .int .u64 (B 2), .int .u64 (B 3)]] w fun e w' => e = .returned (.agg #[.int .u64 (E 0), .int .u64 (E 1), .int .u64 (E 2), .int .u64 (E 3)]) ∧ Bel w w')) (KHc : Hid (∀ w, Calls Tryd.prog 14 #[.agg #[.int .u64 (C 0), .int .u64 (C 1), .int .u64 (C 2), .int .u64 (C 3)], .int .i64 i] w fun e w' => e = .returned (.bool (x && y)) ∧ Bel w w')) (KHe : Hid (∀ w, Calls Tryd.prog 14 #[.agg #[.int .u64 (E 0), .int .u64 (E 1), .int .u64 (E 2), .int .u64 (E 3)], .int .i64 i] w fun e w' => e = .returned (.bool (x || y)) ∧ Bel w w')) (KCa : Hid (∀ w, Calls Tryd.prog 20 #[.agg #[.int .u64 (A 0), .int .u64 (A 1), .int .u64 (A 2), .int .u64 (A 3)]] w fun e w' => e = .returned (.int .i64 n1) ∧ Bel w w')) (KCb : Hid (∀ w, Calls Tryd.prog 20 #[.agg #[.int .u64 (B 0), .int .u64 (B 1), .int .u64 (B 2), .int .u64 (B 3)]] w fun e w' => e = .returned (.int .i64 n2) ∧ Bel w w')) (KCc : Hid (∀ w, Calls Tryd.prog 20 #[.agg #[.int .u64 (C 0), .int .u64 (C 1), .int .u64 (C 2), .int .u64 (C 3)]] w fun e w' => e = .returned (.int .i64 n3) ∧ Bel w w')) (KCe : Hid (∀ w, Calls Tryd.prog 20 #[.agg #[.int .u64 (E 0), .int .u64 (E 1), .int .u64 (E 2), .int .u64 (E 3)]] w fun e w' => e = .returned (.int .i64 n4) ∧ Bel w w')) (KBo2 : Hid (∀ w, Calls Tryd.prog 21 #[.agg #[.int .u64 (B 0), .int .u64 (B 1), .int .u64 (B 2), .int .u64 (B 3)], .agg #[.int .u64 (A 0), .int .u64 (A 1), .int .u64 (A 2), .int .u64 (A 3)]] w fun e w' => e = .returned (.agg #[.int .u64 (C 0), .int .u64 (C 1), .int .u64 (C 2), .int .u64 (C 3)]) ∧ Bel w w')) (KEi2 : Hid (∀ w, Calls Tryd.prog 22 #[.agg #[.int .u64 (B 0), .int .u64 (B 1), .int .u64 (B 2), .int .u64 (B 3)], .agg #[.int .u64 (A 0), .int .u64 (A 1), .int .u64 (A 2), .int .u64 (A 3)]] w fun e w' => e = .returned (.agg #[.int .u64 (E 0), .int .u64 (E 1), .int .u64 (E 2), .int .u64 (E 3)]) ∧ Bel w w')) :
    Calls Tryd.prog 5 #[.agg #[.int .u64 (A 0), .int .u64 (A 1), .int .u64 (A 2), .int .u64 (A 3)], .agg #[.int .u64 (B 0), .int .u64 (B 1), .int .u64 (B 2), .int .u64 (B 3)], .int .i64 i] w fun e w' => e = .returned (.bool true) ∧ Bel w w' := by
  have HT := Lib.hid hT
  clear hT
  go_enter Tryd.func5, Tryd.ntmps5
  go_wp2_with fail
  with_reducible refine (works_any _ (HT.out.bel (((Bel.refl _).alloc _ _).alloc _ _))).mono ?_
  rintro e w1 ⟨rfl, hb⟩
  have G := Lib.hid ((((Bel.refl w).alloc _ _).alloc _ _).trans hb)
  have XA := Lib.hid (((Box.new w (A 0) (A 1) (A 2) (A 3) 24).alloc #[.int .u64 (B 0), .int .u64 (B 1), .int .u64 (B 2), .int .u64 (B 3)] 24).bel hb)
  have xb := (Box.new (w.alloc (.cells #[.int .u64 (A 0), .int .u64 (A 1), .int .u64 (A 2), .int .u64 (A 3)] 24)) (B 0) (B 1) (B 2) (B 3) 24).bel hb
  simp only [World.size_alloc] at xb
  have XB := Lib.hid xb
  clear hb xb
  obtain ⟨⟨a0, a1, a2, a3⟩, _⟩ := XA.out
  obtain ⟨⟨c0, c1, c2, c3⟩, _⟩ := XB.out
  go_wp2
  rename_i Q1 K1 hK1
  have tail : ∀ (w2 : World), Bel w w2 → Box w2 w.heap.size (A 0) (A 1) (A 2) (A 3) → Box w2 (w.heap.size + 1) (B 0) (B 1) (B 2) (B 3) → K1 { tmps := #[.agg #[.int .u64 (A 0), .int .u64 (A 1), .int .u64 (A 2), .int .u64 (A 3)], .agg #[.int .u64 (B 0), .int .u64 (B 1), .int .u64 (B 2), .int .u64 (B 3)], .int .i64 i, .pointer (some ⟨w.heap.size, 0, none⟩), .pointer (some ⟨w.heap.size + 1, 0, none⟩), undef, .bool false, .bool true, .bool x, .bool y, undef, undef, .bool true, .bool true, .bool false, .agg #[.int .u64 (A 0), .int .u64 (A 1), .int .u64 (A 2), .int .u64 (A 3)], .int .i64 i, .bool x, .agg #[.int .u64 (B 0), .int .u64 (B 1), .int .u64 (B 2), .int .u64 (B 3)], .int .i64 i, .bool y, undef, undef, undef, undef, undef, undef, undef, undef, undef, undef, undef, undef, undef, undef, undef, undef, undef, undef, undef, undef, undef, undef, undef, undef, undef, undef, undef, undef, undef, undef, undef, undef, undef, undef, undef, undef, undef, undef, undef, undef, undef, undef, undef, undef, undef, undef, undef, undef, undef, undef, undef, undef], defers := [] } w2 := by
    intro w2 hg xa xb
    refine hK1 _ _ ?_
    clear a0 a1 a2 a3 c0 c1 c2 c3 XA XB G KRa KRb
    have XA := Lib.hid xa
    have XB := Lib.hid xb
    have G := Lib.hid hg
    clear hg
    obtain ⟨⟨a0, a1, a2, a3⟩, _⟩ := xa
    obtain ⟨⟨c0, c1, c2, c3⟩, _⟩ := xb
    go_wp2
    rename_i K2 hK2
    have tail : ∀ (b10 b11 : Nat) (w2 : World), Bel w w2 → Box w2 w.heap.size (A 0) (A 1) (A 2) (A 3) → Box w2 (w.heap.size + 1) (B 0) (B 1) (B 2) (B 3) → Box w2 b10 (C 0) (C 1) (C 2) (C 3) → Box w2 b11 (E 0) (E 1) (E 2) (E 3) → K2 { tmps := #[.agg #[.int .u64 (A 0), .int .u64 (A 1), .int .u64 (A 2), .int .u64 (A 3)], .agg #[.int .u64 (B 0), .int .u64 (B 1), .int .u64 (B 2), .int .u64 (B 3)], .int .i64 i, .pointer (some ⟨w.heap.size, 0, none⟩), .pointer (some ⟨w.heap.size + 1, 0, none⟩), undef, .bool false, .bool true, .bool x, .bool y, .pointer (some ⟨b10, 0, none⟩), .pointer (some ⟨b11, 0, none⟩), .bool true, .bool true, .bool false, .agg #[.int .u64 (A 0), .int .u64 (A 1), .int .u64 (A 2), .int .u64 (A 3)], .int .i64 i, .bool x, .agg #[.int .u64 (B 0), .int .u64 (B 1), .int .u64 (B 2), .int .u64 (B 3)], .int .i64 i, .bool y, .agg #[.int .u64 (A 0), .int .u64 (A 1), .int .u64 (A 2), .int .u64 (A 3)], .agg #[.int .u64 (B 0), .int .u64 (B 1), .int .u64 (B 2), .int .u64 (B 3)], .agg #[.int .u64 (C 0), .int .u64 (C 1), .int .u64 (C 2), .int .u64 (C 3)], .agg #[.int .u64 (A 0), .int .u64 (A 1), .int .u64 (A 2), .int .u64 (A 3)], .agg #[.int .u64 (B 0), .int .u64 (B 1), .int .u64 (B 2), .int .u64 (B 3)], .agg #[.int .u64 (E 0), .int .u64 (E 1), .int .u64 (E 2), .int .u64 (E 3)], undef, undef, undef, undef, undef, undef, undef, undef, undef, undef, undef, undef, undef, undef, undef, undef, undef, undef, undef, undef, undef, undef, undef, undef, undef, undef, undef, undef, undef, undef, undef, undef, undef, undef, undef, undef, undef, undef, undef, undef, undef, undef, undef, undef, undef, undef], defers := [] } w2 := by
      intro b10 b11 w2 hg xa xb xc xe
      refine hK2 _ _ ?_
      clear a0 a1 a2 a3 c0 c1 c2 c3 XA XB G KBo KEi
      have XA := Lib.hid xa
      have XB := Lib.hid xb
      have XC := Lib.hid xc
      have XE := Lib.hid xe
      have G := Lib.hid hg
      clear hg xa xb
      obtain ⟨⟨p0, p1, p2, p3⟩, _⟩ := xc
      obtain ⟨⟨d0, d1, d2, d3⟩, _⟩ := xe
      go_wp2_with fail
      with_reducible refine (KHc.out _).mono ?_
      rintro e w3 ⟨rfl, hb⟩
      have G3 := Lib.hid (G.out.trans hb)
      have YA := Lib.hid (XA.out.bel hb)
      have YB := Lib.hid (XB.out.bel hb)
      have YC := Lib.hid (XC.out.bel hb)
      have YE := Lib.hid (XE.out.bel hb)
      clear hb G XA XB XC XE p0 p1 p2 p3 d0 d1 d2 d3
      obtain ⟨⟨d0, d1, d2, d3⟩, _⟩ := YE.out
      cases x <;> cases y
      all_goals
        simp only [Bool.and_true, Bool.and_false, Bool.or_true, Bool.or_false, Bool.and_self, Bool.or_self] at KHe ⊢
        go_wp2_with fail
        with_reducible refine (KHe.out _).mono ?_
        rintro e w4 ⟨rfl, hb⟩
        have G4 := Lib.hid (G3.out.trans hb)
        obtain ⟨⟨a0, a1, a2, a3⟩, _⟩ := YA.out.bel hb
        obtain ⟨⟨c0, c1, c2, c3⟩, _⟩ := YB.out.bel hb
        obtain ⟨⟨p0, p1, p2, p3⟩, _⟩ := YC.out.bel hb
        clear d0 d1 d2 d3
        obtain ⟨⟨d0, d1, d2, d3⟩, _⟩ := YE.out.bel hb
        clear hb YA YB YC YE G3
        go_wp2_with fail
        refine wp_region_each (RK [Kind.val (.bool true), Kind.val (.bool true), Kind.val (.agg #[.int .u64 (A 0), .int .u64 (A 1), .int .u64 (A 2), .int .u64 (A 3)]), Kind.val (.int .i64 n1), Kind.val (.agg #[.int .u64 (B 0), .int .u64 (B 1), .int .u64 (B 2), .int .u64 (B 3)]), Kind.val (.int .i64 n2), Kind.val (.int .i64 m), Kind.val (.agg #[.int .u64 (C 0), .int .u64 (C 1), .int .u64 (C 2), .int .u64 (C 3)]), Kind.val (.int .i64 n3), Kind.val (.agg #[.int .u64 (E 0), .int .u64 (E 1), .int .u64 (E 2), .int .u64 (E 3)]), Kind.val (.int .i64 n4), Kind.val (.int .i64 m), Kind.val (.bool true), Kind.val (.bool true), Kind.val (.bool true), Kind.val (.agg #[.int .u64 (B 0), .int .u64 (B 1), .int .u64 (B 2), .int .u64 (B 3)]), Kind.val (.agg #[.int .u64 (A 0), .int .u64 (A 1), .int .u64 (A 2), .int .u64 (A 3)]), Kind.val (.agg #[.int .u64 (C 0), .int .u64 (C 1), .int .u64 (C 2), .int .u64 (C 3)]), Kind.val (.agg #[.int .u64 (C 0), .int .u64 (C 1), .int .u64 (C 2), .int .u64 (C 3)]), Kind.val (.bool true), Kind.val (.bool true), Kind.val (.bool true), Kind.val (.agg #[.int .u64 (B 0), .int .u64 (B 1), .int .u64 (B 2), .int .u64 (B 3)]), Kind.val (.agg #[.int .u64 (A 0), .int .u64 (A 1), .int .u64 (A 2), .int .u64 (A 3)]), Kind.val (.agg #[.int .u64 (E 0), .int .u64 (E 1), .int .u64 (E 2), .int .u64 (E 3)]), Kind.val (.agg #[.int .u64 (E 0), .int .u64 (E 1), .int .u64 (E 2), .int .u64 (E 3)]), Kind.val (.bool true), Kind.val (.bool true), Kind.val (.bool true)]) (by kernel_rfl) (RK_mono _) (by show eachOk _ 73 = true; decide +kernel) (by decide +kernel) ?paid ?fin2
        case fin2 =>
          intro a' w' hw hd _ hall
          have h0 := got (d := 6) (c := .bool true) (hall 28 (by decide)) rfl rfl
          clear hall
          go_wp2
          exact ret_slot rfl h0 hd ⟨rfl, G4.out.drew.trans hw⟩
        case paid =>
          refine ⟨?_, ?_⟩
          · intro a' w' hw hB H
            have h7 : a'.tmps[7]? = some (.bool true) := (hB 7 rfl).trans rfl
            exact pay_same (v := .bool true) rfl (by simp [execOp, go_sem, h7]) rfl
          refine ⟨?_, ?_⟩
          · intro a' w' hw hB H
            have h45 := got (d := 45) (c := .bool true) (H 0 rfl) rfl rfl
            exact pay_same (v := .bool true) rfl (by simp [execOp, go_sem, h45]) rfl
          refine ⟨?_, ?_⟩
          · intro a' w' hw hB H
            have h46 := got (d := 46) (c := .bool true) (H 1 rfl) rfl rfl
            have h3 : a'.tmps[3]? = some (.pointer (some ⟨w.heap.size, 0, none⟩)) := (hB 3 rfl).trans rfl
            have ka0 := hw.cell a0
            have ka1 := hw.cell a1
            have ka2 := hw.cell a2
            have ka3 := hw.cell a3
            exact pay_same (v := .agg #[.int .u64 (A 0), .int .u64 (A 1), .int .u64 (A 2), .int .u64 (A 3)]) (wants rfl (d := 46) rfl h46) (by simp [execOp, go_sem, h3, ka0, ka1, ka2, ka3]) rfl
          refine ⟨?_, ?_⟩
          · intro a' w' hw hB H
            have h46 := got (d := 46) (c := .bool true) (H 1 rfl) rfl rfl
            have h47 := got (d := 47) (c := .agg #[.int .u64 (A 0), .int .u64 (A 1), .int .u64 (A 2), .int .u64 (A 3)]) (H 2 rfl) rfl rfl
            refine pay_call (f := 20) (args := #[.agg #[.int .u64 (A 0), .int .u64 (A 1), .int .u64 (A 2), .int .u64 (A 3)]]) (wants rfl (d := 46) rfl h46) (by simp [go_sem, h47]) ?_
            exact (KCa.out _).mono fun e w2 h => ⟨_, h.1, rfl, h.2⟩
          refine ⟨?_, ?_⟩
          · intro a' w' hw hB H
            have h46 := got (d := 46) (c := .bool true) (H 1 rfl) rfl rfl
            have h4 : a'.tmps[4]? = some (.pointer (some ⟨w.heap.size + 1, 0, none⟩)) := (hB 4 rfl).trans rfl
            have kc0 := hw.cell c0
            have kc1 := hw.cell c1
            have kc2 := hw.cell c2
            have kc3 := hw.cell c3
            exact pay_same (v := .agg #[.int .u64 (B 0), .int .u64 (B 1), .int .u64 (B 2), .int .u64 (B 3)]) (wants rfl (d := 46) rfl h46) (by simp [execOp, go_sem, h4, kc0, kc1, kc2, kc3]) rfl
          refine ⟨?_, ?_⟩
          · intro a' w' hw hB H
            have h46 := got (d := 46) (c := .bool true) (H 1 rfl) rfl rfl
            have h49 := got (d := 49) (c := .agg #[.int .u64 (B 0), .int .u64 (B 1), .int .u64 (B 2), .int .u64 (B 3)]) (H 4 rfl) rfl rfl
            refine pay_call (f := 20) (args := #[.agg #[.int .u64 (B 0), .int .u64 (B 1), .int .u64 (B 2), .int .u64 (B 3)]]) (wants rfl (d := 46) rfl h46) (by simp [go_sem, h49]) ?_
            exact (KCb.out _).mono fun e w2 h => ⟨_, h.1, rfl, h.2⟩
          refine ⟨?_, ?_⟩
          · intro a' w' hw hB H
            have h46 := got (d := 46) (c := .bool true) (H 1 rfl) rfl rfl
            have h48 := got (d := 48) (c := .int .i64 n1) (H 3 rfl) rfl rfl
            have h50 := got (d := 50) (c := .int .i64 n2) (H 5 rfl) rfl rfl
            exact pay_same (v := .int .i64 m) (wants rfl (d := 46) rfl h46) (by simp [execOp, go_sem, h48, h50, hs1]) rfl
          refine ⟨?_, ?_⟩
          · intro a' w' hw hB H
            have h46 := got (d := 46) (c := .bool true) (H 1 rfl) rfl rfl
            have h10 : a'.tmps[10]? = some (.pointer (some ⟨b10, 0, none⟩)) := (hB 10 rfl).trans rfl
            have kp0 := hw.cell p0
            have kp1 := hw.cell p1
            have kp2 := hw.cell p2
            have kp3 := hw.cell p3
            exact pay_same (v := .agg #[.int .u64 (C 0), .int .u64 (C 1), .int .u64 (C 2), .int .u64 (C 3)]) (wants rfl (d := 46) rfl h46) (by simp [execOp, go_sem, h10, kp0, kp1, kp2, kp3]) rfl
          refine ⟨?_, ?_⟩
          · intro a' w' hw hB H
            have h46 := got (d := 46) (c := .bool true) (H 1 rfl) rfl rfl
            have h52 := got (d := 52) (c := .agg #[.int .u64 (C 0), .int .u64 (C 1), .int .u64 (C 2), .int .u64 (C 3)]) (H 7 rfl) rfl rfl
            refine pay_call (f := 20) (args := #[.agg #[.int .u64 (C 0), .int .u64 (C 1), .int .u64 (C 2), .int .u64 (C 3)]]) (wants rfl (d := 46) rfl h46) (by simp [go_sem, h52]) ?_
            exact (KCc.out _).mono fun e w2 h => ⟨_, h.1, rfl, h.2⟩
          refine ⟨?_, ?_⟩
          · intro a' w' hw hB H
            have h46 := got (d := 46) (c := .bool true) (H 1 rfl) rfl rfl
            have h11 : a'.tmps[11]? = some (.pointer (some ⟨b11, 0, none⟩)) := (hB 11 rfl).trans rfl
            have kd0 := hw.cell d0
            have kd1 := hw.cell d1
            have kd2 := hw.cell d2
            have kd3 := hw.cell d3
            exact pay_same (v := .agg #[.int .u64 (E 0), .int .u64 (E 1), .int .u64 (E 2), .int .u64 (E 3)]) (wants rfl (d := 46) rfl h46) (by simp [execOp, go_sem, h11, kd0, kd1, kd2, kd3]) rfl
          refine ⟨?_, ?_⟩
          · intro a' w' hw hB H
            have h46 := got (d := 46) (c := .bool true) (H 1 rfl) rfl rfl
            have h54 := got (d := 54) (c := .agg #[.int .u64 (E 0), .int .u64 (E 1), .int .u64 (E 2), .int .u64 (E 3)]) (H 9 rfl) rfl rfl
            refine pay_call (f := 20) (args := #[.agg #[.int .u64 (E 0), .int .u64 (E 1), .int .u64 (E 2), .int .u64 (E 3)]]) (wants rfl (d := 46) rfl h46) (by simp [go_sem, h54]) ?_
            exact (KCe.out _).mono fun e w2 h => ⟨_, h.1, rfl, h.2⟩
          refine ⟨?_, ?_⟩
          · intro a' w' hw hB H
            have h46 := got (d := 46) (c := .bool true) (H 1 rfl) rfl rfl
            have h53 := got (d := 53) (c := .int .i64 n3) (H 8 rfl) rfl rfl
            have h55 := got (d := 55) (c := .int .i64 n4) (H 10 rfl) rfl rfl
            exact pay_same (v := .int .i64 m) (wants rfl (d := 46) rfl h46) (by simp [execOp, go_sem, h53, h55, hs2]) rfl
          refine ⟨?_, ?_⟩
          · intro a' w' hw hB H
            have h46 := got (d := 46) (c := .bool true) (H 1 rfl) rfl rfl
            have h51 := got (d := 51) (c := .int .i64 m) (H 6 rfl) rfl rfl
            have h56 := got (d := 56) (c := .int .i64 m) (H 11 rfl) rfl rfl
            exact pay_same (v := .bool true) (wants rfl (d := 46) rfl h46) (by simp [execOp, go_sem, h51, h56]) rfl
          refine ⟨?_, ?_⟩
          · intro a' w' hw hB H
            have h46 := got (d := 46) (c := .bool true) (H 1 rfl) rfl rfl
            have h57 := got (d := 57) (c := .bool true) (H 12 rfl) rfl rfl
            exact pay_same (v := .bool true) rfl (by simp [execOp, go_sem, h46, h57]) rfl
          refine ⟨?_, ?_⟩
          · intro a' w' hw hB H
            have h58 := got (d := 58) (c := .bool true) (H 13 rfl) rfl rfl
            exact pay_same (v := .bool true) rfl (by simp [execOp, go_sem, h58]) rfl
          refine ⟨?_, ?_⟩
          · intro a' w' hw hB H
            have h59 := got (d := 59) (c := .bool true) (H 14 rfl) rfl rfl
            have h4 : a'.tmps[4]? = some (.pointer (some ⟨w.heap.size + 1, 0, none⟩)) := (hB 4 rfl).trans rfl
            have kc0 := hw.cell c0
            have kc1 := hw.cell c1
            have kc2 := hw.cell c2
            have kc3 := hw.cell c3
            exact pay_same (v := .agg #[.int .u64 (B 0), .int .u64 (B 1), .int .u64 (B 2), .int .u64 (B 3)]) (wants rfl (d := 59) rfl h59) (by simp [execOp, go_sem, h4, kc0, kc1, kc2, kc3]) rfl
          refine ⟨?_, ?_⟩
          · intro a' w' hw hB H
            have h59 := got (d := 59) (c := .bool true) (H 14 rfl) rfl rfl
            have h3 : a'.tmps[3]? = some (.pointer (some ⟨w.heap.size, 0, none⟩)) := (hB 3 rfl).trans rfl
            have ka0 := hw.cell a0
            have ka1 := hw.cell a1
            have ka2 := hw.cell a2
            have ka3 := hw.cell a3
            exact pay_same (v := .agg #[.int .u64 (A 0), .int .u64 (A 1), .int .u64 (A 2), .int .u64 (A 3)]) (wants rfl (d := 59) rfl h59) (by simp [execOp, go_sem, h3, ka0, ka1, ka2, ka3]) rfl
          refine ⟨?_, ?_⟩
          · intro a' w' hw hB H
            have h59 := got (d := 59) (c := .bool true) (H 14 rfl) rfl rfl
            have h60 := got (d := 60) (c := .agg #[.int .u64 (B 0), .int .u64 (B 1), .int .u64 (B 2), .int .u64 (B 3)]) (H 15 rfl) rfl rfl
            have h61 := got (d := 61) (c := .agg #[.int .u64 (A 0), .int .u64 (A 1), .int .u64 (A 2), .int .u64 (A 3)]) (H 16 rfl) rfl rfl
            refine pay_call (f := 21) (args := #[.agg #[.int .u64 (B 0), .int .u64 (B 1), .int .u64 (B 2), .int .u64 (B 3)], .agg #[.int .u64 (A 0), .int .u64 (A 1), .int .u64 (A 2), .int .u64 (A 3)]]) (wants rfl (d := 59) rfl h59) (by simp [go_sem, h60, h61]) ?_
            exact (KBo2.out _).mono fun e w2 h => ⟨_, h.1, rfl, h.2⟩
          refine ⟨?_, ?_⟩
          · intro a' w' hw hB H
            have h59 := got (d := 59) (c := .bool true) (H 14 rfl) rfl rfl
            have h10 : a'.tmps[10]? = some (.pointer (some ⟨b10, 0, none⟩)) := (hB 10 rfl).trans rfl
            have kp0 := hw.cell p0
            have kp1 := hw.cell p1
            have kp2 := hw.cell p2
            have kp3 := hw.cell p3
            exact pay_same (v := .agg #[.int .u64 (C 0), .int .u64 (C 1), .int .u64 (C 2), .int .u64 (C 3)]) (wants rfl (d := 59) rfl h59) (by simp [execOp, go_sem, h10, kp0, kp1, kp2, kp3]) rfl
          refine ⟨?_, ?_⟩
          · intro a' w' hw hB H
            have h59 := got (d := 59) (c := .bool true) (H 14 rfl) rfl rfl
            have h62 := got (d := 62) (c := .agg #[.int .u64 (C 0), .int .u64 (C 1), .int .u64 (C 2), .int .u64 (C 3)]) (H 17 rfl) rfl rfl
            have h63 := got (d := 63) (c := .agg #[.int .u64 (C 0), .int .u64 (C 1), .int .u64 (C 2), .int .u64 (C 3)]) (H 18 rfl) rfl rfl
            exact pay_same (v := .bool true) (wants rfl (d := 59) rfl h59) (by simp [execOp, go_sem, h62, h63, eq24]) rfl
          refine ⟨?_, ?_⟩
          · intro a' w' hw hB H
            have h59 := got (d := 59) (c := .bool true) (H 14 rfl) rfl rfl
            have h64 := got (d := 64) (c := .bool true) (H 19 rfl) rfl rfl
            exact pay_same (v := .bool true) rfl (by simp [execOp, go_sem, h59, h64]) rfl
          refine ⟨?_, ?_⟩
          · intro a' w' hw hB H
            have h65 := got (d := 65) (c := .bool true) (H 20 rfl) rfl rfl
            exact pay_same (v := .bool true) rfl (by simp [execOp, go_sem, h65]) rfl
          refine ⟨?_, ?_⟩
          · intro a' w' hw hB H
            have h66 := got (d := 66) (c := .bool true) (H 21 rfl) rfl rfl
            have h4 : a'.tmps[4]? = some (.pointer (some ⟨w.heap.size + 1, 0, none⟩)) := (hB 4 rfl).trans rfl
            have kc0 := hw.cell c0
            have kc1 := hw.cell c1
            have kc2 := hw.cell c2
            have kc3 := hw.cell c3
            exact pay_same (v := .agg #[.int .u64 (B 0), .int .u64 (B 1), .int .u64 (B 2), .int .u64 (B 3)]) (wants rfl (d := 66) rfl h66) (by simp [execOp, go_sem, h4, kc0, kc1, kc2, kc3]) rfl
          refine ⟨?_, ?_⟩
          · intro a' w' hw hB H
            have h66 := got (d := 66) (c := .bool true) (H 21 rfl) rfl rfl
            have h3 : a'.tmps[3]? = some (.pointer (some ⟨w.heap.size, 0, none⟩)) := (hB 3 rfl).trans rfl
            have ka0 := hw.cell a0
            have ka1 := hw.cell a1
            have ka2 := hw.cell a2
            have ka3 := hw.cell a3
            exact pay_same (v := .agg #[.int .u64 (A 0), .int .u64 (A 1), .int .u64 (A 2), .int .u64 (A 3)]) (wants rfl (d := 66) rfl h66) (by simp [execOp, go_sem, h3, ka0, ka1, ka2, ka3]) rfl
          refine ⟨?_, ?_⟩
          · intro a' w' hw hB H
            have h66 := got (d := 66) (c := .bool true) (H 21 rfl) rfl rfl
            have h67 := got (d := 67) (c := .agg #[.int .u64 (B 0), .int .u64 (B 1), .int .u64 (B 2), .int .u64 (B 3)]) (H 22 rfl) rfl rfl
            have h68 := got (d := 68) (c := .agg #[.int .u64 (A 0), .int .u64 (A 1), .int .u64 (A 2), .int .u64 (A 3)]) (H 23 rfl) rfl rfl
            refine pay_call (f := 22) (args := #[.agg #[.int .u64 (B 0), .int .u64 (B 1), .int .u64 (B 2), .int .u64 (B 3)], .agg #[.int .u64 (A 0), .int .u64 (A 1), .int .u64 (A 2), .int .u64 (A 3)]]) (wants rfl (d := 66) rfl h66) (by simp [go_sem, h67, h68]) ?_
            exact (KEi2.out _).mono fun e w2 h => ⟨_, h.1, rfl, h.2⟩
          refine ⟨?_, ?_⟩
          · intro a' w' hw hB H
            have h66 := got (d := 66) (c := .bool true) (H 21 rfl) rfl rfl
            have h11 : a'.tmps[11]? = some (.pointer (some ⟨b11, 0, none⟩)) := (hB 11 rfl).trans rfl
            have kd0 := hw.cell d0
            have kd1 := hw.cell d1
            have kd2 := hw.cell d2
            have kd3 := hw.cell d3
            exact pay_same (v := .agg #[.int .u64 (E 0), .int .u64 (E 1), .int .u64 (E 2), .int .u64 (E 3)]) (wants rfl (d := 66) rfl h66) (by simp [execOp, go_sem, h11, kd0, kd1, kd2, kd3]) rfl
          refine ⟨?_, ?_⟩
          · intro a' w' hw hB H
            have h66 := got (d := 66) (c := .bool true) (H 21 rfl) rfl rfl
            have h69 := got (d := 69) (c := .agg #[.int .u64 (E 0), .int .u64 (E 1), .int .u64 (E 2), .int .u64 (E 3)]) (H 24 rfl) rfl rfl
            have h70 := got (d := 70) (c := .agg #[.int .u64 (E 0), .int .u64 (E 1), .int .u64 (E 2), .int .u64 (E 3)]) (H 25 rfl) rfl rfl
            exact pay_same (v := .bool true) (wants rfl (d := 66) rfl h66) (by simp [execOp, go_sem, h69, h70, eq24]) rfl
          refine ⟨?_, ?_⟩
          · intro a' w' hw hB H
            have h66 := got (d := 66) (c := .bool true) (H 21 rfl) rfl rfl
            have h71 := got (d := 71) (c := .bool true) (H 26 rfl) rfl rfl
            exact pay_same (v := .bool true) rfl (by simp [execOp, go_sem, h66, h71]) rfl
          refine ⟨?_, ?_⟩
          · intro a' w' hw hB H
            have h72 := got (d := 72) (c := .bool true) (H 27 rfl) rfl rfl
            exact pay_same (v := .bool true) rfl (by simp [execOp, go_sem, h72]) rfl
          trivial
    clear hK2
    have hlow : w.heap.size + 2 ≤ w2.heap.size := World.block_lt_of_cell? w2 ⟨w.heap.size + 1, 0, none⟩ c0
    refine wp_region_end (RK2 [Kind2.val (.agg #[.int .u64 (A 0), .int .u64 (A 1), .int .u64 (A 2), .int .u64 (A 3)]), Kind2.val (.agg #[.int .u64 (B 0), .int .u64 (B 1), .int .u64 (B 2), .int .u64 (B 3)]), Kind2.val (.agg #[.int .u64 (C 0), .int .u64 (C 1), .int .u64 (C 2), .int .u64 (C 3)]), Kind2.val (.agg #[.int .u64 (A 0), .int .u64 (A 1), .int .u64 (A 2), .int .u64 (A 3)]), Kind2.val (.agg #[.int .u64 (B 0), .int .u64 (B 1), .int .u64 (B 2), .int .u64 (B 3)]), Kind2.val (.agg #[.int .u64 (E 0), .int .u64 (E 1), .int .u64 (E 2), .int .u64 (E 3)]), Kind2.box (w.heap.size + 2), Kind2.box (w.heap.size + 2)]) 8 (by kernel_rfl) (RK2_mono _) (RK2_ptr _ rfl) (by decide) (by show eachOk _ 73 = true; decide +kernel) (by decide +kernel) (by decide +kernel) (by decide +kernel) ?paid3 ?fin3
    case paid3 =>
      simp only [List.take_succ_cons, List.take_zero]
      refine ⟨?_, ?_⟩
      · intro a' w' hw hB H
        have h3 : a'.tmps[3]? = some (.pointer (some ⟨w.heap.size, 0, none⟩)) := (hB 3 rfl).trans rfl
        have ka0 := hw.cell a0
        have ka1 := hw.cell a1
        have ka2 := hw.cell a2
        have ka3 := hw.cell a3
        exact pay2_same (v := .agg #[.int .u64 (A 0), .int .u64 (A 1), .int .u64 (A 2), .int .u64 (A 3)]) rfl (by simp [execOp, go_sem, h3, ka0, ka1, ka2, ka3]) rfl (fun _ h => by cases h)
      refine ⟨?_, ?_⟩
      · intro a' w' hw hB H
        have h4 : a'.tmps[4]? = some (.pointer (some ⟨w.heap.size + 1, 0, none⟩)) := (hB 4 rfl).trans rfl
        have kc0 := hw.cell c0
        have kc1 := hw.cell c1
        have kc2 := hw.cell c2
        have kc3 := hw.cell c3
        exact pay2_same (v := .agg #[.int .u64 (B 0), .int .u64 (B 1), .int .u64 (B 2), .int .u64 (B 3)]) rfl (by simp [execOp, go_sem, h4, kc0, kc1, kc2, kc3]) rfl (fun _ h => by cases h)
      refine ⟨?_, ?_⟩
      · intro a' w' hw hB H
        have h21 := got2 (d := 21) (c := .agg #[.int .u64 (A 0), .int .u64 (A 1), .int .u64 (A 2), .int .u64 (A 3)]) (H 0 rfl) rfl rfl
        have h22 := got2 (d := 22) (c := .agg #[.int .u64 (B 0), .int .u64 (B 1), .int .u64 (B 2), .int .u64 (B 3)]) (H 1 rfl) rfl rfl
        refine pay2_call (f := 21) (args := #[.agg #[.int .u64 (A 0), .int .u64 (A 1), .int .u64 (A 2), .int .u64 (A 3)], .agg #[.int .u64 (B 0), .int .u64 (B 1), .int .u64 (B 2), .int .u64 (B 3)]]) (v := .agg #[.int .u64 (C 0), .int .u64 (C 1), .int .u64 (C 2), .int .u64 (C 3)]) rfl (by simp [go_sem, h21, h22]) (fun _ h => by cases h) (fun _ => rfl) ?_
        exact KBo.out _
      refine ⟨?_, ?_⟩
      · intro a' w' hw hB H
        have h3 : a'.tmps[3]? = some (.pointer (some ⟨w.heap.size, 0, none⟩)) := (hB 3 rfl).trans rfl
        have ka0 := hw.cell a0
        have ka1 := hw.cell a1
        have ka2 := hw.cell a2
        have ka3 := hw.cell a3
        exact pay2_same (v := .agg #[.int .u64 (A 0), .int .u64 (A 1), .int .u64 (A 2), .int .u64 (A 3)]) rfl (by simp [execOp, go_sem, h3, ka0, ka1, ka2, ka3]) rfl (fun _ h => by cases h)
      refine ⟨?_, ?_⟩
      · intro a' w' hw hB H
        have h4 : a'.tmps[4]? = some (.pointer (some ⟨w.heap.size + 1, 0, none⟩)) := (hB 4 rfl).trans rfl
        have kc0 := hw.cell c0
        have kc1 := hw.cell c1
        have kc2 := hw.cell c2
        have kc3 := hw.cell c3
        exact pay2_same (v := .agg #[.int .u64 (B 0), .int .u64 (B 1), .int .u64 (B 2), .int .u64 (B 3)]) rfl (by simp [execOp, go_sem, h4, kc0, kc1, kc2, kc3]) rfl (fun _ h => by cases h)
      refine ⟨?_, ?_⟩
      · intro a' w' hw hB H
        have h24 := got2 (d := 24) (c := .agg #[.int .u64 (A 0), .int .u64 (A 1), .int .u64 (A 2), .int .u64 (A 3)]) (H 3 rfl) rfl rfl
        have h25 := got2 (d := 25) (c := .agg #[.int .u64 (B 0), .int .u64 (B 1), .int .u64 (B 2), .int .u64 (B 3)]) (H 4 rfl) rfl rfl
        refine pay2_call (f := 22) (args := #[.agg #[.int .u64 (A 0), .int .u64 (A 1), .int .u64 (A 2), .int .u64 (A 3)], .agg #[.int .u64 (B 0), .int .u64 (B 1), .int .u64 (B 2), .int .u64 (B 3)]]) (v := .agg #[.int .u64 (E 0), .int .u64 (E 1), .int .u64 (E 2), .int .u64 (E 3)]) rfl (by simp [go_sem, h24, h25]) (fun _ h => by cases h) (fun _ => rfl) ?_
        exact KEi.out _
      refine ⟨?_, ?_⟩
      · intro a' w' hw hB H
        exact pay2_box rfl (Nat.le_trans hlow hw.size) (by simp [execOp, go_sem]) rfl
      refine ⟨?_, ?_⟩
      · intro a' w' hw hB H
        exact pay2_box rfl (Nat.le_trans hlow hw.size) (by simp [execOp, go_sem]) rfl
      trivial
    case fin3 =>
      intro a' w' hw hd hsz hB hall hap
      obtain ⟨b10, h10, l10, x10⟩ := got_box (d := 10) (hall 6 (by decide)) rfl rfl
      obtain ⟨b11, h11, l11, x11⟩ := got_box (d := 11) (hall 7 (by decide)) rfl rfl
      have h21 := got2 (d := 21) (c := .agg #[.int .u64 (A 0), .int .u64 (A 1), .int .u64 (A 2), .int .u64 (A 3)]) (hall 0 (by decide)) rfl rfl
      have h22 := got2 (d := 22) (c := .agg #[.int .u64 (B 0), .int .u64 (B 1), .int .u64 (B 2), .int .u64 (B 3)]) (hall 1 (by decide)) rfl rfl
      have h23 := got2 (d := 23) (c := .agg #[.int .u64 (C 0), .int .u64 (C 1), .int .u64 (C 2), .int .u64 (C 3)]) (hall 2 (by decide)) rfl rfl
      have h24 := got2 (d := 24) (c := .agg #[.int .u64 (A 0), .int .u64 (A 1), .int .u64 (A 2), .int .u64 (A 3)]) (hall 3 (by decide)) rfl rfl
      have h25 := got2 (d := 25) (c := .agg #[.int .u64 (B 0), .int .u64 (B 1), .int .u64 (B 2), .int .u64 (B 3)]) (hall 4 (by decide)) rfl rfl
      have h26 := got2 (d := 26) (c := .agg #[.int .u64 (E 0), .int .u64 (E 1), .int .u64 (E 2), .int .u64 (E 3)]) (hall 5 (by decide)) rfl rfl
      have hne : b10 ≠ b11 := hap 6 7 (by decide) (by decide) (by decide) b10 b11 h10 h11
      have YA := XA.out.drew.bel hw
      have YB := XB.out.drew.bel hw
      have g0 := G.out.drew.trans hw
      obtain ⟨⟨q0, q1, q2, q3⟩, f0, f1, f2, f3⟩ := x10
      refine store_op (w' := (((w'.setCell ⟨b10, 0, none⟩ (.int .u64 (C 0))).setCell ⟨b10, 1, none⟩ (.int .u64 (C 1))).setCell ⟨b10, 2, none⟩ (.int .u64 (C 2))).setCell ⟨b10, 3, none⟩ (.int .u64 (C 3))) rfl rfl rfl (by simp [execOp, go_sem, h10, h23, q0, q1, q2, q3, f0, f1, f2, f3]) ?_
      have y10 := box4 (w := w') (b := b10) ⟨⟨q0, q1, q2, q3⟩, f0, f1, f2, f3⟩ (C 0) (C 1) (C 2) (C 3)
      have y11 := (((x11.set (p := ⟨b10, 0, none⟩) hne (.int .u64 (C 0))).set (p := ⟨b10, 1, none⟩) hne (.int .u64 (C 1))).set (p := ⟨b10, 2, none⟩) hne (.int .u64 (C 2))).set (p := ⟨b10, 3, none⟩) hne (.int .u64 (C 3))
      have yA := (((YA.set (p := ⟨b10, 0, none⟩) (by simp; omega) (.int .u64 (C 0))).set (p := ⟨b10, 1, none⟩) (by simp; omega) (.int .u64 (C 1))).set (p := ⟨b10, 2, none⟩) (by simp; omega) (.int .u64 (C 2))).set (p := ⟨b10, 3, none⟩) (by simp; omega) (.int .u64 (C 3))
      have yB := (((YB.set (p := ⟨b10, 0, none⟩) (by simp; omega) (.int .u64 (C 0))).set (p := ⟨b10, 1, none⟩) (by simp; omega) (.int .u64 (C 1))).set (p := ⟨b10, 2, none⟩) (by simp; omega) (.int .u64 (C 2))).set (p := ⟨b10, 3, none⟩) (by simp; omega) (.int .u64 (C 3))
      have g1 := (((g0.setCell (p := ⟨b10, 0, none⟩) (by simp; omega) (.int .u64 (C 0))).setCell (p := ⟨b10, 1, none⟩) (by simp; omega) (.int .u64 (C 1))).setCell (p := ⟨b10, 2, none⟩) (by simp; omega) (.int .u64 (C 2))).setCell (p := ⟨b10, 3, none⟩) (by simp; omega) (.int .u64 (C 3))
      generalize (((w'.setCell ⟨b10, 0, none⟩ (.int .u64 (C 0))).setCell ⟨b10, 1, none⟩ (.int .u64 (C 1))).setCell ⟨b10, 2, none⟩ (.int .u64 (C 2))).setCell ⟨b10, 3, none⟩ (.int .u64 (C 3)) = w3 at *
      clear q0 q1 q2 q3 f0 f1 f2 f3
      obtain ⟨⟨q0, q1, q2, q3⟩, f0, f1, f2, f3⟩ := y11
      refine store_op (w' := (((w3.setCell ⟨b11, 0, none⟩ (.int .u64 (E 0))).setCell ⟨b11, 1, none⟩ (.int .u64 (E 1))).setCell ⟨b11, 2, none⟩ (.int .u64 (E 2))).setCell ⟨b11, 3, none⟩ (.int .u64 (E 3))) rfl rfl rfl (by simp [execOp, go_sem, h11, h26, q0, q1, q2, q3, f0, f1, f2, f3]) ?_
      have ea : a' = { tmps := #[.agg #[.int .u64 (A 0), .int .u64 (A 1), .int .u64 (A 2), .int .u64 (A 3)], .agg #[.int .u64 (B 0), .int .u64 (B 1), .int .u64 (B 2), .int .u64 (B 3)], .int .i64 i, .pointer (some ⟨w.heap.size, 0, none⟩), .pointer (some ⟨w.heap.size + 1, 0, none⟩), undef, .bool false, .bool true, .bool x, .bool y, .pointer (some ⟨b10, 0, none⟩), .pointer (some ⟨b11, 0, none⟩), .bool true, .bool true, .bool false, .agg #[.int .u64 (A 0), .int .u64 (A 1), .int .u64 (A 2), .int .u64 (A 3)], .int .i64 i, .bool x, .agg #[.int .u64 (B 0), .int .u64 (B 1), .int .u64 (B 2), .int .u64 (B 3)], .int .i64 i, .bool y, .agg #[.int .u64 (A 0), .int .u64 (A 1), .int .u64 (A 2), .int .u64 (A 3)], .agg #[.int .u64 (B 0), .int .u64 (B 1), .int .u64 (B 2), .int .u64 (B 3)], .agg #[.int .u64 (C 0), .int .u64 (C 1), .int .u64 (C 2), .int .u64 (C 3)], .agg #[.int .u64 (A 0), .int .u64 (A 1), .int .u64 (A 2), .int .u64 (A 3)], .agg #[.int .u64 (B 0), .int .u64 (B 1), .int .u64 (B 2), .int .u64 (B 3)], .agg #[.int .u64 (E 0), .int .u64 (E 1), .int .u64 (E 2), .int .u64 (E 3)], undef, undef, undef, undef, undef, undef, undef, undef, undef, undef, undef, undef, undef, undef, undef, undef, undef, undef, undef, undef, undef, undef, undef, undef, undef, undef, undef, undef, undef, undef, undef, undef, undef, undef, undef, undef, undef, undef, undef, undef, undef, undef, undef, undef, undef, undef], defers := [] } := act_eq hd hsz (fun t ht => by
        match t, ht with
        | 0, _ => exact hB 0 rfl
        | 1, _ => exact hB 1 rfl
        | 2, _ => exact hB 2 rfl
        | 3, _ => exact hB 3 rfl
        | 4, _ => exact hB 4 rfl
        | 5, _ => exact hB 5 rfl
        | 6, _ => exact hB 6 rfl
        | 7, _ => exact hB 7 rfl
        | 8, _ => exact hB 8 rfl
        | 9, _ => exact hB 9 rfl
        | 10, _ => exact h10
        | 11, _ => exact h11
        | 12, _ => exact hB 12 rfl
        | 13, _ => exact hB 13 rfl
        | 14, _ => exact hB 14 rfl
        | 15, _ => exact hB 15 rfl
        | 16, _ => exact hB 16 rfl
        | 17, _ => exact hB 17 rfl
        | 18, _ => exact hB 18 rfl
        | 19, _ => exact hB 19 rfl
        | 20, _ => exact hB 20 rfl
        | 21, _ => exact h21
        | 22, _ => exact h22
        | 23, _ => exact h23
        | 24, _ => exact h24
        | 25, _ => exact h25
        | 26, _ => exact h26
        | 27, _ => exact hB 27 rfl
        | 28, _ => exact hB 28 rfl
        | 29, _ => exact hB 29 rfl
        | 30, _ => exact hB 30 rfl
        | 31, _ => exact hB 31 rfl
        | 32, _ => exact hB 32 rfl
        | 33, _ => exact hB 33 rfl
        | 34, _ => exact hB 34 rfl
        | 35, _ => exact hB 35 rfl
        | 36, _ => exact hB 36 rfl
        | 37, _ => exact hB 37 rfl
        | 38, _ => exact hB 38 rfl
        | 39, _ => exact hB 39 rfl
        | 40, _ => exact hB 40 rfl
        | 41, _ => exact hB 41 rfl
        | 42, _ => exact hB 42 rfl
        | 43, _ => exact hB 43 rfl
        | 44, _ => exact hB 44 rfl
        | 45, _ => exact hB 45 rfl
        | 46, _ => exact hB 46 rfl
        | 47, _ => exact hB 47 rfl
        | 48, _ => exact hB 48 rfl
        | 49, _ => exact hB 49 rfl
        | 50, _ => exact hB 50 rfl
        | 51, _ => exact hB 51 rfl
        | 52, _ => exact hB 52 rfl
        | 53, _ => exact hB 53 rfl
        | 54, _ => exact hB 54 rfl
        | 55, _ => exact hB 55 rfl
        | 56, _ => exact hB 56 rfl
        | 57, _ => exact hB 57 rfl
        | 58, _ => exact hB 58 rfl
        | 59, _ => exact hB 59 rfl
        | 60, _ => exact hB 60 rfl
        | 61, _ => exact hB 61 rfl
        | 62, _ => exact hB 62 rfl
        | 63, _ => exact hB 63 rfl
        | 64, _ => exact hB 64 rfl
        | 65, _ => exact hB 65 rfl
        | 66, _ => exact hB 66 rfl
        | 67, _ => exact hB 67 rfl
        | 68, _ => exact hB 68 rfl
        | 69, _ => exact hB 69 rfl
        | 70, _ => exact hB 70 rfl
        | 71, _ => exact hB 71 rfl
        | 72, _ => exact hB 72 rfl
        | k + 73, h => exact absurd h (by simp)
        )
      rw [ea]
      refine tail b10 b11 _ ?_ ?_ ?_ ?_ ?_
      · exact (((g1.setCell (p := ⟨b11, 0, none⟩) (by simp; omega) _).setCell (p := ⟨b11, 1, none⟩) (by simp; omega) _).setCell (p := ⟨b11, 2, none⟩) (by simp; omega) _).setCell (p := ⟨b11, 3, none⟩) (by simp; omega) _
      · exact (((yA.set (p := ⟨b11, 0, none⟩) (by simp; omega) _).set (p := ⟨b11, 1, none⟩) (by simp; omega) _).set (p := ⟨b11, 2, none⟩) (by simp; omega) _).set (p := ⟨b11, 3, none⟩) (by simp; omega) _
      · exact (((yB.set (p := ⟨b11, 0, none⟩) (by simp; omega) _).set (p := ⟨b11, 1, none⟩) (by simp; omega) _).set (p := ⟨b11, 2, none⟩) (by simp; omega) _).set (p := ⟨b11, 3, none⟩) (by simp; omega) _
      · exact (((y10.set (p := ⟨b11, 0, none⟩) (Ne.symm hne) _).set (p := ⟨b11, 1, none⟩) (Ne.symm hne) _).set (p := ⟨b11, 2, none⟩) (Ne.symm hne) _).set (p := ⟨b11, 3, none⟩) (Ne.symm hne) _
      · exact box4 (w := w3) (b := b11) ⟨⟨q0, q1, q2, q3⟩, f0, f1, f2, f3⟩ (E 0) (E 1) (E 2) (E 3)
  clear hK1
  refine wp_region_each (RK [Kind.val (.agg #[.int .u64 (A 0), .int .u64 (A 1), .int .u64 (A 2), .int .u64 (A 3)]), Kind.val (.int .i64 i), Kind.val (.bool x), Kind.val (.agg #[.int .u64 (B 0), .int .u64 (B 1), .int .u64 (B 2), .int .u64 (B 3)]), Kind.val (.int .i64 i), Kind.val (.bool y), Kind.val (.bool x), Kind.val (.bool y)]) (by kernel_rfl) (RK_mono _) (by show eachOk _ 73 = true; decide +kernel) (by decide +kernel) ?paid4 ?fin4
  case fin4 =>
    intro a' w' hw hd hB hall
    have h15 := got (d := 15) (c := .agg #[.int .u64 (A 0), .int .u64 (A 1), .int .u64 (A 2), .int .u64 (A 3)]) (hall 0 (by decide)) rfl rfl
    have h16 := got (d := 16) (c := .int .i64 i) (hall 1 (by decide)) rfl rfl
    have h17 := got (d := 17) (c := .bool x) (hall 2 (by decide)) rfl rfl
    have h18 := got (d := 18) (c := .agg #[.int .u64 (B 0), .int .u64 (B 1), .int .u64 (B 2), .int .u64 (B 3)]) (hall 3 (by decide)) rfl rfl
    have h19 := got (d := 19) (c := .int .i64 i) (hall 4 (by decide)) rfl rfl
    have h20 := got (d := 20) (c := .bool y) (hall 5 (by decide)) rfl rfl
    have h8 := got (d := 8) (c := .bool x) (hall 6 (by decide)) rfl rfl
    have h9 := got (d := 9) (c := .bool y) (hall 7 (by decide)) rfl rfl
    have hsz : a'.tmps.size = 73 := size_of (hB 72 rfl) (hB 73 rfl) rfl rfl
    have ea : a' = { tmps := #[.agg #[.int .u64 (A 0), .int .u64 (A 1), .int .u64 (A 2), .int .u64 (A 3)], .agg #[.int .u64 (B 0), .int .u64 (B 1), .int .u64 (B 2), .int .u64 (B 3)], .int .i64 i, .pointer (some ⟨w.heap.size, 0, none⟩), .pointer (some ⟨w.heap.size + 1, 0, none⟩), undef, .bool false, .bool true, .bool x, .bool y, undef, undef, .bool true, .bool true, .bool false, .agg #[.int .u64 (A 0), .int .u64 (A 1), .int .u64 (A 2), .int .u64 (A 3)], .int .i64 i, .bool x, .agg #[.int .u64 (B 0), .int .u64 (B 1), .int .u64 (B 2), .int .u64 (B 3)], .int .i64 i, .bool y, undef, undef, undef, undef, undef, undef, undef, undef, undef, undef, undef, undef, undef, undef, undef, undef, undef, undef, undef, undef, undef, undef, undef, undef, undef, undef, undef, undef, undef, undef, undef, undef, undef, undef, undef, undef, undef, undef, undef, undef, undef, undef, undef, undef, undef, undef, undef, undef, undef, undef, undef, undef], defers := [] } := act_eq hd hsz (fun t ht => by
      match t, ht with
      | 0, _ => exact hB 0 rfl
      | 1, _ => exact hB 1 rfl
      | 2, _ => exact hB 2 rfl
      | 3, _ => exact hB 3 rfl
      | 4, _ => exact hB 4 rfl
      | 5, _ => exact hB 5 rfl
      | 6, _ => exact hB 6 rfl
      | 7, _ => exact hB 7 rfl
      | 8, _ => exact h8
      | 9, _ => exact h9
      | 10, _ => exact hB 10 rfl
      | 11, _ => exact hB 11 rfl
      | 12, _ => exact hB 12 rfl
      | 13, _ => exact hB 13 rfl
      | 14, _ => exact hB 14 rfl
      | 15, _ => exact h15
      | 16, _ => exact h16
      | 17, _ => exact h17
      | 18, _ => exact h18
      | 19, _ => exact h19
      | 20, _ => exact h20
      | 21, _ => exact hB 21 rfl
      | 22, _ => exact hB 22 rfl
      | 23, _ => exact hB 23 rfl
      | 24, _ => exact hB 24 rfl
      | 25, _ => exact hB 25 rfl
      | 26, _ => exact hB 26 rfl
      | 27, _ => exact hB 27 rfl
      | 28, _ => exact hB 28 rfl
      | 29, _ => exact hB 29 rfl
      | 30, _ => exact hB 30 rfl
      | 31, _ => exact hB 31 rfl
      | 32, _ => exact hB 32 rfl
      | 33, _ => exact hB 33 rfl
      | 34, _ => exact hB 34 rfl
      | 35, _ => exact hB 35 rfl
      | 36, _ => exact hB 36 rfl
      | 37, _ => exact hB 37 rfl
      | 38, _ => exact hB 38 rfl
      | 39, _ => exact hB 39 rfl
      | 40, _ => exact hB 40 rfl
      | 41, _ => exact hB 41 rfl
      | 42, _ => exact hB 42 rfl
      | 43, _ => exact hB 43 rfl
      | 44, _ => exact hB 44 rfl
      | 45, _ => exact hB 45 rfl
      | 46, _ => exact hB 46 rfl
      | 47, _ => exact hB 47 rfl
      | 48, _ => exact hB 48 rfl
      | 49, _ => exact hB 49 rfl
      | 50, _ => exact hB 50 rfl
      | 51, _ => exact hB 51 rfl
      | 52, _ => exact hB 52 rfl
      | 53, _ => exact hB 53 rfl
      | 54, _ => exact hB 54 rfl
      | 55, _ => exact hB 55 rfl
      | 56, _ => exact hB 56 rfl
      | 57, _ => exact hB 57 rfl
      | 58, _ => exact hB 58 rfl
      | 59, _ => exact hB 59 rfl
      | 60, _ => exact hB 60 rfl
      | 61, _ => exact hB 61 rfl
      | 62, _ => exact hB 62 rfl
      | 63, _ => exact hB 63 rfl
      | 64, _ => exact hB 64 rfl
      | 65, _ => exact hB 65 rfl
      | 66, _ => exact hB 66 rfl
      | 67, _ => exact hB 67 rfl
      | 68, _ => exact hB 68 rfl
      | 69, _ => exact hB 69 rfl
      | 70, _ => exact hB 70 rfl
      | 71, _ => exact hB 71 rfl
      | 72, _ => exact hB 72 rfl
      | k + 73, h => exact absurd h (by simp)
      )
    rw [ea]
    exact tail _ (G.out.drew.trans hw) (XA.out.drew.bel hw) (XB.out.drew.bel hw)
  case paid4 =>
    refine ⟨?_, ?_⟩
    · intro a' w' hw hB H
      have h3 : a'.tmps[3]? = some (.pointer (some ⟨w.heap.size, 0, none⟩)) := (hB 3 rfl).trans rfl
      have ka0 := hw.cell a0
      have ka1 := hw.cell a1
      have ka2 := hw.cell a2
      have ka3 := hw.cell a3
      exact pay_same (v := .agg #[.int .u64 (A 0), .int .u64 (A 1), .int .u64 (A 2), .int .u64 (A 3)]) rfl (by simp [execOp, go_sem, h3, ka0, ka1, ka2, ka3]) rfl
    refine ⟨?_, ?_⟩
    · intro a' w' hw hB H
      have h2 : a'.tmps[2]? = some (.int .i64 i) := (hB 2 rfl).trans rfl
      exact pay_same (v := .int .i64 i) rfl (by simp [execOp, go_sem, h2]) rfl
    refine ⟨?_, ?_⟩
    · intro a' w' hw hB H
      have h15 := got (d := 15) (c := .agg #[.int .u64 (A 0), .int .u64 (A 1), .int .u64 (A 2), .int .u64 (A 3)]) (H 0 rfl) rfl rfl
      have h16 := got (d := 16) (c := .int .i64 i) (H 1 rfl) rfl rfl
      refine pay_call (f := 11) (args := #[.agg #[.int .u64 (A 0), .int .u64 (A 1), .int .u64 (A 2), .int .u64 (A 3)], .int .i64 i]) rfl (by simp [go_sem, h15, h16]) ?_
      exact (KRa.out _).mono fun e w2 h => ⟨_, h.1, rfl, h.2⟩
    refine ⟨?_, ?_⟩
    · intro a' w' hw hB H
      have h4 : a'.tmps[4]? = some (.pointer (some ⟨w.heap.size + 1, 0, none⟩)) := (hB 4 rfl).trans rfl
      have kc0 := hw.cell c0
      have kc1 := hw.cell c1
      have kc2 := hw.cell c2
      have kc3 := hw.cell c3
      exact pay_same (v := .agg #[.int .u64 (B 0), .int .u64 (B 1), .int .u64 (B 2), .int .u64 (B 3)]) rfl (by simp [execOp, go_sem, h4, kc0, kc1, kc2, kc3]) rfl
    refine ⟨?_, ?_⟩
    · intro a' w' hw hB H
      have h2 : a'.tmps[2]? = some (.int .i64 i) := (hB 2 rfl).trans rfl
      exact pay_same (v := .int .i64 i) rfl (by simp [execOp, go_sem, h2]) rfl
    refine ⟨?_, ?_⟩
    · intro a' w' hw hB H
      have h18 := got (d := 18) (c := .agg #[.int .u64 (B 0), .int .u64 (B 1), .int .u64 (B 2), .int .u64 (B 3)]) (H 3 rfl) rfl rfl
      have h19 := got (d := 19) (c := .int .i64 i) (H 4 rfl) rfl rfl
      refine pay_call (f := 11) (args := #[.agg #[.int .u64 (B 0), .int .u64 (B 1), .int .u64 (B 2), .int .u64 (B 3)], .int .i64 i]) rfl (by simp [go_sem, h18, h19]) ?_
      exact (KRb.out _).mono fun e w2 h => ⟨_, h.1, rfl, h.2⟩
    refine ⟨?_, ?_⟩
    · intro a' w' hw hB H
      have h17 := got (d := 17) (c := .bool x) (H 2 rfl) rfl rfl
      exact pay_same (v := .bool x) rfl (by simp [execOp, go_sem, h17]) rfl
    refine ⟨?_, ?_⟩
    · intro a' w' hw hB H
      have h20 := got (d := 20) (c := .bool y) (H 5 rfl) rfl rfl
      exact pay_same (v := .bool y) rfl (by simp [execOp, go_sem, h20]) rfl
    trivial
theorem two_walk (A : Nat → Nat) (hA : Wd A) (B : Nat → Nat) (hB : Wd B) (i : Int) (w : World) (hT : Tab w) :
    Calls Tryd.prog 5 #[.agg #[.int .u64 (A 0), .int .u64 (A 1), .int .u64 (A 2), .int .u64 (A 3)], .agg #[.int .u64 (B 0), .int .u64 (B 1), .int .u64 (B 2), .int .u64 (B 3)], .int .i64 i] w fun e w' => e = .returned (.bool true) ∧ Bel w w' := by
  have hx : ∀ (C : Nat → Nat), 0 ≤ ((cnt (tb C) 256 : Nat) : Int) ∧ ((cnt (tb C) 256 : Nat) : Int) ≤ 256 := fun C => by have := cnt_le (tb C) 256; omega
  have h2 := cnt_two (tb A) (tb B) 256
  have e1 : cnt (fun i => tb A i && tb B i) 256 = cnt (tb (bth A B)) 256 := cnt_congr (fun i _ => (tb_bth A B i).symm)
  have e2 : cnt (fun i => tb A i || tb B i) 256 = cnt (tb (eth A B)) 256 := cnt_congr (fun i _ => (tb_eth A B i).symm)
  rw [e1, e2] at h2
  have a1 := hx A
  have a2 := hx B
  have a3 := hx (bth A B)
  have a4 := hx (eth A B)
  have k5 := has_any (bth A B) (bth_wd hA B) i
  have k6 := has_any (eth A B) (eth_wd hA hB) i
  have e5 : hs (bth A B) i = (hs A i && hs B i) := by
    unfold hs
    rw [tb_bth]
    cases decide (0 ≤ i ∧ i < 256) <;> simp
  have e6 : hs (eth A B) i = (hs A i || hs B i) := by
    unfold hs
    rw [tb_eth]
    cases decide (0 ≤ i ∧ i < 256) <;> simp
  rw [e5] at k5
  rw [e6] at k6
  have k7 := both_any B A hB hA
  have k8 := either_any B A hB hA
  rw [bth_comm] at k7
  rw [eth_comm] at k8
  exact two_core A B (bth A B) (eth A B) i _ _ _ _ (((cnt (tb A) 256 : Nat) : Int) + ((cnt (tb B) 256 : Nat) : Int)) (hs A i) (hs B i) w hT (by rw [IntKind.wrap_i64]; omega) (by rw [IntKind.wrap_i64]; omega)
    (Lib.hid (rhas_any A hA i)) (Lib.hid (rhas_any B hB i)) (Lib.hid (both_any A B hA hB)) (Lib.hid (either_any A B hA hB)) (Lib.hid k5) (Lib.hid k6) (Lib.hid (count_any A hA)) (Lib.hid (count_any B hB)) (Lib.hid (count_any _ (bth_wd hA B))) (Lib.hid (count_any _ (eth_wd hA hB))) (Lib.hid k7) (Lib.hid k8)
end Go.Proofs.YthgiknkglnagbaaDoor
