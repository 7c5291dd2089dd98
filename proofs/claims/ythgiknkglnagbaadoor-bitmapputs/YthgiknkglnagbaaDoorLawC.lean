/-
  The walk of BitmapPuts: whatever bits and whatever two numbers it is given, it returns true and turns nothing that was there.
-/
import Derived.Test.YthgiknkglnagbaaDoorEndIn
namespace Go.Proofs.YthgiknkglnagbaaDoor
open Go.RowKit

set_option maxRecDepth 100000 in
set_option maxHeartbeats 4000000 in
theorem puts_core (B P D : Nat → Nat) (i j : Int) (x y z : Bool) (w : World) (hT : Tab w) (KP : Hid (∀ w, Calls Tryd.prog 10 #[.agg #[.int .u64 (B 0), .int .u64 (B 1), .int .u64 (B 2), .int .u64 (B 3)], .int .i64 i, .bool true] w fun e w' => e = .returned (.agg #[.int .u64 (P 0), .int .u64 (P 1), .int .u64 (P 2), .int .u64 (P 3)]) ∧ Bel w w')) (KD : Hid (∀ w, Calls Tryd.prog 10 #[.agg #[.int .u64 (B 0), .int .u64 (B 1), .int .u64 (B 2), .int .u64 (B 3)], .int .i64 i, .bool false] w fun e w' => e = .returned (.agg #[.int .u64 (D 0), .int .u64 (D 1), .int .u64 (D 2), .int .u64 (D 3)]) ∧ Bel w w')) (KR : Hid (∀ w, Calls Tryd.prog 11 #[.agg #[.int .u64 (B 0), .int .u64 (B 1), .int .u64 (B 2), .int .u64 (B 3)], .int .i64 i] w fun e w' => e = .returned (.bool x) ∧ Bel w w')) (KPut : Hid (∀ w, Calls Tryd.prog 12 #[.agg #[.int .u64 (B 0), .int .u64 (B 1), .int .u64 (B 2), .int .u64 (B 3)], .int .i64 i] w fun e w' => e = .returned (.agg #[.int .u64 (P 0), .int .u64 (P 1), .int .u64 (P 2), .int .u64 (P 3)]) ∧ Bel w w')) (KDrop : Hid (∀ w, Calls Tryd.prog 13 #[.agg #[.int .u64 (B 0), .int .u64 (B 1), .int .u64 (B 2), .int .u64 (B 3)], .int .i64 i] w fun e w' => e = .returned (.agg #[.int .u64 (D 0), .int .u64 (D 1), .int .u64 (D 2), .int .u64 (D 3)]) ∧ Bel w w')) (KHas : Hid (∀ w, Calls Tryd.prog 14 #[.agg #[.int .u64 (B 0), .int .u64 (B 1), .int .u64 (B 2), .int .u64 (B 3)], .int .i64 i] w fun e w' => e = .returned (.bool x) ∧ Bel w w')) (KHp : Hid (∀ w, Calls Tryd.prog 14 #[.agg #[.int .u64 (P 0), .int .u64 (P 1), .int .u64 (P 2), .int .u64 (P 3)], .int .i64 j] w fun e w' => e = .returned (.bool y) ∧ Bel w w')) (KRp : Hid (∀ w, Calls Tryd.prog 11 #[.agg #[.int .u64 (P 0), .int .u64 (P 1), .int .u64 (P 2), .int .u64 (P 3)], .int .i64 j] w fun e w' => e = .returned (.bool y) ∧ Bel w w')) (KHd : Hid (∀ w, Calls Tryd.prog 14 #[.agg #[.int .u64 (D 0), .int .u64 (D 1), .int .u64 (D 2), .int .u64 (D 3)], .int .i64 j] w fun e w' => e = .returned (.bool z) ∧ Bel w w')) (KRd : Hid (∀ w, Calls Tryd.prog 11 #[.agg #[.int .u64 (D 0), .int .u64 (D 1), .int .u64 (D 2), .int .u64 (D 3)], .int .i64 j] w fun e w' => e = .returned (.bool z) ∧ Bel w w')) :
    Calls Tryd.prog 3 #[.agg #[.int .u64 (B 0), .int .u64 (B 1), .int .u64 (B 2), .int .u64 (B 3)], .int .i64 i, .int .i64 j] w fun e w' => e = .returned (.bool true) ∧ Bel w w' := by
  have HT := Lib.hid hT
  clear hT
  go_enter Tryd.func3, Tryd.ntmps3
  go_wp2_with fail
  with_reducible refine (works_any _ (HT.out.bel ((Bel.refl _).alloc _ _))).mono ?_
  rintro e w1 ⟨rfl, hb⟩
  have G := Lib.hid (((Bel.refl w).alloc _ _).trans hb)
  have X := Lib.hid ((Box.new w (B 0) (B 1) (B 2) (B 3) 24).bel hb)
  clear hb
  obtain ⟨⟨c0, c1, c2, c3⟩, _⟩ := X.out
  go_wp2
  rename_i Q' K hK
  have tail : ∀ (b8 b9 : Nat) (w2 : World), Bel w w2 → Box w2 w.heap.size (B 0) (B 1) (B 2) (B 3) → Box w2 b8 (P 0) (P 1) (P 2) (P 3) → Box w2 b9 (D 0) (D 1) (D 2) (D 3) → K { tmps := #[.agg #[.int .u64 (B 0), .int .u64 (B 1), .int .u64 (B 2), .int .u64 (B 3)], .int .i64 i, .int .i64 j, .pointer (some ⟨w.heap.size, 0, none⟩), undef, undef, .bool false, .bool true, .pointer (some ⟨b8, 0, none⟩), .pointer (some ⟨b9, 0, none⟩), undef, .bool true, .bool true, .bool false, .agg #[.int .u64 (B 0), .int .u64 (B 1), .int .u64 (B 2), .int .u64 (B 3)], .int .i64 i, .agg #[.int .u64 (P 0), .int .u64 (P 1), .int .u64 (P 2), .int .u64 (P 3)], .agg #[.int .u64 (B 0), .int .u64 (B 1), .int .u64 (B 2), .int .u64 (B 3)], .int .i64 i, .agg #[.int .u64 (D 0), .int .u64 (D 1), .int .u64 (D 2), .int .u64 (D 3)], undef, undef, undef, undef, undef, undef, undef, undef, undef, undef, undef, undef, undef, undef, undef, undef, undef, undef, undef, undef, undef, undef, undef, undef, undef, undef, undef, undef, undef, undef, undef, undef, undef, undef, undef, undef, undef, undef, undef, undef, undef, undef, undef], defers := [] } w2 := by
    intro b8 b9 w2 hg xb xp xd
    refine hK _ _ ?_
    clear c0 c1 c2 c3 X G KP KD
    have XB := Lib.hid xb
    have XP := Lib.hid xp
    have XD := Lib.hid xd
    have G := Lib.hid hg
    clear xp xd hg
    obtain ⟨⟨c0, c1, c2, c3⟩, _⟩ := xb
    go_wp2_with fail
    with_reducible refine (KR.out _).mono ?_
    rintro e w3 ⟨rfl, hb⟩
    obtain ⟨⟨p0, p1, p2, p3⟩, _⟩ := XP.out.bel hb
    obtain ⟨⟨d0, d1, d2, d3⟩, _⟩ := XD.out.bel hb
    have G3 := Lib.hid (G.out.trans hb)
    clear c0 c1 c2 c3
    obtain ⟨⟨c0, c1, c2, c3⟩, _⟩ := XB.out.bel hb
    clear hb XB XP XD G
    go_wp2_with fail
    refine wp_region_each (RK [Kind.val (.bool true), Kind.val (.bool true), Kind.val (.agg #[.int .u64 (B 0), .int .u64 (B 1), .int .u64 (B 2), .int .u64 (B 3)]), Kind.val (.int .i64 i), Kind.val (.agg #[.int .u64 (P 0), .int .u64 (P 1), .int .u64 (P 2), .int .u64 (P 3)]), Kind.val (.agg #[.int .u64 (P 0), .int .u64 (P 1), .int .u64 (P 2), .int .u64 (P 3)]), Kind.val (.bool true), Kind.val (.bool true), Kind.val (.bool true), Kind.val (.agg #[.int .u64 (B 0), .int .u64 (B 1), .int .u64 (B 2), .int .u64 (B 3)]), Kind.val (.int .i64 i), Kind.val (.agg #[.int .u64 (D 0), .int .u64 (D 1), .int .u64 (D 2), .int .u64 (D 3)]), Kind.val (.agg #[.int .u64 (D 0), .int .u64 (D 1), .int .u64 (D 2), .int .u64 (D 3)]), Kind.val (.bool true), Kind.val (.bool true), Kind.val (.bool true), Kind.val (.agg #[.int .u64 (B 0), .int .u64 (B 1), .int .u64 (B 2), .int .u64 (B 3)]), Kind.val (.int .i64 i), Kind.val (.bool x), Kind.val (.bool x), Kind.val (.bool true), Kind.val (.bool true), Kind.val (.bool true), Kind.val (.agg #[.int .u64 (P 0), .int .u64 (P 1), .int .u64 (P 2), .int .u64 (P 3)]), Kind.val (.int .i64 j), Kind.val (.bool y), Kind.val (.agg #[.int .u64 (P 0), .int .u64 (P 1), .int .u64 (P 2), .int .u64 (P 3)]), Kind.val (.int .i64 j), Kind.val (.bool y), Kind.val (.bool true), Kind.val (.bool true), Kind.val (.bool true), Kind.val (.agg #[.int .u64 (D 0), .int .u64 (D 1), .int .u64 (D 2), .int .u64 (D 3)]), Kind.val (.int .i64 j), Kind.val (.bool z), Kind.val (.agg #[.int .u64 (D 0), .int .u64 (D 1), .int .u64 (D 2), .int .u64 (D 3)]), Kind.val (.int .i64 j), Kind.val (.bool z), Kind.val (.bool true), Kind.val (.bool true), Kind.val (.bool true)]) (by kernel_rfl) (RK_mono _) (by show eachOk _ 63 = true; decide +kernel) (by decide +kernel) ?paid ?fin2
    case fin2 =>
      intro a' w' hw hd _ hall
      have h0 := got (d := 6) (c := .bool true) (hall 40 (by decide)) rfl rfl
      clear hall
      go_wp2
      exact ret_slot rfl h0 hd ⟨rfl, G3.out.drew.trans hw⟩
    case paid =>
      refine ⟨?_, ?_⟩
      · intro a' w' hw hB H
        have h7 : a'.tmps[7]? = some (.bool true) := (hB 7 rfl).trans rfl
        exact pay_same (v := .bool true) rfl (by simp [execOp, go_sem, h7]) rfl
      refine ⟨?_, ?_⟩
      · intro a' w' hw hB H
        have h23 := got (d := 23) (c := .bool true) (H 0 rfl) rfl rfl
        exact pay_same (v := .bool true) rfl (by simp [execOp, go_sem, h23]) rfl
      refine ⟨?_, ?_⟩
      · intro a' w' hw hB H
        have h24 := got (d := 24) (c := .bool true) (H 1 rfl) rfl rfl
        have h3 : a'.tmps[3]? = some (.pointer (some ⟨w.heap.size, 0, none⟩)) := (hB 3 rfl).trans rfl
        have kc0 := hw.cell c0
        have kc1 := hw.cell c1
        have kc2 := hw.cell c2
        have kc3 := hw.cell c3
        exact pay_same (v := .agg #[.int .u64 (B 0), .int .u64 (B 1), .int .u64 (B 2), .int .u64 (B 3)]) (wants rfl (d := 24) rfl h24) (by simp [execOp, go_sem, h3, kc0, kc1, kc2, kc3]) rfl
      refine ⟨?_, ?_⟩
      · intro a' w' hw hB H
        have h24 := got (d := 24) (c := .bool true) (H 1 rfl) rfl rfl
        have h1 : a'.tmps[1]? = some (.int .i64 i) := (hB 1 rfl).trans rfl
        exact pay_same (v := .int .i64 i) (wants rfl (d := 24) rfl h24) (by simp [execOp, go_sem, h1]) rfl
      refine ⟨?_, ?_⟩
      · intro a' w' hw hB H
        have h24 := got (d := 24) (c := .bool true) (H 1 rfl) rfl rfl
        have h25 := got (d := 25) (c := .agg #[.int .u64 (B 0), .int .u64 (B 1), .int .u64 (B 2), .int .u64 (B 3)]) (H 2 rfl) rfl rfl
        have h26 := got (d := 26) (c := .int .i64 i) (H 3 rfl) rfl rfl
        refine pay_call (f := 12) (args := #[.agg #[.int .u64 (B 0), .int .u64 (B 1), .int .u64 (B 2), .int .u64 (B 3)], .int .i64 i]) (wants rfl (d := 24) rfl h24) (by simp [go_sem, h25, h26]) ?_
        exact (KPut.out _).mono fun e w2 h => ⟨_, h.1, rfl, h.2⟩
      refine ⟨?_, ?_⟩
      · intro a' w' hw hB H
        have h24 := got (d := 24) (c := .bool true) (H 1 rfl) rfl rfl
        have h8 : a'.tmps[8]? = some (.pointer (some ⟨b8, 0, none⟩)) := (hB 8 rfl).trans rfl
        have kp0 := hw.cell p0
        have kp1 := hw.cell p1
        have kp2 := hw.cell p2
        have kp3 := hw.cell p3
        exact pay_same (v := .agg #[.int .u64 (P 0), .int .u64 (P 1), .int .u64 (P 2), .int .u64 (P 3)]) (wants rfl (d := 24) rfl h24) (by simp [execOp, go_sem, h8, kp0, kp1, kp2, kp3]) rfl
      refine ⟨?_, ?_⟩
      · intro a' w' hw hB H
        have h24 := got (d := 24) (c := .bool true) (H 1 rfl) rfl rfl
        have h27 := got (d := 27) (c := .agg #[.int .u64 (P 0), .int .u64 (P 1), .int .u64 (P 2), .int .u64 (P 3)]) (H 4 rfl) rfl rfl
        have h28 := got (d := 28) (c := .agg #[.int .u64 (P 0), .int .u64 (P 1), .int .u64 (P 2), .int .u64 (P 3)]) (H 5 rfl) rfl rfl
        exact pay_same (v := .bool true) (wants rfl (d := 24) rfl h24) (by simp [execOp, go_sem, h27, h28, eq24]) rfl
      refine ⟨?_, ?_⟩
      · intro a' w' hw hB H
        have h24 := got (d := 24) (c := .bool true) (H 1 rfl) rfl rfl
        have h29 := got (d := 29) (c := .bool true) (H 6 rfl) rfl rfl
        exact pay_same (v := .bool true) rfl (by simp [execOp, go_sem, h24, h29]) rfl
      refine ⟨?_, ?_⟩
      · intro a' w' hw hB H
        have h30 := got (d := 30) (c := .bool true) (H 7 rfl) rfl rfl
        exact pay_same (v := .bool true) rfl (by simp [execOp, go_sem, h30]) rfl
      refine ⟨?_, ?_⟩
      · intro a' w' hw hB H
        have h31 := got (d := 31) (c := .bool true) (H 8 rfl) rfl rfl
        have h3 : a'.tmps[3]? = some (.pointer (some ⟨w.heap.size, 0, none⟩)) := (hB 3 rfl).trans rfl
        have kc0 := hw.cell c0
        have kc1 := hw.cell c1
        have kc2 := hw.cell c2
        have kc3 := hw.cell c3
        exact pay_same (v := .agg #[.int .u64 (B 0), .int .u64 (B 1), .int .u64 (B 2), .int .u64 (B 3)]) (wants rfl (d := 31) rfl h31) (by simp [execOp, go_sem, h3, kc0, kc1, kc2, kc3]) rfl
      refine ⟨?_, ?_⟩
      · intro a' w' hw hB H
        have h31 := got (d := 31) (c := .bool true) (H 8 rfl) rfl rfl
        have h1 : a'.tmps[1]? = some (.int .i64 i) := (hB 1 rfl).trans rfl
        exact pay_same (v := .int .i64 i) (wants rfl (d := 31) rfl h31) (by simp [execOp, go_sem, h1]) rfl
      refine ⟨?_, ?_⟩
      · intro a' w' hw hB H
        have h31 := got (d := 31) (c := .bool true) (H 8 rfl) rfl rfl
        have h32 := got (d := 32) (c := .agg #[.int .u64 (B 0), .int .u64 (B 1), .int .u64 (B 2), .int .u64 (B 3)]) (H 9 rfl) rfl rfl
        have h33 := got (d := 33) (c := .int .i64 i) (H 10 rfl) rfl rfl
        refine pay_call (f := 13) (args := #[.agg #[.int .u64 (B 0), .int .u64 (B 1), .int .u64 (B 2), .int .u64 (B 3)], .int .i64 i]) (wants rfl (d := 31) rfl h31) (by simp [go_sem, h32, h33]) ?_
        exact (KDrop.out _).mono fun e w2 h => ⟨_, h.1, rfl, h.2⟩
      refine ⟨?_, ?_⟩
      · intro a' w' hw hB H
        have h31 := got (d := 31) (c := .bool true) (H 8 rfl) rfl rfl
        have h9 : a'.tmps[9]? = some (.pointer (some ⟨b9, 0, none⟩)) := (hB 9 rfl).trans rfl
        have kd0 := hw.cell d0
        have kd1 := hw.cell d1
        have kd2 := hw.cell d2
        have kd3 := hw.cell d3
        exact pay_same (v := .agg #[.int .u64 (D 0), .int .u64 (D 1), .int .u64 (D 2), .int .u64 (D 3)]) (wants rfl (d := 31) rfl h31) (by simp [execOp, go_sem, h9, kd0, kd1, kd2, kd3]) rfl
      refine ⟨?_, ?_⟩
      · intro a' w' hw hB H
        have h31 := got (d := 31) (c := .bool true) (H 8 rfl) rfl rfl
        have h34 := got (d := 34) (c := .agg #[.int .u64 (D 0), .int .u64 (D 1), .int .u64 (D 2), .int .u64 (D 3)]) (H 11 rfl) rfl rfl
        have h35 := got (d := 35) (c := .agg #[.int .u64 (D 0), .int .u64 (D 1), .int .u64 (D 2), .int .u64 (D 3)]) (H 12 rfl) rfl rfl
        exact pay_same (v := .bool true) (wants rfl (d := 31) rfl h31) (by simp [execOp, go_sem, h34, h35, eq24]) rfl
      refine ⟨?_, ?_⟩
      · intro a' w' hw hB H
        have h31 := got (d := 31) (c := .bool true) (H 8 rfl) rfl rfl
        have h36 := got (d := 36) (c := .bool true) (H 13 rfl) rfl rfl
        exact pay_same (v := .bool true) rfl (by simp [execOp, go_sem, h31, h36]) rfl
      refine ⟨?_, ?_⟩
      · intro a' w' hw hB H
        have h37 := got (d := 37) (c := .bool true) (H 14 rfl) rfl rfl
        exact pay_same (v := .bool true) rfl (by simp [execOp, go_sem, h37]) rfl
      refine ⟨?_, ?_⟩
      · intro a' w' hw hB H
        have h38 := got (d := 38) (c := .bool true) (H 15 rfl) rfl rfl
        have h3 : a'.tmps[3]? = some (.pointer (some ⟨w.heap.size, 0, none⟩)) := (hB 3 rfl).trans rfl
        have kc0 := hw.cell c0
        have kc1 := hw.cell c1
        have kc2 := hw.cell c2
        have kc3 := hw.cell c3
        exact pay_same (v := .agg #[.int .u64 (B 0), .int .u64 (B 1), .int .u64 (B 2), .int .u64 (B 3)]) (wants rfl (d := 38) rfl h38) (by simp [execOp, go_sem, h3, kc0, kc1, kc2, kc3]) rfl
      refine ⟨?_, ?_⟩
      · intro a' w' hw hB H
        have h38 := got (d := 38) (c := .bool true) (H 15 rfl) rfl rfl
        have h1 : a'.tmps[1]? = some (.int .i64 i) := (hB 1 rfl).trans rfl
        exact pay_same (v := .int .i64 i) (wants rfl (d := 38) rfl h38) (by simp [execOp, go_sem, h1]) rfl
      refine ⟨?_, ?_⟩
      · intro a' w' hw hB H
        have h38 := got (d := 38) (c := .bool true) (H 15 rfl) rfl rfl
        have h39 := got (d := 39) (c := .agg #[.int .u64 (B 0), .int .u64 (B 1), .int .u64 (B 2), .int .u64 (B 3)]) (H 16 rfl) rfl rfl
        have h40 := got (d := 40) (c := .int .i64 i) (H 17 rfl) rfl rfl
        refine pay_call (f := 14) (args := #[.agg #[.int .u64 (B 0), .int .u64 (B 1), .int .u64 (B 2), .int .u64 (B 3)], .int .i64 i]) (wants rfl (d := 38) rfl h38) (by simp [go_sem, h39, h40]) ?_
        exact (KHas.out _).mono fun e w2 h => ⟨_, h.1, rfl, h.2⟩
      refine ⟨?_, ?_⟩
      · intro a' w' hw hB H
        have h38 := got (d := 38) (c := .bool true) (H 15 rfl) rfl rfl
        have h10 : a'.tmps[10]? = some (.bool x) := (hB 10 rfl).trans rfl
        exact pay_same (v := .bool x) (wants rfl (d := 38) rfl h38) (by simp [execOp, go_sem, h10]) rfl
      refine ⟨?_, ?_⟩
      · intro a' w' hw hB H
        have h38 := got (d := 38) (c := .bool true) (H 15 rfl) rfl rfl
        have h41 := got (d := 41) (c := .bool x) (H 18 rfl) rfl rfl
        have h42 := got (d := 42) (c := .bool x) (H 19 rfl) rfl rfl
        exact pay_same (v := .bool true) (wants rfl (d := 38) rfl h38) (by simp [execOp, go_sem, h41, h42]) rfl
      refine ⟨?_, ?_⟩
      · intro a' w' hw hB H
        have h38 := got (d := 38) (c := .bool true) (H 15 rfl) rfl rfl
        have h43 := got (d := 43) (c := .bool true) (H 20 rfl) rfl rfl
        exact pay_same (v := .bool true) rfl (by simp [execOp, go_sem, h38, h43]) rfl
      refine ⟨?_, ?_⟩
      · intro a' w' hw hB H
        have h44 := got (d := 44) (c := .bool true) (H 21 rfl) rfl rfl
        exact pay_same (v := .bool true) rfl (by simp [execOp, go_sem, h44]) rfl
      refine ⟨?_, ?_⟩
      · intro a' w' hw hB H
        have h45 := got (d := 45) (c := .bool true) (H 22 rfl) rfl rfl
        have h8 : a'.tmps[8]? = some (.pointer (some ⟨b8, 0, none⟩)) := (hB 8 rfl).trans rfl
        have kp0 := hw.cell p0
        have kp1 := hw.cell p1
        have kp2 := hw.cell p2
        have kp3 := hw.cell p3
        exact pay_same (v := .agg #[.int .u64 (P 0), .int .u64 (P 1), .int .u64 (P 2), .int .u64 (P 3)]) (wants rfl (d := 45) rfl h45) (by simp [execOp, go_sem, h8, kp0, kp1, kp2, kp3]) rfl
      refine ⟨?_, ?_⟩
      · intro a' w' hw hB H
        have h45 := got (d := 45) (c := .bool true) (H 22 rfl) rfl rfl
        have h2 : a'.tmps[2]? = some (.int .i64 j) := (hB 2 rfl).trans rfl
        exact pay_same (v := .int .i64 j) (wants rfl (d := 45) rfl h45) (by simp [execOp, go_sem, h2]) rfl
      refine ⟨?_, ?_⟩
      · intro a' w' hw hB H
        have h45 := got (d := 45) (c := .bool true) (H 22 rfl) rfl rfl
        have h46 := got (d := 46) (c := .agg #[.int .u64 (P 0), .int .u64 (P 1), .int .u64 (P 2), .int .u64 (P 3)]) (H 23 rfl) rfl rfl
        have h47 := got (d := 47) (c := .int .i64 j) (H 24 rfl) rfl rfl
        refine pay_call (f := 14) (args := #[.agg #[.int .u64 (P 0), .int .u64 (P 1), .int .u64 (P 2), .int .u64 (P 3)], .int .i64 j]) (wants rfl (d := 45) rfl h45) (by simp [go_sem, h46, h47]) ?_
        exact (KHp.out _).mono fun e w2 h => ⟨_, h.1, rfl, h.2⟩
      refine ⟨?_, ?_⟩
      · intro a' w' hw hB H
        have h45 := got (d := 45) (c := .bool true) (H 22 rfl) rfl rfl
        have h8 : a'.tmps[8]? = some (.pointer (some ⟨b8, 0, none⟩)) := (hB 8 rfl).trans rfl
        have kp0 := hw.cell p0
        have kp1 := hw.cell p1
        have kp2 := hw.cell p2
        have kp3 := hw.cell p3
        exact pay_same (v := .agg #[.int .u64 (P 0), .int .u64 (P 1), .int .u64 (P 2), .int .u64 (P 3)]) (wants rfl (d := 45) rfl h45) (by simp [execOp, go_sem, h8, kp0, kp1, kp2, kp3]) rfl
      refine ⟨?_, ?_⟩
      · intro a' w' hw hB H
        have h45 := got (d := 45) (c := .bool true) (H 22 rfl) rfl rfl
        have h2 : a'.tmps[2]? = some (.int .i64 j) := (hB 2 rfl).trans rfl
        exact pay_same (v := .int .i64 j) (wants rfl (d := 45) rfl h45) (by simp [execOp, go_sem, h2]) rfl
      refine ⟨?_, ?_⟩
      · intro a' w' hw hB H
        have h45 := got (d := 45) (c := .bool true) (H 22 rfl) rfl rfl
        have h49 := got (d := 49) (c := .agg #[.int .u64 (P 0), .int .u64 (P 1), .int .u64 (P 2), .int .u64 (P 3)]) (H 26 rfl) rfl rfl
        have h50 := got (d := 50) (c := .int .i64 j) (H 27 rfl) rfl rfl
        refine pay_call (f := 11) (args := #[.agg #[.int .u64 (P 0), .int .u64 (P 1), .int .u64 (P 2), .int .u64 (P 3)], .int .i64 j]) (wants rfl (d := 45) rfl h45) (by simp [go_sem, h49, h50]) ?_
        exact (KRp.out _).mono fun e w2 h => ⟨_, h.1, rfl, h.2⟩
      refine ⟨?_, ?_⟩
      · intro a' w' hw hB H
        have h45 := got (d := 45) (c := .bool true) (H 22 rfl) rfl rfl
        have h48 := got (d := 48) (c := .bool y) (H 25 rfl) rfl rfl
        have h51 := got (d := 51) (c := .bool y) (H 28 rfl) rfl rfl
        exact pay_same (v := .bool true) (wants rfl (d := 45) rfl h45) (by simp [execOp, go_sem, h48, h51]) rfl
      refine ⟨?_, ?_⟩
      · intro a' w' hw hB H
        have h45 := got (d := 45) (c := .bool true) (H 22 rfl) rfl rfl
        have h52 := got (d := 52) (c := .bool true) (H 29 rfl) rfl rfl
        exact pay_same (v := .bool true) rfl (by simp [execOp, go_sem, h45, h52]) rfl
      refine ⟨?_, ?_⟩
      · intro a' w' hw hB H
        have h53 := got (d := 53) (c := .bool true) (H 30 rfl) rfl rfl
        exact pay_same (v := .bool true) rfl (by simp [execOp, go_sem, h53]) rfl
      refine ⟨?_, ?_⟩
      · intro a' w' hw hB H
        have h54 := got (d := 54) (c := .bool true) (H 31 rfl) rfl rfl
        have h9 : a'.tmps[9]? = some (.pointer (some ⟨b9, 0, none⟩)) := (hB 9 rfl).trans rfl
        have kd0 := hw.cell d0
        have kd1 := hw.cell d1
        have kd2 := hw.cell d2
        have kd3 := hw.cell d3
        exact pay_same (v := .agg #[.int .u64 (D 0), .int .u64 (D 1), .int .u64 (D 2), .int .u64 (D 3)]) (wants rfl (d := 54) rfl h54) (by simp [execOp, go_sem, h9, kd0, kd1, kd2, kd3]) rfl
      refine ⟨?_, ?_⟩
      · intro a' w' hw hB H
        have h54 := got (d := 54) (c := .bool true) (H 31 rfl) rfl rfl
        have h2 : a'.tmps[2]? = some (.int .i64 j) := (hB 2 rfl).trans rfl
        exact pay_same (v := .int .i64 j) (wants rfl (d := 54) rfl h54) (by simp [execOp, go_sem, h2]) rfl
      refine ⟨?_, ?_⟩
      · intro a' w' hw hB H
        have h54 := got (d := 54) (c := .bool true) (H 31 rfl) rfl rfl
        have h55 := got (d := 55) (c := .agg #[.int .u64 (D 0), .int .u64 (D 1), .int .u64 (D 2), .int .u64 (D 3)]) (H 32 rfl) rfl rfl
        have h56 := got (d := 56) (c := .int .i64 j) (H 33 rfl) rfl rfl
        refine pay_call (f := 14) (args := #[.agg #[.int .u64 (D 0), .int .u64 (D 1), .int .u64 (D 2), .int .u64 (D 3)], .int .i64 j]) (wants rfl (d := 54) rfl h54) (by simp [go_sem, h55, h56]) ?_
        exact (KHd.out _).mono fun e w2 h => ⟨_, h.1, rfl, h.2⟩
      refine ⟨?_, ?_⟩
      · intro a' w' hw hB H
        have h54 := got (d := 54) (c := .bool true) (H 31 rfl) rfl rfl
        have h9 : a'.tmps[9]? = some (.pointer (some ⟨b9, 0, none⟩)) := (hB 9 rfl).trans rfl
        have kd0 := hw.cell d0
        have kd1 := hw.cell d1
        have kd2 := hw.cell d2
        have kd3 := hw.cell d3
        exact pay_same (v := .agg #[.int .u64 (D 0), .int .u64 (D 1), .int .u64 (D 2), .int .u64 (D 3)]) (wants rfl (d := 54) rfl h54) (by simp [execOp, go_sem, h9, kd0, kd1, kd2, kd3]) rfl
      refine ⟨?_, ?_⟩
      · intro a' w' hw hB H
        have h54 := got (d := 54) (c := .bool true) (H 31 rfl) rfl rfl
        have h2 : a'.tmps[2]? = some (.int .i64 j) := (hB 2 rfl).trans rfl
        exact pay_same (v := .int .i64 j) (wants rfl (d := 54) rfl h54) (by simp [execOp, go_sem, h2]) rfl
      refine ⟨?_, ?_⟩
      · intro a' w' hw hB H
        have h54 := got (d := 54) (c := .bool true) (H 31 rfl) rfl rfl
        have h58 := got (d := 58) (c := .agg #[.int .u64 (D 0), .int .u64 (D 1), .int .u64 (D 2), .int .u64 (D 3)]) (H 35 rfl) rfl rfl
        have h59 := got (d := 59) (c := .int .i64 j) (H 36 rfl) rfl rfl
        refine pay_call (f := 11) (args := #[.agg #[.int .u64 (D 0), .int .u64 (D 1), .int .u64 (D 2), .int .u64 (D 3)], .int .i64 j]) (wants rfl (d := 54) rfl h54) (by simp [go_sem, h58, h59]) ?_
        exact (KRd.out _).mono fun e w2 h => ⟨_, h.1, rfl, h.2⟩
      refine ⟨?_, ?_⟩
      · intro a' w' hw hB H
        have h54 := got (d := 54) (c := .bool true) (H 31 rfl) rfl rfl
        have h57 := got (d := 57) (c := .bool z) (H 34 rfl) rfl rfl
        have h60 := got (d := 60) (c := .bool z) (H 37 rfl) rfl rfl
        exact pay_same (v := .bool true) (wants rfl (d := 54) rfl h54) (by simp [execOp, go_sem, h57, h60]) rfl
      refine ⟨?_, ?_⟩
      · intro a' w' hw hB H
        have h54 := got (d := 54) (c := .bool true) (H 31 rfl) rfl rfl
        have h61 := got (d := 61) (c := .bool true) (H 38 rfl) rfl rfl
        exact pay_same (v := .bool true) rfl (by simp [execOp, go_sem, h54, h61]) rfl
      refine ⟨?_, ?_⟩
      · intro a' w' hw hB H
        have h62 := got (d := 62) (c := .bool true) (H 39 rfl) rfl rfl
        exact pay_same (v := .bool true) rfl (by simp [execOp, go_sem, h62]) rfl
      trivial
  clear hK
  have hlow : w.heap.size + 1 ≤ w1.heap.size := World.block_lt_of_cell? w1 ⟨w.heap.size, 0, none⟩ c0
  refine wp_region_end (RK2 [Kind2.val (.agg #[.int .u64 (B 0), .int .u64 (B 1), .int .u64 (B 2), .int .u64 (B 3)]), Kind2.val (.int .i64 i), Kind2.val (.agg #[.int .u64 (P 0), .int .u64 (P 1), .int .u64 (P 2), .int .u64 (P 3)]), Kind2.val (.agg #[.int .u64 (B 0), .int .u64 (B 1), .int .u64 (B 2), .int .u64 (B 3)]), Kind2.val (.int .i64 i), Kind2.val (.agg #[.int .u64 (D 0), .int .u64 (D 1), .int .u64 (D 2), .int .u64 (D 3)]), Kind2.box (w.heap.size + 1), Kind2.box (w.heap.size + 1)]) 8 (by kernel_rfl) (RK2_mono _) (RK2_ptr _ rfl) (by decide) (by show eachOk _ 63 = true; decide +kernel) (by decide +kernel) (by decide +kernel) (by decide +kernel) ?paid ?fin2
  case paid =>
    simp only [List.take_succ_cons, List.take_zero]
    refine ⟨?_, ?_⟩
    · intro a' w' hw hB H
      have h3 : a'.tmps[3]? = some (.pointer (some ⟨w.heap.size, 0, none⟩)) := (hB 3 rfl).trans rfl
      have kc0 := hw.cell c0
      have kc1 := hw.cell c1
      have kc2 := hw.cell c2
      have kc3 := hw.cell c3
      exact pay2_same (v := .agg #[.int .u64 (B 0), .int .u64 (B 1), .int .u64 (B 2), .int .u64 (B 3)]) rfl (by simp [execOp, go_sem, h3, kc0, kc1, kc2, kc3]) rfl (fun _ h => by cases h)
    refine ⟨?_, ?_⟩
    · intro a' w' hw hB H
      have h1 : a'.tmps[1]? = some (.int .i64 i) := (hB 1 rfl).trans rfl
      exact pay2_same (v := .int .i64 i) rfl (by simp [execOp, go_sem, h1]) rfl (fun _ h => by cases h)
    refine ⟨?_, ?_⟩
    · intro a' w' hw hB H
      have h14 := got2 (d := 14) (c := .agg #[.int .u64 (B 0), .int .u64 (B 1), .int .u64 (B 2), .int .u64 (B 3)]) (H 0 rfl) rfl rfl
      have h15 := got2 (d := 15) (c := .int .i64 i) (H 1 rfl) rfl rfl
      refine pay2_call (f := 10) (args := #[.agg #[.int .u64 (B 0), .int .u64 (B 1), .int .u64 (B 2), .int .u64 (B 3)], .int .i64 i, .bool true]) (v := .agg #[.int .u64 (P 0), .int .u64 (P 1), .int .u64 (P 2), .int .u64 (P 3)]) rfl (by simp [go_sem, h14, h15]) (fun _ h => by cases h) (fun _ => rfl) ?_
      exact KP.out _
    refine ⟨?_, ?_⟩
    · intro a' w' hw hB H
      have h3 : a'.tmps[3]? = some (.pointer (some ⟨w.heap.size, 0, none⟩)) := (hB 3 rfl).trans rfl
      have kc0 := hw.cell c0
      have kc1 := hw.cell c1
      have kc2 := hw.cell c2
      have kc3 := hw.cell c3
      exact pay2_same (v := .agg #[.int .u64 (B 0), .int .u64 (B 1), .int .u64 (B 2), .int .u64 (B 3)]) rfl (by simp [execOp, go_sem, h3, kc0, kc1, kc2, kc3]) rfl (fun _ h => by cases h)
    refine ⟨?_, ?_⟩
    · intro a' w' hw hB H
      have h1 : a'.tmps[1]? = some (.int .i64 i) := (hB 1 rfl).trans rfl
      exact pay2_same (v := .int .i64 i) rfl (by simp [execOp, go_sem, h1]) rfl (fun _ h => by cases h)
    refine ⟨?_, ?_⟩
    · intro a' w' hw hB H
      have h17 := got2 (d := 17) (c := .agg #[.int .u64 (B 0), .int .u64 (B 1), .int .u64 (B 2), .int .u64 (B 3)]) (H 3 rfl) rfl rfl
      have h18 := got2 (d := 18) (c := .int .i64 i) (H 4 rfl) rfl rfl
      refine pay2_call (f := 10) (args := #[.agg #[.int .u64 (B 0), .int .u64 (B 1), .int .u64 (B 2), .int .u64 (B 3)], .int .i64 i, .bool false]) (v := .agg #[.int .u64 (D 0), .int .u64 (D 1), .int .u64 (D 2), .int .u64 (D 3)]) rfl (by simp [go_sem, h17, h18]) (fun _ h => by cases h) (fun _ => rfl) ?_
      exact KD.out _
    refine ⟨?_, ?_⟩
    · intro a' w' hw hB H
      exact pay2_box rfl (Nat.le_trans hlow hw.size) (by simp [execOp, go_sem]) rfl
    refine ⟨?_, ?_⟩
    · intro a' w' hw hB H
      exact pay2_box rfl (Nat.le_trans hlow hw.size) (by simp [execOp, go_sem]) rfl
    trivial
  case fin2 =>
    intro a' w' hw hd hsz hB hall hap
    obtain ⟨b8, h8, l8, x8⟩ := got_box (d := 8) (hall 6 (by decide)) rfl rfl
    obtain ⟨b9, h9, l9, x9⟩ := got_box (d := 9) (hall 7 (by decide)) rfl rfl
    have h16 := got2 (d := 16) (c := .agg #[.int .u64 (P 0), .int .u64 (P 1), .int .u64 (P 2), .int .u64 (P 3)]) (hall 2 (by decide)) rfl rfl
    have h19 := got2 (d := 19) (c := .agg #[.int .u64 (D 0), .int .u64 (D 1), .int .u64 (D 2), .int .u64 (D 3)]) (hall 5 (by decide)) rfl rfl
    have h14 := got2 (d := 14) (c := .agg #[.int .u64 (B 0), .int .u64 (B 1), .int .u64 (B 2), .int .u64 (B 3)]) (hall 0 (by decide)) rfl rfl
    have h15 := got2 (d := 15) (c := .int .i64 i) (hall 1 (by decide)) rfl rfl
    have h17 := got2 (d := 17) (c := .agg #[.int .u64 (B 0), .int .u64 (B 1), .int .u64 (B 2), .int .u64 (B 3)]) (hall 3 (by decide)) rfl rfl
    have h18 := got2 (d := 18) (c := .int .i64 i) (hall 4 (by decide)) rfl rfl
    have hne : b8 ≠ b9 := hap 6 7 (by decide) (by decide) (by decide) b8 b9 h8 h9
    have XB := X.out.drew.bel hw
    have g0 := G.out.drew.trans hw
    obtain ⟨⟨q0, q1, q2, q3⟩, f0, f1, f2, f3⟩ := x8
    refine store_op (w' := (((w'.setCell ⟨b8, 0, none⟩ (.int .u64 (P 0))).setCell ⟨b8, 1, none⟩ (.int .u64 (P 1))).setCell ⟨b8, 2, none⟩ (.int .u64 (P 2))).setCell ⟨b8, 3, none⟩ (.int .u64 (P 3))) rfl rfl rfl (by simp [execOp, go_sem, h8, h16, q0, q1, q2, q3, f0, f1, f2, f3]) ?_
    have y8 := box4 (w := w') (b := b8) ⟨⟨q0, q1, q2, q3⟩, f0, f1, f2, f3⟩ (P 0) (P 1) (P 2) (P 3)
    have y9 := (((x9.set (p := ⟨b8, 0, none⟩) hne (.int .u64 (P 0))).set (p := ⟨b8, 1, none⟩) hne (.int .u64 (P 1))).set (p := ⟨b8, 2, none⟩) hne (.int .u64 (P 2))).set (p := ⟨b8, 3, none⟩) hne (.int .u64 (P 3))
    have yB := (((XB.set (p := ⟨b8, 0, none⟩) (by simp; omega) (.int .u64 (P 0))).set (p := ⟨b8, 1, none⟩) (by simp; omega) (.int .u64 (P 1))).set (p := ⟨b8, 2, none⟩) (by simp; omega) (.int .u64 (P 2))).set (p := ⟨b8, 3, none⟩) (by simp; omega) (.int .u64 (P 3))
    have g1 := (((g0.setCell (p := ⟨b8, 0, none⟩) (by simp; omega) (.int .u64 (P 0))).setCell (p := ⟨b8, 1, none⟩) (by simp; omega) (.int .u64 (P 1))).setCell (p := ⟨b8, 2, none⟩) (by simp; omega) (.int .u64 (P 2))).setCell (p := ⟨b8, 3, none⟩) (by simp; omega) (.int .u64 (P 3))
    generalize (((w'.setCell ⟨b8, 0, none⟩ (.int .u64 (P 0))).setCell ⟨b8, 1, none⟩ (.int .u64 (P 1))).setCell ⟨b8, 2, none⟩ (.int .u64 (P 2))).setCell ⟨b8, 3, none⟩ (.int .u64 (P 3)) = w3 at *
    clear q0 q1 q2 q3 f0 f1 f2 f3
    obtain ⟨⟨q0, q1, q2, q3⟩, f0, f1, f2, f3⟩ := y9
    refine store_op (w' := (((w3.setCell ⟨b9, 0, none⟩ (.int .u64 (D 0))).setCell ⟨b9, 1, none⟩ (.int .u64 (D 1))).setCell ⟨b9, 2, none⟩ (.int .u64 (D 2))).setCell ⟨b9, 3, none⟩ (.int .u64 (D 3))) rfl rfl rfl (by simp [execOp, go_sem, h9, h19, q0, q1, q2, q3, f0, f1, f2, f3]) ?_
    have ea : a' = { tmps := #[.agg #[.int .u64 (B 0), .int .u64 (B 1), .int .u64 (B 2), .int .u64 (B 3)], .int .i64 i, .int .i64 j, .pointer (some ⟨w.heap.size, 0, none⟩), undef, undef, .bool false, .bool true, .pointer (some ⟨b8, 0, none⟩), .pointer (some ⟨b9, 0, none⟩), undef, .bool true, .bool true, .bool false, .agg #[.int .u64 (B 0), .int .u64 (B 1), .int .u64 (B 2), .int .u64 (B 3)], .int .i64 i, .agg #[.int .u64 (P 0), .int .u64 (P 1), .int .u64 (P 2), .int .u64 (P 3)], .agg #[.int .u64 (B 0), .int .u64 (B 1), .int .u64 (B 2), .int .u64 (B 3)], .int .i64 i, .agg #[.int .u64 (D 0), .int .u64 (D 1), .int .u64 (D 2), .int .u64 (D 3)], undef, undef, undef, undef, undef, undef, undef, undef, undef, undef, undef, undef, undef, undef, undef, undef, undef, undef, undef, undef, undef, undef, undef, undef, undef, undef, undef, undef, undef, undef, undef, undef, undef, undef, undef, undef, undef, undef, undef, undef, undef, undef, undef], defers := [] } := act_eq hd hsz (fun t ht => by
      match t, ht with
      | 0, _ => exact hB 0 rfl
      | 1, _ => exact hB 1 rfl
      | 2, _ => exact hB 2 rfl
      | 3, _ => exact hB 3 rfl
      | 4, _ => exact hB 4 rfl
      | 5, _ => exact hB 5 rfl
      | 6, _ => exact hB 6 rfl
      | 7, _ => exact hB 7 rfl
      | 8, _ => exact h8
      | 9, _ => exact h9
      | 10, _ => exact hB 10 rfl
      | 11, _ => exact hB 11 rfl
      | 12, _ => exact hB 12 rfl
      | 13, _ => exact hB 13 rfl
      | 14, _ => exact h14
      | 15, _ => exact h15
      | 16, _ => exact h16
      | 17, _ => exact h17
      | 18, _ => exact h18
      | 19, _ => exact h19
      | 20, _ => exact hB 20 rfl
      | 21, _ => exact hB 21 rfl
      | 22, _ => exact hB 22 rfl
      | 23, _ => exact hB 23 rfl
      | 24, _ => exact hB 24 rfl
      | 25, _ => exact hB 25 rfl
      | 26, _ => exact hB 26 rfl
      | 27, _ => exact hB 27 rfl
      | 28, _ => exact hB 28 rfl
      | 29, _ => exact hB 29 rfl
      | 30, _ => exact hB 30 rfl
      | 31, _ => exact hB 31 rfl
      | 32, _ => exact hB 32 rfl
      | 33, _ => exact hB 33 rfl
      | 34, _ => exact hB 34 rfl
      | 35, _ => exact hB 35 rfl
      | 36, _ => exact hB 36 rfl
      | 37, _ => exact hB 37 rfl
      | 38, _ => exact hB 38 rfl
      | 39, _ => exact hB 39 rfl
      | 40, _ => exact hB 40 rfl
      | 41, _ => exact hB 41 rfl
      | 42, _ => exact hB 42 rfl
      | 43, _ => exact hB 43 rfl
      | 44, _ => exact hB 44 rfl
      | 45, _ => exact hB 45 rfl
      | 46, _ => exact hB 46 rfl
      | 47, _ => exact hB 47 rfl
      | 48, _ => exact hB 48 rfl
      | 49, _ => exact hB 49 rfl
      | 50, _ => exact hB 50 rfl
      | 51, _ => exact hB 51 rfl
      | 52, _ => exact hB 52 rfl
      | 53, _ => exact hB 53 rfl
      | 54, _ => exact hB 54 rfl
      | 55, _ => exact hB 55 rfl
      | 56, _ => exact hB 56 rfl
      | 57, _ => exact hB 57 rfl
      | 58, _ => exact hB 58 rfl
      | 59, _ => exact hB 59 rfl
      | 60, _ => exact hB 60 rfl
      | 61, _ => exact hB 61 rfl
      | 62, _ => exact hB 62 rfl
      | k + 63, h => exact absurd h (by simp)
      )
    rw [ea]
    refine tail b8 b9 _ ?_ ?_ ?_ ?_
    · exact (((g1.setCell (p := ⟨b9, 0, none⟩) (by simp; omega) _).setCell (p := ⟨b9, 1, none⟩) (by simp; omega) _).setCell (p := ⟨b9, 2, none⟩) (by simp; omega) _).setCell (p := ⟨b9, 3, none⟩) (by simp; omega) _
    · exact (((yB.set (p := ⟨b9, 0, none⟩) (by simp; omega) _).set (p := ⟨b9, 1, none⟩) (by simp; omega) _).set (p := ⟨b9, 2, none⟩) (by simp; omega) _).set (p := ⟨b9, 3, none⟩) (by simp; omega) _
    · exact (((y8.set (p := ⟨b9, 0, none⟩) (Ne.symm hne) _).set (p := ⟨b9, 1, none⟩) (Ne.symm hne) _).set (p := ⟨b9, 2, none⟩) (Ne.symm hne) _).set (p := ⟨b9, 3, none⟩) (Ne.symm hne) _
    · exact box4 (w := w3) (b := b9) ⟨⟨q0, q1, q2, q3⟩, f0, f1, f2, f3⟩ (D 0) (D 1) (D 2) (D 3)
theorem puts_walk (B : Nat → Nat) (hB : Wd B) (i j : Int) (w : World) (hT : Tab w) :
    Calls Tryd.prog 3 #[.agg #[.int .u64 (B 0), .int .u64 (B 1), .int .u64 (B 2), .int .u64 (B 3)], .int .i64 i, .int .i64 j] w fun e w' => e = .returned (.bool true) ∧ Bel w w' :=
  puts_core B (pti B i) (dpi B i) i j (hs B i) (hs (pti B i) j) (hs (dpi B i) j) w hT (Lib.hid (rput_any_true B hB i)) (Lib.hid (rput_any_false B hB i)) (Lib.hid (rhas_any B hB i)) (Lib.hid (put_any B hB i)) (Lib.hid (drop_any B hB i)) (Lib.hid (has_any B hB i))
    (Lib.hid (has_any _ (pti_wd hB i) j)) (Lib.hid (rhas_any _ (pti_wd hB i) j)) (Lib.hid (has_any _ (dpi_wd hB i) j)) (Lib.hid (rhas_any _ (dpi_wd hB i) j))
end Go.Proofs.YthgiknkglnagbaaDoor
