/-
  The walk of BitmapLists: whatever bits and whatever list of numbers it is given, it returns true and turns nothing that was there.
-/
import Derived.Test.YthgiknkglnagbaaDoorWorks
import Derived.Test.YthgiknkglnagbaaDoorBack
namespace Go.Proofs.YthgiknkglnagbaaDoor
open Go.RowKit

theorem lists_long (B : Nat → Nat) (a : Option Addr) (n cap : Nat) (hn : 300 < n) (w : World) (hT : Tab w) :
    Calls Tryd.prog 4 #[.agg #[.int .u64 (B 0), .int .u64 (B 1), .int .u64 (B 2), .int .u64 (B 3)], .slice a n cap] w fun e w' => e = .returned (.bool true) ∧ Bel w w' := by
  have HT := Lib.hid hT
  clear hT
  have h' : (300 : Int) < n := by omega
  go_enter Tryd.func4, Tryd.ntmps4
  go_wp2_with fail
  with_reducible refine (works_any _ (HT.out.bel ((Bel.refl _).alloc _ _))).mono ?_
  rintro e w1 ⟨rfl, hb⟩
  have G := Lib.hid (((Bel.refl w).alloc _ _).trans hb)
  clear hb
  go_wp2
  go_ret
  exact ⟨rfl, G.out⟩
set_option maxRecDepth 100000 in
set_option maxHeartbeats 4000000 in
theorem lists_core (B O : Nat → Nat) (a : Option Addr) (n cap m : Nat) (hn : n ≤ 300) (L M : Nat → Int) (w : World) (hT : Tab w) (hI : Ints w a n L) (hm : m ≤ 256)
    (KR : Hid (∀ w, Ints w a n L → Calls Tryd.prog 15 #[.slice a n cap] w fun e w' => e = .returned (.agg #[.int .u64 (O 0), .int .u64 (O 1), .int .u64 (O 2), .int .u64 (O 3)]) ∧ Bel w w'))
    (KO : Hid (∀ w, Ints w a n L → Calls Tryd.prog 19 #[.slice a n cap] w fun e w' => e = .returned (.agg #[.int .u64 (O 0), .int .u64 (O 1), .int .u64 (O 2), .int .u64 (O 3)]) ∧ Bel w w'))
    (KRl : Hid (∀ w, Calls Tryd.prog 16 #[.agg #[.int .u64 (B 0), .int .u64 (B 1), .int .u64 (B 2), .int .u64 (B 3)]] w fun e w' => ∃ a7 cap7, e = .returned (.slice a7 m cap7) ∧ Ints w' a7 m M ∧ Bel w w'))
    (KLi : Hid (∀ w, Tab w → Calls Tryd.prog 18 #[.agg #[.int .u64 (B 0), .int .u64 (B 1), .int .u64 (B 2), .int .u64 (B 3)]] w fun e w' => ∃ a7 cap7, e = .returned (.slice a7 m cap7) ∧ Ints w' a7 m M ∧ Bel w w'))
    (KC : Hid (∀ w, Calls Tryd.prog 20 #[.agg #[.int .u64 (B 0), .int .u64 (B 1), .int .u64 (B 2), .int .u64 (B 3)]] w fun e w' => e = .returned (.int .i64 m) ∧ Bel w w'))
    (KBk : Hid (∀ a7 cap7 w, Ints w a7 m M → Calls Tryd.prog 19 #[.slice a7 m cap7] w fun e w' => e = .returned (.agg #[.int .u64 (B 0), .int .u64 (B 1), .int .u64 (B 2), .int .u64 (B 3)]) ∧ Bel w w')) :
    Calls Tryd.prog 4 #[.agg #[.int .u64 (B 0), .int .u64 (B 1), .int .u64 (B 2), .int .u64 (B 3)], .slice a n cap] w fun e w' => e = .returned (.bool true) ∧ Bel w w' := by
  have HT := Lib.hid hT
  have HI := Lib.hid hI
  clear hT hI
  have h' : ¬ (300 : Int) < n := by omega
  go_enter Tryd.func4, Tryd.ntmps4
  go_wp2_with fail
  with_reducible refine (works_any _ (HT.out.bel ((Bel.refl _).alloc _ _))).mono ?_
  rintro e w1 ⟨rfl, hb⟩
  have G := Lib.hid (((Bel.refl w).alloc _ _).trans hb)
  have X := Lib.hid ((Box.new w (B 0) (B 1) (B 2) (B 3) 24).bel hb)
  clear hb
  go_wp2_with fail
  with_reducible refine (KR.out _ (HI.out.bel G.out)).mono ?_
  rintro e w2 ⟨rfl, hb⟩
  have G' := Lib.hid ((G.out.trans hb).alloc #[.int .u64 (O 0), .int .u64 (O 1), .int .u64 (O 2), .int .u64 (O 3)] 24)
  have X' := Lib.hid ((X.out.bel hb).alloc #[.int .u64 (O 0), .int .u64 (O 1), .int .u64 (O 2), .int .u64 (O 3)] 24)
  have Y := Lib.hid (Box.new w2 (O 0) (O 1) (O 2) (O 3) 24)
  clear hb G X
  obtain ⟨b6, hb6⟩ : ∃ b6, w2.heap.size = b6 := ⟨_, rfl⟩
  obtain ⟨⟨c0, c1, c2, c3⟩, _⟩ := X'.out
  go_wp2_with fail
  rw [hb6] at Y
  clear hb6
  with_reducible refine (KRl.out _).mono ?_
  rintro e w3 ⟨a7, cap7, rfl, hI7, hb⟩
  have G := Lib.hid (G'.out.trans hb)
  have X := Lib.hid (X'.out.bel hb)
  have Y' := Lib.hid (Y.out.bel hb)
  have I7 := Lib.hid hI7
  clear hb G' X' Y hI7 c0 c1 c2 c3
  obtain ⟨⟨c0, c1, c2, c3⟩, _⟩ := X.out
  go_wp2_with fail
  with_reducible refine (KLi.out _ (HT.out.bel G.out)).mono ?_
  rintro e w4 ⟨a8, cap8, rfl, hI8, hb⟩
  have G' := Lib.hid (G.out.trans hb)
  have X' := Lib.hid (X.out.bel hb)
  have Y := Lib.hid (Y'.out.bel hb)
  have I7' := Lib.hid (I7.out.bel hb)
  clear G X Y' I7 c0 c1 c2 c3 hb
  have KS := Lib.hid (same_yes a8 a7 m cap8 cap7 (by omega) M M (fun _ _ => rfl) w4 hI8 I7'.out)
  clear hI8
  go_wp2_with fail
  with_reducible refine KS.out.mono ?_
  rintro e w5 ⟨rfl, hb⟩
  have G := Lib.hid (G'.out.trans hb)
  obtain ⟨⟨c0, c1, c2, c3⟩, _⟩ := X'.out.bel hb
  obtain ⟨⟨p0, p1, p2, p3⟩, _⟩ := Y.out.bel hb
  have J7 : Ints w5 a7 m M := I7'.out.bel hb
  have J : Ints w5 a n L := HI.out.bel G.out
  have KB := Lib.hid (KBk.out a7 cap7)
  clear hb G' X' Y I7' KS
  go_wp2_with fail
  refine wp_region_each (RK [Kind.val (.bool true), Kind.val (.bool true), Kind.val (.slice a n cap), Kind.val (.agg #[.int .u64 (O 0), .int .u64 (O 1), .int .u64 (O 2), .int .u64 (O 3)]), Kind.val (.agg #[.int .u64 (O 0), .int .u64 (O 1), .int .u64 (O 2), .int .u64 (O 3)]), Kind.val (.bool true), Kind.val (.bool true), Kind.val (.bool true), Kind.val (.agg #[.int .u64 (B 0), .int .u64 (B 1), .int .u64 (B 2), .int .u64 (B 3)]), Kind.val (.int .i64 m), Kind.val (.slice a7 m cap7), Kind.val (.int .i64 m), Kind.val (.bool true), Kind.val (.bool true), Kind.val (.bool true), Kind.val (.bool true), Kind.val (.bool true), Kind.val (.bool true), Kind.val (.slice a7 m cap7), Kind.val (.agg #[.int .u64 (B 0), .int .u64 (B 1), .int .u64 (B 2), .int .u64 (B 3)]), Kind.val (.agg #[.int .u64 (B 0), .int .u64 (B 1), .int .u64 (B 2), .int .u64 (B 3)]), Kind.val (.bool true), Kind.val (.bool true), Kind.val (.bool true)]) (by kernel_rfl) (RK_mono _) (by show eachOk _ 47 = true; decide +kernel) (by decide +kernel) ?paid ?fin2
  case fin2 =>
    intro a' w' hw hd _ hall
    have h0 := got (d := 4) (c := .bool true) (hall 23 (by decide)) rfl rfl
    clear hall
    go_wp2
    exact ret_slot rfl h0 hd ⟨rfl, G.out.drew.trans hw⟩
  case paid =>
    refine ⟨?_, ?_⟩
    · intro a' w' hw hB H
      have h5 : a'.tmps[5]? = some (.bool true) := (hB 5 rfl).trans rfl
      exact pay_same (v := .bool true) rfl (by simp [execOp, go_sem, h5]) rfl
    refine ⟨?_, ?_⟩
    · intro a' w' hw hB H
      have h24 := got (d := 24) (c := .bool true) (H 0 rfl) rfl rfl
      exact pay_same (v := .bool true) rfl (by simp [execOp, go_sem, h24]) rfl
    refine ⟨?_, ?_⟩
    · intro a' w' hw hB H
      have h25 := got (d := 25) (c := .bool true) (H 1 rfl) rfl rfl
      have h1 : a'.tmps[1]? = some (.slice a n cap) := (hB 1 rfl).trans rfl
      exact pay_same (v := .slice a n cap) (wants rfl (d := 25) rfl h25) (by simp [execOp, go_sem, h1]) rfl
    refine ⟨?_, ?_⟩
    · intro a' w' hw hB H
      have h25 := got (d := 25) (c := .bool true) (H 1 rfl) rfl rfl
      have h26 := got (d := 26) (c := .slice a n cap) (H 2 rfl) rfl rfl
      refine pay_call (f := 19) (args := #[.slice a n cap]) (wants rfl (d := 25) rfl h25) (by simp [go_sem, h26]) ?_
      exact (KO.out _ ((show Ints w5.drew a n L from J).bel hw)).mono fun e w2 h => ⟨_, h.1, rfl, h.2⟩
    refine ⟨?_, ?_⟩
    · intro a' w' hw hB H
      have h25 := got (d := 25) (c := .bool true) (H 1 rfl) rfl rfl
      have h6 : a'.tmps[6]? = some (.pointer (some ⟨b6, 0, none⟩)) := (hB 6 rfl).trans rfl
      have kp0 := hw.cell p0
      have kp1 := hw.cell p1
      have kp2 := hw.cell p2
      have kp3 := hw.cell p3
      exact pay_same (v := .agg #[.int .u64 (O 0), .int .u64 (O 1), .int .u64 (O 2), .int .u64 (O 3)]) (wants rfl (d := 25) rfl h25) (by simp [execOp, go_sem, h6, kp0, kp1, kp2, kp3]) rfl
    refine ⟨?_, ?_⟩
    · intro a' w' hw hB H
      have h25 := got (d := 25) (c := .bool true) (H 1 rfl) rfl rfl
      have h27 := got (d := 27) (c := .agg #[.int .u64 (O 0), .int .u64 (O 1), .int .u64 (O 2), .int .u64 (O 3)]) (H 3 rfl) rfl rfl
      have h28 := got (d := 28) (c := .agg #[.int .u64 (O 0), .int .u64 (O 1), .int .u64 (O 2), .int .u64 (O 3)]) (H 4 rfl) rfl rfl
      exact pay_same (v := .bool true) (wants rfl (d := 25) rfl h25) (by simp [execOp, go_sem, h27, h28, eq24]) rfl
    refine ⟨?_, ?_⟩
    · intro a' w' hw hB H
      have h25 := got (d := 25) (c := .bool true) (H 1 rfl) rfl rfl
      have h29 := got (d := 29) (c := .bool true) (H 5 rfl) rfl rfl
      exact pay_same (v := .bool true) rfl (by simp [execOp, go_sem, h25, h29]) rfl
    refine ⟨?_, ?_⟩
    · intro a' w' hw hB H
      have h30 := got (d := 30) (c := .bool true) (H 6 rfl) rfl rfl
      exact pay_same (v := .bool true) rfl (by simp [execOp, go_sem, h30]) rfl
    refine ⟨?_, ?_⟩
    · intro a' w' hw hB H
      have h31 := got (d := 31) (c := .bool true) (H 7 rfl) rfl rfl
      have h2 : a'.tmps[2]? = some (.pointer (some ⟨w.heap.size, 0, none⟩)) := (hB 2 rfl).trans rfl
      have kc0 := hw.cell c0
      have kc1 := hw.cell c1
      have kc2 := hw.cell c2
      have kc3 := hw.cell c3
      exact pay_same (v := .agg #[.int .u64 (B 0), .int .u64 (B 1), .int .u64 (B 2), .int .u64 (B 3)]) (wants rfl (d := 31) rfl h31) (by simp [execOp, go_sem, h2, kc0, kc1, kc2, kc3]) rfl
    refine ⟨?_, ?_⟩
    · intro a' w' hw hB H
      have h31 := got (d := 31) (c := .bool true) (H 7 rfl) rfl rfl
      have h32 := got (d := 32) (c := .agg #[.int .u64 (B 0), .int .u64 (B 1), .int .u64 (B 2), .int .u64 (B 3)]) (H 8 rfl) rfl rfl
      refine pay_call (f := 20) (args := #[.agg #[.int .u64 (B 0), .int .u64 (B 1), .int .u64 (B 2), .int .u64 (B 3)]]) (wants rfl (d := 31) rfl h31) (by simp [go_sem, h32]) ?_
      exact (KC.out _).mono fun e w2 h => ⟨_, h.1, rfl, h.2⟩
    refine ⟨?_, ?_⟩
    · intro a' w' hw hB H
      have h31 := got (d := 31) (c := .bool true) (H 7 rfl) rfl rfl
      have h7 : a'.tmps[7]? = some (.slice a7 m cap7) := (hB 7 rfl).trans rfl
      exact pay_same (v := .slice a7 m cap7) (wants rfl (d := 31) rfl h31) (by simp [execOp, go_sem, h7]) rfl
    refine ⟨?_, ?_⟩
    · intro a' w' hw hB H
      have h31 := got (d := 31) (c := .bool true) (H 7 rfl) rfl rfl
      have h34 := got (d := 34) (c := .slice a7 m cap7) (H 10 rfl) rfl rfl
      exact pay_same (v := .int .i64 m) (wants rfl (d := 31) rfl h31) (by simp [go_sem, h34]) rfl
    refine ⟨?_, ?_⟩
    · intro a' w' hw hB H
      have h31 := got (d := 31) (c := .bool true) (H 7 rfl) rfl rfl
      have h33 := got (d := 33) (c := .int .i64 m) (H 9 rfl) rfl rfl
      have h35 := got (d := 35) (c := .int .i64 m) (H 11 rfl) rfl rfl
      exact pay_same (v := .bool true) (wants rfl (d := 31) rfl h31) (by simp [execOp, go_sem, h33, h35]) rfl
    refine ⟨?_, ?_⟩
    · intro a' w' hw hB H
      have h31 := got (d := 31) (c := .bool true) (H 7 rfl) rfl rfl
      have h36 := got (d := 36) (c := .bool true) (H 12 rfl) rfl rfl
      exact pay_same (v := .bool true) rfl (by simp [execOp, go_sem, h31, h36]) rfl
    refine ⟨?_, ?_⟩
    · intro a' w' hw hB H
      have h37 := got (d := 37) (c := .bool true) (H 13 rfl) rfl rfl
      exact pay_same (v := .bool true) rfl (by simp [execOp, go_sem, h37]) rfl
    refine ⟨?_, ?_⟩
    · intro a' w' hw hB H
      have h38 := got (d := 38) (c := .bool true) (H 14 rfl) rfl rfl
      have h8 : a'.tmps[8]? = some (.bool true) := (hB 8 rfl).trans rfl
      exact pay_same (v := .bool true) (wants rfl (d := 38) rfl h38) (by simp [execOp, go_sem, h8]) rfl
    refine ⟨?_, ?_⟩
    · intro a' w' hw hB H
      have h38 := got (d := 38) (c := .bool true) (H 14 rfl) rfl rfl
      have h39 := got (d := 39) (c := .bool true) (H 15 rfl) rfl rfl
      exact pay_same (v := .bool true) rfl (by simp [execOp, go_sem, h38, h39]) rfl
    refine ⟨?_, ?_⟩
    · intro a' w' hw hB H
      have h40 := got (d := 40) (c := .bool true) (H 16 rfl) rfl rfl
      exact pay_same (v := .bool true) rfl (by simp [execOp, go_sem, h40]) rfl
    refine ⟨?_, ?_⟩
    · intro a' w' hw hB H
      have h41 := got (d := 41) (c := .bool true) (H 17 rfl) rfl rfl
      have h7 : a'.tmps[7]? = some (.slice a7 m cap7) := (hB 7 rfl).trans rfl
      exact pay_same (v := .slice a7 m cap7) (wants rfl (d := 41) rfl h41) (by simp [execOp, go_sem, h7]) rfl
    refine ⟨?_, ?_⟩
    · intro a' w' hw hB H
      have h41 := got (d := 41) (c := .bool true) (H 17 rfl) rfl rfl
      have h42 := got (d := 42) (c := .slice a7 m cap7) (H 18 rfl) rfl rfl
      refine pay_call (f := 19) (args := #[.slice a7 m cap7]) (wants rfl (d := 41) rfl h41) (by simp [go_sem, h42]) ?_
      exact (KB.out _ ((show Ints w5.drew a7 m M from J7).bel hw)).mono fun e w2 h => ⟨_, h.1, rfl, h.2⟩
    refine ⟨?_, ?_⟩
    · intro a' w' hw hB H
      have h41 := got (d := 41) (c := .bool true) (H 17 rfl) rfl rfl
      have h2 : a'.tmps[2]? = some (.pointer (some ⟨w.heap.size, 0, none⟩)) := (hB 2 rfl).trans rfl
      have kc0 := hw.cell c0
      have kc1 := hw.cell c1
      have kc2 := hw.cell c2
      have kc3 := hw.cell c3
      exact pay_same (v := .agg #[.int .u64 (B 0), .int .u64 (B 1), .int .u64 (B 2), .int .u64 (B 3)]) (wants rfl (d := 41) rfl h41) (by simp [execOp, go_sem, h2, kc0, kc1, kc2, kc3]) rfl
    refine ⟨?_, ?_⟩
    · intro a' w' hw hB H
      have h41 := got (d := 41) (c := .bool true) (H 17 rfl) rfl rfl
      have h43 := got (d := 43) (c := .agg #[.int .u64 (B 0), .int .u64 (B 1), .int .u64 (B 2), .int .u64 (B 3)]) (H 19 rfl) rfl rfl
      have h44 := got (d := 44) (c := .agg #[.int .u64 (B 0), .int .u64 (B 1), .int .u64 (B 2), .int .u64 (B 3)]) (H 20 rfl) rfl rfl
      exact pay_same (v := .bool true) (wants rfl (d := 41) rfl h41) (by simp [execOp, go_sem, h43, h44, eq24]) rfl
    refine ⟨?_, ?_⟩
    · intro a' w' hw hB H
      have h41 := got (d := 41) (c := .bool true) (H 17 rfl) rfl rfl
      have h45 := got (d := 45) (c := .bool true) (H 21 rfl) rfl rfl
      exact pay_same (v := .bool true) rfl (by simp [execOp, go_sem, h41, h45]) rfl
    refine ⟨?_, ?_⟩
    · intro a' w' hw hB H
      have h46 := got (d := 46) (c := .bool true) (H 22 rfl) rfl rfl
      exact pay_same (v := .bool true) rfl (by simp [execOp, go_sem, h46]) rfl
    trivial
theorem lists_walk (B : Nat → Nat) (hB : Wd B) (a : Option Addr) (n cap : Nat) (L : Nat → Int) (w : World) (hI : Ints w a n L) (hT : Tab w) :
    Calls Tryd.prog 4 #[.agg #[.int .u64 (B 0), .int .u64 (B 1), .int .u64 (B 2), .int .u64 (B 3)], .slice a n cap] w fun e w' => e = .returned (.bool true) ∧ Bel w w' := by
  by_cases hn : n ≤ 300
  · have hl := bo_len B 256
    refine lists_core B (ofw L n) a n cap (bo B 256).length hn L (gi (bo B 256)) w hT hI hl (Lib.hid fun w h => rof_any a n cap hn L w h) (Lib.hid fun w h => of_any a n cap hn L w h) (Lib.hid fun w => ?_) (Lib.hid fun w h => ?_) (Lib.hid fun w => ?_) (Lib.hid fun a7 cap7 w h => ?_)
    · refine (rlist_any B hB w).mono ?_
      rintro e w' ⟨v, rfl, how, hb⟩
      obtain ⟨a7, cap7, rfl, hI7⟩ := own_ints how
      exact ⟨a7, cap7, rfl, hI7, hb⟩
    · refine (list_any B hB w h).mono ?_
      rintro e w' ⟨v, rfl, how, _, hb⟩
      obtain ⟨a7, cap7, rfl, hI7⟩ := own_ints how
      exact ⟨a7, cap7, rfl, hI7, hb⟩
    · have k := count_any B hB w
      have e : cnt (tb B) 256 = (bo B 256).length := (cnt_len (tb B) 256).symm
      rw [e] at k
      exact k
    · have k := of_any a7 (bo B 256).length cap7 (by omega) (gi (bo B 256)) w h
      rw [of_back B hB 0 (by omega), of_back B hB 1 (by omega), of_back B hB 2 (by omega), of_back B hB 3 (by omega)] at k
      exact k
  · exact lists_long B a n cap (by omega) w hT
end Go.Proofs.YthgiknkglnagbaaDoor
