/-
  The contract of the document's List.
-/
import Derived.Test.YthgiknkglnagbaaDoorList
namespace Go.Proofs.YthgiknkglnagbaaDoor
open Go.RowKit

theorem hs_nat (B : Nat → Nat) (k : Nat) (hk : k < 256) : hs B (k : Int) = tb B k := by
  unfold hs
  rw [decide_eq_true (by omega), Bool.true_and, Int.toNat_natCast]
theorem box_grown {W w1 : World} {N : Nat} {v : Value} {tmp : Obj} {k : Nat} {xs : List Value} (hN : N + 1 ≤ W.heap.size) (hrow : W.ownsRow (N + 1) 3 1 v k xs) (hgrow : (W.alloc tmp).grownBy w1 v.ownBlock) : Below (N + 1) W w1 := by
  refine (((Below.refl (N + 1) W).alloc hN tmp).grown hgrow (by simp; omega) fun j ej => ?_)
  rcases hrow.2 with ⟨rfl, _⟩ | ⟨g, cap, cur, rfl, hb, _, _⟩
  · simp [Value.ownBlock] at ej
  · obtain rfl : g = j := by simpa [Value.ownBlock] using ej
    exact hb
theorem Box.below {n : Nat} {w w' : World} {b : Nat} {x0 x1 x2 x3 : Int} (h : Box w b x0 x1 x2 x3) (k : Below n w w') (hb : b < n) : Box w' b x0 x1 x2 x3 :=
  ⟨⟨(k.cell (p := ⟨b, 0, none⟩) hb).trans h.1.1, (k.cell (p := ⟨b, 1, none⟩) hb).trans h.1.2.1, (k.cell (p := ⟨b, 2, none⟩) hb).trans h.1.2.2.1, (k.cell (p := ⟨b, 3, none⟩) hb).trans h.1.2.2.2⟩,
    (k.frozen (p := ⟨b, 0, none⟩) hb).trans h.2.1, (k.frozen (p := ⟨b, 1, none⟩) hb).trans h.2.2.1, (k.frozen (p := ⟨b, 2, none⟩) hb).trans h.2.2.2.1, (k.frozen (p := ⟨b, 3, none⟩) hb).trans h.2.2.2.2⟩
theorem own_bel {base : Nat} {e : TypeId} {size : Nat} {v : Value} {n : Nat} {xs : List Value} {w w' : World} (h : w.ownsRow base e size v n xs) (hb : Bel w w') : w'.ownsRow base e size v n xs := by
  refine ⟨h.1, ?_⟩
  rcases h.2 with h1 | ⟨g, cap, cur, e1, e2, e3, rest⟩
  · exact .inl h1
  · exact .inr ⟨g, cap, cur, e1, e2, (Below.block hb g (Array.getElem?_eq_some_iff.1 e3).1).trans e3, rest⟩
set_option maxRecDepth 100000 in
set_option maxHeartbeats 2000000 in
theorem rlist_any (B : Nat → Nat) (hB : Wd B) (w : World) :
    Calls Tryd.prog 16 #[.agg #[.int .u64 (B 0), .int .u64 (B 1), .int .u64 (B 2), .int .u64 (B 3)]] w fun e W' =>
      ∃ v, e = .returned v ∧ W'.ownsRow (w.heap.size + 1) 3 1 v (bo B 256).length ((bo B 256).map vi) ∧ Bel w W' := by
  obtain ⟨i0, hi, hz0, hz1, hz2⟩ := info_parts info3
  have HB := Lib.hid hB
  clear hB
  go_enter Tryd.func16, Tryd.ntmps16
  go_wp2
  go_loopw [3, 4] (fun v i wr => ∃ k : Nat, k ≤ 256 ∧ i = .int .i64 k ∧ wr.ownsRow (w.heap.size + 1) 3 1 v (bo B k).length ((bo B k).map vi) ∧ Box wr w.heap.size (B 0) (B 1) (B 2) (B 3) ∧ Bel w wr)
    (fun _ i _ => 256 - (intOf i).toNat)
  case atStart => exact ⟨0, by omega, rfl, World.ownsRow_nil _ _ _ _, Box.new _ _ _ _ _ _, (Bel.refl _).alloc _ _⟩
  case round =>
    obtain ⟨k, hk, rfl, hown, hbx, hg⟩ := hrel
    have G := Lib.hid hg
    have BX := Lib.hid hbx
    clear hg
    by_cases hlt : k < 256
    · have kk := rhas_any B HB.out k
      rw [hs_nat B k hlt] at kk
      obtain ⟨⟨c0, c1, c2, c3⟩, _⟩ := hbx
      have hlt' : (k : Int) < 256 := by omega
      have hz : w.heap.size + 1 ≤ wr.heap.size := World.block_lt_of_cell? wr ⟨w.heap.size, 0, none⟩ c0
      cases hb : tb B k with
      | false =>
        rw [hb] at kk
        have K := Lib.hid kk
        have E : Hid (bo B (k + 1) = bo B k) := Lib.hid (bo_skip B k 1 (fun i h1 h2 => by obtain rfl : i = k := by omega
                                                                                          exact hb))
        have OW := Lib.hid hown
        clear kk hb hown
        go_wp2_with fail
        with_reducible refine (K.out _).mono ?_
        rintro e w1 ⟨rfl, hb1⟩
        go_wp2
        go_roundw
        case rel => exact ⟨k + 1, by omega, by go_num, by rw [E.out]; exact own_bel OW.out hb1, BX.out.bel hb1, G.out.trans hb1⟩
        case measure => simp [intOf]; omega
      | true =>
        rw [hb] at kk
        have K := Lib.hid kk
        have E := Lib.hid (bo_hit B k hb)
        have hl := bo_len B k
        clear kk hb
        go_wp2_with fail
        with_reducible refine (K.out _).mono ?_
        rintro e w1 ⟨rfl, hb1⟩
        have hown1 := own_bel hown hb1
        have BX1 := Lib.hid (BX.out.bel hb1)
        have G1 := Lib.hid (G.out.trans hb1)
        have hz1' : w.heap.size + 1 ≤ w1.heap.size := Nat.le_trans hz hb1.size
        clear hown hb1 BX G c0 c1 c2 c3 hz
        go_wp2_with (at_builtin; refine wpList_append_own _ rfl _ _ 30 rfl (w.heap.size + 1) 3 i0 (.int .i64 0) 1 8 Tryd.underlying30 hi hz0 hz1 hz2 rfl (by decide) _ _ _ rfl (hown1.alloc _) ⟨w1.heap.size, 0, none⟩ 1 1 [.int .i64 (k : Int)] rfl rfl (cell_one_new _ _ _) (by simp [Value.oneCell']) (by unfold maxLen; omega) (by omega) (by simp; omega) ?_; intro v' w2 hown' hgrow _)
        have hbl := box_grown hz1' hown1 hgrow
        go_roundw
        case rel => exact ⟨k + 1, by omega, by go_num, by rw [E.out]; simpa [vi] using hown', BX1.out.below hbl (by omega), Below.trans G1.out (hbl.mono (by omega))⟩
        case measure => simp [intOf]; omega
    · obtain rfl : k = 256 := by omega
      go_wp2
      go_ret
      exact ⟨_, rfl, hown, G.out⟩
end Go.Proofs.YthgiknkglnagbaaDoor
