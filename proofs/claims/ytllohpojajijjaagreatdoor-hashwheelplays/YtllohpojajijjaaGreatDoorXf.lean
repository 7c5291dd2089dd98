/-
  The contract of bitmap.each: it yields just the numbers that are in the bits, rising.
  The contract of bitmap.List.
  The contract of bitmap.Next.
-/
import Derived.Test.YtllohpojajijjaaGreatDoorXe
import Derived.RangeFuncBox
import Derived.RangeFuncNested
import Derived.RangeFuncBound
import Derived.RangeFuncCalls
import Derived.RangeFuncLeaves
import Derived.Shelf.Abstract
import Derived.WalkKit
import Derived.OwnWalkIn
import Derived.TacticsInMore
import Derived.LoopNIn
import Derived.LoopIn
import Derived.Maps.AppendAt
set_option linter.unusedVariables false
set_option linter.unusedSimpArgs false
namespace Go.Proofs.YtllohpojajijjaaGreatDoor.Bm
open Go.RowKit Go.Shelf
attribute [local go_sem] Oper.semAt_some

/-- Which of the first m are in the bits. -/
def bo (B : Nat → Nat) (m : Nat) : List Nat := (List.range m).filter (tb B)
theorem bo_skip (B : Nat → Nat) (a : Nat) : ∀ d, (∀ i, a ≤ i → i < a + d → tb B i = false) → bo B (a + d) = bo B a
  | 0, _ => rfl
  | d + 1, h => by
    have := bo_skip B a d (fun i h1 h2 => h i h1 (by omega))
    unfold bo at *
    rw [← Nat.add_assoc, List.range_succ, List.filter_append, this]
    simp [h (a + d) (by omega) (by omega)]
theorem bo_hit (B : Nat → Nat) (b : Nat) (h : tb B b = true) : bo B (b + 1) = bo B b ++ [b] := by
  unfold bo
  rw [List.range_succ, List.filter_append]
  simp [h]
theorem bo_prefix (B : Nat → Nat) (a : Nat) : ∀ d, bo B a <+: bo B (a + d)
  | 0 => List.prefix_refl _
  | d + 1 => by
    refine (bo_prefix B a d).trans ?_
    unfold bo
    rw [← Nat.add_assoc, List.range_succ, List.filter_append]
    exact List.prefix_append _ _
theorem bo_len (B : Nat → Nat) (m : Nat) : (bo B m).length ≤ m := by
  unfold bo
  have := List.length_filter_le (tb B) (List.range m)
  simpa using this

/-! What is left of a word when its lowest bits have come. -/
theorem clear_low (z m : Nat) : (2 ^ z * (2 * m + 1)) &&& (2 ^ z * (2 * m + 1) - 1) = 2 ^ (z + 1) * m := by
  have hp := Nat.two_pow_pos z
  have e1 : 2 ^ z * (2 * m + 1) = 2 ^ (z + 1) * m + 2 ^ z := by rw [Nat.pow_succ, Nat.mul_add, Nat.mul_one, Nat.mul_assoc]
  have e2 : 2 ^ z * (2 * m + 1) - 1 = 2 ^ (z + 1) * m + (2 ^ z - 1) := by rw [e1]; omega
  have j1 := nat_join (z + 1) (2 ^ (z + 1) * m) (2 ^ z) (Nat.mul_mod_right _ _) (by rw [Nat.pow_succ]; omega)
  have j2 := nat_join (z + 1) (2 ^ (z + 1) * m) (2 ^ z - 1) (Nat.mul_mod_right _ _) (by rw [Nat.pow_succ]; omega)
  rw [e2, e1, ← j1, ← j2]
  apply Nat.eq_of_testBit_eq
  intro j
  rw [Nat.testBit_and, Nat.testBit_or, Nat.testBit_or, Nat.testBit_two_pow, Nat.testBit_two_pow_sub_one]
  cases (2 ^ (z + 1) * m).testBit j
  · by_cases h : z = j
    · subst h; simp
    · simp [h]
  · rfl
theorem rest_bit (x t j : Nat) : (x / 2 ^ t * 2 ^ t).testBit j = (decide (t ≤ j) && x.testBit j) := by
  rw [Nat.testBit_mul_two_pow]
  by_cases h : t ≤ j
  · have := Nat.testBit_div_two_pow (n := t) x (j - t)
    have e : j - t + t = j := by omega
    rw [e] at this
    rw [this]
  · simp [h]
theorem rest_next (x t z m : Nat) (h : x / 2 ^ t * 2 ^ t = 2 ^ z * (2 * m + 1)) :
    t ≤ z ∧ (∀ j, t ≤ j → j < z → x.testBit j = false) ∧ x.testBit z = true ∧ (x / 2 ^ t * 2 ^ t) &&& (x / 2 ^ t * 2 ^ t - 1) = x / 2 ^ (z + 1) * 2 ^ (z + 1) := by
  have hb : ∀ j, (decide (t ≤ j) && x.testBit j) = (decide (z ≤ j) && (2 * m + 1).testBit (j - z)) := by
    intro j
    rw [← rest_bit, h, Nat.mul_comm, Nat.testBit_mul_two_pow]
  have hz := hb z
  rw [Nat.sub_self, decide_eq_true (Nat.le_refl z), Bool.true_and, Nat.testBit_zero] at hz
  have hodd : decide ((2 * m + 1) % 2 = 1) = true := by simp
  rw [hodd, Bool.and_eq_true, decide_eq_true_eq] at hz
  refine ⟨hz.1, fun j h1 h2 => ?_, hz.2, ?_⟩
  · have := hb j
    rw [decide_eq_true h1, Bool.true_and, decide_eq_false (by omega), Bool.false_and] at this
    exact this
  · rw [h, clear_low]
    apply Nat.eq_of_testBit_eq
    intro j
    rw [rest_bit, Nat.mul_comm, Nat.testBit_mul_two_pow]
    by_cases hj : z + 1 ≤ j
    · have := hb j
      rw [decide_eq_true (show t ≤ j by omega), decide_eq_true (show z ≤ j by omega), Bool.true_and, Bool.true_and] at this
      rw [decide_eq_true hj, Bool.true_and, Bool.true_and, this]
      obtain ⟨i, rfl⟩ : ∃ i, j = z + 1 + i := ⟨j - (z + 1), by omega⟩
      have e1 : z + 1 + i - (z + 1) = i := by omega
      have e2 : z + 1 + i - z = i + 1 := by omega
      rw [e1, e2, Nat.testBit_succ]
      congr 1
      omega
    · rw [decide_eq_false hj, Bool.false_and, Bool.false_and]
theorem rest_none (x t j : Nat) (h : x / 2 ^ t * 2 ^ t = 0) (hj : t ≤ j) : x.testBit j = false := by
  have := rest_bit x t j
  rw [h, decide_eq_true hj, Bool.true_and, Nat.zero_testBit] at this
  exact this.symm
theorem tb_at (B : Nat → Nat) (k j : Nat) (hj : j < 64) : tb B (64 * k + j) = (B k).testBit j := by
  have e1 : (64 * k + j) / 64 = k := by omega
  have e2 : (64 * k + j) % 64 = j := by omega
  unfold tb
  rw [e1, e2]

/-- The iterator's bits, and the library's table. -/
def Src (Bn : Nat) (B : Nat → Nat) (W : World) : Prop :=
  W.heap[Bn]? = some (.cells #[.int .u64 (B 0), .int .u64 (B 1), .int .u64 (B 2), .int .u64 (B 3)] 52 (0, 0)) ∧ Tab W
theorem Src.cell {Bn : Nat} {B : Nat → Nat} {W : World} (h : Src Bn B W) (k : Nat) (hk : k < 4) : W.cell? ⟨Bn, k, none⟩ = some (.int .u64 (B k)) := by
  obtain rfl | rfl | rfl | rfl : k = 0 ∨ k = 1 ∨ k = 2 ∨ k = 3 := by omega
  all_goals simp [World.cell?, h.1]
/-- What a round that goes on keeps. -/
def Kp (Bn : Nat) (B : Nat → Nat) (W W' : World) : Prop := Src Bn B W → Src Bn B W'
set_option maxRecDepth 100000 in
set_option maxHeartbeats 2000000 in
/-- The iterator, for every loop body that keeps its bits and the table. -/
theorem each1_in (n : Nat) (hn : 1 ≤ n) (l Bn : Nat) (B : Nat → Nat) (hB : Wd B) (J Jx : List Nat → World → Prop)
    (hY : ∀ pre (x : Nat) W, J pre W → pre.length < 256 → YieldAt Fence.wide (n - 1) Tryz.prog l #[.int .i64 x] W fun e W' =>
      (e = .returned (.bool true) ∧ J (pre ++ [x]) W' ∧ Kp Bn B W W') ∨ (e = .returned (.bool false) ∧ Jx (pre ++ [x]) W'))
    (W : World) (hS : Src Bn B W) (h0 : J [] W) :
    CallsIn Fence.wide n Tryz.prog 84 #[.func (.yield l) #[] #[], .pointer (some ⟨Bn, 0, none⟩)] W fun e W' => (∃ v, e = .returned v) ∧
      ((∃ ys, ys = bo B 256 ∧ J ys W') ∨ (∃ pre, pre <+: bo B 256 ∧ Jx pre W')) := by
  have hro : Fence.wide.round = none := rfl
  refine callsIn_of_wp Tryz.func84 rfl trivial ?_ hro
  simp only [Tryz.ntmps84, List.size_toArray, List.length_cons, List.length_nil, Nat.reduceAdd, Nat.reduceSub, Array.replicate_succ, Array.replicate_zero, List.push_toArray, List.append_toArray, List.nil_append, List.cons_append]
  gi_wp2
  gi_loopw [5] (fun i wr => ∃ k : Nat, k ≤ 4 ∧ i = .int .i64 k ∧ J (bo B (64 * k)) wr ∧ Src Bn B wr) (fun i _ => 4 - (intOf i).toNat)
  case atStart => exact ⟨0, by omega, rfl, h0, hS⟩
  case round =>
    obtain ⟨k, hk, rfl, hJ, hs⟩ := hrel
    by_cases hlt : k < 4
    · have hc := hs.cell k hlt
      have hlt4 : decide ((k : Int) < 4) = true := by simp; omega
      have HS := Lib.hid hs
      clear hs
      gi_wp2
      gi_loopw [4] (fun x wr => ∃ t y : Nat, t ≤ 64 ∧ x = .int .u64 y ∧ B k / 2 ^ t * 2 ^ t = y ∧ J (bo B (64 * k + t)) wr ∧ Src Bn B wr) (fun x _ => (intOf x).toNat)
      case atStart => exact ⟨0, B k, by omega, rfl, by simp, hJ, HS.out⟩
      case round =>
        obtain ⟨t, y, ht, rfl, hy, hJ2, hs2⟩ := hrel
        by_cases hy0 : y = 0
        · subst hy0
          have hE : bo B (64 * (k + 1)) = bo B (64 * k + t) := by
            have := bo_skip B (64 * k + t) (64 - t) (fun i h1 h2 => by
              have e : i = 64 * k + (i - 64 * k) := by omega
              rw [e, tb_at B k _ (by omega)]
              exact rest_none _ _ _ hy (by omega))
            have e : 64 * k + t + (64 - t) = 64 * (k + 1) := by omega
            rw [e] at this
            exact this
          have HE := Lib.hid hE
          clear hE hy
          gi_wp2
          go_roundw
          case rel => exact ⟨k + 1, by omega, by go_num, by rw [HE.out]; exact hJ2, hs2⟩
          case measure => simp [intOf]; omega
        · have hyl : y < 18446744073709551616 := by
            rw [← hy]
            exact Nat.lt_of_le_of_lt (Nat.div_mul_le_self _ _) (hB k)
          obtain ⟨z, m, hz, hzm, K⟩ := tz_any y hyl hy0 wr hs2.2
          have hr := hy.trans hzm
          obtain ⟨r1, r2, r3, r4⟩ := rest_next _ _ _ _ hr
          rw [hy] at r4
          have hH : bo B (64 * k + (z + 1)) = bo B (64 * k + t) ++ [k * 64 + z] := by
            have h1 := bo_skip B (64 * k + t) (z - t) (fun i h1 h2 => by
              have e : i = 64 * k + (i - 64 * k) := by omega
              rw [e, tb_at B k _ (by omega)]
              exact r2 _ (by omega) (by omega))
            have h2 := bo_hit B (64 * k + z) (by rw [tb_at B k _ hz]; exact r3)
            have e : 64 * k + t + (z - t) = 64 * k + z := by omega
            rw [e] at h1
            rw [← Nat.add_assoc, h2, h1, Nat.mul_comm k]
          have hlen : (bo B (64 * k + t)).length < 256 := by
            have h1 := (bo_prefix B (64 * k + (z + 1)) (256 - (64 * k + (z + 1)))).length_le
            have h2 := bo_len B (64 * k + (z + 1) + (256 - (64 * k + (z + 1))))
            rw [hH] at h1
            simp at h1
            omega
          have hP : bo B (64 * k + (z + 1)) <+: bo B 256 := by
            have := bo_prefix B (64 * k + (z + 1)) (256 - (64 * k + (z + 1)))
            have e : 64 * k + (z + 1) + (256 - (64 * k + (z + 1))) = 256 := by omega
            rwa [e] at this
          obtain ⟨fn, tmps, assign, body, hyy, hR⟩ := hY _ (k * 64 + z) wr hJ2 hlen
          have hya : Sem.run Tryz.prog (Instr.yield l #[.int .i64 ((k : Int) * 64 + (z : Int))]) wr = .ok (.round l fn tmps assign body) wr := hyy
          clear hyy
          have v1 : bits BinOp.and IntKind.u64 (y : Int) ((y : Int) - 1) = ((B k / 2 ^ (z + 1) * 2 ^ (z + 1) : Nat) : Int) := by
            have e : (y : Int) - 1 = ((y - 1 : Nat) : Int) := by omega
            rw [e, u64_and_nat _ _ hyl (by omega), r4]
          have hlt2 : B k / 2 ^ (z + 1) * 2 ^ (z + 1) < y := by
            rw [← r4]
            exact Nat.lt_of_le_of_lt Nat.and_le_right (by omega)
          have yne : ((y : Int) == 0) = false := by simp; omega
          obtain ⟨y2, hy2⟩ : ∃ y2, B k / 2 ^ (z + 1) * 2 ^ (z + 1) = y2 := ⟨_, rfl⟩
          rw [hy2] at v1 hlt2
          have HH := Lib.hid hH
          have HP := Lib.hid hP
          have KK := Lib.hid K
          have HY2 := Lib.hid hy2
          have HS2 := Lib.hid hs2
          clear hH hP hlen K hr r1 r2 r3 r4 hy hzm hy2 hs2
          gi_wp2_with (refine ⟨trivial, ?_⟩; gi_at_call 85; refine (callsIn_wide.2 KK.out).mono ?_; rintro e w' ⟨rfl, rfl⟩)
          refine hR.mono ?_
          rintro e W3 (⟨rfl, hJ3, hk3⟩ | ⟨rfl, hJx3⟩)
          · rw [← HH.out] at hJ3
            gi_wp2
            go_roundw
            case rel => exact ⟨z + 1, y2, by omega, rfl, HY2.out, hJ3, hk3 HS2.out⟩
            case measure => simp [intOf]; omega
          · rw [← HH.out] at hJx3
            gi_wp2
            refine bodyPost_ret (results_none rfl _ _ _) rfl ?_
            exact ⟨⟨_, rfl⟩, .inr ⟨_, HP.out, hJx3⟩⟩
    · obtain rfl : k = 4 := by omega
      gi_wp2
      go_end0
      exact ⟨⟨_, rfl⟩, .inl ⟨_, rfl, hJ⟩⟩
/-- bitmap.each: the bits are boxed; the function value captures the box. -/
theorem each_in (n : Nat) (B : Nat → Nat) (w : World) :
    CallsIn Fence.wide n Tryz.prog 72 #[.agg #[.int .u64 (B 0), .int .u64 (B 1), .int .u64 (B 2), .int .u64 (B 3)]] w fun e w' =>
      e = .returned (.func (.func 84) #[] #[.pointer (some ⟨w.heap.size, 0, none⟩)]) ∧ w.alloc (.cells #[.int .u64 (B 0), .int .u64 (B 1), .int .u64 (B 2), .int .u64 (B 3)] 52) = w' := by
  have hro : Fence.wide.round = none := rfl
  refine callsIn_of_wp Tryz.func72 rfl trivial ?_ hro
  simp only [Tryz.ntmps72, List.size_toArray, List.length_cons, List.length_nil, Nat.reduceAdd, Nat.reduceSub, Array.replicate_succ, Array.replicate_zero, List.push_toArray, List.append_toArray, List.nil_append, List.cons_append]
  gi_wp2
  go_ret
  exact ⟨rfl, rfl⟩
theorem Src.bel {Bn : Nat} {B : Nat → Nat} {w W : World} (h : Src Bn B w) (hb : Below w.heap.size w W) : Src Bn B W := by
  refine ⟨(hb.block Bn ?_).trans h.1, h.2.bel hb⟩
  exact (Array.getElem?_eq_some_iff.1 h.1).1
theorem each_stops (n : Nat) (hn : 1 ≤ n) (Bn : Nat) (B : Nat → Nat) (hB : Wd B) (w : World) (hS : Src Bn B w) :
    SeqStopsK Fence.wide n Tryz.prog 84 #[.pointer (some ⟨Bn, 0, none⟩)] (fun x : Nat => #[Value.int .i64 x]) (Kp Bn B) (fun ys => ys = bo B 256) (fun pre => pre <+: bo B 256) 256 w := fun l J Jx W hW _ _ hY h0 =>
  each1_in n hn l Bn B hB J Jx hY W (hS.bel hW) h0
theorem kp_t {Bn : Nat} {B : Nat → Nat} {X Y Z : World} (h : Kp Bn B X Y) (k : Kp Bn B Y Z) : Kp Bn B X Z := fun s => k (h s)
theorem kp_b {Bn : Nat} {B : Nat → Nat} {w : World} (hBn : Bn < w.heap.size) (_h0 : 0 < w.heap.size) (W : World) (l : Nat) (o o' : Obj) (hl : w.heap.size ≤ l) (_ : W.heap[l]? = some o) (_ : o.isCells = false) (_ : o.isWalk = false) : Kp Bn B W (W.putObj l o') := by
  intro s
  refine ⟨(World.putObj_heap_other (by omega)).trans s.1, fun j hj => ?_⟩
  rw [World.cell?_of_block (w := W) (World.putObj_heap_other (by simp; omega))]
  exact s.2 j hj
end Go.Proofs.YtllohpojajijjaaGreatDoor.Bm
namespace Go.Proofs.YtllohpojajijjaaGreatDoor.Bm
open Go.RowKit Go.Shelf
attribute [local go_sem] Oper.semAt_some

theorem info3 : (Tryz.prog.info? 3).map (fun i => (i.zero, i.size, i.bytes)) = some (some (.int .i64 0), 1, 8) := by kernel_rfl
theorem Tab.pos {w : World} (h : Tab w) : 0 < w.heap.size := World.block_lt_of_cell? w ⟨0, 0, none⟩ (h 0 (by decide))
theorem Tab.below {n : Nat} {w w' : World} (h : Tab w) (k : Below n w w') (hn : 0 < n) : Tab w' := fun j hj => (k.cell (p := ⟨0, j, none⟩) hn).trans (h j hj)
theorem src_append {W w1 : World} {Bn bx : Nat} {B : Nat → Nat} {v v' : Value} {tmp : Obj} {n₀ k : Nat} {xs : List Value} (s : Src Bn B W) (hrow : W.ownsRow n₀ 3 1 v k xs) (hgrow : (W.alloc tmp).grownBy w1 v.ownBlock)
    (hne : Bn ≠ bx) (hb : Below n₀ W (w1.setCell ⟨bx, 0, none⟩ v')) (h0 : 0 < n₀) : Src Bn B (w1.setCell ⟨bx, 0, none⟩ v') := by
  refine ⟨?_, s.2.below hb h0⟩
  have hlt : Bn < W.heap.size := (Array.getElem?_eq_some_iff.1 s.1).1
  have h1 : (W.alloc tmp).heap[Bn]? = W.heap[Bn]? := Below.heap_alloc W _ Bn hlt
  have hno : some Bn ≠ v.ownBlock := by
    rcases hrow.2 with ⟨rfl, _⟩ | ⟨g, cap, cur, rfl, _, hgb, _⟩
    · simp [Value.ownBlock]
    · intro e
      obtain rfl : Bn = g := by simpa [Value.ownBlock] using e
      have := s.1.symm.trans hgb
      simp at this
  have h2 := hgrow.block Bn (by simp; omega) hno
  have h3 := (grownBy_setCell' w1 bx v').block Bn (by have := hgrow.size; simp at this; omega) (by simpa using hne)
  exact h3.trans (h2.trans (h1.trans s.1))
/-- A number of a bit, as a value. -/
def vi (x : Nat) : Value := .int .i64 x
end Go.Proofs.YtllohpojajijjaaGreatDoor.Bm
namespace Go.Proofs.YtllohpojajijjaaGreatDoor.Bm
open Go.RowKit Go.Shelf
attribute [local go_sem] Oper.semAt_some

theorem each_any (B : Nat → Nat) (w : World) : Calls Tryz.prog 72 #[.agg #[.int .u64 (B 0), .int .u64 (B 1), .int .u64 (B 2), .int .u64 (B 3)]] w fun e w' =>
    ∃ Bn, e = .returned (.func (.func 84) #[] #[.pointer (some ⟨Bn, 0, none⟩)]) ∧ w.heap.size ≤ Bn ∧ w'.heap[Bn]? = some (.cells #[.int .u64 (B 0), .int .u64 (B 1), .int .u64 (B 2), .int .u64 (B 3)] 52 (0, 0)) ∧ Bel w w' := by
  refine (callsIn_wide.1 (each_in 0 B w)).mono ?_
  rintro e w' ⟨rfl, rfl⟩
  exact ⟨_, rfl, Nat.le_refl _, World.alloc_heap_new _ _, (Bel.refl _).alloc _ _⟩
/-- An answer of a number, if there is one. -/
def ans : Option Nat → Value
  | some m => .tuple #[.int .i64 m, .bool true]
  | none => .tuple #[.int .i64 0, .bool false]
theorem held_box {w0 w w' : World} {N : Nat} {x0 x1 x2 x3 : Int} (hg : Bel w w')
    (h : Bel w0 w ∧ w.cell? ⟨N, 0, none⟩ = some (.int .u64 x0) ∧ w.cell? ⟨N, 1, none⟩ = some (.int .u64 x1) ∧ w.cell? ⟨N, 2, none⟩ = some (.int .u64 x2) ∧ w.cell? ⟨N, 3, none⟩ = some (.int .u64 x3)) :
    Bel w0 w' ∧ w'.cell? ⟨N, 0, none⟩ = some (.int .u64 x0) ∧ w'.cell? ⟨N, 1, none⟩ = some (.int .u64 x1) ∧ w'.cell? ⟨N, 2, none⟩ = some (.int .u64 x2) ∧ w'.cell? ⟨N, 3, none⟩ = some (.int .u64 x3) :=
  ⟨h.1.trans hg, hg.cell h.2.1, hg.cell h.2.2.1, hg.cell h.2.2.2.1, hg.cell h.2.2.2.2⟩
set_option maxRecDepth 100000 in
set_option maxHeartbeats 2000000 in
theorem next_any (B : Nat → Nat) (hB : Wd B) (from_ : Int) (h1 : from_ ≤ 9223372036854775807) (w : World) (hT : Tab w) :
    Calls Tryz.prog 51 #[.agg #[.int .u64 (B 0), .int .u64 (B 1), .int .u64 (B 2), .int .u64 (B 3)], .int .i64 from_] w fun e W' =>
      e = .returned (ans (bo (wth B (bl from_.toNat)) 256).head?) ∧ Bel w W' := by
  have K1 := Lib.hid (below_any from_ h1)
  have K2 := Lib.hid (without_any B (bl from_.toNat) hB (bl_wd _))
  have hC := wth_wd hB (bl from_.toNat)
  generalize wth B (bl from_.toNat) = C at *
  generalize bl from_.toNat = L at *
  have K3 := Lib.hid (each_any C)
  clear hB h1
  have hp := hT.pos
  have HT := Lib.hid hT
  clear hT
  refine (callsIn_wide (n := 4)).1 ?_
  have hro : Fence.wide.round = none := rfl
  refine callsIn_of_wp_marks Tryz.func51 rfl trivial ?_ hro
  simp only [Tryz.ntmps51, List.size_toArray, List.length_cons, List.length_nil, Nat.reduceAdd, Nat.reduceSub, Array.replicate_succ, Array.replicate_zero, List.push_toArray, List.append_toArray, List.nil_append, List.cons_append]
  refine wpIn_wide.2 ?_
  go_wp2
  go_region_held3 (fun w' => Bel w w' ∧ w'.cell? ⟨w.heap.size, 0, none⟩ = some (.int .u64 (B 0)) ∧ w'.cell? ⟨w.heap.size, 1, none⟩ = some (.int .u64 (B 1)) ∧ w'.cell? ⟨w.heap.size, 2, none⟩ = some (.int .u64 (B 2)) ∧ w'.cell? ⟨w.heap.size, 3, none⟩ = some (.int .u64 (B 3)))
    (first | exact ⟨((((Bel.refl w).alloc _ _).alloc _ _).alloc _ _).drew, by simp [go_sem, World.cell?_alloc_past], by simp [go_sem, World.cell?_alloc_past], by simp [go_sem, World.cell?_alloc_past], by simp [go_sem, World.cell?_alloc_past]⟩ | exact held_box hg1 ‹_›)
    (first
      | (go_at_call 74; (with_reducible refine (K1.out _).mono ?_); rintro e w1 ⟨rfl, hg1⟩)
      | (go_at_call 73; (with_reducible refine (K2.out _).mono ?_); rintro e w1 ⟨rfl, hg1⟩)
      | (go_at_call 72; (with_reducible refine (K3.out _).mono ?_); rintro e w1 ⟨Bn, rfl, hBn, hF, hg1⟩))
  rename_i wa ga wb gb hheld
  have gw : Bel ((((w.alloc (.cells #[.int .u64 (B 0), .int .u64 (B 1), .int .u64 (B 2), .int .u64 (B 3)] 52)).alloc (.cells #[.int .i64 0] 3)).alloc (.cells #[.bool false] 4)).drew) w1 := (ga.trans gb).trans hg1
  have hBw : Below w.heap.size w w1 := hheld.1
  have hT1 : Tab w1 := HT.out.bel hheld.1
  have r1 : w1.cell? ⟨w.heap.size + 1, 0, none⟩ = some (.int .i64 0) := gw.cell (by simp [go_sem])
  have r2 : w1.cell? ⟨w.heap.size + 1 + 1, 0, none⟩ = some (.bool false) := gw.cell (by simp [go_sem])
  have f1 : w1.frozen? ⟨w.heap.size + 1, 0, none⟩ = false := gw.froz (v := .int .i64 0) (by simp [go_sem]) (by simp [go_sem])
  have f2 : w1.frozen? ⟨w.heap.size + 1 + 1, 0, none⟩ = false := gw.froz (v := .bool false) (by simp [go_sem]) (by simp [go_sem])
  have z1 : w.heap.size + 1 + 1 + 1 ≤ w1.heap.size := by have := gw.size; simpa using this
  have z2 : Bn < w1.heap.size := (Array.getElem?_eq_some_iff.1 hF).1
  have hSrc : Src Bn C w1 := ⟨hF, hT1⟩
  clear ga gb gw hg1 hheld K1 K2 K3 hBn hF
  go_wp2
  refine (wpIn_wide (n := 4)).1 ?_
  refine wpIn_rangeFunc_ownG hro (by omega) (gf := 84) (lb := #[.pointer (some ⟨Bn, 0, none⟩)]) rfl trivial (enters_of Tryz.func84 (by kernel_rfl) rfl)
    (each_stops 3 (by omega) Bn C hC w1 hSrc) kp_t (kp_b z2 (by omega)) (Below.refl _ _) (fun _ => rfl)
    (fun pre W => (pre = [] ∧ W.cell? ⟨w.heap.size + 1, 0, none⟩ = some (.int .i64 0) ∧ W.frozen? ⟨w.heap.size + 1, 0, none⟩ = false ∧ W.cell? ⟨w.heap.size + 1 + 1, 0, none⟩ = some (.bool false) ∧ W.frozen? ⟨w.heap.size + 1 + 1, 0, none⟩ = false) ∧ Below w.heap.size w W)
    (fun c pre W => (c = .ret ∧ ∃ x : Nat, pre = [x] ∧ W.cell? ⟨w.heap.size + 1, 0, none⟩ = some (.int .i64 x) ∧ W.cell? ⟨w.heap.size + 1 + 1, 0, none⟩ = some (.bool true)) ∧ Below w.heap.size w W)
    (OwnFrom.and (Own.from (fun s A B row hs hg hr => ⟨hs.1, cell_kept hs.2.1 hg hr, (frozen_kept hs.2.1 hg hr).trans hs.2.2.1, cell_kept hs.2.2.2.1 hg hr, (frozen_kept hs.2.2.2.1 hg hr).trans hs.2.2.2.2⟩) _) (ownFrom_below (Nat.le_refl _) (by omega)))
    (fun c => OwnFrom.and (Own.from (fun s A B row hs hg hr => by obtain ⟨hc, x, e1, e2, e3⟩ := hs; exact ⟨hc, x, e1, cell_kept e2 hg hr, cell_kept e3 hg hr⟩) _) (ownFrom_below (Nat.le_refl _) (by omega)))
    ⟨⟨rfl, r1, f1, r2, f2⟩, hBw⟩
    (fun x => { tmps := #[.agg #[.int .u64 (B 0), .int .u64 (B 1), .int .u64 (B 2), .int .u64 (B 3)], .int .i64 from_, .pointer (some ⟨w.heap.size, 0, none⟩), undef, .pointer (some ⟨w.heap.size + 1, 0, none⟩), .pointer (some ⟨w.heap.size + 1 + 1, 0, none⟩), .int .i64 x, .agg #[.int .u64 (B 0), .int .u64 (B 1), .int .u64 (B 2), .int .u64 (B 3)], .int .i64 from_, .agg #[.int .u64 (L 0), .int .u64 (L 1), .int .u64 (L 2), .int .u64 (L 3)], .agg #[.int .u64 (C 0), .int .u64 (C 1), .int .u64 (C 2), .int .u64 (C 3)], .func (.func 84) #[] #[.pointer (some ⟨Bn, 0, none⟩)], .int .i64 x, undef], defers := [] }) ?assign ?body ?done ?stop
  case assign =>
    intro l x W K hK
    gi_wp2
    exact hK
  case body =>
    rintro l pre x W ⟨⟨rfl, q1, g1, q2, g2⟩, hBl⟩ hlt
    gi_wp2
    refine ⟨((KeepsOthers.setCell _ _ _).trans (KeepsOthers.setCell _ _ _)).from _, ⟨rfl, x, rfl, ?_, ?_⟩, (hBl.setCell (p := ⟨w.heap.size + 1, 0, none⟩) (by simp) _).setCell (p := ⟨w.heap.size + 1 + 1, 0, none⟩) (by simp; omega) _⟩
    · simp [go_sem, q1]
    · simp [go_sem, q2]
  case done =>
    rintro D ys W hD hys ⟨⟨rfl, q1, g1, q2, g2⟩, hBl⟩ hK
    go_wp2
    have hK' := ((KeepsOthers.setCell W ⟨w.heap.size + 1, 0, none⟩ (.int .i64 0)).trans (KeepsOthers.setCell _ ⟨w.heap.size + 1 + 1, 0, none⟩ (.bool false))).same D _ hK rfl
    refine ⟨by simp, .inl ⟨_, _, rfl, run_takeDeferred hK', ?_⟩⟩
    have hc5 := cell_kept (W := (W.setCell ⟨w.heap.size + 1, 0, none⟩ (.int .i64 0)).setCell ⟨w.heap.size + 1 + 1, 0, none⟩ (.bool false)) (v := .int .i64 0) (a := ⟨w.heap.size + 1, 0, none⟩) (by simp [go_sem, q1]) (grownBy_putObj' ((W.setCell ⟨w.heap.size + 1, 0, none⟩ (.int .i64 0)).setCell ⟨w.heap.size + 1 + 1, 0, none⟩ (.bool false)) D (.deferred none)) (fun r e => by cases e; exact ⟨_, hK', rfl⟩)
    have hc6 := cell_kept (W := (W.setCell ⟨w.heap.size + 1, 0, none⟩ (.int .i64 0)).setCell ⟨w.heap.size + 1 + 1, 0, none⟩ (.bool false)) (v := .bool false) (a := ⟨w.heap.size + 1 + 1, 0, none⟩) (by simp [go_sem, q2]) (grownBy_putObj' ((W.setCell ⟨w.heap.size + 1, 0, none⟩ (.int .i64 0)).setCell ⟨w.heap.size + 1 + 1, 0, none⟩ (.bool false)) D (.deferred none)) (fun r e => by cases e; exact ⟨_, hK', rfl⟩)
    refine ⟨.tuple #[.int .i64 0, .bool false], ?_, by rw [← hys]; rfl, ((hBl.setCell (p := ⟨w.heap.size + 1, 0, none⟩) (by simp) _).setCell (p := ⟨w.heap.size + 1 + 1, 0, none⟩) (by simp; omega) _).trans (belowK_b (w := w) (Nat.le_refl _) _ D _ _ (by omega) hK' rfl rfl)⟩
    simp [results, Tryz.f51, go_sem, hc5, hc6]
  case stop =>
    rintro D c pre W hD hpre ⟨⟨rfl, x, rfl, q1, q2⟩, hBl⟩ hK
    gi_wp2
    refine ⟨by simp, .inl ⟨_, _, rfl, run_takeDeferred hK, ?_⟩⟩
    have hc5 := cell_kept q1 (grownBy_putObj' _ D (.deferred none)) (fun r e => by cases e; exact ⟨_, hK, rfl⟩)
    have hc6 := cell_kept q2 (grownBy_putObj' _ D (.deferred none)) (fun r e => by cases e; exact ⟨_, hK, rfl⟩)
    have hh : (bo C 256).head? = some x := by
      obtain ⟨t, ht⟩ := hpre
      rw [← ht]
      rfl
    refine ⟨.tuple #[.int .i64 x, .bool true], ?_, by rw [hh]; rfl, hBl.trans (belowK_b (w := w) (Nat.le_refl _) W D _ _ (by omega) hK rfl rfl)⟩
    simp [results, Tryz.f51, go_sem, hc5, hc6]
end Go.Proofs.YtllohpojajijjaaGreatDoor.Bm
