/-
  The contract of bitmap.each: it yields just the numbers that are in the bits, rising.
-/
import Derived.Test.YtdoceldofkaapaaDoorXad
import Derived.RangeFuncBox
import Derived.RangeFuncNested
import Derived.RangeFuncBound
import Derived.RangeFuncCalls
import Derived.RangeFuncLeaves
import Derived.Shelf.Abstract
import Derived.WalkKit
import Derived.OwnWalkIn
import Derived.TacticsInMore
import Derived.LoopNIn
import Derived.LoopIn
import Derived.Maps.AppendAt
set_option linter.unusedVariables false
set_option linter.unusedSimpArgs false
namespace Go.Proofs.YtdoceldofkaapaaDoor.Bm
open Go.RowKit Go.Shelf
attribute [local go_sem] Oper.semAt_some

/-- Which of the first m are in the bits. -/
def bo (B : Nat → Nat) (m : Nat) : List Nat := (List.range m).filter (tb B)
theorem bo_skip (B : Nat → Nat) (a : Nat) : ∀ d, (∀ i, a ≤ i → i < a + d → tb B i = false) → bo B (a + d) = bo B a
  | 0, _ => rfl
  | d + 1, h => by
    have := bo_skip B a d (fun i h1 h2 => h i h1 (by omega))
    unfold bo at *
    rw [← Nat.add_assoc, List.range_succ, List.filter_append, this]
    simp [h (a + d) (by omega) (by omega)]
theorem bo_hit (B : Nat → Nat) (b : Nat) (h : tb B b = true) : bo B (b + 1) = bo B b ++ [b] := by
  unfold bo
  rw [List.range_succ, List.filter_append]
  simp [h]
theorem bo_prefix (B : Nat → Nat) (a : Nat) : ∀ d, bo B a <+: bo B (a + d)
  | 0 => List.prefix_refl _
  | d + 1 => by
    refine (bo_prefix B a d).trans ?_
    unfold bo
    rw [← Nat.add_assoc, List.range_succ, List.filter_append]
    exact List.prefix_append _ _
theorem bo_len (B : Nat → Nat) (m : Nat) : (bo B m).length ≤ m := by
  unfold bo
  have := List.length_filter_le (tb B) (List.range m)
  simpa using this

/-! What is left of a word when its lowest bits have come. -/
theorem clear_low (z m : Nat) : (2 ^ z * (2 * m + 1)) &&& (2 ^ z * (2 * m + 1) - 1) = 2 ^ (z + 1) * m := by
  have hp := Nat.two_pow_pos z
  have e1 : 2 ^ z * (2 * m + 1) = 2 ^ (z + 1) * m + 2 ^ z := by rw [Nat.pow_succ, Nat.mul_add, Nat.mul_one, Nat.mul_assoc]
  have e2 : 2 ^ z * (2 * m + 1) - 1 = 2 ^ (z + 1) * m + (2 ^ z - 1) := by rw [e1]; omega
  have j1 := nat_join (z + 1) (2 ^ (z + 1) * m) (2 ^ z) (Nat.mul_mod_right _ _) (by rw [Nat.pow_succ]; omega)
  have j2 := nat_join (z + 1) (2 ^ (z + 1) * m) (2 ^ z - 1) (Nat.mul_mod_right _ _) (by rw [Nat.pow_succ]; omega)
  rw [e2, e1, ← j1, ← j2]
  apply Nat.eq_of_testBit_eq
  intro j
  rw [Nat.testBit_and, Nat.testBit_or, Nat.testBit_or, Nat.testBit_two_pow, Nat.testBit_two_pow_sub_one]
  cases (2 ^ (z + 1) * m).testBit j
  · by_cases h : z = j
    · subst h; simp
    · simp [h]
  · rfl
theorem rest_bit (x t j : Nat) : (x / 2 ^ t * 2 ^ t).testBit j = (decide (t ≤ j) && x.testBit j) := by
  rw [Nat.testBit_mul_two_pow]
  by_cases h : t ≤ j
  · have := Nat.testBit_div_two_pow (n := t) x (j - t)
    have e : j - t + t = j := by omega
    rw [e] at this
    rw [this]
  · simp [h]
theorem rest_next (x t z m : Nat) (h : x / 2 ^ t * 2 ^ t = 2 ^ z * (2 * m + 1)) :
    t ≤ z ∧ (∀ j, t ≤ j → j < z → x.testBit j = false) ∧ x.testBit z = true ∧ (x / 2 ^ t * 2 ^ t) &&& (x / 2 ^ t * 2 ^ t - 1) = x / 2 ^ (z + 1) * 2 ^ (z + 1) := by
  have hb : ∀ j, (decide (t ≤ j) && x.testBit j) = (decide (z ≤ j) && (2 * m + 1).testBit (j - z)) := by
    intro j
    rw [← rest_bit, h, Nat.mul_comm, Nat.testBit_mul_two_pow]
  have hz := hb z
  rw [Nat.sub_self, decide_eq_true (Nat.le_refl z), Bool.true_and, Nat.testBit_zero] at hz
  have hodd : decide ((2 * m + 1) % 2 = 1) = true := by simp
  rw [hodd, Bool.and_eq_true, decide_eq_true_eq] at hz
  refine ⟨hz.1, fun j h1 h2 => ?_, hz.2, ?_⟩
  · have := hb j
    rw [decide_eq_true h1, Bool.true_and, decide_eq_false (by omega), Bool.false_and] at this
    exact this
  · rw [h, clear_low]
    apply Nat.eq_of_testBit_eq
    intro j
    rw [rest_bit, Nat.mul_comm, Nat.testBit_mul_two_pow]
    by_cases hj : z + 1 ≤ j
    · have := hb j
      rw [decide_eq_true (show t ≤ j by omega), decide_eq_true (show z ≤ j by omega), Bool.true_and, Bool.true_and] at this
      rw [decide_eq_true hj, Bool.true_and, Bool.true_and, this]
      obtain ⟨i, rfl⟩ : ∃ i, j = z + 1 + i := ⟨j - (z + 1), by omega⟩
      have e1 : z + 1 + i - (z + 1) = i := by omega
      have e2 : z + 1 + i - z = i + 1 := by omega
      rw [e1, e2, Nat.testBit_succ]
      congr 1
      omega
    · rw [decide_eq_false hj, Bool.false_and, Bool.false_and]
theorem rest_none (x t j : Nat) (h : x / 2 ^ t * 2 ^ t = 0) (hj : t ≤ j) : x.testBit j = false := by
  have := rest_bit x t j
  rw [h, decide_eq_true hj, Bool.true_and, Nat.zero_testBit] at this
  exact this.symm
theorem tb_at (B : Nat → Nat) (k j : Nat) (hj : j < 64) : tb B (64 * k + j) = (B k).testBit j := by
  have e1 : (64 * k + j) / 64 = k := by omega
  have e2 : (64 * k + j) % 64 = j := by omega
  unfold tb
  rw [e1, e2]

/-- The iterator's bits, and the library's table. -/
def Src (Bn : Nat) (B : Nat → Nat) (W : World) : Prop :=
  W.heap[Bn]? = some (.cells #[.int .u64 (B 0), .int .u64 (B 1), .int .u64 (B 2), .int .u64 (B 3)] 32 (0, 0)) ∧ Tab W
theorem Src.cell {Bn : Nat} {B : Nat → Nat} {W : World} (h : Src Bn B W) (k : Nat) (hk : k < 4) : W.cell? ⟨Bn, k, none⟩ = some (.int .u64 (B k)) := by
  obtain rfl | rfl | rfl | rfl : k = 0 ∨ k = 1 ∨ k = 2 ∨ k = 3 := by omega
  all_goals simp [World.cell?, h.1]
/-- What a round that goes on keeps. -/
def Kp (Bn : Nat) (B : Nat → Nat) (W W' : World) : Prop := Src Bn B W → Src Bn B W'
set_option maxRecDepth 100000 in
set_option maxHeartbeats 2000000 in
/-- The iterator, for every loop body that keeps its bits and the table. -/
theorem each1_in (n : Nat) (hn : 1 ≤ n) (l Bn : Nat) (B : Nat → Nat) (hB : Wd B) (J Jx : List Nat → World → Prop)
    (hY : ∀ pre (x : Nat) W, J pre W → pre.length < 256 → YieldAt Fence.wide (n - 1) Tryd.prog l #[.int .i64 x] W fun e W' =>
      (e = .returned (.bool true) ∧ J (pre ++ [x]) W' ∧ Kp Bn B W W') ∨ (e = .returned (.bool false) ∧ Jx (pre ++ [x]) W'))
    (W : World) (hS : Src Bn B W) (h0 : J [] W) :
    CallsIn Fence.wide n Tryd.prog 73 #[.func (.yield l) #[] #[], .pointer (some ⟨Bn, 0, none⟩)] W fun e W' => (∃ v, e = .returned v) ∧
      ((∃ ys, ys = bo B 256 ∧ J ys W') ∨ (∃ pre, pre <+: bo B 256 ∧ Jx pre W')) := by
  have hro : Fence.wide.round = none := rfl
  refine callsIn_of_wp Tryd.func73 rfl trivial ?_ hro
  simp only [Tryd.ntmps73, List.size_toArray, List.length_cons, List.length_nil, Nat.reduceAdd, Nat.reduceSub, Array.replicate_succ, Array.replicate_zero, List.push_toArray, List.append_toArray, List.nil_append, List.cons_append]
  gi_wp2
  gi_loopw [5] (fun i wr => ∃ k : Nat, k ≤ 4 ∧ i = .int .i64 k ∧ J (bo B (64 * k)) wr ∧ Src Bn B wr) (fun i _ => 4 - (intOf i).toNat)
  case atStart => exact ⟨0, by omega, rfl, h0, hS⟩
  case round =>
    obtain ⟨k, hk, rfl, hJ, hs⟩ := hrel
    by_cases hlt : k < 4
    · have hc := hs.cell k hlt
      have hlt4 : decide ((k : Int) < 4) = true := by simp; omega
      have HS := Lib.hid hs
      clear hs
      gi_wp2
      gi_loopw [4] (fun x wr => ∃ t y : Nat, t ≤ 64 ∧ x = .int .u64 y ∧ B k / 2 ^ t * 2 ^ t = y ∧ J (bo B (64 * k + t)) wr ∧ Src Bn B wr) (fun x _ => (intOf x).toNat)
      case atStart => exact ⟨0, B k, by omega, rfl, by simp, hJ, HS.out⟩
      case round =>
        obtain ⟨t, y, ht, rfl, hy, hJ2, hs2⟩ := hrel
        by_cases hy0 : y = 0
        · subst hy0
          have hE : bo B (64 * (k + 1)) = bo B (64 * k + t) := by
            have := bo_skip B (64 * k + t) (64 - t) (fun i h1 h2 => by
              have e : i = 64 * k + (i - 64 * k) := by omega
              rw [e, tb_at B k _ (by omega)]
              exact rest_none _ _ _ hy (by omega))
            have e : 64 * k + t + (64 - t) = 64 * (k + 1) := by omega
            rw [e] at this
            exact this
          have HE := Lib.hid hE
          clear hE hy
          gi_wp2
          go_roundw
          case rel => exact ⟨k + 1, by omega, by go_num, by rw [HE.out]; exact hJ2, hs2⟩
          case measure => simp [intOf]; omega
        · have hyl : y < 18446744073709551616 := by
            rw [← hy]
            exact Nat.lt_of_le_of_lt (Nat.div_mul_le_self _ _) (hB k)
          obtain ⟨z, m, hz, hzm, K⟩ := tz_any y hyl hy0 wr hs2.2
          have hr := hy.trans hzm
          obtain ⟨r1, r2, r3, r4⟩ := rest_next _ _ _ _ hr
          rw [hy] at r4
          have hH : bo B (64 * k + (z + 1)) = bo B (64 * k + t) ++ [k * 64 + z] := by
            have h1 := bo_skip B (64 * k + t) (z - t) (fun i h1 h2 => by
              have e : i = 64 * k + (i - 64 * k) := by omega
              rw [e, tb_at B k _ (by omega)]
              exact r2 _ (by omega) (by omega))
            have h2 := bo_hit B (64 * k + z) (by rw [tb_at B k _ hz]; exact r3)
            have e : 64 * k + t + (z - t) = 64 * k + z := by omega
            rw [e] at h1
            rw [← Nat.add_assoc, h2, h1, Nat.mul_comm k]
          have hlen : (bo B (64 * k + t)).length < 256 := by
            have h1 := (bo_prefix B (64 * k + (z + 1)) (256 - (64 * k + (z + 1)))).length_le
            have h2 := bo_len B (64 * k + (z + 1) + (256 - (64 * k + (z + 1))))
            rw [hH] at h1
            simp at h1
            omega
          have hP : bo B (64 * k + (z + 1)) <+: bo B 256 := by
            have := bo_prefix B (64 * k + (z + 1)) (256 - (64 * k + (z + 1)))
            have e : 64 * k + (z + 1) + (256 - (64 * k + (z + 1))) = 256 := by omega
            rwa [e] at this
          obtain ⟨fn, tmps, assign, body, hyy, hR⟩ := hY _ (k * 64 + z) wr hJ2 hlen
          have hya : Sem.run Tryd.prog (Instr.yield l #[.int .i64 ((k : Int) * 64 + (z : Int))]) wr = .ok (.round l fn tmps assign body) wr := hyy
          clear hyy
          have v1 : bits BinOp.and IntKind.u64 (y : Int) ((y : Int) - 1) = ((B k / 2 ^ (z + 1) * 2 ^ (z + 1) : Nat) : Int) := by
            have e : (y : Int) - 1 = ((y - 1 : Nat) : Int) := by omega
            rw [e, u64_and_nat _ _ hyl (by omega), r4]
          have hlt2 : B k / 2 ^ (z + 1) * 2 ^ (z + 1) < y := by
            rw [← r4]
            exact Nat.lt_of_le_of_lt Nat.and_le_right (by omega)
          have yne : ((y : Int) == 0) = false := by simp; omega
          obtain ⟨y2, hy2⟩ : ∃ y2, B k / 2 ^ (z + 1) * 2 ^ (z + 1) = y2 := ⟨_, rfl⟩
          rw [hy2] at v1 hlt2
          have HH := Lib.hid hH
          have HP := Lib.hid hP
          have KK := Lib.hid K
          have HY2 := Lib.hid hy2
          have HS2 := Lib.hid hs2
          clear hH hP hlen K hr r1 r2 r3 r4 hy hzm hy2 hs2
          gi_wp2_with (refine ⟨trivial, ?_⟩; gi_at_call 74; refine (callsIn_wide.2 KK.out).mono ?_; rintro e w' ⟨rfl, rfl⟩)
          refine hR.mono ?_
          rintro e W3 (⟨rfl, hJ3, hk3⟩ | ⟨rfl, hJx3⟩)
          · rw [← HH.out] at hJ3
            gi_wp2
            go_roundw
            case rel => exact ⟨z + 1, y2, by omega, rfl, HY2.out, hJ3, hk3 HS2.out⟩
            case measure => simp [intOf]; omega
          · rw [← HH.out] at hJx3
            gi_wp2
            refine bodyPost_ret (results_none rfl _ _ _) rfl ?_
            exact ⟨⟨_, rfl⟩, .inr ⟨_, HP.out, hJx3⟩⟩
    · obtain rfl : k = 4 := by omega
      gi_wp2
      go_end0
      exact ⟨⟨_, rfl⟩, .inl ⟨_, rfl, hJ⟩⟩
/-- bitmap.each: the bits are boxed; the function value captures the box. -/
theorem each_in (n : Nat) (B : Nat → Nat) (w : World) :
    CallsIn Fence.wide n Tryd.prog 57 #[.agg #[.int .u64 (B 0), .int .u64 (B 1), .int .u64 (B 2), .int .u64 (B 3)]] w fun e w' =>
      e = .returned (.func (.func 73) #[] #[.pointer (some ⟨w.heap.size, 0, none⟩)]) ∧ w.alloc (.cells #[.int .u64 (B 0), .int .u64 (B 1), .int .u64 (B 2), .int .u64 (B 3)] 32) = w' := by
  have hro : Fence.wide.round = none := rfl
  refine callsIn_of_wp Tryd.func57 rfl trivial ?_ hro
  simp only [Tryd.ntmps57, List.size_toArray, List.length_cons, List.length_nil, Nat.reduceAdd, Nat.reduceSub, Array.replicate_succ, Array.replicate_zero, List.push_toArray, List.append_toArray, List.nil_append, List.cons_append]
  gi_wp2
  go_ret
  exact ⟨rfl, rfl⟩
theorem Src.bel {Bn : Nat} {B : Nat → Nat} {w W : World} (h : Src Bn B w) (hb : Below w.heap.size w W) : Src Bn B W := by
  refine ⟨(hb.block Bn ?_).trans h.1, h.2.bel hb⟩
  exact (Array.getElem?_eq_some_iff.1 h.1).1
theorem each_stops (n : Nat) (hn : 1 ≤ n) (Bn : Nat) (B : Nat → Nat) (hB : Wd B) (w : World) (hS : Src Bn B w) :
    SeqStopsK Fence.wide n Tryd.prog 73 #[.pointer (some ⟨Bn, 0, none⟩)] (fun x : Nat => #[Value.int .i64 x]) (Kp Bn B) (fun ys => ys = bo B 256) (fun pre => pre <+: bo B 256) 256 w := fun l J Jx W hW _ _ hY h0 =>
  each1_in n hn l Bn B hB J Jx hY W (hS.bel hW) h0
theorem kp_t {Bn : Nat} {B : Nat → Nat} {X Y Z : World} (h : Kp Bn B X Y) (k : Kp Bn B Y Z) : Kp Bn B X Z := fun s => k (h s)
theorem kp_b {Bn : Nat} {B : Nat → Nat} {w : World} (hBn : Bn < w.heap.size) (_h0 : 0 < w.heap.size) (W : World) (l : Nat) (o o' : Obj) (hl : w.heap.size ≤ l) (_ : W.heap[l]? = some o) (_ : o.isCells = false) (_ : o.isWalk = false) : Kp Bn B W (W.putObj l o') := by
  intro s
  refine ⟨(World.putObj_heap_other (by omega)).trans s.1, fun j hj => ?_⟩
  rw [World.cell?_of_block (w := W) (World.putObj_heap_other (by simp; omega))]
  exact s.2 j hj
end Go.Proofs.YtdoceldofkaapaaDoor.Bm
