/-
  Contract of the document's looked.
  Contracts of the document's wheel: New and Do.
-/
import Derived.Test.YtllohpojajijjaaGreatDoorXd
import Derived.BigQuiet
import Derived.OwnWalk
import Derived.Test.YtllohpojajijjaaGreatDoorXl
import Derived.Test.YtllohpojajijjaaGreatDoorXg
set_option linter.unusedVariables false
set_option linter.unusedSimpArgs false
namespace Go.Proofs.YtllohpojajijjaaGreatDoor
open Go.RowKit
set_option maxHeartbeats 2000000 in
set_option maxRecDepth 100000 in
theorem rlooked_any (P : Int) (b : Nat) (s lk now : Int) (p : Option Addr) (n c : Nat) (l : List T) (w : World) (hb : b ≤ 6) (hs : Tk s) (hw : Tk now) (hn : l.length = n) (hm : n ≤ 5000) (ht : ∀ t ∈ l, Tk t.a) (hl : Has w p l) :
    Calls Tryz.prog 26 #[.agg #[.int .i64 P, .slice p n c, .int .i64 b, .int .u64 s, .int .i64 lk], .int .u64 now] w fun e w' => e = .returned (.int .i64 (lks (slo b) s now l)) ∧ Bel w w' := by
  have HB0 : Hid (Bel w (w.alloc (.cells #[.int .i64 P, .slice p n c, .int .i64 b, .int .u64 s, .int .i64 lk] 33))) := Lib.hid ((Bel.refl _).alloc _ _)
  have HN0 : Hid ((w.alloc (.cells #[.int .i64 P, .slice p n c, .int .i64 b, .int .u64 s, .int .i64 lk] 33)).heap[w.heap.size]? = some (.cells #[.int .i64 P, .slice p n c, .int .i64 b, .int .u64 s, .int .i64 lk] 33 (0, 0))) := Lib.hid (heap_alloc_new _ _)
  have HL : Hid (Has (w.alloc (.cells #[.int .i64 P, .slice p n c, .int .i64 b, .int .u64 s, .int .i64 lk] 33)) p l) := Lib.hid (hl.bel HB0.out)
  have HN := Lib.hid hn
  have HT := Lib.hid ht
  have K := Lib.hid (fun w' => slots_any b hb w')
  obtain ⟨i4, hi4, hz0, hz1, hz2⟩ := info_parts info4
  have HI4 := Lib.hid hi4
  have HZ0 := Lib.hid hz0
  have HZ1 := Lib.hid hz1
  have HZ2 := Lib.hid hz2
  have hS := slo_le hb
  clear hi4 hz0 hz1 hz2 hl hn ht hb
  by_cases h0 : now ≤ s
  · rw [lks_past h0]
    go_enter Tryz.func26, Tryz.ntmps26
    go_upto_region 1 with (fail)
    generalize w.alloc (.cells #[.int .i64 P, .slice p n c, .int .i64 b, .int .u64 s, .int .i64 lk] 33) = W at *
    obtain ⟨⟨y0, y1, y2, y3, y4⟩, _⟩ := box5 HN0.out
    go_wp2
    go_ret
    exact ⟨rfl, HB0.out⟩
  · have HE : Hid (lks (slo b) s now l = (mks (slo b) s now l).countP fun b => b) := Lib.hid (by unfold lks; rw [if_neg h0])
    unfold Tk at hs hw
    obtain ⟨mo, emo⟩ : ∃ m, now - s = m := ⟨_, rfl⟩
    have hmo : IntKind.u64.wrap (now - s) = mo := by rw [emo, IntKind.wrap_u64]; omega
    generalize slo b = S at *
    have hwS : IntKind.i64.wrap (S : Int) = (S : Int) := i64_in _ (by omega) (by omega)
    go_enter Tryz.func26, Tryz.ntmps26
    go_upto_region 1 with (fail)
    generalize w.alloc (.cells #[.int .i64 P, .slice p n c, .int .i64 b, .int .u64 s, .int .i64 lk] 33) = W at *
    generalize w.heap.size = b2 at *
    obtain ⟨⟨y0, y1, y2, y3, y4⟩, _⟩ := box5 HN0.out
    go_wp2
    go_quiet ((go_at_call 46; exact Calls.quiet_of_same ((K.out _).mono (fun _ _ h => ⟨h.1, h.2.symm⟩))))
    have HBq : Hid (Bel W (W.drewN nq)) := Lib.hid ((Bel.refl W).drewN nq)
    generalize W.drewN nq = V at *
    have hMW : W.heap.size ≤ V.heap.size := HBq.out.size
    go_wp2_with (refine wpList_make_full _ rfl (.tmp 24) (.tmp 24) 97 rfl 0 4 i4 (.bool false) 1 Tryz.underlying97 HI4.out HZ0.out HZ1.out .i64 .i64 (S : Int) (S : Int) S rfl rfl rfl rfl (by rw [HZ2.out]; omega) (by unfold maxLen; omega) (Nat.zero_le _) ?_)
    intro w1 hown hgrow
    have HM0 := Lib.hid (made_marks hown)
    have HB1 : Hid (Bel V w1) := Lib.hid (Off.grown (Off.refl nof _) hgrow (fun _ e => by cases e))
    generalize V.heap.size = M at *
    have HBw : Hid (Bel W w1) := Lib.hid (HBq.out.trans HB1.out)
    rw [← mks_nil S s now] at HM0
    clear hown hgrow HB1 HBq y0 y1 y2 y3 y4
    go_wp2
    go_loopw [8, 9] (fun v _ wr => ∃ m : Nat, v = .int .i64 m ∧ m ≤ n ∧ Marks wr M (mks S s now (l.take m)) ∧ Bel W wr) (fun v _ _ => n - (intOf v).toNat)
    case atStart => exact ⟨0, rfl, Nat.zero_le _, HM0.out, HBw.out⟩
    case round =>
      clear HM0 HBw
      obtain ⟨m, rfl, hmn, hmk, hb⟩ := hrel
      have HMK := Lib.hid hmk
      have HBr := Lib.hid hb
      obtain ⟨⟨y0, y1, y2, y3, y4⟩, _⟩ := box5 (hb.heap HN0.out)
      clear hmk hb
      by_cases h : m < n
      · obtain ⟨x, hx⟩ : ∃ x, l.getD m default = x := ⟨_, rfl⟩
        have hxm : x ∈ l := by
          rw [← hx, List.getD_eq_getElem?_getD, List.getElem?_eq_getElem (by rw [HN.out]; exact h)]
          exact List.getElem_mem _
        have hxt := HT.out x hxm
        unfold Tk at hxt
        obtain ⟨b1, off, rfl, hr⟩ := HL.out.row (by have := HN.out; omega)
        have cx := (hr.bel HBr.out) m (by have := HN.out; omega)
        rw [hx] at cx
        obtain ⟨x0, _, _⟩ := cx
        have HSN := Lib.hid (take_snoc l m (by rw [HN.out]; exact h))
        rw [hx] at HSN
        have HMS := Lib.hid (mks_snoc S s now (l.take m) x)
        have b3 : (m : Int) < (n : Int) := by omega
        have hS0 : ¬ (S : Int) = 0 := by omega
        clear hr hx hxm
        by_cases hx1 : s < x.a
        · obtain ⟨d1, e1⟩ : ∃ d, x.a - s = d := ⟨_, rfl⟩
          have hw1 : IntKind.u64.wrap (x.a - s) = d1 := by rw [e1, IntKind.wrap_u64]; omega
          obtain ⟨d2, e2⟩ : ∃ d, d1 - 1 = d := ⟨_, rfl⟩
          have hw2 : IntKind.u64.wrap (d1 - 1) = d2 := by rw [e2, IntKind.wrap_u64]; omega
          obtain ⟨r, er⟩ : ∃ r, d2.tmod (S : Int) = r := ⟨_, rfl⟩
          have HH : Hid (hit S s now x = decide (r < mo)) := Lib.hid (by
            unfold hit
            rw [decide_eq_true hx1, Bool.true_and, emo, show x.a - s - 1 = d2 from by omega, ← er, Int.tmod_eq_emod_of_nonneg (by omega)])
          obtain ⟨k, ek⟩ : ∃ k : Nat, x.a.tmod (S : Int) = k := ⟨slt S x, by
            unfold slt
            rw [Int.tmod_eq_emod_of_nonneg hxt.1, Int.toNat_of_nonneg (Int.emod_nonneg _ (by omega))]⟩
          have hk : slt S x = k := by
            unfold slt
            rw [← Int.tmod_eq_emod_of_nonneg hxt.1, ek]
            exact Int.toNat_natCast k
          have hkS : k < S := by rw [← hk]; exact slt_lt (by omega) x
          have hwk : IntKind.i64.wrap (k : Int) = (k : Int) := i64_in _ (by omega) (by omega)
          have hkI : (k : Int) < (S : Int) := by omega
          rw [hk] at HMS
          have HKl : Hid (k < (mks S s now (l.take m)).length) := Lib.hid (by rw [mks_len]; exact hkS)
          obtain ⟨bb, hbb⟩ : ∃ bb, (mks S s now (l.take m))[k]? = some bb := ⟨_, List.getElem?_eq_getElem HKl.out⟩
          obtain ⟨mg, mf⟩ := marks_get HMK.out hbb
          have HSet := Lib.hid (marks_set HMK.out k)
          clear hbb HKl
          generalize x.a = xa at *
          by_cases hlt : r < mo
          · have HM2 : Hid (Marks (wr.setCell ⟨M, k, none⟩ (.bool true)) M (mks S s now (l.take (m + 1)))) := Lib.hid (by
              rw [HSN.out, HMS.out, HH.out, decide_eq_true hlt, if_pos rfl]
              exact HSet.out.1)
            have HB2 : Hid (Bel W (wr.setCell ⟨M, k, none⟩ (.bool true))) := Lib.hid (Off.trans HBr.out HSet.out.2 (fun i e => .inr (by have : i = M := e; omega)))
            clear HH HMS HSN HSet hk
            go_wp2
            go_roundw
            case rel => exact ⟨m + 1, by go_num, by omega, HM2.out, HB2.out⟩
            case measure => simp [intOf]; omega
          · have HM2 : Hid (Marks wr M (mks S s now (l.take (m + 1)))) := Lib.hid (by
              rw [HSN.out, HMS.out, HH.out, decide_eq_false hlt, if_neg (by simp)]
              exact HMK.out)
            clear HH HMS HSN HSet hk
            go_wp2
            go_roundw
            case rel => exact ⟨m + 1, by go_num, by omega, HM2.out, HBr.out⟩
            case measure => simp [intOf]; omega
        · have HM2 : Hid (Marks wr M (mks S s now (l.take (m + 1)))) := Lib.hid (by
            rw [HSN.out, HMS.out, if_neg (by unfold hit; rw [decide_eq_false hx1]; simp)]
            exact HMK.out)
          clear HMS HSN
          generalize x.a = xa at *
          go_wp2
          go_roundw
          case rel => exact ⟨m + 1, by go_num, by omega, HM2.out, HBr.out⟩
          case measure => simp [intOf]; omega
      · obtain rfl : m = n := by omega
        rw [List.take_of_length_le (by rw [HN.out]; exact Nat.le_refl _)] at HMK
        have HBE : Hid (Bel w wr) := Lib.hid (HB0.out.trans HBr.out)
        have HLen := Lib.hid (mks_len S s now l)
        generalize mks S s now l = bs at *
        have b3 : ¬ (m : Int) < (m : Int) := by omega
        clear HN hmn h
        go_wp2
        go_loopw [10, 11] (fun v i wz => ∃ j : Nat, v = .int .i64 ((bs.take j).countP fun b => b : Nat) ∧ i = .int .i64 j ∧ j ≤ S ∧ wz = wr) (fun _ i _ => S - (intOf i).toNat)
        case atStart => exact ⟨0, rfl, rfl, Nat.zero_le _, by trivial⟩
        case round =>
          obtain ⟨j, rfl, rfl, hj, rfl⟩ := hrel
          by_cases h2 : j < S
          · obtain ⟨bb, hbb⟩ : ∃ bb, bs[j]? = some bb := ⟨_, List.getElem?_eq_getElem (by rw [HLen.out]; exact h2)⟩
            obtain ⟨mg, mf⟩ := marks_get HMK.out hbb
            have b4 : (j : Int) < (S : Int) := by omega
            have hcl : (bs.take j).countP (fun b => b) ≤ j := Nat.le_trans List.countP_le_length (by simp; omega)
            have HC : Hid ((bs.take (j + 1)).countP (fun b => b) = (bs.take j).countP (fun b => b) + (if bb = true then 1 else 0)) := Lib.hid (by
              obtain ⟨g1, g2⟩ := List.getElem?_eq_some_iff.1 hbb
              rw [List.take_succ_eq_append_getElem g1, List.countP_append, g2]
              simp [List.countP_cons])
            clear hbb
            generalize (bs.take j).countP (fun b => b) = cc at *
            cases bb with
            | true =>
              have HC2 : Hid ((bs.take (j + 1)).countP (fun b => b) = cc + 1) := Lib.hid (by rw [HC.out, if_pos rfl])
              go_wp2
              go_roundw
              case rel => exact ⟨j + 1, by rw [HC2.out]; go_num, by go_num, by omega, by trivial⟩
              case measure => simp [intOf]; omega
            | false =>
              have HC2 : Hid ((bs.take (j + 1)).countP (fun b => b) = cc) := Lib.hid (by rw [HC.out]; simp)
              go_wp2
              go_roundw
              case rel => exact ⟨j + 1, by rw [HC2.out], by go_num, by omega, by trivial⟩
              case measure => simp [intOf]; omega
          · obtain rfl : j = S := by omega
            have hE : (bs.take j).countP (fun b => b) = lks j s now l := by rw [HE.out, List.take_of_length_le (by rw [HLen.out]; exact Nat.le_refl _)]
            rw [hE]
            have b4 : ¬ (j : Int) < (j : Int) := by omega
            go_wp2
            go_ret
            exact ⟨rfl, HBE.out⟩
end Go.Proofs.YtllohpojajijjaaGreatDoor
namespace Go.Proofs.YtllohpojajijjaaGreatDoor
open Go.RowKit
/-- A wheel, as a value. -/
abbrev whV (P : Int) (p : Option Addr) (n c : Nat) (b s lk : Int) : Value := .agg #[.int .i64 P, .slice p n c, .int .i64 b, .int .u64 s, .int .i64 lk]
theorem wnew_no (P bits base : Int) (w : World) (h : ¬ ((0 ≤ P ∧ P ≤ 1024) ∧ 1 ≤ bits ∧ bits ≤ 6)) :
    Calls Tryz.prog 6 #[.int .i64 P, .int .i64 bits, .int .u64 base] w fun e w' => e = .returned (.tuple #[whV 0 none 0 0 0 0 0, .int .i64 1]) ∧ Bel w w' := by
  have HB0 : Hid (Bel w (w.alloc (.cells #[.int .i64 0, .slice none 0 0, .int .i64 0, .int .u64 0, .int .i64 0] 33))) := Lib.hid ((Bel.refl _).alloc _ _)
  have HN0 : Hid ((w.alloc (.cells #[.int .i64 0, .slice none 0 0, .int .i64 0, .int .u64 0, .int .i64 0] 33)).heap[w.heap.size]? = some (.cells #[.int .i64 0, .slice none 0 0, .int .i64 0, .int .u64 0, .int .i64 0] 33 (0, 0))) := Lib.hid (heap_alloc_new _ _)
  have KY := Lib.hid (fun w' (h : 0 ≤ P ∧ P ≤ 1024) => dnew_yes P w' h)
  have KN := Lib.hid (fun w' (h : ¬ (0 ≤ P ∧ P ≤ 1024)) => dnew_no P w' h)
  have key : ∀ (wz W : World) (hb : Bel W wz) (hB : Bel w W) (b : Nat) (hbz : w.heap.size ≤ b), Bel w (sto5 wz b (.int .i64 0) (.slice none 0 0) (.int .i64 0) (.int .u64 0) (.int .i64 0)) := fun wz W hb hB b hbz => Off.trans (hB.trans hb) (offs5 wz b _ _ _ _ _) (fun i e => .inr (by have : i = b := e; omega))
  by_cases hP : 0 ≤ P ∧ P ≤ 1024
  · have hbits : bits < 1 ∨ ¬ bits < 1 ∧ 6 < bits := by omega
    clear h
    rcases hbits with h1 | ⟨h1, h2⟩
    all_goals
      go_enter Tryz.func6, Tryz.ntmps6
      go_upto_region 1 with (fail)
      obtain ⟨b6, e6⟩ : ∃ b, w.heap.size = b := ⟨_, rfl⟩
      have KEY := Lib.hid key
      rw [e6] at HN0 KEY ⊢
      clear e6 key
      generalize w.alloc (.cells #[.int .i64 0, .slice none 0 0, .int .i64 0, .int .u64 0, .int .i64 0] 33) = W at *
      go_wp2_with fail
      with_reducible refine (KY.out _ hP).mono ?_
      rintro e w1 ⟨rfl, hb⟩
      have HB1 := Lib.hid (hb.alloc #[.int .i64 P, .slice none 0 0] 31)
      clear hb
      go_upto_region 2 with (fail)
      generalize w1.alloc (.cells #[.int .i64 P, .slice none 0 0] 31) = W1 at *
      obtain ⟨⟨y0, y1, y2, y3, y4⟩, f0, f1, f2, f3, f4⟩ := box5 (HB1.out.heap HN0.out)
      have HE := Lib.hid (KEY.out W1 W HB1.out HB0.out b6 (Nat.le_refl _))
      go_wp2
      exact bodyPost_ret (v := .tuple #[whV 0 none 0 0 0 0 0, .int .i64 1]) (by simp [results, Tryz.results6, go_sem, y0, y1, y2, y3, y4]) rfl ⟨rfl, HE.out⟩
  · clear h
    go_enter Tryz.func6, Tryz.ntmps6
    go_upto_region 1 with (fail)
    obtain ⟨b6, e6⟩ : ∃ b, w.heap.size = b := ⟨_, rfl⟩
    have KEY := Lib.hid key
    rw [e6] at HN0 KEY ⊢
    clear e6 key
    generalize w.alloc (.cells #[.int .i64 0, .slice none 0 0, .int .i64 0, .int .u64 0, .int .i64 0] 33) = W at *
    go_wp2_with fail
    with_reducible refine (KN.out _ hP).mono ?_
    rintro e w1 ⟨rfl, hb⟩
    have HB1 := Lib.hid (hb.alloc #[.int .i64 0, .slice none 0 0] 31)
    clear hb
    go_upto_region 2 with (fail)
    generalize w1.alloc (.cells #[.int .i64 0, .slice none 0 0] 31) = W1 at *
    obtain ⟨⟨y0, y1, y2, y3, y4⟩, f0, f1, f2, f3, f4⟩ := box5 (HB1.out.heap HN0.out)
    have HE := Lib.hid (KEY.out W1 W HB1.out HB0.out b6 (Nat.le_refl _))
    go_wp2
    exact bodyPost_ret (v := .tuple #[whV 0 none 0 0 0 0 0, .int .i64 1]) (by simp [results, Tryz.results6, go_sem, y0, y1, y2, y3, y4]) rfl ⟨rfl, HE.out⟩
theorem wnew_yes (P bits base : Int) (w : World) (h : (0 ≤ P ∧ P ≤ 1024) ∧ 1 ≤ bits ∧ bits ≤ 6) :
    Calls Tryz.prog 6 #[.int .i64 P, .int .i64 bits, .int .u64 base] w fun e w' => e = .returned (.tuple #[whV P none 0 0 bits base 0, .int .i64 0]) ∧ Bel w w' := by
  have HB0 : Hid (Bel w (w.alloc (.cells #[.int .i64 0, .slice none 0 0, .int .i64 0, .int .u64 0, .int .i64 0] 33))) := Lib.hid ((Bel.refl _).alloc _ _)
  have HN0 : Hid ((w.alloc (.cells #[.int .i64 0, .slice none 0 0, .int .i64 0, .int .u64 0, .int .i64 0] 33)).heap[w.heap.size]? = some (.cells #[.int .i64 0, .slice none 0 0, .int .i64 0, .int .u64 0, .int .i64 0] 33 (0, 0))) := Lib.hid (heap_alloc_new _ _)
  have KY := Lib.hid (fun w' => dnew_yes P w' h.1)
  have h1 : ¬ bits < 1 := by omega
  have h2 : ¬ 6 < bits := by omega
  have key : ∀ (wz W : World) (hb : Bel W wz) (hB : Bel w W) (b : Nat) (hbz : w.heap.size ≤ b), Bel w (sto5 wz b (.int .i64 P) (.slice none 0 0) (.int .i64 bits) (.int .u64 base) (.int .i64 0)) := fun wz W hb hB b hbz => Off.trans (hB.trans hb) (offs5 wz b _ _ _ _ _) (fun i e => .inr (by have : i = b := e; omega))
  clear h
  go_enter Tryz.func6, Tryz.ntmps6
  go_upto_region 1 with (fail)
  obtain ⟨b6, e6⟩ : ∃ b, w.heap.size = b := ⟨_, rfl⟩
  have KEY := Lib.hid key
  rw [e6] at HN0 KEY ⊢
  clear e6 key
  generalize w.alloc (.cells #[.int .i64 0, .slice none 0 0, .int .i64 0, .int .u64 0, .int .i64 0] 33) = W at *
  go_wp2_with fail
  with_reducible refine (KY.out _).mono ?_
  rintro e w1 ⟨rfl, hb⟩
  have HB1 := Lib.hid (hb.alloc #[.int .i64 P, .slice none 0 0] 31)
  have HM := Lib.hid (heap_alloc_new w1 (.cells #[.int .i64 P, .slice none 0 0] 31))
  clear hb
  go_upto_region 2 with (fail)
  generalize w1.alloc (.cells #[.int .i64 P, .slice none 0 0] 31) = W1 at *
  obtain ⟨⟨m0, m1⟩, _⟩ := box2 HM.out
  obtain ⟨⟨y0, y1, y2, y3, y4⟩, f0, f1, f2, f3, f4⟩ := box5 (HB1.out.heap HN0.out)
  have HE := Lib.hid (KEY.out W1 W HB1.out HB0.out b6 (Nat.le_refl _))
  go_wp2
  exact bodyPost_ret (v := .tuple #[whV P none 0 0 bits base 0, .int .i64 0]) (by simp [results, Tryz.results6, go_sem, y0, y1, y2, y3, y4]) rfl ⟨rfl, HE.out⟩
end Go.Proofs.YtllohpojajijjaaGreatDoor
