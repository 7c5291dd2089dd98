/-
  The walk of ChainOnce.
-/
import Derived.Test.YtdeiknfaehpheaaMadeOk
import Derived.Test.YtdeiknfaehpheaaCount
namespace Go.Proofs.Ytdeiknfaehpheaa
open Go.RowKit
theorem once_long (P L : Int) (pa : Option Addr) (N ca : Nat) (w : World) (h : 40 < N) :
    Calls Try.prog 5 #[.int .i64 P, .int .i64 L, .slice pa N ca] w fun e w' => e = .returned (.bool true) ∧ Bel w w' := by
  have h' : (40 : Int) < N := by omega
  go_enter Try.func5, Try.ntmps5
  go_wp2_with fail
  with_reducible refine (works_any _).mono ?_
  rintro e w1 ⟨rfl, hb⟩
  go_wp2
  go_ret
  exact ⟨rfl, hb⟩
theorem once_longP (P L : Int) (pa : Option Addr) (N ca : Nat) (w : World) (hN : N ≤ 40) (h : 40 < P) :
    Calls Try.prog 5 #[.int .i64 P, .int .i64 L, .slice pa N ca] w fun e w' => e = .returned (.bool true) ∧ Bel w w' := by
  have h' : ¬ (40 : Int) < N := by omega
  go_enter Try.func5, Try.ntmps5
  go_wp2_with fail
  with_reducible refine (works_any _).mono ?_
  rintro e w1 ⟨rfl, hb⟩
  go_wp2
  go_ret
  exact ⟨rfl, hb⟩
theorem once_longL (P L : Int) (pa : Option Addr) (N ca : Nat) (w : World) (hN : N ≤ 40) (hP : P ≤ 40) (h : 40 < L) :
    Calls Try.prog 5 #[.int .i64 P, .int .i64 L, .slice pa N ca] w fun e w' => e = .returned (.bool true) ∧ Bel w w' := by
  have h' : ¬ (40 : Int) < N := by omega
  have h2 : ¬ 40 < P := by omega
  go_enter Try.func5, Try.ntmps5
  go_wp2_with fail
  with_reducible refine (works_any _).mono ?_
  rintro e w1 ⟨rfl, hb⟩
  go_wp2
  go_ret
  exact ⟨rfl, hb⟩
theorem once_no (P L : Int) (pa : Option Addr) (N ca : Nat) (w : World) (h : N ≤ 40) (hP : ¬ (0 ≤ P ∧ P ≤ 1024 ∧ 0 ≤ L ∧ L ≤ 1024)) (hP4 : P ≤ 40) (hL4 : L ≤ 40) :
    Calls Try.prog 5 #[.int .i64 P, .int .i64 L, .slice pa N ca] w fun e w' => e = .returned (.bool true) ∧ Bel w w' := by
  have h' : ¬ (40 : Int) < N := by omega
  have K := Lib.hid (fun w => made_no P L pa N ca w hP)
  clear hP
  have h2 : ¬ 40 < P := by omega
  have h3 : ¬ 40 < L := by omega
  go_enter Try.func5, Try.ntmps5
  go_wp2_with fail
  with_reducible refine (works_any _).mono ?_
  rintro e w1 ⟨rfl, hb⟩
  have HB := Lib.hid hb
  clear hb
  go_wp2_with fail
  with_reducible refine (K.out _).mono ?_
  rintro e w2 ⟨p, c, rfl, hb⟩
  have HB2 := Lib.hid (HB.out.trans hb)
  clear hb
  go_wp2
  go_ret
  exact ⟨rfl, HB2.out.alloc _ _⟩
set_option maxHeartbeats 4000000 in
set_option maxRecDepth 100000 in
theorem once_yes (P L : Nat) (pa : Option Addr) (N ca : Nat) (l : List Ac) (w : World) (h : N ≤ 40) (hl : l.length = N) (hA : Lies nof w pa (encA l)) (hP : P ≤ 1024) (hL : L ≤ 1024) (hP4 : P ≤ 40) (hL4 : L ≤ 40) :
    Calls Try.prog 5 #[.int .i64 P, .int .i64 L, .slice pa N ca] w fun e w' => e = .returned (.bool true) ∧ Bel w w' := by
  have h' : ¬ (40 : Int) < N := by omega
  have HA := Lib.hid hA
  have HL := Lib.hid hl
  clear hA hl
  have h2 : ¬ (40 : Int) < P := by omega
  have h3 : ¬ (40 : Int) < L := by omega
  go_enter Try.func5, Try.ntmps5
  go_wp2_with fail
  with_reducible refine (works_any _).mono ?_
  rintro e w1 ⟨rfl, hb⟩
  have HB := Lib.hid hb
  clear hb
  go_wp2_with fail
  with_reducible refine (made_yes P L pa N ca l _ hP hL HL.out (by omega) (HA.out.bel HB.out)).mono ?_
  rintro e w2 ⟨B, G, ls, p, c, rfl, hc, hw, hr, hBw⟩
  unfold rv
  have W2 := Lib.hid (hw.bel ((Bel.refl w2).alloc #[.int .i64 P, .slice p L c] 27))
  have R2 := Lib.hid (hr.bel ((Bel.refl w2).alloc #[.int .i64 P, .slice p L c] 27))
  have M2 := Lib.hid (heap_alloc_new w2 (.cells #[.int .i64 P, .slice p L c] 27))
  have hG2 : G < w2.heap.size := hw.ch.ltG.1
  have hB2 : B < w2.heap.size := hw.ch.ltG.2.1
  clear hw hr
  go_upto_region 7 with (fail)
  generalize w2.alloc (.cells #[.int .i64 P, .slice p L c] 27) = W at *
  generalize hT : w2.heap.size = T at *
  clear hT
  have HW := Lib.hid (HB.out.trans W2.out.off)
  have hg := W2.out.ch.good
  have hS := sumL_le hg L (Nat.le_refl _)
  have HG := Lib.hid hg
  have HC := Lib.hid (sum_cnt hg)
  have hS2 : sumL ls L ≤ 1600 := by
    have : L * P ≤ 40 * 40 := Nat.mul_le_mul hL4 hP4
    omega
  have K1 : Hid (∀ t, t < L → ∀ w', Bel W w' → Calls Try.prog 12 #[.pointer (some ⟨B, 0, none⟩), .int .i64 (t : Nat)] w' fun e w2 => ∃ q k, e = .returned (.slice q (ls t).length k) ∧ (ls t).length ≤ k ∧ Lies (old w') w2 q (encI (ls t)) ∧ Bel w' w2) := Lib.hid (fun t ht w' h => by
    have k := all_any B G P L ls t w' (W2.out.ch.bel h)
    rw [allL_yes ht] at k
    exact k)
  have K2 : Hid (∀ i, i < P → (inn L ls i = false ∧ ∀ w', Bel W w' → Calls Try.prog 14 #[.pointer (some ⟨B, 0, none⟩), .int .i64 (i : Nat)] w' fun e w2 => e = .returned (.tuple #[.int .i64 0, .bool false]) ∧ Bel w' w2) ∨
      (inn L ls i = true ∧ ∃ t a b, t < L ∧ ls t = a ++ i :: b ∧ i ∉ a ∧ ∀ w', Bel W w' → Calls Try.prog 14 #[.pointer (some ⟨B, 0, none⟩), .int .i64 (i : Nat)] w' fun e w2 => e = .returned (.tuple #[.int .i64 (t : Nat), .bool true]) ∧ Bel w' w2)) := Lib.hid (fun i hi => by
    obtain ⟨nx, pv, wh, hT⟩ := tell_ex hg (i : Int)
    by_cases hj : ∃ s, s < L ∧ i ∈ ls s
    · obtain ⟨s, hs, hj⟩ := hj
      obtain ⟨a, b, hl⟩ := List.append_of_mem hj
      refine .inr ⟨inn_yes hs hj, s, a, b, hs, hl, fun e => ?_, fun w' h => ?_⟩
      · have := hg.nd s hs
        rw [hl] at this
        exact (List.nodup_append.1 this).2.2 i e i (by simp) rfl
      · have k := which_any B G P L ls i nx pv wh w' (W2.out.ch.bel h) hT
        rw [(hT.inn i s a b rfl hs hl).2.2] at k
        exact k
    · have hj2 : ∀ s, s < L → i ∉ ls s := fun s hs h => hj ⟨s, hs, h⟩
      refine .inl ⟨inn_no hj2, fun w' h => ?_⟩
      have k := which_any B G P L ls i nx pv wh w' (W2.out.ch.bel h) hT
      rw [(hT.out i rfl hi hj2).2.2] at k
      exact k)
  clear W2 R2 M2 HB HA HL hg hS
  go_wp2
  go_loopw [11, 12] (fun n i wr => ∃ m : Nat, i = .int .i64 m ∧ m ≤ L ∧ n = .int .i64 (sumL ls m) ∧ Bel W wr) (fun _ i _ => L - (intOf i).toNat)
  case atStart => exact ⟨0, rfl, by omega, rfl, Bel.refl _⟩
  case round =>
    obtain ⟨m, rfl, hm, rfl, hb⟩ := hrel
    have HBr := Lib.hid hb
    clear hb
    by_cases hlt : m < L
    · have Q := Lib.hid (K1.out m hlt _ HBr.out)
      have HS : Hid (sumL ls (m + 1) = sumL ls m + (ls m).length) := Lib.hid rfl
      have b1 := sumL_le HG.out m hm
      have b2 := HG.out.len hlt
      have b3 : m * P ≤ 40 * 40 := Nat.mul_le_mul (by omega) hP4
      generalize (ls m).length = n1 at *
      generalize hs1 : sumL ls m = s1 at *
      clear hs1
      have hmL : (m : Int) < L := by omega
      go_wp2_with fail
      with_reducible refine Q.out.mono ?_
      rintro e w3 ⟨q, k, rfl, hk, _, hb3⟩
      have HB3 := Lib.hid (HBr.out.trans hb3)
      clear hb3
      go_wp2
      go_roundw
      case rel => exact ⟨m + 1, by go_num, by omega, by rw [HS.out]; go_num, HB3.out⟩
      case measure => simp [intOf]; omega
    · obtain rfl : m = L := by omega
      clear hlt
      go_wp2
      go_loopw [11, 13, 14, 15] (fun n i _ _ wr => ∃ r : Nat, i = .int .i64 r ∧ r ≤ P ∧ n = .int .i64 ((sumL ls m : Int) - cntI m ls r) ∧ Bel W wr) (fun _ i _ _ _ => P - (intOf i).toNat)
      case atStart => exact ⟨0, rfl, by omega, by simp [cntI], HBr.out⟩
      case round =>
        clear HBr
        obtain ⟨r, rfl, hr, rfl, hb⟩ := hrel
        have HBr := Lib.hid hb
        clear hb
        have c1 := cntI_le m ls r
        have HS := Lib.hid (cntI_succ m ls r)
        generalize hs1 : sumL ls m = s1 at *
        generalize hc1 : cntI m ls r = n1 at *
        by_cases hlt : r < P
        · have hrP : (r : Int) < P := by omega
          rcases K2.out r hlt with ⟨hi, k⟩ | ⟨hi, t, a, b, ht, hl, hna, k⟩
          · have HE : Hid (cntI m ls (r + 1) = n1) := Lib.hid (by rw [HS.out, hi]; rfl)
            have Q := Lib.hid (k _ HBr.out)
            clear k hi hc1 hs1 HS
            go_wp2_with fail
            with_reducible refine Q.out.mono ?_
            rintro e w3 ⟨rfl, hb3⟩
            have HB3 := Lib.hid (HBr.out.trans hb3)
            clear hb3
            go_wp2
            go_roundw
            case rel => exact ⟨r + 1, by go_num, by omega, by rw [HE.out], HB3.out⟩
            case measure => simp [intOf]; omega
          · have HE : Hid (cntI m ls (r + 1) = n1 + 1) := Lib.hid (by rw [HS.out, hi]; rfl)
            have Q := Lib.hid (k _ HBr.out)
            have QA := Lib.hid (K1.out t ht)
            have hlen := HG.out.len ht
            have QI := Lib.hid (fun w' q k' (hq : Lies nof w' q (encI (ls t))) => rindex_in q (ls t).length k' (ls t) a b r w' rfl (by omega) hq hl hna)
            clear k hi hc1 hs1 HS hl
            generalize (ls t).length = n2 at *
            generalize a.length = n3 at *
            go_wp2_with fail
            with_reducible refine Q.out.mono ?_
            rintro e w3 ⟨rfl, hb3⟩
            have HB3 := Lib.hid (HBr.out.trans hb3)
            clear hb3
            go_wp2_with fail
            with_reducible refine (QA.out _ HB3.out).mono ?_
            rintro e w4 ⟨q, k, rfl, hk, hl4, hb4⟩
            have HL4 := Lib.hid hl4.any
            have HB4 := Lib.hid (HB3.out.trans hb4)
            clear hl4 hb4
            go_wp2_with fail
            with_reducible refine (QI.out _ _ _ HL4.out).mono ?_
            rintro e w5 ⟨rfl, rfl⟩
            go_wp2
            go_roundw
            case rel => exact ⟨r + 1, by go_num, by omega, by rw [HE.out]; go_num, HB4.out⟩
            case measure => simp [intOf]; omega
        · obtain rfl : r = P := by omega
          have HE : Hid ((s1 : Int) - n1 = 0) := Lib.hid (by have := HC.out; omega)
          rw [HE.out]
          go_wp2
          go_ret
          exact ⟨rfl, HW.out.trans HBr.out⟩
end Go.Proofs.Ytdeiknfaehpheaa
