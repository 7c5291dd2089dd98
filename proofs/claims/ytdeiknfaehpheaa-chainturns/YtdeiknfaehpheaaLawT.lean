/-
  The walk of ChainTurns.
-/
import Derived.Test.YtdeiknfaehpheaaMadeOk
import Derived.Test.YtdeiknfaehpheaaTells
namespace Go.Proofs.Ytdeiknfaehpheaa
open Go.RowKit
/-- One of a list: its list, and what stands beside it. -/
theorem all_at {P L : Nat} {ls : Ls} (hg : Good P L ls) {x : Int} {m y : Nat} (h : (allL L ls x)[m]? = some y) : ∃ t : Nat, x = t ∧ t < L ∧
    ∀ nx pv wh, Tell P L ls y nx pv wh → nx = (allL L ls x)[m + 1]? ∧ pv = ((allL L ls x).take m).getLast? ∧ wh = some t := by
  cases hb : hp L x with
  | false => rw [allL_no hb] at h; simp at h
  | true =>
    obtain ⟨t, rfl, ht⟩ := hp_nat hb
    rw [allL_yes ht] at h ⊢
    refine ⟨t, rfl, ht, fun nx pv wh hT => ?_⟩
    have hlt := get_lt h
    have e : ls t = (ls t).take m ++ y :: (ls t).drop (m + 1) := by
      have h2 := List.drop_eq_getElem_cons hlt
      have h3 : (ls t)[m] = y := by rw [List.getElem?_eq_getElem hlt] at h; exact Option.some.inj h
      rw [h3] at h2
      rw [← h2, List.take_append_drop]
    have h4 := hT.inn y t _ _ rfl ht e
    rw [List.head?_drop] at h4
    exact h4
theorem last_take {l : List Nat} {m : Nat} : (l.take (m + 1)).getLast? = if m < l.length then l[m]? else l.getLast? := by
  by_cases h : m < l.length
  · rw [if_pos h, List.getLast?_eq_getElem?, List.length_take, Nat.min_eq_left (by omega), Nat.add_sub_cancel, List.getElem?_take, if_pos (by omega)]
  · rw [if_neg h, List.take_of_length_le (by omega)]
theorem turns_long (P L : Int) (pa : Option Addr) (N ca : Nat) (x : Int) (w : World) (h : 40 < N) :
    Calls Try.prog 4 #[.int .i64 P, .int .i64 L, .slice pa N ca, .int .i64 x] w fun e w' => e = .returned (.bool true) ∧ Bel w w' := by
  have h' : (40 : Int) < N := by omega
  go_enter Try.func4, Try.ntmps4
  go_wp2_with fail
  with_reducible refine (works_any _).mono ?_
  rintro e w1 ⟨rfl, hb⟩
  go_wp2
  go_ret
  exact ⟨rfl, hb⟩
theorem turns_no (P L : Int) (pa : Option Addr) (N ca : Nat) (x : Int) (w : World) (h : N ≤ 40) (hP : ¬ (0 ≤ P ∧ P ≤ 1024 ∧ 0 ≤ L ∧ L ≤ 1024)) :
    Calls Try.prog 4 #[.int .i64 P, .int .i64 L, .slice pa N ca, .int .i64 x] w fun e w' => e = .returned (.bool true) ∧ Bel w w' := by
  have h' : ¬ (40 : Int) < N := by omega
  have K := Lib.hid (fun w => made_no P L pa N ca w hP)
  clear hP
  go_enter Try.func4, Try.ntmps4
  go_wp2_with fail
  with_reducible refine (works_any _).mono ?_
  rintro e w1 ⟨rfl, hb⟩
  have HB := Lib.hid hb
  clear hb
  go_wp2_with fail
  with_reducible refine (K.out _).mono ?_
  rintro e w2 ⟨p, c, rfl, hb⟩
  have HB2 := Lib.hid (HB.out.trans hb)
  clear hb
  go_wp2
  go_ret
  exact ⟨rfl, HB2.out.alloc _ _⟩
set_option maxHeartbeats 4000000 in
set_option maxRecDepth 100000 in
theorem turns_yes (P L : Nat) (pa : Option Addr) (N ca : Nat) (l : List Ac) (x : Int) (w : World) (h : N ≤ 40) (hl : l.length = N) (hA : Lies nof w pa (encA l)) (hP : P ≤ 1024) (hL : L ≤ 1024) :
    Calls Try.prog 4 #[.int .i64 P, .int .i64 L, .slice pa N ca, .int .i64 x] w fun e w' => e = .returned (.bool true) ∧ Bel w w' := by
  have h' : ¬ (40 : Int) < N := by omega
  have HA := Lib.hid hA
  have HL := Lib.hid hl
  clear hA hl
  go_enter Try.func4, Try.ntmps4
  go_wp2_with fail
  with_reducible refine (works_any _).mono ?_
  rintro e w1 ⟨rfl, hb⟩
  have HB := Lib.hid hb
  clear hb
  go_wp2_with fail
  with_reducible refine (made_yes P L pa N ca l _ hP hL HL.out (by omega) (HA.out.bel HB.out)).mono ?_
  rintro e w2 ⟨B, G, ls, p, c, rfl, hc, hw, hr, hBw⟩
  unfold rv
  have W2 := Lib.hid (hw.bel ((Bel.refl w2).alloc #[.int .i64 P, .slice p L c] 27))
  have R2 := Lib.hid (hr.bel ((Bel.refl w2).alloc #[.int .i64 P, .slice p L c] 27))
  have M2 := Lib.hid (heap_alloc_new w2 (.cells #[.int .i64 P, .slice p L c] 27))
  have hG2 : G < w2.heap.size := hw.ch.ltG.1
  have hB2 : B < w2.heap.size := hw.ch.ltG.2.1
  clear hw hr
  go_upto_region 7 with (fail)
  generalize w2.alloc (.cells #[.int .i64 P, .slice p L c] 27) = W at *
  generalize hT : w2.heap.size = T at *
  clear hT
  have hlen := allL_len W2.out.ch.good x
  have K1 := Lib.hid (fun w' (h : Bel W w') => all_any B G P L ls x w' (W2.out.ch.bel h))
  have K2 := Lib.hid (fun w' (h : Bel W w') => first_any B G P L ls x w' (W2.out.ch.bel h))
  have K3 := Lib.hid (fun w' (h : Bel W w') => last_any B G P L ls x w' (W2.out.ch.bel h))
  have K4 : Hid (∀ m y : Nat, (allL L ls x)[m]? = some y → ∃ t : Nat, x = t ∧ (∀ w', Bel W w' → Calls Try.prog 14 #[.pointer (some ⟨B, 0, none⟩), .int .i64 y] w' fun e w2 => e = .returned (.tuple #[.int .i64 t, .bool true]) ∧ Bel w' w2) ∧
      (∀ w', Bel W w' → Calls Try.prog 15 #[.pointer (some ⟨B, 0, none⟩), .int .i64 y] w' fun e w2 => e = .returned (.tuple #[.int .i64 (av (allL L ls x)[m + 1]?), .bool (allL L ls x)[m + 1]?.isSome]) ∧ Bel w' w2) ∧
      (∀ w', Bel W w' → Calls Try.prog 17 #[.pointer (some ⟨B, 0, none⟩), .int .i64 y] w' fun e w2 => e = .returned (.tuple #[.int .i64 (av ((allL L ls x).take m).getLast?), .bool ((allL L ls x).take m).getLast?.isSome]) ∧ Bel w' w2)) := Lib.hid (fun m y hy => by
    obtain ⟨t, hx, ht, hT⟩ := all_at W2.out.ch.good hy
    obtain ⟨nx, pv, wh, hTell⟩ := tell_ex W2.out.ch.good (y : Int)
    obtain ⟨h1, h2, h3⟩ := hT nx pv wh hTell
    refine ⟨t, hx, fun w' h => ?_, fun w' h => ?_, fun w' h => ?_⟩
    · have k := which_any B G P L ls y nx pv wh w' (W2.out.ch.bel h) hTell
      rw [h3] at k
      exact k
    · have k := next_any B G P L ls y nx pv wh w' (W2.out.ch.bel h) hTell
      rw [h1, ans_eq] at k
      exact k
    · have k := prev_any B G P L ls y nx pv wh w' (W2.out.ch.bel h) hTell
      rw [h2, ans_eq] at k
      exact k)
  rw [ans_eq] at K2 K3
  clear HA HL
  generalize allL L ls x = l at *
  obtain ⟨n, hn⟩ : ∃ n, l.length = n := ⟨_, rfl⟩
  rw [hn] at K1 hlen
  have HN := Lib.hid hn
  have HW := Lib.hid (HB.out.trans W2.out.off)
  have EH : Hid (l.head? = l[0]?) := Lib.hid (by rw [List.head?_eq_getElem?])
  rw [EH.out] at K2
  have EL : Hid (l.getLast? = (l.take n).getLast?) := Lib.hid (by rw [List.take_of_length_le (by omega)])
  rw [EL.out] at K3
  clear hn HB W2 R2 M2 EH EL
  go_wp2_with fail
  with_reducible refine (K1.out _ (Bel.refl _)).mono ?_
  rintro e w3 ⟨q, k, rfl, hk, hl3, hb3⟩
  have HQ := Lib.hid hl3.any
  have HB3 := Lib.hid hb3
  clear hl3 hb3
  go_wp2_with fail
  with_reducible refine (K2.out _ HB3.out).mono ?_
  rintro e w4 ⟨rfl, hb4⟩
  have HB34 := Lib.hid hb4
  clear hb4
  go_wp2
  go_loopw [14, 15, 16, 17, 18] (fun a b i _ _ wr => ∃ m : Nat, i = .int .i64 m ∧ m ≤ n ∧ a = .int .i64 (av l[m]?) ∧ b = .bool l[m]?.isSome ∧ Bel w3 wr) (fun _ _ i _ _ _ => n - (intOf i).toNat)
  case atStart => exact ⟨0, rfl, by omega, rfl, rfl, HB34.out⟩
  case round =>
    obtain ⟨m, rfl, hm, rfl, rfl, hb⟩ := hrel
    have HBr := Lib.hid hb
    clear hb
    by_cases hlt : m < n
    · obtain ⟨y, hy⟩ : ∃ y, l[m]? = some y := ⟨_, List.getElem?_eq_getElem (by have := HN.out; omega)⟩
      obtain ⟨b, off, rfl, _, hr⟩ := lies_int HQ.out (i := m) (by have := HN.out; omega)
      have x0 := HBr.out.cell (row_int hr hy)
      obtain ⟨t, hx, k1, k2, _⟩ := K4.out m y hy
      have Q1 := Lib.hid k1
      have Q2 := Lib.hid k2
      have E0 : (((y : Nat) : Int) == (y : Int)) = true := by simp
      have E1 : (((t : Nat) : Int) == (t : Int)) = true := by simp
      rw [hy]
      have e1 : av (some y) = y := rfl
      have e2 : (some y).isSome = true := rfl
      rw [e1, e2]
      subst hx
      go_wp2_with fail
      with_reducible refine (Q1.out _ (HB3.out.trans HBr.out)).mono ?_
      rintro e w5 ⟨rfl, hb5⟩
      have HB5 := Lib.hid (HBr.out.trans hb5)
      have x0 := hb5.cell x0
      clear hb5 hr hy k1 k2
      go_wp2_with fail
      with_reducible refine (Q2.out _ (HB3.out.trans HB5.out)).mono ?_
      rintro e w6 ⟨rfl, hb6⟩
      have HB6 := Lib.hid (HB5.out.trans hb6)
      clear hb6 x0
      go_wp2
      go_roundw
      case rel => exact ⟨m + 1, by go_num, by omega, rfl, rfl, HB6.out⟩
      case measure => simp [intOf]; omega
    · obtain rfl : m = n := by omega
      have EN : Hid (l[m]? = none) := Lib.hid (List.getElem?_eq_none (by have := HN.out; omega))
      rw [EN.out]
      have e1 : av none = 0 := rfl
      have e2 : (none : Option Nat).isSome = false := rfl
      rw [e1, e2]
      go_wp2_with fail
      with_reducible refine (K3.out _ (HB3.out.trans HBr.out)).mono ?_
      rintro e w5 ⟨rfl, hb5⟩
      have HB5 := Lib.hid (HBr.out.trans hb5)
      have wr1 : IntKind.i64.wrap ((m : Int) - 1) = (m : Int) - 1 := i64_in _ (by omega) (by omega)
      clear hb5 HBr HB34 K1 K2 K3 e1 e2
      generalize hv1 : av (l.take m).getLast? = v1 at *
      generalize hv2 : (l.take m).getLast?.isSome = v2 at *
      have V1 := Lib.hid hv1
      have V2 := Lib.hid hv2
      clear hv1 hv2
      go_wp2
      go_loopw [14, 15, 19] (fun a b i w7 => ∃ r : Nat, i = .int .i64 ((r : Int) - 1) ∧ r ≤ m ∧ a = .int .i64 (av (l.take r).getLast?) ∧ b = .bool (l.take r).getLast?.isSome ∧ Bel w3 w7) (fun _ _ i _ => (intOf i + 1).toNat)
      case atStart => exact ⟨m, by go_num, by omega, by rw [V1.out], by rw [V2.out], HB5.out⟩
      case round =>
        clear V1 V2 HB5
        obtain ⟨r, rfl, hr, rfl, rfl, hb⟩ := hrel
        have HBr := Lib.hid hb
        clear hb
        cases r with
        | zero =>
          have e1 : av (l.take 0).getLast? = 0 := rfl
          have e2 : (l.take 0).getLast?.isSome = false := rfl
          rw [e1, e2]
          go_wp2
          go_ret
          exact ⟨rfl, HW.out.trans (HB3.out.trans HBr.out)⟩
        | succ r =>
          obtain ⟨y, hy⟩ : ∃ y, l[r]? = some y := ⟨_, List.getElem?_eq_getElem (by have := HN.out; omega)⟩
          have e0 : (l.take (r + 1)).getLast? = some y := by rw [last_take, if_pos (by have := HN.out; omega), hy]
          obtain ⟨b, off, rfl, _, hrow⟩ := lies_int HQ.out (i := r) (by have := HN.out; omega)
          have x0 := HBr.out.cell (row_int hrow hy)
          obtain ⟨t, hx, _, _, k3⟩ := K4.out r y hy
          have Q3 := Lib.hid k3
          clear hx
          have E0 : (((y : Nat) : Int) == (y : Int)) = true := by simp
          rw [e0]
          have e1 : av (some y) = y := rfl
          have e2 : (some y).isSome = true := rfl
          have e3 : ((r + 1 : Nat) : Int) - 1 = r := by omega
          rw [e1, e2, e3]
          have wr2 : IntKind.i64.wrap ((r : Int) - 1) = (r : Int) - 1 := i64_in _ (by omega) (by omega)
          clear hrow hy k3 e0
          have hrm : (r : Int) < m := by omega
          go_wp2_with fail
          with_reducible refine (Q3.out _ (HB3.out.trans HBr.out)).mono ?_
          rintro e w8 ⟨rfl, hb8⟩
          have HB8 := Lib.hid (HBr.out.trans hb8)
          clear hb8 x0
          go_wp2
          go_roundw
          case rel =>
            exact ⟨r, by go_num, by omega, rfl, rfl, HB8.out⟩
          case measure => simp [intOf]
end Go.Proofs.Ytdeiknfaehpheaa
