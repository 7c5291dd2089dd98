/-
  The walk of OrderMerges.
-/
import Derived.Test.YtbbhgmdpafhbeaaWorks
namespace Go.Proofs.Ytbbhgmdpafhbeaa
open Go.RowKit
theorem merges_long (q : Option Addr) (n cap : Nat) (w : World) (h : 8 < n) :
    Calls Try.prog 6 #[.slice q n cap] w fun e w' => e = .returned (.bool true) ∧ Bel w w' := by
  have h' : (8 : Int) < n := by omega
  go_enter Try.func6, Try.ntmps6
  go_wp2_with fail
  with_reducible refine (works_any _).mono ?_
  rintro e w1 ⟨rfl, hb⟩
  go_wp2
  go_ret
  exact ⟨rfl, hb⟩
theorem all_iff (ls : List (List T)) : ls.all so = true ↔ AllSo ls := by
  rw [List.all_eq_true]
  exact ⟨fun h l hl => (so_iff l).1 (h l hl), fun h l hl => (so_iff l).2 (h l hl)⟩
theorem all_take (ls : List (List T)) (k : Nat) (h : k < ls.length) : (ls.take (k + 1)).all so = ((ls.take k).all so && so (ls.getD k [])) := by
  rw [List.take_succ_eq_append_getElem h, List.all_append]
  have e : ls.getD k [] = ls[k] := by simp [List.getD_eq_getElem?_getD, List.getElem?_eq_getElem h]
  rw [e]
  simp
theorem flat_take (ls : List (List T)) (k : Nat) (h : k < ls.length) : (ls.take (k + 1)).flatten = (ls.take k).flatten ++ ls.getD k [] := by
  rw [List.take_succ_eq_append_getElem h, List.flatten_append]
  have e : ls.getD k [] = ls[k] := by simp [List.getD_eq_getElem?_getD, List.getElem?_eq_getElem h]
  rw [e]
  simp
/-- What holds at each round's head. -/
def GatherAt (w : World) (ls : List (List T)) (k : Nat) (v s : Value) (wr : World) : Prop :=
  Own wr w.heap.size v (ls.take k).flatten ∧ s = .bool ((ls.take k).all so) ∧ Bel w wr ∧ (ls.take k).flatten.length ≤ 20 * k
set_option maxHeartbeats 4000000 in
theorem merges_short (q : Option Addr) (n cap : Nat) (ls : List (List T)) (w : World) (h : n ≤ 8) (hn : ls.length = n) (hcap : n ≤ cap) (hl : HasL w q ls) :
    Calls Try.prog 6 #[.slice q n cap] w fun e w' => e = .returned (.bool true) ∧ Bel w w' := by
  have h' : ¬ (8 : Int) < n := by omega
  have HN := Lib.hid hn
  have HL := Lib.hid hl
  clear hn hl
  go_enter Try.func6, Try.ntmps6
  go_wp2_with fail
  with_reducible refine (works_any _).mono ?_
  rintro e w1 ⟨rfl, hb1⟩
  have B1 := Lib.hid hb1
  clear hb1
  go_wp2
  go_loopw [4, 5, 6] (fun v s i wr => ∃ k : Nat, k ≤ n ∧ i = .int .i64 k ∧ GatherAt w ls k v s wr) (fun _ _ i _ => n - (intOf i).toNat)
  case atStart => exact ⟨0, by omega, rfl, Own.nil _ _, rfl, B1.out, by simp⟩
  case round =>
    obtain ⟨k, hk, rfl, ho, rfl, hb, hlen⟩ := hrel
    have HO := Lib.hid ho
    have HB := Lib.hid hb
    have HLEN := Lib.hid hlen
    clear ho hb hlen
    obtain ⟨cs, hcs⟩ : ∃ cs, (ls.take k).all so = cs := ⟨_, rfl⟩
    rw [hcs]
    have HCS := Lib.hid hcs
    clear hcs
    by_cases hlt : k < n
    · obtain ⟨b, off, rfl, hr⟩ := HL.out.row (by have := HN.out; omega)
      obtain ⟨p, c, hc, hpc, hp⟩ := (hr.bel HB.out) k (by have := HN.out; omega)
      have HP := Lib.hid hp
      have HA := Lib.hid (all_take ls k (by have := HN.out; omega))
      have HF := Lib.hid (flat_take ls k (by have := HN.out; omega))
      have KR := Lib.hid (fun w h1 h2 => rsorted_any p (ls.getD k []).length c (ls.getD k []) w rfl h1 h2)
      obtain ⟨l, hll⟩ : ∃ l, ls.getD k [] = l := ⟨_, rfl⟩
      rw [hll] at hc hpc HP HA HF KR
      clear hr hp hll
      obtain ⟨m, hm⟩ : ∃ m, l.length = m := ⟨_, rfl⟩
      obtain ⟨co, hco⟩ : ∃ co, so l = co := ⟨_, rfl⟩
      rw [hm] at hc hpc KR
      rw [hco] at KR HA
      rw [HCS.out] at HA
      have HM := Lib.hid hm
      clear hm hco
      by_cases h20 : 20 < m
      · have h20' : (20 : Int) < m := by omega
        go_wp2
        go_ret
        exact ⟨rfl, HB.out⟩
      · have h20' : ¬ (20 : Int) < m := by omega
        cases cs with
        | true =>
          cases co with
          | true =>
            go_wp2_with fail
            with_reducible refine (KR.out _ (by omega) HP.out).mono ?_
            rintro e w2 ⟨rfl, hb2⟩
            have hc2 := hb2.cell hc
            have HP2 := Lib.hid (HP.out.bel hb2)
            have HB2 := Lib.hid (HB.out.trans hb2)
            have HO2 := Lib.hid (HO.out.bel hb2)
            clear hb2 hc
            go_wp2_with (at_builtin; refine wpList_append_any rfl (.tmp 40) (.tmp 44) rfl w.heap.size _ (ls.take k).flatten rfl HO2.out _ _ _ l rfl HM.out HP2.out (by have := HLEN.out; omega) HB2.out.size ?_)
            intro v3 w3 hown hgrow hnil
            have HO3 : Hid (Own w3 w.heap.size v3 (ls.take (k + 1)).flatten) := Lib.hid (by rw [HF.out]; exact hown)
            have HB3 : Hid (Bel w w3) := Lib.hid (Own.grown HB2.out HO2.out HB2.out.size hgrow)
            have HLEN3 : Hid ((ls.take (k + 1)).flatten.length ≤ 20 * (k + 1)) := Lib.hid (by have e1 := HLEN.out; have e2 := HM.out; rw [HF.out, List.length_append]; omega)
            clear hown hgrow hnil hc2
            go_wp2
            go_roundw
            case rel => exact ⟨k + 1, by omega, by go_num, HO3.out, by rw [HA.out]; rfl, HB3.out, HLEN3.out⟩
            case measure => simp [intOf]; omega
          | false =>
            go_wp2_with fail
            with_reducible refine (KR.out _ (by omega) HP.out).mono ?_
            rintro e w2 ⟨rfl, hb2⟩
            have hc2 := hb2.cell hc
            have HP2 := Lib.hid (HP.out.bel hb2)
            have HB2 := Lib.hid (HB.out.trans hb2)
            have HO2 := Lib.hid (HO.out.bel hb2)
            clear hb2 hc
            go_wp2_with (at_builtin; refine wpList_append_any rfl (.tmp 40) (.tmp 44) rfl w.heap.size _ (ls.take k).flatten rfl HO2.out _ _ _ l rfl HM.out HP2.out (by have := HLEN.out; omega) HB2.out.size ?_)
            intro v3 w3 hown hgrow hnil
            have HO3 : Hid (Own w3 w.heap.size v3 (ls.take (k + 1)).flatten) := Lib.hid (by rw [HF.out]; exact hown)
            have HB3 : Hid (Bel w w3) := Lib.hid (Own.grown HB2.out HO2.out HB2.out.size hgrow)
            have HLEN3 : Hid ((ls.take (k + 1)).flatten.length ≤ 20 * (k + 1)) := Lib.hid (by have e1 := HLEN.out; have e2 := HM.out; rw [HF.out, List.length_append]; omega)
            clear hown hgrow hnil hc2
            go_wp2
            go_roundw
            case rel => exact ⟨k + 1, by omega, by go_num, HO3.out, by rw [HA.out]; rfl, HB3.out, HLEN3.out⟩
            case measure => simp [intOf]; omega
        | false =>
          cases co with
          | true =>
            go_wp2_with fail
            with_reducible refine (KR.out _ (by omega) HP.out).mono ?_
            rintro e w2 ⟨rfl, hb2⟩
            have hc2 := hb2.cell hc
            have HP2 := Lib.hid (HP.out.bel hb2)
            have HB2 := Lib.hid (HB.out.trans hb2)
            have HO2 := Lib.hid (HO.out.bel hb2)
            clear hb2 hc
            go_wp2_with (at_builtin; refine wpList_append_any rfl (.tmp 40) (.tmp 44) rfl w.heap.size _ (ls.take k).flatten rfl HO2.out _ _ _ l rfl HM.out HP2.out (by have := HLEN.out; omega) HB2.out.size ?_)
            intro v3 w3 hown hgrow hnil
            have HO3 : Hid (Own w3 w.heap.size v3 (ls.take (k + 1)).flatten) := Lib.hid (by rw [HF.out]; exact hown)
            have HB3 : Hid (Bel w w3) := Lib.hid (Own.grown HB2.out HO2.out HB2.out.size hgrow)
            have HLEN3 : Hid ((ls.take (k + 1)).flatten.length ≤ 20 * (k + 1)) := Lib.hid (by have e1 := HLEN.out; have e2 := HM.out; rw [HF.out, List.length_append]; omega)
            clear hown hgrow hnil hc2
            go_wp2
            go_roundw
            case rel => exact ⟨k + 1, by omega, by go_num, HO3.out, by rw [HA.out]; rfl, HB3.out, HLEN3.out⟩
            case measure => simp [intOf]; omega
          | false =>
            go_wp2_with fail
            with_reducible refine (KR.out _ (by omega) HP.out).mono ?_
            rintro e w2 ⟨rfl, hb2⟩
            have hc2 := hb2.cell hc
            have HP2 := Lib.hid (HP.out.bel hb2)
            have HB2 := Lib.hid (HB.out.trans hb2)
            have HO2 := Lib.hid (HO.out.bel hb2)
            clear hb2 hc
            go_wp2_with (at_builtin; refine wpList_append_any rfl (.tmp 40) (.tmp 44) rfl w.heap.size _ (ls.take k).flatten rfl HO2.out _ _ _ l rfl HM.out HP2.out (by have := HLEN.out; omega) HB2.out.size ?_)
            intro v3 w3 hown hgrow hnil
            have HO3 : Hid (Own w3 w.heap.size v3 (ls.take (k + 1)).flatten) := Lib.hid (by rw [HF.out]; exact hown)
            have HB3 : Hid (Bel w w3) := Lib.hid (Own.grown HB2.out HO2.out HB2.out.size hgrow)
            have HLEN3 : Hid ((ls.take (k + 1)).flatten.length ≤ 20 * (k + 1)) := Lib.hid (by have e1 := HLEN.out; have e2 := HM.out; rw [HF.out, List.length_append]; omega)
            clear hown hgrow hnil hc2
            go_wp2
            go_roundw
            case rel => exact ⟨k + 1, by omega, by go_num, HO3.out, by rw [HA.out]; rfl, HB3.out, HLEN3.out⟩
            case measure => simp [intOf]; omega
    · obtain rfl : k = n := by omega
      have HT : Hid (ls.take k = ls) := Lib.hid (List.take_of_length_le (by have := HN.out; omega))
      rw [HT.out] at HO HLEN HCS
      have hf : ls.flatten.length ≤ 160 := by have := HLEN.out; omega
      obtain ⟨m, hm⟩ : ∃ m, ls.flatten.length = m := ⟨_, rfl⟩
      rw [hm] at hf
      have HM := Lib.hid hm
      clear hm
      cases cs with
      | true =>
        have HS : Hid (AllSo ls) := Lib.hid ((all_iff ls).1 HCS.out)
        obtain ⟨pv, cv, rfl, hcv, _, hpv⟩ := HO.out.slice
        rw [HM.out] at hcv ⊢
        have PV := Lib.hid hpv
        clear hpv
        have HSL : Hid ((srt ls.flatten).length = m) := Lib.hid (by rw [srt_len, HM.out])
        go_wp2_with fail
        with_reducible refine (merge_yes q k cap m ls _ HN.out hcap (by omega) HM.out (by omega) (HL.out.bel HB.out) HS.out).mono ?_
        rintro e w2 ⟨⟨p2, k2, rfl, hk2, hp2⟩, hb2⟩
        have P2 := Lib.hid hp2
        have PV2 := Lib.hid (PV.out.bel hb2)
        have HB2 := Lib.hid (HB.out.trans hb2)
        clear hb2 hp2
        go_wp2_with fail
        with_reducible refine (rsort_any pv m cv ls.flatten _ HM.out (by omega) PV2.out).mono ?_
        rintro e w3 ⟨⟨p3, c3, rfl, hc3, hp3⟩, hb3⟩
        rw [HSL.out] at hc3 ⊢
        have P3 := Lib.hid hp3
        have P2' := Lib.hid (P2.out.bel hb3)
        have HB3 := Lib.hid (HB2.out.trans hb3)
        clear hb3 hp3
        go_wp2_with fail
        with_reducible refine (ex_same p2 p3 k2 c3 m (srt ls.flatten) _ HSL.out (by omega) P2'.out P3.out).mono ?_
        rintro e w4 ⟨rfl, hb4⟩
        have HB4 := Lib.hid (HB3.out.trans hb4)
        clear hb4
        go_wp2
        go_ret
        exact ⟨rfl, HB4.out⟩
      | false =>
        have HS : Hid (¬ AllSo ls) := Lib.hid (fun ha => by have := (all_iff ls).2 ha; rw [HCS.out] at this; cases this)
        go_wp2_with fail
        with_reducible refine (merge_no q k cap ls _ HN.out hcap (by omega) (by have := HM.out; omega) (HL.out.bel HB.out) HS.out).mono ?_
        rintro e w2 ⟨rfl, hb2⟩
        have HB2 := Lib.hid (HB.out.trans hb2)
        clear hb2
        go_wp2
        go_ret
        exact ⟨rfl, HB2.out⟩
end Go.Proofs.Ytbbhgmdpafhbeaa
