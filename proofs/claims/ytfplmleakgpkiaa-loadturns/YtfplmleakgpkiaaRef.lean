/-
  Contracts of the document's own functions: Wrong, Good, Open, Last, Total, Tally.
-/
import Derived.Test.YtfplmleakgpkiaaLd
set_option linter.unusedVariables false
set_option linter.unusedSimpArgs false
namespace Go.Proofs.Ytfplmleakgpkiaa
open Go.RowKit
set_option maxHeartbeats 1000000 in
theorem wrong_any (t : T) (w : World) : Calls Try.prog 10 #[.agg #[.int .i64 t.a, .int .i64 t.b, .int .i64 t.c]] w fun e w' => e = .returned (.int .i64 t.bad) ∧ Bel w w' := by
  obtain ⟨a, b, c⟩ := t
  have HB : Hid (Bel w (w.alloc (.cells #[.int .i64 a, .int .i64 b, .int .i64 c] 29))) := Lib.hid ((Bel.refl w).alloc _ _)
  by_cases h0 : a < 0
  · rw [show T.bad ⟨a, b, c⟩ = 7 by unfold T.bad; rw [if_pos (.inl h0)]]
    go_enter Try.func10, Try.ntmps10
    go_wp2
    go_ret
    exact ⟨rfl, HB.out⟩
  by_cases h1 : 3 < a
  · rw [show T.bad ⟨a, b, c⟩ = 7 by unfold T.bad; rw [if_pos (.inr h1)]]
    go_enter Try.func10, Try.ntmps10
    go_wp2
    go_ret
    exact ⟨rfl, HB.out⟩
  have ea : T.bad ⟨a, b, c⟩ = if b < 0 ∨ 1024 < b ∨ c < 0 ∨ 1024 < c then 1 else 0 := by
    unfold T.bad
    rw [if_neg (fun k => k.elim h0 h1)]
  rw [ea]
  clear ea
  by_cases h2 : b < 0
  · rw [if_pos (.inl h2)]
    go_enter Try.func10, Try.ntmps10
    go_wp2
    go_ret
    exact ⟨rfl, HB.out⟩
  by_cases h3 : 1024 < b
  · rw [if_pos (.inr (.inl h3))]
    go_enter Try.func10, Try.ntmps10
    go_wp2
    go_ret
    exact ⟨rfl, HB.out⟩
  by_cases h4 : c < 0
  · rw [if_pos (.inr (.inr (.inl h4)))]
    go_enter Try.func10, Try.ntmps10
    go_wp2
    go_ret
    exact ⟨rfl, HB.out⟩
  by_cases h5 : 1024 < c
  · rw [if_pos (.inr (.inr (.inr h5)))]
    go_enter Try.func10, Try.ntmps10
    go_wp2
    go_ret
    exact ⟨rfl, HB.out⟩
  rw [if_neg (fun k => k.elim h2 fun k => k.elim h3 fun k => k.elim h4 h5)]
  go_enter Try.func10, Try.ntmps10
  go_wp2
  go_ret
  exact ⟨rfl, HB.out⟩
theorem good_take (l : List T) {k : Nat} (h : k < l.length) : good (l.take (k + 1)) = good (l.take k) ++ good [l.getD k default] := by
  rw [good_step l h, good_one]
set_option maxHeartbeats 1000000 in
theorem rgood_any (p : Option Addr) (n cap : Nat) (l : List T) (w : World) (hn : l.length = n) (hm : n * 24 ≤ 140737488355328) (hl : Has nof w p l) :
    Calls Try.prog 11 #[.slice p n cap] w fun e w' => ∃ v, e = .returned v ∧ Own w' w.heap.size v (good l) ∧ Bel w w' := by
  have HL := Lib.hid hl
  have HN := Lib.hid hn
  have HM := Lib.hid hm
  have hm2 : (n : Int) ≤ 6000000000000 := by omega
  clear hl hn hm
  go_enter Try.func11, Try.ntmps11
  go_wp2
  go_loopw [3, 4] (fun o v wr => ∃ m : Nat, v = .int .i64 m ∧ m ≤ n ∧ Own wr w.heap.size o (good (l.take m)) ∧ Bel w wr) (fun _ v _ => n - (intOf v).toNat)
  case atStart => exact ⟨0, rfl, by omega, Own.nil _ _, Bel.refl _⟩
  case round =>
    obtain ⟨m, rfl, hi, ho, hb⟩ := hrel
    have HO := Lib.hid ho
    have HB := Lib.hid hb
    clear ho hb
    by_cases h : m < n
    · obtain ⟨b, off, rfl, _, hr⟩ := HL.out.row (by have := HN.out; omega)
      obtain ⟨x, hx⟩ : ∃ x, l.getD m default = x := ⟨_, rfl⟩
      have HG := good_take l (k := m) (by have := HN.out; omega)
      have cx := (hr.off (fun e => e) HB.out) m (by have := HN.out; omega)
      rw [hx] at cx HG
      rw [good_one] at HG
      obtain ⟨x0, x1, x2⟩ := cx
      have HG := Lib.hid HG
      have HSL : Hid ((good (l.take m)).length ≤ m) := Lib.hid (Nat.le_trans (good_len _) (by simp; omega))
      have KW : Hid (∀ w', Calls Try.prog 10 #[.agg #[.int .i64 x.a, .int .i64 x.b, .int .i64 x.c]] w' fun e w'' => e = .returned (.int .i64 x.bad) ∧ Bel w' w'') := Lib.hid fun w' => wrong_any x w'
      clear hx hr
      by_cases hc : x.ok = true
      · have hbad := T.bad_of_ok hc
        rw [hbad] at KW
        rw [if_pos hc] at HG
        clear hbad
        go_wp2_with fail
        with_reducible refine (KW.out _).mono ?_
        rintro e w1 ⟨rfl, hb1⟩
        have x0 := hb1.cell x0
        have x1 := hb1.cell x1
        have x2 := hb1.cell x2
        have HB1 := Lib.hid (HB.out.trans hb1)
        have HO1 := Lib.hid (HO.out.bel hb1)
        clear hb1
        go_wp2_with (at_builtin; refine wpList_append_any rfl (.tmp 17) (.tmp 22) rfl w.heap.size _ (good (l.take m)) rfl (HO1.out.bel ((Bel.refl _).alloc _ _)) _ _ _ [x] rfl rfl (has_one _ _) (by have := HSL.out; have := HM.out; omega) (by have := HB1.out.size; simp; omega) ?_)
        intro v' w2 hown hgrow hnil
        have HO2 : Hid (Own w2 w.heap.size v' (good (List.take (m + 1) l))) := Lib.hid (by rw [HG.out]; exact hown)
        have HB2 : Hid (Bel w w2) := Lib.hid (Own.grown (HB1.out.alloc _ _) (HO1.out.bel ((Bel.refl _).alloc _ _)) (Nat.le_refl _) hgrow)
        clear hown hgrow hnil hc x0 x1 x2
        go_wp2
        go_roundw
        case rel => exact ⟨m + 1, by go_num, by omega, HO2.out, HB2.out⟩
        case measure => simp [intOf]; omega
      · have hbad := T.ok_no hc
        rw [if_neg hc, List.append_nil] at HG
        go_wp2_with fail
        with_reducible refine (KW.out _).mono ?_
        rintro e w1 ⟨rfl, hb1⟩
        have HB1 := Lib.hid (HB.out.trans hb1)
        have HO1 := Lib.hid (HO.out.bel hb1)
        clear hb1 x0 x1 x2
        go_wp2
        go_roundw
        case rel => exact ⟨m + 1, by go_num, by omega, by rw [HG.out]; exact HO1.out, HB1.out⟩
        case measure => simp [intOf]; omega
    · obtain rfl : m = n := by omega
      have HE : Hid (l.take m = l) := Lib.hid (List.take_of_length_le (by have := HN.out; omega))
      go_wp2
      go_ret
      have k := HO.out
      rw [HE.out] at k
      exact ⟨_, rfl, k, HB.out⟩
theorem rtotal_any (p : Option Addr) (n cap : Nat) (l : List T) (k : Int) (w : World) (hn : l.length = n) (hm : n ≤ 1000) (hl : Has nof w p l) (hok : AllOk l) :
    Calls Try.prog 15 #[.slice p n cap, .int .i64 k] w fun e w' => e = .returned (.int .i64 (tot k l)) ∧ w' = w := by
  have HL := Lib.hid hl
  have HN := Lib.hid hn
  have HK := Lib.hid hok
  clear hl hn hok
  go_enter Try.func15, Try.ntmps15
  go_wp2
  go_loopw [5, 6] (fun o v wr => ∃ m : Nat, v = .int .i64 m ∧ m ≤ n ∧ o = .int .i64 (tot k (l.take m)) ∧ wr = w) (fun _ v _ => n - (intOf v).toNat)
  case atStart => exact ⟨0, rfl, by omega, rfl, rfl⟩
  case round =>
    obtain ⟨m, rfl, hi, rfl, rfl⟩ := hrel
    by_cases h : m < n
    · obtain ⟨b, off, rfl, _, hr⟩ := HL.out.row (by have := HN.out; omega)
      obtain ⟨x, hx⟩ : ∃ x, l.getD m default = x := ⟨_, rfl⟩
      have cx := hr m (by have := HN.out; omega)
      have HG := take_step l (k := m) (by have := HN.out; omega)
      rw [hx] at cx HG
      obtain ⟨x0, x1, x2⟩ := cx
      have hxo := HK.out.get (i := m) (by have := HN.out; omega)
      rw [hx] at hxo
      have hxr := (T.ok_iff x).1 hxo
      have hs : tot k (l.take (m + 1)) = tot k (l.take m) + if x.a = k then x.b else 0 := by rw [HG, tot_snoc]
      have ht := tot_few (HK.out.take m) (by have := HN.out; simp; omega) k
      have HS := Lib.hid hs
      clear hs hx hr HG hxo
      generalize tot k (l.take m) = y at *
      obtain ⟨h1, h2, h3, h4, h5, h6⟩ := hxr
      clear h1 h2 h5 h6
      by_cases hk : x.a = k
      · have HS : Hid (tot k (l.take (m + 1)) = y + x.b) := Lib.hid (by rw [HS.out, if_pos hk])
        go_wp2
        go_roundw
        case rel => exact ⟨m + 1, by go_num, by omega, by rw [HS.out], by trivial⟩
        case measure => simp [intOf]; omega
      · have HS : Hid (tot k (l.take (m + 1)) = y) := Lib.hid (by rw [HS.out, if_neg hk, Int.add_zero])
        go_wp2
        go_roundw
        case rel => exact ⟨m + 1, by go_num, by omega, by rw [HS.out], by trivial⟩
        case measure => simp [intOf]; omega
    · obtain rfl : m = n := by omega
      have HE : Hid (tot k (l.take m) = tot k l) := Lib.hid (by rw [List.take_of_length_le (by have := HN.out; omega)])
      rw [HE.out]
      go_wp2
      go_ret
      exact ⟨rfl, rfl⟩
end Go.Proofs.Ytfplmleakgpkiaa
