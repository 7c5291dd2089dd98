/-
  Contracts of the document's Put, Sort and Due, and of order's fresh.
-/
import Derived.Test.YtdlfppdekllloaaRref
set_option linter.unusedVariables false
set_option linter.unusedSimpArgs false
namespace Go.Proofs.Ytdlfppdekllloaa
open Go.RowKit
theorem has_one (w : World) (t : T) : Has (w.alloc (.cells #[.int .u64 t.a, .int .u64 t.s, .int .i64 t.p] 35)) (some ⟨w.heap.size, 0, none⟩) [t] := by
  refine .inr ⟨_, _, rfl, fun i hi => ?_⟩
  obtain rfl : i = 0 := by simp at hi; exact hi
  simp [go_sem]
theorem own_one (w : World) (t : T) (base : Nat) (hb : base ≤ w.heap.size) : OwnT (w.alloc (.cells #[.int .u64 t.a, .int .u64 t.s, .int .i64 t.p] 35)) base (.slice (some ⟨w.heap.size, 0, none⟩) 1 1) [t] :=
  World.ownsRow_lit w #[.int .u64 t.a, .int .u64 t.s, .int .i64 t.p] 1 hb (by simp [maxLen]) rfl
set_option maxHeartbeats 1000000 in
theorem rput_any (p : Option Addr) (n cap : Nat) (l : List T) (t : T) (w : World) (hn : l.length = n) (hm : n ≤ 5000) (hcap : n ≤ cap) (hl : Has w p l) :
    Calls Try.prog 39 #[.slice p n cap, .agg #[.int .u64 t.a, .int .u64 t.s, .int .i64 t.p]] w fun e w' => OutN w w' e (put l t) ∧ Bel w w' := by
  have HL := Lib.hid hl
  have HN := Lib.hid hn
  clear hl hn
  go_enter Try.func39, Try.ntmps39
  go_wp2_with fail
  with_reducible refine (rfind_any p n cap l t _ HN.out hm (HL.out.bel ((Bel.refl _).alloc _ _))).mono ?_
  rintro e w1 ⟨rfl, hb⟩
  have hle : cnt l t ≤ n := by rw [← HN.out]; exact cnt_le l t
  have y0 : w1.cell? ⟨w.heap.size, 0, none⟩ = some (.int .u64 t.a) := hb.cell (by simp [go_sem])
  have y1 : w1.cell? ⟨w.heap.size, 1, none⟩ = some (.int .u64 t.s) := hb.cell (by simp [go_sem])
  have y2 : w1.cell? ⟨w.heap.size, 2, none⟩ = some (.int .i64 t.p) := hb.cell (by simp [go_sem])
  have HB : Hid (Bel w w1) := Lib.hid (((Bel.refl _).alloc _ _).trans hb)
  clear hb
  obtain ⟨c, hc⟩ : ∃ c, cnt l t = c := ⟨_, rfl⟩
  rw [hc] at hle ⊢
  have HC := Lib.hid hc
  clear hc
  have ht : (l.take c).length = c := by have := HN.out; simp; omega
  have hd : (l.drop c).length = n - c := by have := HN.out; simp; omega
  have HT := Lib.hid ht
  have HD := Lib.hid hd
  clear ht hd
  go_wp2_with (at_builtin; refine wpList_append_any rfl (.tmp 10) (.tmp 13) rfl w1.heap.size _ [] rfl (OwnT.empty _ _ (Nat.le_refl _)) _ _ _ (l.take c) rfl HT.out ((HL.out.bel (HB.out.alloc _ _)).take c) (by simp; omega) (by simp) ?_)
  intro v2 w2 hown hgrow hnil
  have HO := Lib.hid hown
  have HB2 : Hid (Bel w1 w2) := Lib.hid (OwnT.grown ((Bel.refl w1).alloc #[] 35) (OwnT.empty w1 w1.heap.size (Nat.le_refl _)) (by simp) hgrow)
  have y0 := HB2.out.cell y0
  have y1 := HB2.out.cell y1
  have y2 := HB2.out.cell y2
  clear hown hgrow hnil
  go_wp2_with (at_builtin; refine wpList_append_any rfl (.tmp 15) (.tmp 17) rfl w1.heap.size _ (l.take c) rfl (HO.out.bel ((Bel.refl _).alloc _ _)) _ _ _ [t] rfl rfl (has_one _ _) (by have := HT.out; omega) (by have := HB2.out.size; simp; omega) ?_)
  intro v3 w3 hown hgrow hnil
  have HO3 := Lib.hid hown
  have HB3 : Hid (Bel w1 w3) := Lib.hid (OwnT.grown (HB2.out.alloc _ _) (HO.out.bel ((Bel.refl _).alloc _ _)) (by have := HB2.out.size; simp; omega) hgrow)
  clear hown hgrow hnil
  go_wp2_with (at_builtin; refine wpList_append_any rfl (.tmp 19) (.tmp 22) rfl w1.heap.size _ (l.take c ++ [t]) rfl HO3.out _ _ _ (l.drop c) rfl HD.out ((HL.out.bel (HB.out.trans HB3.out)).cut HN.out hcap c) (by have := HT.out; simp; omega) HB3.out.size ?_)
  all_goals
    intro v4 w4 hown hgrow hnil
    have HO4 := Lib.hid hown
    have HB4 : Hid (Bel w1 w4) := Lib.hid (OwnT.grown HB3.out HO3.out HB3.out.size hgrow)
    clear hown hgrow hnil
    go_wp2
    go_ret
    refine ⟨?_, HB.out.trans HB4.out⟩
    have k := HO4.out.outN (w := w) HB.out.size
    unfold put
    rw [HC.out]
    simpa using k
theorem due_take (l : List T) (now : Int) (d : Bool) (k : Nat) (h : k < l.length) : due (l.take (k + 1)) now d = due (l.take k) now d ++ (if decide ((l.getD k default).a ≤ now) == d then [l.getD k default] else []) := by
  unfold due
  rw [List.take_succ_eq_append_getElem h, List.filter_append]
  have e : l.getD k default = l[k] := by simp [List.getD_eq_getElem?_getD, List.getElem?_eq_getElem h]
  rw [e]
  simp [List.filter_cons]
theorem due_len (l : List T) (now : Int) (d : Bool) : (due l now d).length ≤ l.length := List.length_filter_le _ _
set_option maxHeartbeats 1000000 in
theorem rdue_any (p : Option Addr) (n cap : Nat) (l : List T) (now : Int) (d : Bool) (w : World) (hn : l.length = n) (hm : n ≤ 5000) (hl : Has w p l) :
    Calls Try.prog 54 #[.slice p n cap, .int .u64 now, .bool d] w fun e w' => OutN w w' e (due l now d) ∧ Bel w w' := by
  have HL := Lib.hid hl
  have HN := Lib.hid hn
  clear hl hn
  go_enter Try.func54, Try.ntmps54
  go_wp2
  go_loopw [7, 8] (fun o v wr => ∃ m : Nat, v = .int .i64 m ∧ m ≤ n ∧ OwnT wr w.heap.size o (due (l.take m) now d) ∧ Bel w wr) (fun _ v _ => n - (intOf v).toNat)
  case atStart => exact ⟨0, rfl, by omega, OwnT.nil _ _, Bel.refl _⟩
  case round =>
    obtain ⟨m, rfl, hi, ho, hb⟩ := hrel
    have HO := Lib.hid ho
    have HB := Lib.hid hb
    clear ho hb
    by_cases h : m < n
    · obtain ⟨b, off, rfl, hr⟩ := HL.out.row (by have := HN.out; omega)
      obtain ⟨x, hx⟩ : ∃ x, l.getD m default = x := ⟨_, rfl⟩
      have cx := (hr.bel HB.out) m (by have := HN.out; omega)
      rw [hx] at cx
      obtain ⟨x0, x1, x2⟩ := cx
      have HS := Lib.hid (due_take l now d m (by have := HN.out; omega))
      rw [hx] at HS
      clear hx hr
      have HSL : Hid ((due (l.take m) now d).length ≤ m) := Lib.hid (Nat.le_trans (due_len _ _ _) (by simp; omega))
      by_cases hc : (decide (x.a ≤ now) == d) = true
      · go_wp2_with (at_builtin; refine wpList_append_any rfl (.tmp 24) (.tmp 29) rfl w.heap.size _ (due (l.take m) now d) rfl (HO.out.bel ((Bel.refl _).alloc _ _)) _ _ _ [x] rfl rfl (has_one _ _) (by have := HSL.out; omega) (by have := HB.out.size; simp; omega) ?_)
        intro v' w1 hown hgrow hnil
        have HE : Hid (due (List.take (m + 1) l) now d = due (List.take m l) now d ++ [x]) := Lib.hid (by rw [HS.out, if_pos hc])
        have HO2 : Hid (OwnT w1 w.heap.size v' (due (List.take (m + 1) l) now d)) := Lib.hid (by rw [HE.out]; exact hown)
        have HB2 : Hid (Bel w w1) := Lib.hid (OwnT.grown (HB.out.alloc _ _) (HO.out.bel ((Bel.refl _).alloc _ _)) (by have := HB.out.size; simp; omega) hgrow)
        clear hown hgrow hnil hc x0 x1 x2
        go_wp2
        go_roundw
        case rel => exact ⟨m + 1, by go_num, by omega, HO2.out, HB2.out⟩
        case measure => simp [intOf]; omega
      · have HE : Hid (due (List.take (m + 1) l) now d = due (List.take m l) now d) := Lib.hid (by rw [HS.out, if_neg hc, List.append_nil])
        have hc : (decide (x.a ≤ now) == d) = false := by simpa using hc
        go_wp2
        go_roundw
        case rel => exact ⟨m + 1, by go_num, by omega, by rw [HE.out]; exact HO.out, HB.out⟩
        case measure => simp [intOf]; omega
    · obtain rfl : m = n := by omega
      have HE : Hid (l.take m = l) := Lib.hid (List.take_of_length_le (by have := HN.out; omega))
      go_wp2
      go_ret
      have k := HO.out.outN (w := w) (Nat.le_refl _)
      rw [HE.out] at k
      exact ⟨k, HB.out⟩
end Go.Proofs.Ytdlfppdekllloaa
