/-
  Contracts of the document's without, Insert, Cancel, Move and Due.
-/
import Derived.Test.YtllohpojajijjaaGreatDoorDoc
set_option linter.unusedVariables false
set_option linter.unusedSimpArgs false
namespace Go.Proofs.YtllohpojajijjaaGreatDoor
open Go.RowKit
theorem wo_take (l : List T) (k : Int) (m : Nat) (h : m < l.length) : wo (l.take (m + 1)) k = wo (l.take m) k ++ (if (l.getD m default).p = k then [] else [l.getD m default]) := by
  unfold wo
  rw [List.take_succ_eq_append_getElem h, List.filter_append]
  have e : l.getD m default = l[m] := by simp [List.getD_eq_getElem?_getD, List.getElem?_eq_getElem h]
  rw [e]
  by_cases hk : l[m].p = k <;> simp [hk]
theorem wo_len (l : List T) (k : Int) : (wo l k).length ≤ l.length := List.length_filter_le _ _
set_option maxHeartbeats 1000000 in
theorem dwo_any (P : Int) (p : Option Addr) (n c : Nat) (l : List T) (k : Int) (w : World) (hn : l.length = n) (hm : n ≤ 5000) (hl : Has w p l) :
    Calls Tryz.prog 67 #[.agg #[.int .i64 P, .slice p n c], .int .i64 k] w fun e w' => ∃ p' c', e = .returned (.agg #[.int .i64 P, .slice p' (wo l k).length c']) ∧ (wo l k).length ≤ c' ∧ Lies (old w) w' p' (encs (wo l k)) ∧ Bel w w' := by
  have HB0 : Hid (Bel w ((w.alloc (.cells #[.int .i64 P, .slice p n c] 31)).alloc (.cells #[.int .i64 0, .slice none 0 0] 31))) := Lib.hid (((Bel.refl _).alloc _ _).alloc _ _)
  have HN0 : Hid (((w.alloc (.cells #[.int .i64 P, .slice p n c] 31)).alloc (.cells #[.int .i64 0, .slice none 0 0] 31)).heap[w.heap.size]? = some (.cells #[.int .i64 P, .slice p n c] 31 (0, 0))) := Lib.hid (by rw [Below.heap_alloc _ _ _ (by simp), heap_alloc_new])
  have HN1 : Hid (((w.alloc (.cells #[.int .i64 P, .slice p n c] 31)).alloc (.cells #[.int .i64 0, .slice none 0 0] 31)).heap[w.heap.size + 1]? = some (.cells #[.int .i64 0, .slice none 0 0] 31 (0, 0))) := Lib.hid (by
    have := heap_alloc_new (w.alloc (.cells #[.int .i64 P, .slice p n c] 31)) (.cells #[.int .i64 0, .slice none 0 0] 31)
    simpa using this)
  have HL := Lib.hid hl
  have HNn := Lib.hid hn
  clear hl hn
  go_enter Tryz.func67, Tryz.ntmps67
  go_upto_region 1 with (fail)
  generalize (w.alloc (.cells #[.int .i64 P, .slice p n c] 31)).alloc (.cells #[.int .i64 0, .slice none 0 0] 31) = W at *
  obtain ⟨e1, he1⟩ : ∃ b, w.heap.size + 1 = b := ⟨_, rfl⟩
  have hle1 : w.heap.size ≤ e1 := by omega
  have hne1 : ¬ e1 = w.heap.size := by omega
  rw [he1] at HN1 ⊢
  clear he1
  have lW0 : w.heap.size < W.heap.size := (Array.getElem?_eq_some_iff.1 HN0.out).1
  have lW1 : e1 < W.heap.size := (Array.getElem?_eq_some_iff.1 HN1.out).1
  have HLW := Lib.hid (HL.out.bel HB0.out)
  clear HL
  go_wp2
  go_loopw [5, 6] (fun o v wr => ∃ m : Nat, v = .int .i64 m ∧ m ≤ n ∧ OwnT wr W.heap.size o (wo (l.take m) k) ∧ Bel W wr) (fun _ v _ => n - (intOf v).toNat)
  case atStart => exact ⟨0, rfl, by omega, OwnT.nil _ _, Bel.refl _⟩
  case round =>
    obtain ⟨m, rfl, hi, ho, hb⟩ := hrel
    have HO := Lib.hid ho
    have HB := Lib.hid hb
    obtain ⟨⟨q0, q1⟩, _⟩ := box2 (hb.heap HN0.out)
    obtain ⟨⟨b0, b1⟩, f0, f1⟩ := box2 (hb.heap HN1.out)
    have hsz := hb.size
    clear ho hb
    by_cases h : m < n
    · obtain ⟨b, off, rfl, hr⟩ := HLW.out.row (by have := HNn.out; omega)
      obtain ⟨x, hx⟩ : ∃ x, l.getD m default = x := ⟨_, rfl⟩
      have cx := (hr.bel HB.out) m (by have := HNn.out; omega)
      rw [hx] at cx
      obtain ⟨x0, x1, x2⟩ := cx
      have HS := Lib.hid (wo_take l k m (by have := HNn.out; omega))
      rw [hx] at HS
      clear hx hr b0 b1 f0 f1
      have HSL : Hid ((wo (l.take m) k).length ≤ m) := Lib.hid (Nat.le_trans (wo_len _ _) (by simp; omega))
      by_cases hk : x.p = k
      · have HE : Hid (wo (List.take (m + 1) l) k = wo (List.take m l) k) := Lib.hid (by rw [HS.out, if_pos hk, List.append_nil])
        have hk2 : (x.p == k) = true := by simpa using hk
        clear hk
        go_wp2
        go_roundw
        case rel => exact ⟨m + 1, by go_num, by omega, by rw [HE.out]; exact HO.out, HB.out⟩
        case measure => simp [intOf]; omega
      · have HE : Hid (wo (List.take (m + 1) l) k = wo (List.take m l) k ++ [x]) := Lib.hid (by rw [HS.out, if_neg hk])
        have hk2 : (x.p == k) = false := by simpa using hk
        clear hk
        go_wp2_with (at_builtin; refine wpList_append_any rfl (.tmp 22) (.tmp 28) rfl W.heap.size _ (wo (l.take m) k) rfl (HO.out.bel ((Bel.refl _).alloc _ _)) _ _ _ [x] rfl rfl (has_one _ _) (by have := HSL.out; omega) (by simp; omega) ?_)
        intro v' w1 hown hgrow hnil
        have HO2 : Hid (OwnT w1 W.heap.size v' (wo (List.take (m + 1) l) k)) := Lib.hid (by rw [HE.out]; exact hown)
        have HB2 : Hid (Bel W w1) := Lib.hid (OwnT.grown (HB.out.alloc _ _) (HO.out.bel ((Bel.refl _).alloc _ _)) (by simp; omega) hgrow)
        clear hown hgrow hnil x0 x1 x2
        go_wp2
        go_roundw
        case rel => exact ⟨m + 1, by go_num, by omega, HO2.out, HB2.out⟩
        case measure => simp [intOf]; omega
    · obtain rfl : m = n := by omega
      have HE : Hid (l.take m = l) := Lib.hid (List.take_of_length_le (by have := HNn.out; omega))
      obtain ⟨p', c', rfl, hc', hl'⟩ := HO.out.lies (w := w) HB0.out.size
      rw [HE.out] at hc' hl' ⊢
      have o2 := off2 wr e1 (.int .i64 P) (.slice p' (wo l k).length c')
      have HZ : Hid (Lies (old w) ((wr.setCell ⟨e1, 0, none⟩ (.int .i64 P)).setCell ⟨e1, 1, none⟩ (.slice p' (wo l k).length c')) p' (encs (wo l k)) ∧ Bel w ((wr.setCell ⟨e1, 0, none⟩ (.int .i64 P)).setCell ⟨e1, 1, none⟩ (.slice p' (wo l k).length c'))) := Lib.hid (by
        refine ⟨?_, Off.trans (HB0.out.trans HB.out) o2 (fun i e => .inr (by omega))⟩
        have hl3 : Lies (old W) wr p' (encs (wo l k)) := by
          obtain ⟨p3, c3, e3, _, h3⟩ := HO.out.lies (w := W) (Nat.le_refl _)
          rw [HE.out] at e3 h3
          injection e3 with e4
          rw [e4]
          exact h3
        have hl4 := (hl3.off (o2.mono (g := old W) (fun i _ e => by unfold old; omega)) (fun i e => e))
        exact hl4.mono (fun b _ e => Nat.lt_of_lt_of_le e HB0.out.size))
      have HC := Lib.hid hc'
      clear hc' hl' o2
      go_wp2
      exact bodyPost_ret (v := .agg #[.int .i64 P, .slice p' (wo l k).length c']) (by simp [results, Tryz.results67, go_sem, b0, b1]) rfl ⟨p', c', rfl, HC.out, HZ.out⟩
end Go.Proofs.YtllohpojajijjaaGreatDoor
