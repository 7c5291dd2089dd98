/-
  Contract of chain's New.
-/
import Derived.Test.YtdoceldofkaapaaDoorXag
set_option linter.unusedVariables false
set_option linter.unusedSimpArgs false
namespace Go.Proofs.YtdoceldofkaapaaDoor
open Go.RowKit
theorem made94 (N : Nat) : madeCells (Value.agg #[.int .i64 0, .int .i64 0, .int .i64 0]).cells (N * 3) = (encR N (fun _ => ⟨0, 0, 0⟩)).toArray := by
  apply Array.toList_inj.1
  rw [List.toList_toArray]
  refine encR_ext (by unfold madeCells; simp) (fun i j hi hj => ?_)
  have hlt : i * 3 + j < N * 3 := by omega
  have hm : (i * 3 + j) % 3 = j := by omega
  unfold madeCells
  rw [Array.getElem?_toList, Array.getElem?_map, Array.getElem?_range]
  simp only [hlt, if_true, Option.map_some]
  obtain rfl | rfl | rfl : j = 0 ∨ j = 1 ∨ j = 2 := by omega
  all_goals simp [Value.cells, cel]
theorem make94 (N : Nat) (hN : N ≤ 2048) (w : World) : (Instr.makeSlice 101 (.int .i64 (N : Int)) (.int .i64 (N : Int))).run Tryd.prog w = .ok (.slice (some ⟨w.heap.size, 0, none⟩) N N) (w.alloc (.cells (encR N (fun _ => ⟨0, 0, 0⟩)).toArray 100)) := by
  obtain ⟨i, hi, hz, hs, hb⟩ := info_parts info100
  have h := run_make (P := Tryd.prog) w 101 100 i _ Tryd.underlying101 hi hz .i64 .i64 (N : Int) (N : Int) (by omega) (Int.le_refl _) (by rw [hb]; omega) (by omega)
  rw [hs, Int.toNat_natCast, made94] at h
  exact h
theorem new_no (P L : Int) (w : World) (h : ¬ (0 ≤ P ∧ P ≤ 1024 ∧ 0 ≤ L ∧ L ≤ 1024)) :
    Calls Tryd.prog 45 #[.int .i64 P, .int .i64 L] w fun e w' => e = .returned (.tuple #[.pointer none, .int .i64 1]) ∧ w = w' := by
  by_cases a0 : P < 0
  · go_enter Tryd.func45, Tryd.ntmps45
    go_wp2
    go_ret2
    exact ⟨rfl, rfl⟩
  · by_cases a1 : 1024 < P
    · go_enter Tryd.func45, Tryd.ntmps45
      go_wp2
      go_ret2
      exact ⟨rfl, rfl⟩
    · by_cases a2 : L < 0
      · go_enter Tryd.func45, Tryd.ntmps45
        go_wp2
        go_ret2
        exact ⟨rfl, rfl⟩
      · have a3 : 1024 < L := by omega
        clear h
        go_enter Tryd.func45, Tryd.ntmps45
        go_wp2
        go_ret2
        exact ⟨rfl, rfl⟩
/-- Chains with nothing in them. -/
structure NewG (P L : Nat) (g : Rg) : Prop where
  pl : ∀ k, k < P → g k = al0
  le : ∀ t, t < L → g (P + t) = ⟨(P + t : Nat), (P + t : Nat), t⟩
set_option maxHeartbeats 2000000 in
theorem new_yes (P L : Nat) (w : World) (hP : P ≤ 1024) (hL : L ≤ 1024) :
    Calls Tryd.prog 45 #[.int .i64 P, .int .i64 L] w fun e w' => ∃ B G g, e = .returned (.tuple #[.pointer (some ⟨B, 0, none⟩), .int .i64 0]) ∧ Chn w' B G P L g ∧ NewG P L g ∧ Bel w w' ∧ w.heap.size ≤ B ∧ w.heap.size ≤ G := by
  have a0 : ¬ (P : Int) < 0 := by omega
  have a1 : ¬ (1024 : Int) < P := by omega
  have a2 : ¬ (L : Int) < 0 := by omega
  have a3 : ¬ (1024 : Int) < L := by omega
  have hadd : (P : Int) + (L : Int) = ((P + L : Nat) : Int) := by omega
  have hmk := make94 (P + L) (by omega)
  have KC : Hid (Chn ((w.alloc (.cells (encR (P + L) (fun _ => ⟨0, 0, 0⟩)).toArray 100)).alloc (.cells #[.int .i64 P, .slice (some ⟨w.heap.size, 0, none⟩) (P + L) (P + L)] 103)) (w.heap.size + 1) w.heap.size P L (fun _ => ⟨0, 0, 0⟩)) := Lib.hid (by
    refine ⟨?_, ?_, by omega⟩
    · have h1 := heap_alloc_new (w.alloc (.cells (encR (P + L) (fun _ => ⟨0, 0, 0⟩)).toArray 100)) (.cells #[.int .i64 P, .slice (some ⟨w.heap.size, 0, none⟩) (P + L) (P + L)] 103)
      simpa using h1
    · rw [Below.heap_alloc _ _ _ (by simp), heap_alloc_new])
  have KB : Hid (Bel w ((w.alloc (.cells (encR (P + L) (fun _ => ⟨0, 0, 0⟩)).toArray 100)).alloc (.cells #[.int .i64 P, .slice (some ⟨w.heap.size, 0, none⟩) (P + L) (P + L)] 103))) := Lib.hid (((Bel.refl _).alloc _ _).alloc _ _)
  generalize hc : (encR (P + L) (fun _ => ⟨0, 0, 0⟩)).toArray = C0 at *
  clear hc
  obtain ⟨N, hN⟩ : ∃ N, P + L = N := ⟨_, rfl⟩
  rw [hN] at KC KB hmk hadd
  have HN := Lib.hid hN
  clear hN
  go_enter Tryd.func45, Tryd.ntmps45
  go_wp2
  generalize hW : (w.alloc (.cells C0 100)).alloc (.cells #[.int .i64 P, .slice (some ⟨w.heap.size, 0, none⟩) N N] 103) = W at *
  clear hW hmk hadd
  have HS := Lib.hid (show N ≤ 2048 by have := HN.out; omega)
  go_loopw [7, 32] (fun _ v wr => ∃ m g, v = .int .i64 (m : Nat) ∧ m ≤ P ∧ Chn wr (w.heap.size + 1) w.heap.size P L g ∧ (∀ k, k < m → g k = al0) ∧ Bel w wr) (fun _ v _ => P - (intOf v).toNat)
  case atStart => exact ⟨0, _, rfl, by omega, KC.out, fun k hk => by omega, KB.out⟩
  case round =>
    clear KC KB
    obtain ⟨m, g, rfl, hm, hC, hg, hb⟩ := hrel
    have HC := Lib.hid hC
    have HG := Lib.hid hg
    have HB := Lib.hid hb
    clear hC hg hb
    by_cases hlt : m < P
    · have hmN : m < N := by have := HN.out; omega
      have KX : Hid (∀ w', Bel wr w' → w'.cell? ⟨w.heap.size + 1, 1, none⟩ = some (.slice (some ⟨w.heap.size, 0, none⟩) N N) ∧ (w'.cell? ⟨w.heap.size, m * 3, none⟩ = some (.int .i64 (g m).ah) ∧ w'.cell? ⟨w.heap.size, m * 3 + 1, none⟩ = some (.int .i64 (g m).bh) ∧ w'.cell? ⟨w.heap.size, m * 3 + 2, none⟩ = some (.int .i64 (g m).li)) ∧ (w'.frozen? ⟨w.heap.size, m * 3, none⟩ = false ∧ w'.frozen? ⟨w.heap.size, m * 3 + 1, none⟩ = false ∧ w'.frozen? ⟨w.heap.size, m * 3 + 2, none⟩ = false)) :=
        Lib.hid (fun w' hb => by
          have h1 := HC.out.bel hb
          have h2 := h1.at (i := m) (by omega)
          have h3 := h1.head.2
          rw [HN.out] at h3
          exact ⟨h3, ⟨h2.1, h2.2.1, h2.2.2.1⟩, h2.2.2.2 _, h2.2.2.2 _, h2.2.2.2 _⟩)
      have KZ := Lib.hid (fun w' (hb : Bel wr w') => (HC.out.bel hb).putZ (i := m) (by omega))
      have HG2 : Hid (∀ k, k < m + 1 → upZ g m k = al0) := Lib.hid (fun k hk => by
        unfold upZ
        by_cases e : k = m
        · rw [if_pos e]
        · rw [if_neg e]; exact HG.out k (by omega))
      obtain ⟨c9, ⟨q0, q1, q2⟩, z0, z1, z2⟩ := KX.out _ (Bel.refl wr)
      have HD : Hid (Bel wr wr.drew) := Lib.hid (Bel.refl wr).drew
      generalize (g m).ah = y0 at *
      generalize (g m).bh = y1 at *
      generalize (g m).li = y2 at *
      generalize w.heap.size + 1 = B at *
      generalize hGe : w.heap.size = G at *
      have HGe := Lib.hid hGe
      clear hGe
      go_wp2
      go_region_with (go_at_call 62; (with_reducible refine (alone_any _).mono ?_); rintro e w9 ⟨rfl, hg1⟩; obtain ⟨c9, ⟨q0, q1, q2⟩, z0, z1, z2⟩ := KX.out _ (HD.out.trans hg1))
      all_goals
        go_wp2
        go_roundw
        case rel => exact ⟨m + 1, _, by go_num, by omega, (KZ.out _ (HD.out.trans (by assumption))).1, HG2.out, (Off.trans (HB.out.trans (HD.out.trans (by assumption))) (KZ.out _ (HD.out.trans (by assumption))).2 (fun i e => .inr (by have := HGe.out; unfold Only at e; omega)))⟩
        case measure => simp [intOf]; omega
    · obtain rfl : m = P := by omega
      clear hlt
      go_wp2
      go_loopw [8, 9, 44] (fun _ _ v w2 => ∃ t g, v = .int .i64 (t : Nat) ∧ t ≤ L ∧ Chn w2 (w.heap.size + 1) w.heap.size m L g ∧ (∀ k, k < m → g k = al0) ∧ (∀ s, s < t → g (m + s) = ⟨(m + s : Nat), (m + s : Nat), s⟩) ∧ Bel w w2) (fun _ _ v _ => L - (intOf v).toNat)
      case atStart => exact ⟨0, _, rfl, by omega, HC.out, HG.out, fun k hk => by omega, HB.out⟩
      case round =>
        clear HC HG HB
        obtain ⟨t, g, rfl, ht, hC, hg, hl, hb⟩ := hrel
        have HC := Lib.hid hC
        have HG := Lib.hid hg
        have HL := Lib.hid hl
        have HB := Lib.hid hb
        clear hC hg hl hb
        by_cases hlt : t < L
        · have htN : m + t < N := by have := HN.out; omega
          have KE := Lib.hid (end_any (w.heap.size + 1) m t wr HC.out.head.1 hP (by omega))
          have KL := Lib.hid (HC.out.putL (i := m + t) (by omega) t)
          have KJ := Lib.hid (fun w' (h : Chn w' (w.heap.size + 1) w.heap.size m L (upL g (m + t) t)) => join_any (w.heap.size + 1) w.heap.size m L _ (m + t) (m + t) w' h (by omega) (by omega) (by omega))
          have HG2 : Hid (∀ k, k < m → joinG (upL g (m + t) t) (m + t) (m + t) k = al0) := Lib.hid (fun k hk => by
            unfold joinG upA upB upL
            rw [if_neg (by omega), if_neg (by omega), if_neg (by omega)]
            exact HG.out k hk)
          have HL2 : Hid (∀ s, s < t + 1 → joinG (upL g (m + t) t) (m + t) (m + t) (m + s) = ⟨(m + s : Nat), (m + s : Nat), s⟩) := Lib.hid (fun s hs => by
            unfold joinG upA upB upL
            by_cases e : s = t
            · subst e; simp
            · rw [if_neg (by omega), if_neg (by omega), if_neg (by omega)]
              exact HL.out s (by omega))
          have c1 := HC.out.head.2
          rw [HN.out] at c1
          obtain ⟨_, _, q2, fz⟩ := HC.out.at (i := m + t) (by omega)
          have z2 := fz ((m + t) * 3 + 2)
          clear fz
          generalize (g (m + t)).li = y2 at *
          generalize m + t = E at *
          generalize w.heap.size + 1 = B at *
          generalize hGe : w.heap.size = G at *
          have HGe := Lib.hid hGe
          clear hGe
          go_wp2_with fail
          with_reducible refine (KE.out).mono ?_
          rintro e w1 ⟨rfl, rfl⟩
          go_upto_region 14 with (fail)
          generalize hW2 : wr.setCell ⟨G, E * 3 + 2, none⟩ (.int .i64 t) = W2 at *
          clear hW2
          go_wp2_with fail
          with_reducible refine (KJ.out _ KL.out.1).mono ?_
          rintro e w3 ⟨rfl, hc, ho⟩
          have HC3 := Lib.hid hc
          have HB3 : Hid (Bel w w3) := Lib.hid (Off.trans HB.out (KL.out.2.then ho) (fun i e => .inr (by have := HGe.out; unfold Only at e; omega)))
          clear hc ho
          go_wp2
          go_roundw
          case rel => exact ⟨t + 1, _, by go_num, by omega, HC3.out, HG2.out, HL2.out, HB3.out⟩
          case measure => simp [intOf]; omega
        · obtain rfl : t = L := by omega
          go_wp2
          go_ret2
          exact ⟨_, _, g, rfl, HC.out, ⟨HG.out, HL.out⟩, HB.out, by omega, Nat.le_refl _⟩
end Go.Proofs.YtdoceldofkaapaaDoor
