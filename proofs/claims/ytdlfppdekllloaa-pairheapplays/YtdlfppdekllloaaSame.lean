/-
  Contract of the document's Same.
-/
import Derived.Test.YtdlfppdekllloaaCmp
set_option linter.unusedVariables false
set_option linter.unusedSimpArgs false
namespace Go.Proofs.Ytdlfppdekllloaa
open Go.RowKit
theorem same_len (p q : Option Addr) (n m cap c : Nat) (w : World) (h : n ≠ m) :
    Calls Try.prog 23 #[.slice p n cap, .slice q m c] w fun e w' => e = .returned (.bool false) ∧ Bel w w' := by
  have h : ((n : Int) == (m : Int)) = false := by simp; omega
  go_enter Try.func23, Try.ntmps23
  go_wp2
  go_ret
  exact ⟨rfl, Bel.refl _⟩
set_option maxHeartbeats 1000000 in
theorem same_any (p q : Option Addr) (n cap c : Nat) (l k : List T) (w : World) (hn : l.length = n) (hk : k.length = n) (hm : n ≤ 5000) (hl : Has w p l) (hq : Has w q k) :
    Calls Try.prog 23 #[.slice p n cap, .slice q n c] w fun e w' => e = .returned (.bool (decide (l = k))) ∧ Bel w w' := by
  have HL := Lib.hid hl
  have HN := Lib.hid hn
  have HQ := Lib.hid hq
  have HK := Lib.hid hk
  clear hl hn hq hk
  go_enter Try.func23, Try.ntmps23
  go_wp2
  go_loopw [5] (fun v wr => ∃ i : Nat, v = .int .i64 i ∧ i ≤ n ∧ Bel w wr ∧ ∀ j : Nat, j < i → l.getD j default = k.getD j default) (fun v _ => n - (intOf v).toNat)
  case atStart => exact ⟨0, rfl, by omega, Bel.refl _, fun j h => by omega⟩
  case round =>
    obtain ⟨i, rfl, hi, hb, hall⟩ := hrel
    have HB := Lib.hid hb
    have HA := Lib.hid hall
    clear hb hall
    by_cases h : i < n
    · obtain ⟨b, off, rfl, hr⟩ := HL.out.row (by have := HN.out; omega)
      obtain ⟨b2, off2, rfl, hr2⟩ := HQ.out.row (by have := HK.out; omega)
      obtain ⟨x, hx⟩ : ∃ x, l.getD i default = x := ⟨_, rfl⟩
      obtain ⟨y, hy⟩ : ∃ y, k.getD i default = y := ⟨_, rfl⟩
      have cx := (hr.bel HB.out) i (by have := HN.out; omega)
      have cy := (hr2.bel HB.out) i (by have := HK.out; omega)
      rw [hx] at cx
      rw [hy] at cy
      obtain ⟨x0, x1, x2⟩ := cx
      obtain ⟨y0, y1, y2⟩ := cy
      have HX := Lib.hid hx
      have HY := Lib.hid hy
      clear hx hy hr hr2
      by_cases hxy : x = y
      · have hE := neq_no x y hxy
        have HXY := Lib.hid hxy
        clear hxy
        go_wp2
        go_region_held3 (fun w' => w'.cell? ⟨b, off + i * 3, none⟩ = some (.int .u64 x.a) ∧ w'.cell? ⟨b, off + i * 3 + 1, none⟩ = some (.int .u64 x.s) ∧ w'.cell? ⟨b, off + i * 3 + 2, none⟩ = some (.int .i64 x.p) ∧
              w'.cell? ⟨b2, off2 + i * 3, none⟩ = some (.int .u64 y.a) ∧ w'.cell? ⟨b2, off2 + i * 3 + 1, none⟩ = some (.int .u64 y.s) ∧ w'.cell? ⟨b2, off2 + i * 3 + 2, none⟩ = some (.int .i64 y.p)) (exact ⟨x0, x1, x2, y0, y1, y2⟩) (fail)
        go_wp2
        go_roundw
        case rel =>
          refine ⟨i + 1, by go_num, by omega, HB.out.drew, fun j hj => ?_⟩
          by_cases e : j = i
          · subst e; rw [HX.out, HY.out, HXY.out]
          · exact HA.out j (by omega)
        case measure => simp [intOf]; omega
      · have hE := neq_yes x y hxy
        have HXY := Lib.hid hxy
        clear hxy
        go_wp2
        go_region_held3 (fun w' => w'.cell? ⟨b, off + i * 3, none⟩ = some (.int .u64 x.a) ∧ w'.cell? ⟨b, off + i * 3 + 1, none⟩ = some (.int .u64 x.s) ∧ w'.cell? ⟨b, off + i * 3 + 2, none⟩ = some (.int .i64 x.p) ∧
              w'.cell? ⟨b2, off2 + i * 3, none⟩ = some (.int .u64 y.a) ∧ w'.cell? ⟨b2, off2 + i * 3 + 1, none⟩ = some (.int .u64 y.s) ∧ w'.cell? ⟨b2, off2 + i * 3 + 2, none⟩ = some (.int .i64 y.p)) (exact ⟨x0, x1, x2, y0, y1, y2⟩) (fail)
        go_wp2
        go_ret
        refine ⟨ret_bool ?_, HB.out.drew⟩
        symm
        rw [decide_eq_false_iff_not]
        rintro rfl
        exact HXY.out (by rw [← HX.out, ← HY.out])
    · go_wp2
      go_ret
      refine ⟨ret_bool ?_, HB.out⟩
      symm
      rw [decide_eq_true_iff]
      refine List.ext_getElem (by rw [HN.out, HK.out]) fun j h1 h2 => ?_
      have e := HA.out j (by have := HN.out; omega)
      simpa [List.getD_eq_getElem?_getD, List.getElem?_eq_getElem h1, List.getElem?_eq_getElem h2] using e
end Go.Proofs.Ytdlfppdekllloaa
