/-
  Contracts of slices.IsSortedFunc at timers, and of order.Sorted.
-/
import Derived.Test.YtdlfppdekllloaaActs
import Derived.Test.YtdlfppdekllloaaCmp
set_option linter.unusedVariables false
set_option linter.unusedSimpArgs false
namespace Go.Proofs.Ytdlfppdekllloaa
open Go.RowKit
set_option maxHeartbeats 1000000 in
theorem isSorted_any (p : Option Addr) (n cap : Nat) (l : List T) (w : World) (hn : l.length = n) (hm : n ≤ 5000) (hl : Has w p l) :
    Calls Try.prog 61 #[.slice p n cap, .func (.func 38) #[] #[]] w fun e w' => e = .returned (.bool (so l)) ∧ Bel w w' := by
  have HL := Lib.hid hl
  have HN := Lib.hid hn
  clear hl hn
  go_enter Try.func61, Try.ntmps61
  go_wp2
  go_loopw [5] (fun v wr => ∃ i : Int, v = .int .i64 i ∧ -1 ≤ i ∧ i < n ∧ Bel w wr ∧ ∀ j : Nat, i ≤ j → j + 1 < n → lt (l.getD (j + 1) default) (l.getD j default) = false) (fun v _ => (intOf v).toNat)
  case atStart => exact ⟨_, rfl, by omega, by omega, Bel.refl _, fun j h1 h2 => by omega⟩
  case round =>
    obtain ⟨i, rfl, hi0, hi1, hb, hall⟩ := hrel
    have HB := Lib.hid hb
    have HA := Lib.hid hall
    clear hb hall
    by_cases h : 0 < i
    · obtain ⟨m, rfl⟩ : ∃ m : Nat, i = (m : Int) + 1 := ⟨(i - 1).toNat, by omega⟩
      obtain ⟨b, off, rfl, hr⟩ := HL.out.row (by have := HN.out; omega)
      obtain ⟨x, hx⟩ : ∃ x, l.getD (m + 1) default = x := ⟨_, rfl⟩
      obtain ⟨y, hy⟩ : ∃ y, l.getD m default = y := ⟨_, rfl⟩
      have cx := (hr.bel HB.out) (m + 1) (by have := HN.out; omega)
      have cy := (hr.bel HB.out) m (by have := HN.out; omega)
      rw [hx] at cx
      rw [hy] at cy
      obtain ⟨x0, x1, x2⟩ := cx
      obtain ⟨y0, y1, y2⟩ := cy
      have HX := Lib.hid hx
      have HY := Lib.hid hy
      clear hx hy hr
      have w1 : IntKind.i64.wrap ((m : Int) + 1 - 1) = m := by rw [show (m : Int) + 1 - 1 = m by omega]; exact i64_in _ (by omega) (by omega)
      have w2 : IntKind.i64.wrap (m : Int) = m := i64_in _ (by omega) (by omega)
      have b0 : (0 : Int) ≤ (m : Int) := by omega
      have b1 : (m : Int) < (n : Int) := by omega
      have b2 : (0 : Int) ≤ (m : Int) + 1 := by omega
      by_cases hc : cf x y < 0
      · go_wp2
        go_region_held3 (fun w' => w'.cell? ⟨b, off + (m + 1) * 3, none⟩ = some (.int .u64 x.a) ∧ w'.cell? ⟨b, off + (m + 1) * 3 + 1, none⟩ = some (.int .u64 x.s) ∧ w'.cell? ⟨b, off + (m + 1) * 3 + 2, none⟩ = some (.int .i64 x.p) ∧
            w'.cell? ⟨b, off + m * 3, none⟩ = some (.int .u64 y.a) ∧ w'.cell? ⟨b, off + m * 3 + 1, none⟩ = some (.int .u64 y.s) ∧ w'.cell? ⟨b, off + m * 3 + 2, none⟩ = some (.int .i64 y.p)) (first | exact ⟨x0, x1, x2, y0, y1, y2⟩ | exact ⟨hg1.cell x0, hg1.cell x1, hg1.cell x2, hg1.cell y0, hg1.cell y1, hg1.cell y2⟩)
          (first | (go_at_call 38; refine (compare_any x y _).mono ?_; rintro e w1 ⟨rfl, hg1⟩))
        go_wp2
        go_ret
        refine ⟨ret_bool ?_, HB.out.trans ((Bel.refl _).drew.trans hg1)⟩
        cases e : so l with
        | false => rfl
        | true =>
          have k := (so_places l).1 e m (by have := HN.out; omega)
          rw [HX.out, HY.out] at k
          unfold lt at k
          simp at k
          omega
      · go_wp2
        go_region_held3 (fun w' => w'.cell? ⟨b, off + (m + 1) * 3, none⟩ = some (.int .u64 x.a) ∧ w'.cell? ⟨b, off + (m + 1) * 3 + 1, none⟩ = some (.int .u64 x.s) ∧ w'.cell? ⟨b, off + (m + 1) * 3 + 2, none⟩ = some (.int .i64 x.p) ∧
            w'.cell? ⟨b, off + m * 3, none⟩ = some (.int .u64 y.a) ∧ w'.cell? ⟨b, off + m * 3 + 1, none⟩ = some (.int .u64 y.s) ∧ w'.cell? ⟨b, off + m * 3 + 2, none⟩ = some (.int .i64 y.p)) (first | exact ⟨x0, x1, x2, y0, y1, y2⟩ | exact ⟨hg1.cell x0, hg1.cell x1, hg1.cell x2, hg1.cell y0, hg1.cell y1, hg1.cell y2⟩)
          (first | (go_at_call 38; refine (compare_any x y _).mono ?_; rintro e w1 ⟨rfl, hg1⟩))
        go_wp2
        go_roundw
        case rel =>
          refine ⟨m, by go_num, by omega, by omega, HB.out.trans ((Bel.refl _).drew.trans hg1), fun j h1 h2 => ?_⟩
          by_cases hj : j = m
          · subst hj
            rw [HX.out, HY.out]
            unfold lt
            simp
            omega
          · exact HA.out j (by omega) h2
        case measure => simp [intOf]
    · go_wp2
      go_ret
      refine ⟨ret_bool ?_, HB.out⟩
      symm
      rw [so_places]
      intro j hj
      exact HA.out j (by omega) (by have := HN.out; omega)
theorem sorted_any (p : Option Addr) (n cap : Nat) (l : List T) (w : World) (hn : l.length = n) (hm : n ≤ 5000) (hl : Has w p l) :
    Calls Try.prog 47 #[.slice p n cap] w fun e w' => e = .returned (.bool (so l)) ∧ Bel w w' := by
  have K := Lib.hid (isSorted_any p n cap l w hn hm hl)
  clear hl hn
  go_enter Try.func47, Try.ntmps47
  go_wp2_with fail
  with_reducible refine (K.out).mono ?_
  rintro e w' ⟨rfl, hb⟩
  go_wp2
  go_ret
  exact ⟨rfl, hb⟩
end Go.Proofs.Ytdlfppdekllloaa
