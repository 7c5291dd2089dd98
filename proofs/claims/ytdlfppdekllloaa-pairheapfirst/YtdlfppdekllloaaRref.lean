/-
  Contracts of the document's Sorted and Find.
-/
import Derived.Test.YtdlfppdekllloaaCmp
set_option linter.unusedVariables false
set_option linter.unusedSimpArgs false
namespace Go.Proofs.Ytdlfppdekllloaa
open Go.RowKit
theorem cnt_step (l : List T) (t : T) (k : Nat) (h : k < l.length) : cnt (l.take (k + 1)) t = cnt (l.take k) t + (if lt (l.getD k default) t = true then 1 else 0) := by
  unfold cnt
  rw [List.take_succ_eq_append_getElem h, List.countP_append]
  congr 1
  have e : l.getD k default = l[k] := by simp [List.getD_eq_getElem?_getD, List.getElem?_eq_getElem h]
  rw [e, List.countP_cons, List.countP_nil]
  simp
/-- What holds at each round's head of Find. -/
def FindAt (w : World) (t : T) (wr : World) : Prop :=
  Bel w wr ∧ wr.cell? ⟨w.heap.size, 0, none⟩ = some (.int .u64 t.a) ∧ wr.cell? ⟨w.heap.size, 1, none⟩ = some (.int .u64 t.s) ∧ wr.cell? ⟨w.heap.size, 2, none⟩ = some (.int .i64 t.p)
theorem FindAt.later {w wr w1 : World} {t : T} (h : FindAt w t wr) (hb : Bel wr w1) : FindAt w t w1 :=
  ⟨h.1.trans hb, hb.cell h.2.1, hb.cell h.2.2.1, hb.cell h.2.2.2⟩
set_option maxHeartbeats 1000000 in
theorem rfind_any (p : Option Addr) (n cap : Nat) (l : List T) (t : T) (w : World) (hn : l.length = n) (hm : n ≤ 5000) (hl : Has w p l) :
    Calls Try.prog 59 #[.slice p n cap, .agg #[.int .u64 t.a, .int .u64 t.s, .int .i64 t.p]] w fun e w' => e = .returned (.int .i64 (cnt l t)) ∧ Bel w w' := by
  have HL := Lib.hid hl
  have HN := Lib.hid hn
  clear hl hn
  go_enter Try.func59, Try.ntmps59
  go_wp2
  go_loopw [5, 6] (fun c v wr => ∃ m : Nat, v = .int .i64 m ∧ m ≤ n ∧ c = .int .i64 (cnt (l.take m) t) ∧ FindAt w t wr) (fun _ v _ => n - (intOf v).toNat)
  case atStart => exact ⟨0, rfl, by omega, by simp [cnt], (Bel.refl _).alloc _ _, by simp [go_sem], by simp [go_sem], by simp [go_sem]⟩
  case round =>
    obtain ⟨m, rfl, hi, rfl, hf⟩ := hrel
    have hle : cnt (l.take m) t ≤ m := Nat.le_trans (cnt_le _ _) (by simp; omega)
    have HF := Lib.hid hf
    obtain ⟨_, y0, y1, y2⟩ := hf
    obtain ⟨c0, hc0⟩ : ∃ c0, cnt (l.take m) t = c0 := ⟨_, rfl⟩
    rw [hc0] at hle ⊢
    have HC0 := Lib.hid hc0
    clear hc0
    by_cases h : m < n
    · obtain ⟨b, off, rfl, hr⟩ := HL.out.row (by have := HN.out; omega)
      obtain ⟨x, hx⟩ : ∃ x, l.getD m default = x := ⟨_, rfl⟩
      have cx := (hr.bel HF.out.1) m (by have := HN.out; omega)
      rw [hx] at cx
      obtain ⟨x0, x1, x2⟩ := cx
      have hst := cnt_step l t m (by have := HN.out; omega)
      rw [hx, HC0.out] at hst
      have HX := Lib.hid hx
      clear hx hr
      obtain ⟨c, hc⟩ : ∃ c, lt x t = c := ⟨_, rfl⟩
      have KB := Lib.hid (before_any x t)
      rw [hc] at KB hst
      have HST := Lib.hid hst
      clear hc hst
      cases c with
      | true =>
        go_wp2
        go_region_held3 (fun w' => w'.cell? ⟨b, off + m * 3, none⟩ = some (.int .u64 x.a) ∧ w'.cell? ⟨b, off + m * 3 + 1, none⟩ = some (.int .u64 x.s) ∧ w'.cell? ⟨b, off + m * 3 + 2, none⟩ = some (.int .i64 x.p) ∧
            w'.cell? ⟨w.heap.size, 0, none⟩ = some (.int .u64 t.a) ∧ w'.cell? ⟨w.heap.size, 1, none⟩ = some (.int .u64 t.s) ∧ w'.cell? ⟨w.heap.size, 2, none⟩ = some (.int .i64 t.p)) (first | exact ⟨x0, x1, x2, y0, y1, y2⟩ | exact ⟨hg1.cell x0, hg1.cell x1, hg1.cell x2, hg1.cell y0, hg1.cell y1, hg1.cell y2⟩)
          (first | (go_at_call 66; refine (KB.out _).mono ?_; rintro e w1 ⟨rfl, hg1⟩))
        have HF2 := Lib.hid (HF.out.later ((Bel.refl _).drew.trans hg1))
        clear hg1
        go_wp2
        go_roundw
        case rel => exact ⟨m + 1, by go_num, by omega, by rw [HST.out]; simp, HF2.out⟩
        case measure => simp [intOf]; omega
      | false =>
        go_wp2
        go_region_held3 (fun w' => w'.cell? ⟨b, off + m * 3, none⟩ = some (.int .u64 x.a) ∧ w'.cell? ⟨b, off + m * 3 + 1, none⟩ = some (.int .u64 x.s) ∧ w'.cell? ⟨b, off + m * 3 + 2, none⟩ = some (.int .i64 x.p) ∧
            w'.cell? ⟨w.heap.size, 0, none⟩ = some (.int .u64 t.a) ∧ w'.cell? ⟨w.heap.size, 1, none⟩ = some (.int .u64 t.s) ∧ w'.cell? ⟨w.heap.size, 2, none⟩ = some (.int .i64 t.p)) (first | exact ⟨x0, x1, x2, y0, y1, y2⟩ | exact ⟨hg1.cell x0, hg1.cell x1, hg1.cell x2, hg1.cell y0, hg1.cell y1, hg1.cell y2⟩)
          (first | (go_at_call 66; refine (KB.out _).mono ?_; rintro e w1 ⟨rfl, hg1⟩))
        have HF2 := Lib.hid (HF.out.later ((Bel.refl _).drew.trans hg1))
        clear hg1
        go_wp2
        go_roundw
        case rel => exact ⟨m + 1, by go_num, by omega, by rw [HST.out]; simp, HF2.out⟩
        case measure => simp [intOf]; omega
    · have HE : Hid (cnt l t = c0) := Lib.hid (by
        have := HN.out
        rw [← HC0.out, List.take_of_length_le (by omega)])
      go_wp2
      go_ret
      exact ⟨ret_int (by rw [HE.out]), HF.out.1⟩
end Go.Proofs.Ytdlfppdekllloaa
