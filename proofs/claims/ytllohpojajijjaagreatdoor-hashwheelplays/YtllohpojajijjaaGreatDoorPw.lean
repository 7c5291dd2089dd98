/-
  Contracts of a queue of places: Get, put, take, in, pending, Len, All.
-/
import Derived.Test.YtllohpojajijjaaGreatDoorXj
import Derived.Test.YtllohpojajijjaaGreatDoorXd
import Derived.Test.YtllohpojajijjaaGreatDoorXk
import Derived.BigRegion
set_option linter.unusedVariables false
set_option linter.unusedSimpArgs false
namespace Go.Proofs.YtllohpojajijjaaGreatDoor
open Go.RowKit
section
variable {Q B G R P L : Nat} {lo : T → Nat} {ls : Ls} {r : Nat → T} {h : Hd} {l : List T}
set_option maxHeartbeats 1000000 in
theorem get_any (k : Int) (w : World) (q : Qp w Q B G R P L lo ls r h l) :
    Calls Tryz.prog 13 #[.pointer (some ⟨Q, 0, none⟩), .int .i64 k] w fun e w' => e = .returned (ansT (fnd l k)) ∧ Bel w w' := by
  have HA := Lib.hid q
  obtain ⟨c0, c1⟩ := q.head
  have lQ := q.lt.1
  have K1 := Lib.hid (fun w' (q : Qp w' Q B G R P L lo ls r h l) => which_qp q k)
  have HB0 : Hid (Bel w (w.alloc (.cells #[.int .u64 0, .int .u64 0, .int .i64 0] 37))) := Lib.hid ((Bel.refl _).alloc _ _)
  have HN : Hid ((w.alloc (.cells #[.int .u64 0, .int .u64 0, .int .i64 0] 37)).heap[w.heap.size]? = some (.cells #[.int .u64 0, .int .u64 0, .int .i64 0] 37 (0, 0))) := Lib.hid (heap_alloc_new _ _)
  cases hf : fnd l k with
  | none =>
    rw [hf] at K1
    clear q hf
    go_enter Tryz.func13, Tryz.ntmps13
    go_wp2_with fail
    with_reducible refine (K1.out _ (HA.out.bel HB0.out)).mono ?_
    rintro e w1 ⟨⟨t, rfl⟩, hb⟩
    obtain ⟨⟨b0, b1, b2⟩, f0, f1, f2⟩ := box3 (hb.heap HN.out)
    have HE := Lib.hid (bel3 (HB0.out.trans hb) (Nat.le_refl _) (.int .u64 0) (.int .u64 0) (.int .i64 0))
    clear hb
    go_wp2
    exact bodyPost_ret (v := ansT none) (by simp [results, Tryz.results13, go_sem, b0, b1, b2, ansT]) rfl ⟨rfl, HE.out⟩
  | some x =>
    obtain ⟨k, rfl⟩ : ∃ j : Nat, k = j := ⟨k.toNat, by obtain ⟨h1, h2⟩ := fnd_some hf; have := (q.is.tm x h1).1; omega⟩
    obtain ⟨hk, hr, _, _⟩ := q.is.inn hf
    rw [hf] at K1
    have hP := q.hP
    have HR := Lib.hid hr
    clear q hf hr
    go_enter Tryz.func13, Tryz.ntmps13
    go_wp2_with fail
    with_reducible refine (K1.out _ (HA.out.bel HB0.out)).mono ?_
    rintro e w1 ⟨⟨t, rfl⟩, hb⟩
    have HB1 := Lib.hid (HB0.out.trans hb)
    obtain ⟨⟨b0, b1, b2⟩, f0, f1, f2⟩ := box3 (hb.heap HN.out)
    have q1 := HA.out.bel HB1.out
    have lQ1 := q1.lt.1
    obtain ⟨d0, d1⟩ := q1.head
    obtain ⟨⟨x0, x1, x2⟩, _⟩ := q1.at hk
    rw [HR.out] at x0 x1 x2
    have lR := q1.lt.2.2.2
    have HE := Lib.hid (bel3 HB1.out (Nat.le_refl _) (.int .u64 x.a) (.int .u64 x.s) (.int .i64 x.p))
    clear hb q1 c0 c1
    obtain ⟨xa, xs, xp⟩ := x
    simp only at *
    go_wp2
    exact bodyPost_ret (v := ansT (some ⟨xa, xs, xp⟩)) (by simp [results, Tryz.results13, go_sem, b0, b1, b2, ansT]) rfl ⟨rfl, HE.out⟩
set_option maxHeartbeats 1000000 in
/-- The timers of a list. -/
theorem in_any {t : Nat} (ht : t < L) (w : World) (q : Qp w Q B G R P L lo ls r h l) :
    Calls Tryz.prog 30 #[.pointer (some ⟨Q, 0, none⟩), .int .i64 t] w fun e w' => OutN w w' e ((ls t).map r) ∧ Bel w w' := by
  have HA := Lib.hid q
  obtain ⟨c0, c1⟩ := q.head
  have K1 := Lib.hid (places_qp q ht)
  have hn := q.lslen ht
  have hl := (q.rep ht).2
  generalize hys : ls t = ys at *
  obtain ⟨n, hN⟩ : ∃ n, ys.length = n := ⟨_, rfl⟩
  rw [hN] at hn K1
  have HY := Lib.hid hN
  have HL := Lib.hid hl
  have hP := q.hP
  clear q hys hN hl
  go_enter Tryz.func30, Tryz.ntmps30
  go_wp2_with fail
  with_reducible refine K1.out.mono ?_
  rintro e w1 ⟨p, c, rfl, hc, hlies, hb⟩
  have HLI := Lib.hid hlies
  have HB1 := Lib.hid hb
  have HCQ : Hid (∀ w', Bel w w' → w'.cell? ⟨Q, 1, none⟩ = some (.slice (some ⟨R, 0, none⟩) P P)) := Lib.hid (fun w' hb => (HA.out.bel hb).head.2)
  clear hlies hb c0 c1 K1
  go_wp2
  go_loopw [5, 7, 15] (fun o _ v wr => ∃ m : Nat, v = .int .i64 m ∧ m ≤ n ∧ OwnT wr w1.heap.size o ((ys.map r).take m) ∧ Bel w1 wr) (fun _ _ v _ => n - (intOf v).toNat)
  case atStart => exact ⟨0, rfl, by omega, OwnT.nil _ _, Bel.refl _⟩
  case round =>
    obtain ⟨m, rfl, hm, ho, hb⟩ := hrel
    have HO := Lib.hid ho
    have HB := Lib.hid hb
    clear ho hb
    by_cases hlt : m < n
    · obtain ⟨y, hy⟩ : ∃ y, ys[m]? = some y := ⟨_, List.getElem?_eq_getElem (by have := HY.out; omega)⟩
      have hyP : y < P := HL.out y (List.mem_of_getElem? hy)
      obtain ⟨b, off, rfl, _, hr⟩ := lies_int HLI.out (i := m) (by have := HY.out; omega)
      have y0 := row_int (RowG.off hr (fun e => e) HB.out) hy
      have hBB := HB1.out.trans HB.out
      have qr := HA.out.bel hBB
      have cc := HCQ.out _ hBB
      obtain ⟨⟨x0, x1, x2⟩, _⟩ := qr.at hyP
      have HT : Hid ((ys.map r).take (m + 1) = (ys.map r).take m ++ [r y]) := Lib.hid (by
        obtain ⟨h1, h2⟩ := List.getElem?_eq_some_iff.1 hy
        rw [List.take_succ_eq_append_getElem (by simpa using h1), List.getElem_map, h2])
      have HTL : Hid (((ys.map r).take m).length = m) := Lib.hid (by have := HY.out; simp; omega)
      have HZ := Lib.hid hBB.size
      clear hr hy qr hBB
      generalize r y = z at *
      go_wp2_with (at_builtin; refine wpList_append_any rfl (.tmp 19) (.tmp 27) rfl w1.heap.size _ ((ys.map r).take m) rfl (HO.out.bel ((Bel.refl _).alloc _ _)) _ _ _ [z] rfl rfl (has_one _ _) (by have := HTL.out; omega) (by have := HB.out.size; simp; omega) ?_)
      intro v' w2 hown hgrow hnil
      have HO2 : Hid (OwnT w2 w1.heap.size v' ((ys.map r).take (m + 1))) := Lib.hid (by rw [HT.out]; exact hown)
      have HB2 : Hid (Bel w1 w2) := Lib.hid ((HB.out.alloc _ _).grown hgrow (fun k hk => .inr (HO.out.lt k hk).1))
      clear hown hgrow hnil
      go_wp2
      go_roundw
      case rel => exact ⟨m + 1, by go_num, by omega, HO2.out, HB2.out⟩
      case measure => simp [intOf]; omega
    · obtain rfl : m = n := by omega
      have HE : Hid ((ys.map r).take m = ys.map r) := Lib.hid (List.take_of_length_le (by have := HY.out; simp; omega))
      go_wp2
      go_ret
      have k := HO.out.outN (w := w) HB1.out.size
      rw [HE.out] at k
      exact ⟨k, HB1.out.trans HB.out⟩
end
end Go.Proofs.YtllohpojajijjaaGreatDoor
