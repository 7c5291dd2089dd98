/-
  Contract of the document's Move.
-/
import Derived.Test.YtdlfppdekllloaaDocc
set_option linter.unusedVariables false
set_option linter.unusedSimpArgs false
namespace Go.Proofs.Ytdlfppdekllloaa
open Go.RowKit
/-- A row of timers lies in no box of a queue of the document's. -/
theorem Lies.apart {f : Nat → Prop} {w w' : World} {p : Option Addr} {l : List T} (h : Lies f w p (encs l)) {B : Nat} {x : Int} {q : Option Addr} {m k : Nat} {t : TypeId} (hb : w.heap[B]? = some (.cells #[.int .i64 x, .slice q m k] t (0, 0))) (ho : Off (fun k => k = B) w w') : Lies f w' p (encs l) := by
  rcases h with h | ⟨b, off, e, hf, h⟩
  · exact .inl h
  · by_cases h0 : encs l = []
    · exact .inl h0
    · refine .inr ⟨b, off, e, hf, fun j u hu => ho.cell ?_ (h j u hu)⟩
      rintro rfl
      cases l with
      | nil => exact h0 rfl
      | cons y r =>
        have h1 := h 0 (.int .u64 y.a) rfl
        rw [cell_of_row w _ _ _ t (0, 0) hb] at h1
        rcases (show off + 0 = 0 ∨ off + 0 = 1 ∨ 2 ≤ off + 0 by omega) with e | e | e
        · rw [e] at h1; simp at h1
        · rw [e] at h1; simp at h1
        · rw [Array.getElem?_eq_none (by simpa using e)] at h1; cases h1
set_option maxHeartbeats 2000000 in
theorem dmove_any (f : Nat → Prop) (P : Nat) (p : Option Addr) (c : Nat) (l : List T) (t : T) (w : World) (hm : l.length ≤ 5000) (hf : ∀ j, f j → j < w.heap.size) (hc : l.length ≤ c) (hl : Lies f w p (encs l)) (hin : hp P t.p = false → fnd l t.p = none) :
    Calls Try.prog 32 #[.agg #[.int .i64 P, .slice p l.length c], .agg #[.int .u64 t.a, .int .u64 t.s, .int .i64 t.p]] w fun e w' => ∃ p' c', e = .returned (.tuple #[.agg #[.int .i64 P, .slice p' (movL P l t).length c'], .int .i64 (canE P l t.p)]) ∧ DocOut f w w' p' c' (movL P l t) := by
  have H3 := Lib.hid (three_new w #[.int .i64 P, .slice p l.length c] #[.int .u64 t.a, .int .u64 t.s, .int .i64 t.p] #[.int .i64 0, .slice none 0 0] 30 35 30)
  have HL := Lib.hid hl
  have HF := Lib.hid hf
  have hcases := canE_cases P l t.p
  have KC := Lib.hid (fun w' (h : Bel w w') => dcancel_any f P p c l t.p w' hm (fun j hj => Nat.lt_of_lt_of_le (hf j hj) h.size) hc (hl.bel h) hin)
  have KI := Lib.hid (fun w' p1 c1 (h : Bel w w') (h1 : (wo l t.p).length ≤ c1) (h2 : Lies f w' p1 (encs (wo l t.p))) => dinsert_any f P p1 c1 (wo l t.p) t w' (Nat.le_trans (wo_len l t.p) hm) (fun j hj => Nat.lt_of_lt_of_le (hf j hj) h.size) h1 h2)
  clear hl hf hin
  unfold dcV at KC
  generalize ((fnd l t.p).getD default).a = c0 at *
  generalize ((fnd l t.p).getD default).s = c1 at *
  generalize ((fnd l t.p).getD default).p = c2 at *
  rcases hcases with ⟨hn, _⟩ | ⟨hz, j, ej, hj, x, hfd⟩
  · have hn2 : (canE P l t.p == 0) = false := by simpa using hn
    have eL : movL P l t = l := by unfold movL; rw [if_neg hn]
    rw [eL]
    clear hn eL KI
    generalize canE P l t.p = er at *
    generalize (wo l t.p).length = n1 at *
    go_enter Try.func32, Try.ntmps32
    go_upto_region 1 with (fail)
    obtain ⟨W, eW, hB, hz, n0, n1', n2⟩ := H3.out
    rw [eW]
    clear H3 eW
    obtain ⟨b1, e1⟩ : ∃ b, w.heap.size + 1 = b := ⟨_, rfl⟩
    rw [e1] at n1' n2 hz ⊢
    obtain ⟨b2, e2⟩ : ∃ b, b1 + 1 = b := ⟨_, rfl⟩
    rw [e2] at n2 hz ⊢
    have hb2 : w.heap.size ≤ b2 := by omega
    obtain ⟨⟨q0, q1⟩, _⟩ := box2 n0
    obtain ⟨⟨x0, x1, x2⟩, _⟩ := box3 n1'
    have HB := Lib.hid hB
    have HN0 := Lib.hid n0
    have HN2 := Lib.hid n2
    clear hB n0 n1' n2 e1 e2 hz
    go_wp2_with fail
    with_reducible refine (KC.out _ HB.out).mono ?_
    rintro e w1 ⟨p1, c1', rfl, hd⟩
    have hb3 : Bel W ((w1.alloc (.cells #[.int .i64 P, .slice p1 n1 c1'] 30)).alloc (.cells #[.int .u64 c0, .int .u64 c1, .int .i64 c2] 35)) := (hd.bel.alloc _ _).alloc _ _
    have HB3 := Lib.hid hb3
    clear hd hb3 q0 q1 x0 x1 x2
    go_upto_region 2 with (fail)
    generalize (w1.alloc (.cells #[.int .i64 P, .slice p1 n1 c1'] 30)).alloc (.cells #[.int .u64 c0, .int .u64 c1, .int .i64 c2] 35) = W3 at *
    obtain ⟨⟨q0, q1⟩, _⟩ := box2 (HB3.out.heap HN0.out)
    obtain ⟨⟨y0, y1⟩, g0, g1⟩ := box2 (HB3.out.heap HN2.out)
    have HE : Hid (DocOut f w ((W3.setCell ⟨b2, 0, none⟩ (.int .i64 P)).setCell ⟨b2, 1, none⟩ (.slice p l.length c)) p c l) := Lib.hid ⟨hc, HL.out.boxed (HB.out.trans HB3.out) hb2 _ _, bel2 (HB.out.trans HB3.out) hb2 _ _⟩
    go_wp2
    exact bodyPost_ret (v := .tuple #[.agg #[.int .i64 P, .slice p l.length c], .int .i64 er]) (by simp [results, Try.results32, go_sem, y0, y1]) rfl ⟨p, c, rfl, HE.out⟩
  · have hI := insE_wo (l := l) ej hj
    have eL : insL P (wo l t.p) t = movL P l t := by unfold insL movL; rw [if_pos hI, if_pos hz]
    rw [hI, eL] at KI
    rw [hz] at KC ⊢
    clear hI eL hz ej hfd
    generalize hn1 : (wo l t.p).length = n1 at *
    go_enter Try.func32, Try.ntmps32
    go_upto_region 1 with (fail)
    obtain ⟨W, eW, hB, hz, n0, n1', n2⟩ := H3.out
    rw [eW]
    clear H3 eW
    obtain ⟨b1, e1⟩ : ∃ b, w.heap.size + 1 = b := ⟨_, rfl⟩
    rw [e1] at n1' n2 hz ⊢
    obtain ⟨b2, e2⟩ : ∃ b, b1 + 1 = b := ⟨_, rfl⟩
    rw [e2] at n2 hz ⊢
    have hb2 : w.heap.size ≤ b2 := by omega
    obtain ⟨⟨q0, q1⟩, _⟩ := box2 n0
    obtain ⟨⟨x0, x1, x2⟩, _⟩ := box3 n1'
    have HB := Lib.hid hB
    have HN1 := Lib.hid n1'
    have HN2 := Lib.hid n2
    clear hB n0 n1' n2 e1 e2 hz
    go_wp2_with fail
    with_reducible refine (KC.out _ HB.out).mono ?_
    rintro e w1 ⟨p1, c1', rfl, hd⟩
    have hbA : Bel w1 ((w1.alloc (.cells #[.int .i64 P, .slice p1 n1 c1'] 30)).alloc (.cells #[.int .u64 c0, .int .u64 c1, .int .i64 c2] 35)) := ((Bel.refl w1).alloc _ _).alloc _ _
    have hM : ((w1.alloc (.cells #[.int .i64 P, .slice p1 n1 c1'] 30)).alloc (.cells #[.int .u64 c0, .int .u64 c1, .int .i64 c2] 35)).heap[w1.heap.size]? = some (.cells #[.int .i64 P, .slice p1 n1 c1'] 30 (0, 0)) := by rw [Below.heap_alloc _ _ _ (by simp), heap_alloc_new]
    have HB3 := Lib.hid (hd.bel.trans hbA)
    have HD := Lib.hid hd
    have HBA := Lib.hid hbA
    have HM := Lib.hid hM
    clear hd hbA hM q0 q1 x0 x1 x2
    go_upto_region 2 with (fail)
    generalize (w1.alloc (.cells #[.int .i64 P, .slice p1 n1 c1'] 30)).alloc (.cells #[.int .u64 c0, .int .u64 c1, .int .i64 c2] 35) = W3 at *
    obtain ⟨⟨m0, m1⟩, _⟩ := box2 HM.out
    obtain ⟨⟨x0, x1, x2⟩, _⟩ := box3 (HB3.out.heap HN1.out)
    have KZ := Lib.hid (KI.out W3 p1 c1' (HB.out.trans HB3.out) (by rw [← hn1]; exact HD.out.hc) (HD.out.lies.bel HBA.out))
    clear hn1
    go_wp2_with fail
    with_reducible refine KZ.out.mono ?_
    rintro e w4 ⟨p4, c4, rfl, hd4⟩
    obtain ⟨⟨y0, y1⟩, g0, g1⟩ := box2 (hd4.bel.heap (HB3.out.heap HN2.out))
    have HE : Hid (DocOut f w ((w4.setCell ⟨b2, 0, none⟩ (.int .i64 P)).setCell ⟨b2, 1, none⟩ (.slice p4 (movL P l t).length c4)) p4 c4 (movL P l t)) := Lib.hid
      ⟨hd4.hc, hd4.lies.apart (hd4.bel.heap (HB3.out.heap HN2.out)) (off2 w4 b2 (.int .i64 P) (.slice p4 (movL P l t).length c4)), bel2 ((HB.out.trans HB3.out).trans hd4.bel) hb2 _ _⟩
    clear hd4 m0 m1 x0 x1 x2
    go_wp2
    exact bodyPost_ret (v := .tuple #[.agg #[.int .i64 P, .slice p4 (movL P l t).length c4], .int .i64 0]) (by simp [results, Try.results32, go_sem, y0, y1]) rfl ⟨p4, c4, rfl, HE.out⟩
end Go.Proofs.Ytdlfppdekllloaa
