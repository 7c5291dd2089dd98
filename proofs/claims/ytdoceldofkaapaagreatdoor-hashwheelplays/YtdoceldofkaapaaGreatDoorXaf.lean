/-
  Contract of the document's Insert.
  Contract of the document's Cancel.
  Contract of the document's Due.
  Contract of the document's Move.
-/
import Derived.Test.YtdoceldofkaapaaGreatDoorXae
set_option linter.unusedVariables false
set_option linter.unusedSimpArgs false
namespace Go.Proofs.YtdoceldofkaapaaGreatDoor
open Go.RowKit
/-- Three new boxes. -/
theorem three_new (w : World) (a b c : Array Value) (ta tb tc : TypeId) : ∃ W, ((w.alloc (.cells a ta)).alloc (.cells b tb)).alloc (.cells c tc) = W ∧ Bel w W ∧ W.heap.size = w.heap.size + 1 + 1 + 1 ∧
    W.heap[w.heap.size]? = some (.cells a ta (0, 0)) ∧ W.heap[w.heap.size + 1]? = some (.cells b tb (0, 0)) ∧ W.heap[w.heap.size + 1 + 1]? = some (.cells c tc (0, 0)) := by
  refine ⟨_, rfl, (((Bel.refl w).alloc _ _).alloc _ _).alloc _ _, by simp, ?_, ?_, ?_⟩
  · rw [Below.heap_alloc _ _ _ (by simp only [World.size_alloc]; omega), Below.heap_alloc _ _ _ (by simp), heap_alloc_new]
  · rw [Below.heap_alloc _ _ _ (by simp only [World.size_alloc]; omega)]
    have := heap_alloc_new (w.alloc (.cells a ta)) (.cells b tb)
    simpa using this
  · have := heap_alloc_new ((w.alloc (.cells a ta)).alloc (.cells b tb)) (.cells c tc)
    simpa using this
theorem bel2 {w w' : World} (h : Bel w w') {T : Nat} (hT : w.heap.size ≤ T) (a b : Value) : Bel w ((w'.setCell ⟨T, 0, none⟩ a).setCell ⟨T, 1, none⟩ b) :=
  (h.setCell (p := ⟨T, 0, none⟩) hT a).setCell (p := ⟨T, 1, none⟩) hT b
theorem Lies.boxed {f : Nat → Prop} {w w' : World} {p : Option Addr} {cs : List Value} (h : Lies f w p cs) (k : Bel w w') {T : Nat} (hT : w.heap.size ≤ T) (a b : Value) : Lies f ((w'.setCell ⟨T, 0, none⟩ a).setCell ⟨T, 1, none⟩ b) p cs := h.bel (bel2 k hT a b)
/-- What a call of the document's hands back. -/
structure DocOut (f : Nat → Prop) (w w' : World) (p : Option Addr) (c : Nat) (l : List T) : Prop where
  hc : l.length ≤ c
  lies : Lies f w' p (encs l)
  bel : Bel w w'
set_option maxHeartbeats 2000000 in
theorem dinsert_any (f : Nat → Prop) (P : Nat) (p : Option Addr) (c : Nat) (l : List T) (t : T) (w : World) (hm : l.length ≤ 5000) (hf : ∀ j, f j → j < w.heap.size) (hc : l.length ≤ c) (hl : Lies f w p (encs l)) :
    Calls Tryz.prog 79 #[.agg #[.int .i64 P, .slice p l.length c], .agg #[.int .u64 t.a, .int .u64 t.s, .int .i64 t.p]] w fun e w' => ∃ p' c', e = .returned (.tuple #[.agg #[.int .i64 P, .slice p' (insL P l t).length c'], .int .i64 (insE P l t)]) ∧ DocOut f w w' p' c' (insL P l t) := by
  have H3 := Lib.hid (three_new w #[.int .i64 P, .slice p l.length c] #[.int .u64 t.a, .int .u64 t.s, .int .i64 t.p] #[.int .i64 0, .slice none 0 0] 31 37 31)
  have HL := Lib.hid hl
  have HF := Lib.hid hf
  have hcases := insE_cases P l t
  have KG := Lib.hid (fun w' (h : Has w' p l) => dget_any P p l.length c l t.p w' rfl hm h)
  have KP := Lib.hid (fun w' (h : Has w' p l) => rput_any p l.length c l t w' rfl hm hc h)
  clear hl hf
  rcases hcases with ⟨e, hk⟩ | ⟨k, e, hk, hcs⟩
  · have eL : insL P l t = l := by unfold insL; rw [if_neg (by omega)]
    rw [eL, e]
    have hk2 : t.p < 0 ∨ ¬ t.p < 0 ∧ ¬ t.p < P := by
      unfold hp at hk
      simp at hk
      omega
    clear e eL hk KG KP
    go_enter Tryz.func79, Tryz.ntmps79
    go_upto_region 1 with (fail)
    obtain ⟨W, eW, hB, hz, n0, n1, n2⟩ := H3.out
    rw [eW]
    clear H3 eW
    obtain ⟨b1, e1⟩ : ∃ b, w.heap.size + 1 = b := ⟨_, rfl⟩
    rw [e1] at n1 n2 hz ⊢
    obtain ⟨b2, e2⟩ : ∃ b, b1 + 1 = b := ⟨_, rfl⟩
    rw [e2] at n2 hz ⊢
    have hb2 : w.heap.size ≤ b2 := by omega
    obtain ⟨⟨q0, q1⟩, _⟩ := box2 n0
    obtain ⟨⟨x0, x1, x2⟩, _⟩ := box3 n1
    obtain ⟨⟨y0, y1⟩, g0, g1⟩ := box2 n2
    have HE : Hid (DocOut f w ((W.setCell ⟨b2, 0, none⟩ (.int .i64 P)).setCell ⟨b2, 1, none⟩ (.slice p l.length c)) p c l) := Lib.hid ⟨hc, HL.out.boxed hB hb2 _ _, bel2 hB hb2 _ _⟩
    clear hB n0 n1 n2 e1 e2 hz
    rcases hk2 with hk2 | ⟨hk2, hk3⟩
    · go_wp2
      exact bodyPost_ret (v := .tuple #[.agg #[.int .i64 P, .slice p l.length c], .int .i64 1]) (by simp [results, Tryz.results79, go_sem, y0, y1]) rfl ⟨p, c, rfl, HE.out⟩
    · go_wp2
      exact bodyPost_ret (v := .tuple #[.agg #[.int .i64 P, .slice p l.length c], .int .i64 1]) (by simp [results, Tryz.results79, go_sem, y0, y1]) rfl ⟨p, c, rfl, HE.out⟩
  · have hk2 : ¬ t.p < 0 := by omega
    have hk3 : t.p < P := by omega
    have ef : fnd l k = fnd l t.p := by rw [e]
    rw [ef] at hcs
    clear e ef
    rcases hcs with ⟨e, x, hfd⟩ | ⟨e, hfd⟩
    · have eL : insL P l t = l := by unfold insL; rw [if_neg (by omega)]
      rw [eL, e]
      rw [hfd] at KG
      clear e eL KP hfd hk
      unfold ansT at KG
      go_enter Tryz.func79, Tryz.ntmps79
      go_upto_region 1 with (fail)
      obtain ⟨W, eW, hB, hz, n0, n1, n2⟩ := H3.out
      rw [eW]
      clear H3 eW
      obtain ⟨b1, e1⟩ : ∃ b, w.heap.size + 1 = b := ⟨_, rfl⟩
      rw [e1] at n1 n2 hz ⊢
      obtain ⟨b2, e2⟩ : ∃ b, b1 + 1 = b := ⟨_, rfl⟩
      rw [e2] at n2 hz ⊢
      have hb2 : w.heap.size ≤ b2 := by omega
      obtain ⟨⟨q0, q1⟩, _⟩ := box2 n0
      obtain ⟨⟨x0, x1, x2⟩, _⟩ := box3 n1
      have HB := Lib.hid hB
      have HN0 := Lib.hid n0
      have HN2 := Lib.hid n2
      clear hB n0 n1 n2 e1 e2 hz
      go_wp2_with fail
      with_reducible refine (KG.out _ (HL.out.bel HB.out).has).mono ?_
      rintro e w1 ⟨rfl, hb⟩
      have hb3 : Bel W (w1.alloc (.cells #[.int .u64 x.a, .int .u64 x.s, .int .i64 x.p] 37)) := hb.alloc _ _
      have HB3 := Lib.hid hb3
      clear hb hb3 q0 q1 x0 x1 x2
      go_upto_region 4 with (fail)
      generalize w1.alloc (.cells #[.int .u64 x.a, .int .u64 x.s, .int .i64 x.p] 37) = W3 at *
      obtain ⟨⟨q0, q1⟩, _⟩ := box2 (HB3.out.heap HN0.out)
      obtain ⟨⟨y0, y1⟩, g0, g1⟩ := box2 (HB3.out.heap HN2.out)
      have HE : Hid (DocOut f w ((W3.setCell ⟨b2, 0, none⟩ (.int .i64 P)).setCell ⟨b2, 1, none⟩ (.slice p l.length c)) p c l) := Lib.hid ⟨hc, HL.out.boxed (HB.out.trans HB3.out) hb2 _ _, bel2 (HB.out.trans HB3.out) hb2 _ _⟩
      go_wp2
      exact bodyPost_ret (v := .tuple #[.agg #[.int .i64 P, .slice p l.length c], .int .i64 4]) (by simp [results, Tryz.results79, go_sem, y0, y1]) rfl ⟨p, c, rfl, HE.out⟩
    · have eL : insL P l t = put l t := by unfold insL; rw [if_pos e]
      rw [eL, e]
      rw [hfd] at KG
      clear e eL hfd hk
      unfold ansT at KG
      go_enter Tryz.func79, Tryz.ntmps79
      go_upto_region 1 with (fail)
      obtain ⟨W, eW, hB, hz, n0, n1, n2⟩ := H3.out
      rw [eW]
      clear H3 eW
      obtain ⟨b1, e1⟩ : ∃ b, w.heap.size + 1 = b := ⟨_, rfl⟩
      rw [e1] at n1 n2 hz ⊢
      obtain ⟨b2, e2⟩ : ∃ b, b1 + 1 = b := ⟨_, rfl⟩
      rw [e2] at n2 hz ⊢
      have hb2 : w.heap.size ≤ b2 := by omega
      obtain ⟨⟨q0, q1⟩, _⟩ := box2 n0
      obtain ⟨⟨x0, x1, x2⟩, _⟩ := box3 n1
      have HB := Lib.hid hB
      have HN0 := Lib.hid n0
      have HN1 := Lib.hid n1
      have HN2 := Lib.hid n2
      clear hB n0 n1 n2 e1 e2 hz
      go_wp2_with fail
      with_reducible refine (KG.out _ (HL.out.bel HB.out).has).mono ?_
      rintro e w1 ⟨rfl, hb⟩
      have hb3 : Bel W (w1.alloc (.cells #[.int .u64 0, .int .u64 0, .int .i64 0] 37)) := hb.alloc _ _
      have HB3 := Lib.hid hb3
      clear hb hb3 q0 q1 x0 x1 x2
      go_upto_region 4 with (fail)
      generalize w1.alloc (.cells #[.int .u64 0, .int .u64 0, .int .i64 0] 37) = W3 at *
      obtain ⟨⟨q0, q1⟩, _⟩ := box2 (HB3.out.heap HN0.out)
      obtain ⟨⟨x0, x1, x2⟩, _⟩ := box3 (HB3.out.heap HN1.out)
      have HBd : Hid (Bel w W3.drew) := Lib.hid (HB.out.trans HB3.out).drew
      have HY : Hid (∀ w', Bel W3.drew w' → (w'.cell? ⟨w.heap.size, 0, none⟩ = some (.int .i64 P)) ∧ (w'.cell? ⟨b2, 0, none⟩ = some (.int .i64 0) ∧ w'.cell? ⟨b2, 1, none⟩ = some (.slice none 0 0)) ∧ (w'.frozen? ⟨b2, 0, none⟩ = false ∧ w'.frozen? ⟨b2, 1, none⟩ = false)) := Lib.hid (fun w' h =>
        ⟨(box2 (h.heap (HB3.out.drew.heap HN0.out))).1.1, box2 (h.heap (HB3.out.drew.heap HN2.out))⟩)
      go_wp2
      go_region_with (go_at_call 115; (with_reducible refine (KP.out _ (HL.out.bel HBd.out).has).mono ?_); rintro e w5 ⟨⟨p5, c5, rfl, hc5, hl5⟩, hb5⟩; have hy5 := HY.out _ hb5; obtain ⟨q0, ⟨y0, y1⟩, g0, g1⟩ := hy5)
      all_goals
        have HE : Hid (DocOut f w ((w5.setCell ⟨b2, 0, none⟩ (.int .i64 P)).setCell ⟨b2, 1, none⟩ (.slice p5 (put l t).length c5)) p5 c5 (put l t)) := Lib.hid (by
          have o2 := off2 w5 b2 (.int .i64 P) (.slice p5 (put l t).length c5)
          have hlt : b2 < W3.drew.heap.size := (Array.getElem?_eq_some_iff.1 (HB3.out.drew.heap HN2.out)).1
          have hl6 := hl5.off (o2.mono (g := old W3.drew) (fun i _ e => by unfold old; omega)) (fun i e => e)
          exact ⟨hc5, hl6.mono (fun b _ e => Nat.lt_of_lt_of_le (HF.out b e) HBd.out.size), bel2 (HBd.out.trans hb5) hb2 _ _⟩)
        clear hl5 hb5
        go_wp2
        exact bodyPost_ret (v := .tuple #[.agg #[.int .i64 P, .slice p5 (put l t).length c5], .int .i64 0]) (by simp [results, Tryz.results79, go_sem, y0, y1]) rfl ⟨p5, c5, rfl, HE.out⟩
end Go.Proofs.YtdoceldofkaapaaGreatDoor
namespace Go.Proofs.YtdoceldofkaapaaGreatDoor
open Go.RowKit
/-- What the document's Cancel hands back. -/
def dcV (P : Nat) (p : Option Addr) (n c : Nat) (t : T) (er : Int) : Value := .tuple #[.agg #[.int .i64 P, .slice p n c], .agg #[.int .u64 t.a, .int .u64 t.s, .int .i64 t.p], .int .i64 er]
theorem bel5 {w w' : World} (h : Bel w w') {S U : Nat} (hS : w.heap.size ≤ S) (hU : w.heap.size ≤ U) (a b x y z : Value) : Bel w (((((w'.setCell ⟨S, 0, none⟩ a).setCell ⟨S, 1, none⟩ b).setCell ⟨U, 0, none⟩ x).setCell ⟨U, 1, none⟩ y).setCell ⟨U, 2, none⟩ z) :=
  bel3 (bel2 h hS a b) hU x y z
theorem off5 (w : World) (S U : Nat) (a b x y z : Value) : Off (fun k => k = S ∨ k = U) w (((((w.setCell ⟨S, 0, none⟩ a).setCell ⟨S, 1, none⟩ b).setCell ⟨U, 0, none⟩ x).setCell ⟨U, 1, none⟩ y).setCell ⟨U, 2, none⟩ z) :=
  Off.then ((off2 w S a b).mono (fun _ _ e => .inl e)) ((off3 _ U x y z).mono (fun _ _ e => .inr e))
set_option maxHeartbeats 2000000 in
theorem dcancel_any (f : Nat → Prop) (P : Nat) (p : Option Addr) (c : Nat) (l : List T) (k : Int) (w : World) (hm : l.length ≤ 5000) (hf : ∀ j, f j → j < w.heap.size) (hc : l.length ≤ c) (hl : Lies f w p (encs l)) (hin : hp P k = false → fnd l k = none) :
    Calls Tryz.prog 80 #[.agg #[.int .i64 P, .slice p l.length c], .int .i64 k] w fun e w' => ∃ p' c', e = .returned (dcV P p' (wo l k).length c' ((fnd l k).getD default) (canE P l k)) ∧ DocOut f w w' p' c' (wo l k) := by
  have H3 := Lib.hid (three_new w #[.int .i64 P, .slice p l.length c] #[.int .i64 0, .slice none 0 0] #[.int .u64 0, .int .u64 0, .int .i64 0] 31 31 37)
  have HL := Lib.hid hl
  have HF := Lib.hid hf
  have hcases := canE_cases P l k
  have KG := Lib.hid (fun w' (h : Has w' p l) => dget_any P p l.length c l k w' rfl hm h)
  have KW := Lib.hid (fun w' (h : Has w' p l) => dwo_any P p l.length c l k w' rfl hm h)
  clear hl hf
  rcases hcases with ⟨_, ⟨e, hk⟩ | ⟨e, hk, hfd⟩⟩ | ⟨e, j, ej, hj, x, hfd⟩
  · have hfd := hin hk
    rw [wo_none hfd, hfd, e]
    have hk2 : k < 0 ∨ ¬ k < 0 ∧ ¬ k < P := by
      unfold hp at hk
      simp at hk
      omega
    clear e hk KG KW hfd hin
    unfold dcV
    go_enter Tryz.func80, Tryz.ntmps80
    go_upto_region 1 with (fail)
    obtain ⟨W, eW, hB, hz, n0, n1, n2⟩ := H3.out
    rw [eW]
    clear H3 eW
    obtain ⟨b1, e1⟩ : ∃ b, w.heap.size + 1 = b := ⟨_, rfl⟩
    rw [e1] at n1 n2 hz ⊢
    obtain ⟨b2, e2⟩ : ∃ b, b1 + 1 = b := ⟨_, rfl⟩
    rw [e2] at n2 hz ⊢
    have hb1 : w.heap.size ≤ b1 := by omega
    have hb2 : w.heap.size ≤ b2 := by omega
    have n12 : ¬ b1 = b2 := by omega
    have n21 : ¬ b2 = b1 := by omega
    obtain ⟨⟨q0, q1⟩, _⟩ := box2 n0
    obtain ⟨⟨x0, x1⟩, h0, h1⟩ := box2 n1
    obtain ⟨⟨y0, y1, y2⟩, g0, g1, g2⟩ := box3 n2
    have HE : Hid (DocOut f w (((((W.setCell ⟨b1, 0, none⟩ (.int .i64 P)).setCell ⟨b1, 1, none⟩ (.slice p l.length c)).setCell ⟨b2, 0, none⟩ (.int .u64 0)).setCell ⟨b2, 1, none⟩ (.int .u64 0)).setCell ⟨b2, 2, none⟩ (.int .i64 0)) p c l) := Lib.hid ⟨hc, HL.out.bel (bel5 hB hb1 hb2 _ _ _ _ _), bel5 hB hb1 hb2 _ _ _ _ _⟩
    clear hB n0 n1 n2 e1 e2 hz
    rcases hk2 with hk2 | ⟨hk2, hk3⟩
    all_goals
      go_wp2
      exact bodyPost_ret (v := .tuple #[.agg #[.int .i64 P, .slice p l.length c], .agg #[.int .u64 0, .int .u64 0, .int .i64 0], .int .i64 1]) (by simp [results, Tryz.results80, go_sem, x0, x1, y0, y1, y2, n12, n21]) rfl ⟨p, c, rfl, HE.out⟩
  · rw [wo_none hfd, hfd, e]
    rw [hfd] at KG
    obtain ⟨j, rfl, hj⟩ := hp_nat hk
    have hk2 : ¬ (j : Int) < 0 := by omega
    have hk3 : (j : Int) < P := by omega
    clear e hk KW hfd hin
    unfold dcV
    unfold ansT at KG
    generalize (j : Int) = k at *
    go_enter Tryz.func80, Tryz.ntmps80
    go_upto_region 1 with (fail)
    obtain ⟨W, eW, hB, hz, n0, n1, n2⟩ := H3.out
    rw [eW]
    clear H3 eW
    obtain ⟨b1, e1⟩ : ∃ b, w.heap.size + 1 = b := ⟨_, rfl⟩
    rw [e1] at n1 n2 hz ⊢
    obtain ⟨b2, e2⟩ : ∃ b, b1 + 1 = b := ⟨_, rfl⟩
    rw [e2] at n2 hz ⊢
    have hb1 : w.heap.size ≤ b1 := by omega
    have hb2 : w.heap.size ≤ b2 := by omega
    have n12 : ¬ b1 = b2 := by omega
    have n21 : ¬ b2 = b1 := by omega
    obtain ⟨⟨q0, q1⟩, _⟩ := box2 n0
    have HB := Lib.hid hB
    have HN0 := Lib.hid n0
    have HN1 := Lib.hid n1
    have HN2 := Lib.hid n2
    clear hB n0 n1 n2 e1 e2 hz
    go_wp2_with fail
    with_reducible refine (KG.out _ (HL.out.bel HB.out).has).mono ?_
    rintro e w1 ⟨rfl, hb⟩
    have hb3 : Bel W (w1.alloc (.cells #[.int .u64 0, .int .u64 0, .int .i64 0] 37)) := hb.alloc _ _
    have HB3 := Lib.hid hb3
    clear hb hb3 q0 q1
    go_upto_region 4 with (fail)
    generalize w1.alloc (.cells #[.int .u64 0, .int .u64 0, .int .i64 0] 37) = W3 at *
    obtain ⟨⟨q0, q1⟩, _⟩ := box2 (HB3.out.heap HN0.out)
    obtain ⟨⟨x0, x1⟩, h0, h1⟩ := box2 (HB3.out.heap HN1.out)
    obtain ⟨⟨y0, y1, y2⟩, g0, g1, g2⟩ := box3 (HB3.out.heap HN2.out)
    have HE : Hid (DocOut f w (((((W3.setCell ⟨b1, 0, none⟩ (.int .i64 P)).setCell ⟨b1, 1, none⟩ (.slice p l.length c)).setCell ⟨b2, 0, none⟩ (.int .u64 0)).setCell ⟨b2, 1, none⟩ (.int .u64 0)).setCell ⟨b2, 2, none⟩ (.int .i64 0)) p c l) := Lib.hid ⟨hc, HL.out.bel (bel5 (HB.out.trans HB3.out) hb1 hb2 _ _ _ _ _), bel5 (HB.out.trans HB3.out) hb1 hb2 _ _ _ _ _⟩
    go_wp2
    exact bodyPost_ret (v := .tuple #[.agg #[.int .i64 P, .slice p l.length c], .agg #[.int .u64 0, .int .u64 0, .int .i64 0], .int .i64 5]) (by simp [results, Tryz.results80, go_sem, x0, x1, y0, y1, y2, n12, n21]) rfl ⟨p, c, rfl, HE.out⟩
  · subst ej
    rw [hfd, e]
    rw [hfd] at KG
    have hk2 : ¬ (j : Int) < 0 := by omega
    have hk3 : (j : Int) < P := by omega
    clear e hfd hin
    unfold dcV
    unfold ansT at KG
    generalize (j : Int) = k at *
    have HX : Hid ((some x).getD default = x) := Lib.hid rfl
    rw [HX.out]
    clear HX
    go_enter Tryz.func80, Tryz.ntmps80
    go_upto_region 1 with (fail)
    obtain ⟨W, eW, hB, hz, n0, n1, n2⟩ := H3.out
    rw [eW]
    clear H3 eW
    obtain ⟨b1, e1⟩ : ∃ b, w.heap.size + 1 = b := ⟨_, rfl⟩
    rw [e1] at n1 n2 hz ⊢
    obtain ⟨b2, e2⟩ : ∃ b, b1 + 1 = b := ⟨_, rfl⟩
    rw [e2] at n2 hz ⊢
    have hb1 : w.heap.size ≤ b1 := by omega
    have hb2 : w.heap.size ≤ b2 := by omega
    have n12 : ¬ b1 = b2 := by omega
    have n21 : ¬ b2 = b1 := by omega
    obtain ⟨⟨q0, q1⟩, _⟩ := box2 n0
    have HB := Lib.hid hB
    have HN0 := Lib.hid n0
    have HN1 := Lib.hid n1
    have HN2 := Lib.hid n2
    clear hB n0 n1 n2 e1 e2 hz
    go_wp2_with fail
    with_reducible refine (KG.out _ (HL.out.bel HB.out).has).mono ?_
    rintro e w1 ⟨rfl, hb⟩
    have hb3 : Bel W (w1.alloc (.cells #[.int .u64 x.a, .int .u64 x.s, .int .i64 x.p] 37)) := hb.alloc _ _
    have HB3 := Lib.hid hb3
    have HM : Hid ((w1.alloc (.cells #[.int .u64 x.a, .int .u64 x.s, .int .i64 x.p] 37)).heap[w1.heap.size]? = some (.cells #[.int .u64 x.a, .int .u64 x.s, .int .i64 x.p] 37 (0, 0))) := Lib.hid (heap_alloc_new _ _)
    have l9 : b2 < w1.heap.size := Nat.lt_of_lt_of_le (Array.getElem?_eq_some_iff.1 HN2.out).1 hb.size
    have l12 : b1 < w1.heap.size := Nat.lt_of_lt_of_le (Array.getElem?_eq_some_iff.1 HN1.out).1 hb.size
    clear hb hb3 q0 q1
    go_upto_region 4 with (fail)
    generalize w1.alloc (.cells #[.int .u64 x.a, .int .u64 x.s, .int .i64 x.p] 37) = W3 at *
    generalize w1.heap.size = b9 at *
    have n19 : ¬ b1 = b9 := by omega
    have n91 : ¬ b9 = b1 := by omega
    have n29 : ¬ b2 = b9 := by omega
    have n92 : ¬ b9 = b2 := by omega
    obtain ⟨⟨q0, q1⟩, _⟩ := box2 (HB3.out.heap HN0.out)
    obtain ⟨⟨m0, m1, m2⟩, _⟩ := box3 HM.out
    have HBd : Hid (Bel w W3.drew) := Lib.hid (HB.out.trans HB3.out).drew
    have HY : Hid (∀ w', Bel W3.drew w' → (w'.cell? ⟨b9, 0, none⟩ = some (.int .u64 x.a) ∧ w'.cell? ⟨b9, 1, none⟩ = some (.int .u64 x.s) ∧ w'.cell? ⟨b9, 2, none⟩ = some (.int .i64 x.p)) ∧ ((w'.cell? ⟨w.heap.size, 0, none⟩ = some (.int .i64 P) ∧ w'.cell? ⟨w.heap.size, 1, none⟩ = some (.slice p l.length c)) ∧ (w'.cell? ⟨b1, 0, none⟩ = some (.int .i64 0) ∧ w'.cell? ⟨b1, 1, none⟩ = some (.slice none 0 0)) ∧ (w'.frozen? ⟨b1, 0, none⟩ = false ∧ w'.frozen? ⟨b1, 1, none⟩ = false)) ∧ ((w'.cell? ⟨b2, 0, none⟩ = some (.int .u64 0) ∧ w'.cell? ⟨b2, 1, none⟩ = some (.int .u64 0) ∧ w'.cell? ⟨b2, 2, none⟩ = some (.int .i64 0)) ∧ (w'.frozen? ⟨b2, 0, none⟩ = false ∧ w'.frozen? ⟨b2, 1, none⟩ = false ∧ w'.frozen? ⟨b2, 2, none⟩ = false))) := Lib.hid (fun w' h =>
      ⟨(box3 (h.heap ((Bel.refl W3).drew.heap HM.out))).1, ⟨(box2 (h.heap (HB3.out.drew.heap HN0.out))).1, box2 (h.heap (HB3.out.drew.heap HN1.out))⟩, box3 (h.heap (HB3.out.drew.heap HN2.out))⟩)
    go_wp2
    go_region_with (go_at_call 116; (with_reducible refine (KW.out _ (HL.out.bel HBd.out).has).mono ?_); rintro e w5 ⟨p5, c5, rfl, hc5, hl5, hb5⟩; have hy5 := HY.out _ hb5; obtain ⟨⟨m0, m1, m2⟩, ⟨⟨q0, q1⟩, ⟨x0, x1⟩, h0, h1⟩, ⟨y0, y1, y2⟩, g0, g1, g2⟩ := hy5)
    all_goals
      have HE : Hid (DocOut f w (((((w5.setCell ⟨b1, 0, none⟩ (.int .i64 P)).setCell ⟨b1, 1, none⟩ (.slice p5 (wo l k).length c5)).setCell ⟨b2, 0, none⟩ (.int .u64 x.a)).setCell ⟨b2, 1, none⟩ (.int .u64 x.s)).setCell ⟨b2, 2, none⟩ (.int .i64 x.p)) p5 c5 (wo l k)) := Lib.hid (by
        have o2 := off5 w5 b1 b2 (.int .i64 P) (.slice p5 (wo l k).length c5) (.int .u64 x.a) (.int .u64 x.s) (.int .i64 x.p)
        have hlt1 : b1 < W3.drew.heap.size := (Array.getElem?_eq_some_iff.1 (HB3.out.drew.heap HN1.out)).1
        have hlt2 : b2 < W3.drew.heap.size := (Array.getElem?_eq_some_iff.1 (HB3.out.drew.heap HN2.out)).1
        have hl6 := hl5.off (o2.mono (g := old W3.drew) (fun i _ e => by unfold old; omega)) (fun i e => e)
        exact ⟨hc5, hl6.mono (fun b _ e => Nat.lt_of_lt_of_le (HF.out b e) HBd.out.size), bel5 (HBd.out.trans hb5) hb1 hb2 _ _ _ _ _⟩)
      clear hl5 hb5
      go_wp2
      exact bodyPost_ret (v := .tuple #[.agg #[.int .i64 P, .slice p5 (wo l k).length c5], .agg #[.int .u64 x.a, .int .u64 x.s, .int .i64 x.p], .int .i64 0]) (by simp [results, Tryz.results80, go_sem, x0, x1, y0, y1, y2, n12, n21]) rfl ⟨p5, c5, rfl, HE.out⟩
end Go.Proofs.YtdoceldofkaapaaGreatDoor
namespace Go.Proofs.YtdoceldofkaapaaGreatDoor
open Go.RowKit
set_option maxHeartbeats 4000000 in
theorem ddue_any (f : Nat → Prop) (P : Nat) (p : Option Addr) (c : Nat) (l : List T) (now : Int) (w : World) (hm : l.length ≤ 5000) (hf : ∀ j, f j → j < w.heap.size) (hl : Lies f w p (encs l)) :
    Calls Tryz.prog 82 #[.agg #[.int .i64 P, .slice p l.length c], .int .u64 now] w fun e w' => ∃ p' c' p2 c2, e = .returned (.tuple #[.agg #[.int .i64 P, .slice p' (due l now false).length c'], .slice p2 (due l now true).length c2]) ∧ DocOut f w w' p' c' (due l now false) ∧ Lies (old w) w' p2 (encs (due l now true)) := by
  have H2 : Hid (∃ W, (w.alloc (.cells #[.int .i64 P, .slice p l.length c] 31)).alloc (.cells #[.int .i64 0, .slice none 0 0] 31) = W ∧ Bel w W ∧ W.heap[w.heap.size]? = some (.cells #[.int .i64 P, .slice p l.length c] 31 (0, 0)) ∧ W.heap[w.heap.size + 1]? = some (.cells #[.int .i64 0, .slice none 0 0] 31 (0, 0))) := Lib.hid (by
    refine ⟨_, rfl, ((Bel.refl w).alloc _ _).alloc _ _, ?_, ?_⟩
    · rw [Below.heap_alloc _ _ _ (by simp), heap_alloc_new]
    · have := heap_alloc_new (w.alloc (.cells #[.int .i64 P, .slice p l.length c] 31)) (.cells #[.int .i64 0, .slice none 0 0] 31)
      simpa using this)
  have HL := Lib.hid hl
  have HF := Lib.hid hf
  have KD := Lib.hid (fun d w' (h : Has w' p l) => rdue_any p l.length c l now d w' rfl hm h)
  clear hl hf
  go_enter Tryz.func82, Tryz.ntmps82
  go_upto_region 1 with (fail)
  obtain ⟨W, eW, hB, n0, n1⟩ := H2.out
  rw [eW]
  clear H2 eW
  obtain ⟨b1, e1⟩ : ∃ b, w.heap.size + 1 = b := ⟨_, rfl⟩
  rw [e1] at n1 ⊢
  have hb1 : w.heap.size ≤ b1 := by omega
  have hb01 : ¬ w.heap.size = b1 := by omega
  clear e1
  obtain ⟨⟨q0, q1⟩, _⟩ := box2 n0
  have HBd : Hid (Bel w W.drew) := Lib.hid hB.drew
  have HH : Hid (∀ w', Bel W.drew w' → Has w' p l) := Lib.hid (fun w' h => ((HL.out.bel HBd.out).bel h).has)
  have HY : Hid (∀ w', Bel W.drew w' → (w'.cell? ⟨w.heap.size, 0, none⟩ = some (.int .i64 P) ∧ w'.cell? ⟨w.heap.size, 1, none⟩ = some (.slice p l.length c)) ∧ (w'.cell? ⟨b1, 0, none⟩ = some (.int .i64 0) ∧ w'.cell? ⟨b1, 1, none⟩ = some (.slice none 0 0)) ∧ (w'.frozen? ⟨b1, 0, none⟩ = false ∧ w'.frozen? ⟨b1, 1, none⟩ = false)) := Lib.hid (fun w' h =>
    ⟨(box2 (h.heap ((Bel.refl W).drew.heap n0))).1, box2 (h.heap ((Bel.refl W).drew.heap n1))⟩)
  have hlt1 : b1 < W.drew.heap.size := (Array.getElem?_eq_some_iff.1 n1).1
  have HR := Lib.hid (Bel.refl W.drew)
  have HZ : Hid (∀ w', Bel W.drew w' → ∀ x y : Value, ((w'.setCell ⟨b1, 0, none⟩ x).setCell ⟨b1, 1, none⟩ y).cell? ⟨w.heap.size, 0, none⟩ = some (.int .i64 P) ∧ ((w'.setCell ⟨b1, 0, none⟩ x).setCell ⟨b1, 1, none⟩ y).cell? ⟨w.heap.size, 1, none⟩ = some (.slice p l.length c)) := Lib.hid (fun w' h x y => by
    have o2 := off2 w' b1 x y
    have h2 := (HY.out _ h).1
    exact ⟨o2.cell (p := ⟨w.heap.size, 0, none⟩) (fun e => hb01 e) h2.1, o2.cell (p := ⟨w.heap.size, 1, none⟩) (fun e => hb01 e) h2.2⟩)
  clear hB n0 n1
  go_wp2
  go_region_held3 (fun w' => w'.cell? ⟨w.heap.size, 0, none⟩ = some (.int .i64 P) ∧ w'.cell? ⟨w.heap.size, 1, none⟩ = some (.slice p l.length c))
    (first | (with_reducible exact (HY.out _ HR.out).1) | exact (HY.out _ hb5).1 | exact (HY.out _ (hb5.trans hb6)).1 | exact HZ.out _ (hb5.trans hb6) _ _)
    (first | (go_at_call 117; (with_reducible refine (KD.out _ _ (HH.out _ HR.out)).mono ?_); rintro e w5 ⟨⟨p5, c5, rfl, hc5, hl5⟩, hb5⟩; have hy5 := HY.out _ hb5; obtain ⟨_, ⟨x0, x1⟩, h0, h1⟩ := hy5) | (go_at_call 117; (with_reducible refine (KD.out _ _ (HH.out _ hb5)).mono ?_); rintro e w6 ⟨⟨p6, c6, rfl, hc6, hl6⟩, hb6⟩; have hy6 := HY.out _ (hb5.trans hb6); obtain ⟨_, ⟨x0, x1⟩, h0, h1⟩ := hy6))
  all_goals
    have HE : Hid (DocOut f w ((w6.setCell ⟨b1, 0, none⟩ (.int .i64 P)).setCell ⟨b1, 1, none⟩ (.slice p5 (due l now false).length c5)) p5 c5 (due l now false) ∧ Lies (old w) ((w6.setCell ⟨b1, 0, none⟩ (.int .i64 P)).setCell ⟨b1, 1, none⟩ (.slice p5 (due l now false).length c5)) p6 (encs (due l now true))) := Lib.hid (by
      have o2 := off2 w6 b1 (.int .i64 P) (.slice p5 (due l now false).length c5)
      have hlt5 : b1 < w5.heap.size := Nat.lt_of_lt_of_le hlt1 hb5.size
      have hl7 := (hl5.bel hb6).off (o2.mono (g := old W.drew) (fun i _ e => by unfold old; omega)) (fun i e => e)
      have hl8 := hl6.off (o2.mono (g := old w5) (fun i _ e => by unfold old; omega)) (fun i e => e)
      exact ⟨⟨hc5, hl7.mono (fun b _ e => Nat.lt_of_lt_of_le (HF.out b e) HBd.out.size), bel2 (HBd.out.trans (hb5.trans hb6)) hb1 _ _⟩, hl8.mono (fun b _ e => Nat.lt_of_lt_of_le e (HBd.out.trans hb5).size)⟩)
    clear hl5 hl6 hb5 hb6
    go_wp2
    exact bodyPost_ret (v := .tuple #[.agg #[.int .i64 P, .slice p5 (due l now false).length c5], .slice p6 (due l now true).length c6]) (by simp [results, Tryz.results82, go_sem, x0, x1]) rfl ⟨p5, c5, p6, c6, rfl, HE.out⟩
end Go.Proofs.YtdoceldofkaapaaGreatDoor
namespace Go.Proofs.YtdoceldofkaapaaGreatDoor
open Go.RowKit
/-- A row of timers lies in no box of a queue of the document's. -/
theorem Lies.apart {f : Nat → Prop} {w w' : World} {p : Option Addr} {l : List T} (h : Lies f w p (encs l)) {B : Nat} {x : Int} {q : Option Addr} {m k : Nat} {t : TypeId} (hb : w.heap[B]? = some (.cells #[.int .i64 x, .slice q m k] t (0, 0))) (ho : Off (fun k => k = B) w w') : Lies f w' p (encs l) := by
  rcases h with h | ⟨b, off, e, hf, h⟩
  · exact .inl h
  · by_cases h0 : encs l = []
    · exact .inl h0
    · refine .inr ⟨b, off, e, hf, fun j u hu => ho.cell ?_ (h j u hu)⟩
      rintro rfl
      cases l with
      | nil => exact h0 rfl
      | cons y r =>
        have h1 := h 0 (.int .u64 y.a) rfl
        rw [cell_of_row w _ _ _ t (0, 0) hb] at h1
        rcases (show off + 0 = 0 ∨ off + 0 = 1 ∨ 2 ≤ off + 0 by omega) with e | e | e
        · rw [e] at h1; simp at h1
        · rw [e] at h1; simp at h1
        · rw [Array.getElem?_eq_none (by simpa using e)] at h1; cases h1
set_option maxHeartbeats 2000000 in
theorem dmove_any (f : Nat → Prop) (P : Nat) (p : Option Addr) (c : Nat) (l : List T) (t : T) (w : World) (hm : l.length ≤ 5000) (hf : ∀ j, f j → j < w.heap.size) (hc : l.length ≤ c) (hl : Lies f w p (encs l)) (hin : hp P t.p = false → fnd l t.p = none) :
    Calls Tryz.prog 81 #[.agg #[.int .i64 P, .slice p l.length c], .agg #[.int .u64 t.a, .int .u64 t.s, .int .i64 t.p]] w fun e w' => ∃ p' c', e = .returned (.tuple #[.agg #[.int .i64 P, .slice p' (movL P l t).length c'], .int .i64 (canE P l t.p)]) ∧ DocOut f w w' p' c' (movL P l t) := by
  have H3 := Lib.hid (three_new w #[.int .i64 P, .slice p l.length c] #[.int .u64 t.a, .int .u64 t.s, .int .i64 t.p] #[.int .i64 0, .slice none 0 0] 31 37 31)
  have HL := Lib.hid hl
  have HF := Lib.hid hf
  have hcases := canE_cases P l t.p
  have KC := Lib.hid (fun w' (h : Bel w w') => dcancel_any f P p c l t.p w' hm (fun j hj => Nat.lt_of_lt_of_le (hf j hj) h.size) hc (hl.bel h) hin)
  have KI := Lib.hid (fun w' p1 c1 (h : Bel w w') (h1 : (wo l t.p).length ≤ c1) (h2 : Lies f w' p1 (encs (wo l t.p))) => dinsert_any f P p1 c1 (wo l t.p) t w' (Nat.le_trans (wo_len l t.p) hm) (fun j hj => Nat.lt_of_lt_of_le (hf j hj) h.size) h1 h2)
  clear hl hf hin
  unfold dcV at KC
  generalize ((fnd l t.p).getD default).a = c0 at *
  generalize ((fnd l t.p).getD default).s = c1 at *
  generalize ((fnd l t.p).getD default).p = c2 at *
  rcases hcases with ⟨hn, _⟩ | ⟨hz, j, ej, hj, x, hfd⟩
  · have hn2 : (canE P l t.p == 0) = false := by simpa using hn
    have eL : movL P l t = l := by unfold movL; rw [if_neg hn]
    rw [eL]
    clear hn eL KI
    generalize canE P l t.p = er at *
    generalize (wo l t.p).length = n1 at *
    go_enter Tryz.func81, Tryz.ntmps81
    go_upto_region 1 with (fail)
    obtain ⟨W, eW, hB, hz, n0, n1', n2⟩ := H3.out
    rw [eW]
    clear H3 eW
    obtain ⟨b1, e1⟩ : ∃ b, w.heap.size + 1 = b := ⟨_, rfl⟩
    rw [e1] at n1' n2 hz ⊢
    obtain ⟨b2, e2⟩ : ∃ b, b1 + 1 = b := ⟨_, rfl⟩
    rw [e2] at n2 hz ⊢
    have hb2 : w.heap.size ≤ b2 := by omega
    obtain ⟨⟨q0, q1⟩, _⟩ := box2 n0
    obtain ⟨⟨x0, x1, x2⟩, _⟩ := box3 n1'
    have HB := Lib.hid hB
    have HN0 := Lib.hid n0
    have HN2 := Lib.hid n2
    clear hB n0 n1' n2 e1 e2 hz
    go_wp2_with fail
    with_reducible refine (KC.out _ HB.out).mono ?_
    rintro e w1 ⟨p1, c1', rfl, hd⟩
    have hb3 : Bel W ((w1.alloc (.cells #[.int .i64 P, .slice p1 n1 c1'] 31)).alloc (.cells #[.int .u64 c0, .int .u64 c1, .int .i64 c2] 37)) := (hd.bel.alloc _ _).alloc _ _
    have HB3 := Lib.hid hb3
    clear hd hb3 q0 q1 x0 x1 x2
    go_upto_region 2 with (fail)
    generalize (w1.alloc (.cells #[.int .i64 P, .slice p1 n1 c1'] 31)).alloc (.cells #[.int .u64 c0, .int .u64 c1, .int .i64 c2] 37) = W3 at *
    obtain ⟨⟨q0, q1⟩, _⟩ := box2 (HB3.out.heap HN0.out)
    obtain ⟨⟨y0, y1⟩, g0, g1⟩ := box2 (HB3.out.heap HN2.out)
    have HE : Hid (DocOut f w ((W3.setCell ⟨b2, 0, none⟩ (.int .i64 P)).setCell ⟨b2, 1, none⟩ (.slice p l.length c)) p c l) := Lib.hid ⟨hc, HL.out.boxed (HB.out.trans HB3.out) hb2 _ _, bel2 (HB.out.trans HB3.out) hb2 _ _⟩
    go_wp2
    exact bodyPost_ret (v := .tuple #[.agg #[.int .i64 P, .slice p l.length c], .int .i64 er]) (by simp [results, Tryz.results81, go_sem, y0, y1]) rfl ⟨p, c, rfl, HE.out⟩
  · have hI := insE_wo (l := l) ej hj
    have eL : insL P (wo l t.p) t = movL P l t := by unfold insL movL; rw [if_pos hI, if_pos hz]
    rw [hI, eL] at KI
    rw [hz] at KC ⊢
    clear hI eL hz ej hfd
    generalize hn1 : (wo l t.p).length = n1 at *
    go_enter Tryz.func81, Tryz.ntmps81
    go_upto_region 1 with (fail)
    obtain ⟨W, eW, hB, hz, n0, n1', n2⟩ := H3.out
    rw [eW]
    clear H3 eW
    obtain ⟨b1, e1⟩ : ∃ b, w.heap.size + 1 = b := ⟨_, rfl⟩
    rw [e1] at n1' n2 hz ⊢
    obtain ⟨b2, e2⟩ : ∃ b, b1 + 1 = b := ⟨_, rfl⟩
    rw [e2] at n2 hz ⊢
    have hb2 : w.heap.size ≤ b2 := by omega
    obtain ⟨⟨q0, q1⟩, _⟩ := box2 n0
    obtain ⟨⟨x0, x1, x2⟩, _⟩ := box3 n1'
    have HB := Lib.hid hB
    have HN1 := Lib.hid n1'
    have HN2 := Lib.hid n2
    clear hB n0 n1' n2 e1 e2 hz
    go_wp2_with fail
    with_reducible refine (KC.out _ HB.out).mono ?_
    rintro e w1 ⟨p1, c1', rfl, hd⟩
    have hbA : Bel w1 ((w1.alloc (.cells #[.int .i64 P, .slice p1 n1 c1'] 31)).alloc (.cells #[.int .u64 c0, .int .u64 c1, .int .i64 c2] 37)) := ((Bel.refl w1).alloc _ _).alloc _ _
    have hM : ((w1.alloc (.cells #[.int .i64 P, .slice p1 n1 c1'] 31)).alloc (.cells #[.int .u64 c0, .int .u64 c1, .int .i64 c2] 37)).heap[w1.heap.size]? = some (.cells #[.int .i64 P, .slice p1 n1 c1'] 31 (0, 0)) := by rw [Below.heap_alloc _ _ _ (by simp), heap_alloc_new]
    have HB3 := Lib.hid (hd.bel.trans hbA)
    have HD := Lib.hid hd
    have HBA := Lib.hid hbA
    have HM := Lib.hid hM
    clear hd hbA hM q0 q1 x0 x1 x2
    go_upto_region 2 with (fail)
    generalize (w1.alloc (.cells #[.int .i64 P, .slice p1 n1 c1'] 31)).alloc (.cells #[.int .u64 c0, .int .u64 c1, .int .i64 c2] 37) = W3 at *
    obtain ⟨⟨m0, m1⟩, _⟩ := box2 HM.out
    obtain ⟨⟨x0, x1, x2⟩, _⟩ := box3 (HB3.out.heap HN1.out)
    have KZ := Lib.hid (KI.out W3 p1 c1' (HB.out.trans HB3.out) (by rw [← hn1]; exact HD.out.hc) (HD.out.lies.bel HBA.out))
    clear hn1
    go_wp2_with fail
    with_reducible refine KZ.out.mono ?_
    rintro e w4 ⟨p4, c4, rfl, hd4⟩
    obtain ⟨⟨y0, y1⟩, g0, g1⟩ := box2 (hd4.bel.heap (HB3.out.heap HN2.out))
    have HE : Hid (DocOut f w ((w4.setCell ⟨b2, 0, none⟩ (.int .i64 P)).setCell ⟨b2, 1, none⟩ (.slice p4 (movL P l t).length c4)) p4 c4 (movL P l t)) := Lib.hid
      ⟨hd4.hc, hd4.lies.apart (hd4.bel.heap (HB3.out.heap HN2.out)) (off2 w4 b2 (.int .i64 P) (.slice p4 (movL P l t).length c4)), bel2 ((HB.out.trans HB3.out).trans hd4.bel) hb2 _ _⟩
    clear hd4 m0 m1 x0 x1 x2
    go_wp2
    exact bodyPost_ret (v := .tuple #[.agg #[.int .i64 P, .slice p4 (movL P l t).length c4], .int .i64 0]) (by simp [results, Tryz.results81, go_sem, y0, y1]) rfl ⟨p4, c4, rfl, HE.out⟩
end Go.Proofs.YtdoceldofkaapaaGreatDoor
