/-
  Contract of the document's Insert.
  Contract of the document's Cancel.
-/
import Derived.Test.YtdoceldofkaapaaGreatDoorXae
set_option linter.unusedVariables false
set_option linter.unusedSimpArgs false
namespace Go.Proofs.YtdoceldofkaapaaGreatDoor
open Go.RowKit
/-- Three new boxes. -/
theorem three_new (w : World) (a b c : Array Value) (ta tb tc : TypeId) : ∃ W, ((w.alloc (.cells a ta)).alloc (.cells b tb)).alloc (.cells c tc) = W ∧ Bel w W ∧ W.heap.size = w.heap.size + 1 + 1 + 1 ∧
    W.heap[w.heap.size]? = some (.cells a ta (0, 0)) ∧ W.heap[w.heap.size + 1]? = some (.cells b tb (0, 0)) ∧ W.heap[w.heap.size + 1 + 1]? = some (.cells c tc (0, 0)) := by
  refine ⟨_, rfl, (((Bel.refl w).alloc _ _).alloc _ _).alloc _ _, by simp, ?_, ?_, ?_⟩
  · rw [Below.heap_alloc _ _ _ (by simp only [World.size_alloc]; omega), Below.heap_alloc _ _ _ (by simp), heap_alloc_new]
  · rw [Below.heap_alloc _ _ _ (by simp only [World.size_alloc]; omega)]
    have := heap_alloc_new (w.alloc (.cells a ta)) (.cells b tb)
    simpa using this
  · have := heap_alloc_new ((w.alloc (.cells a ta)).alloc (.cells b tb)) (.cells c tc)
    simpa using this
theorem bel2 {w w' : World} (h : Bel w w') {T : Nat} (hT : w.heap.size ≤ T) (a b : Value) : Bel w ((w'.setCell ⟨T, 0, none⟩ a).setCell ⟨T, 1, none⟩ b) :=
  (h.setCell (p := ⟨T, 0, none⟩) hT a).setCell (p := ⟨T, 1, none⟩) hT b
theorem Lies.boxed {f : Nat → Prop} {w w' : World} {p : Option Addr} {cs : List Value} (h : Lies f w p cs) (k : Bel w w') {T : Nat} (hT : w.heap.size ≤ T) (a b : Value) : Lies f ((w'.setCell ⟨T, 0, none⟩ a).setCell ⟨T, 1, none⟩ b) p cs := h.bel (bel2 k hT a b)
/-- What a call of the document's hands back. -/
structure DocOut (f : Nat → Prop) (w w' : World) (p : Option Addr) (c : Nat) (l : List T) : Prop where
  hc : l.length ≤ c
  lies : Lies f w' p (encs l)
  bel : Bel w w'
set_option maxHeartbeats 2000000 in
theorem dinsert_any (f : Nat → Prop) (P : Nat) (p : Option Addr) (c : Nat) (l : List T) (t : T) (w : World) (hm : l.length ≤ 5000) (hf : ∀ j, f j → j < w.heap.size) (hc : l.length ≤ c) (hl : Lies f w p (encs l)) :
    Calls Tryz.prog 79 #[.agg #[.int .i64 P, .slice p l.length c], .agg #[.int .u64 t.a, .int .u64 t.s, .int .i64 t.p]] w fun e w' => ∃ p' c', e = .returned (.tuple #[.agg #[.int .i64 P, .slice p' (insL P l t).length c'], .int .i64 (insE P l t)]) ∧ DocOut f w w' p' c' (insL P l t) := by
  have H3 := Lib.hid (three_new w #[.int .i64 P, .slice p l.length c] #[.int .u64 t.a, .int .u64 t.s, .int .i64 t.p] #[.int .i64 0, .slice none 0 0] 31 37 31)
  have HL := Lib.hid hl
  have HF := Lib.hid hf
  have hcases := insE_cases P l t
  have KG := Lib.hid (fun w' (h : Has w' p l) => dget_any P p l.length c l t.p w' rfl hm h)
  have KP := Lib.hid (fun w' (h : Has w' p l) => rput_any p l.length c l t w' rfl hm hc h)
  clear hl hf
  rcases hcases with ⟨e, hk⟩ | ⟨k, e, hk, hcs⟩
  · have eL : insL P l t = l := by unfold insL; rw [if_neg (by omega)]
    rw [eL, e]
    have hk2 : t.p < 0 ∨ ¬ t.p < 0 ∧ ¬ t.p < P := by
      unfold hp at hk
      simp at hk
      omega
    clear e eL hk KG KP
    go_enter Tryz.func79, Tryz.ntmps79
    go_upto_region 1 with (fail)
    obtain ⟨W, eW, hB, hz, n0, n1, n2⟩ := H3.out
    rw [eW]
    clear H3 eW
    obtain ⟨b1, e1⟩ : ∃ b, w.heap.size + 1 = b := ⟨_, rfl⟩
    rw [e1] at n1 n2 hz ⊢
    obtain ⟨b2, e2⟩ : ∃ b, b1 + 1 = b := ⟨_, rfl⟩
    rw [e2] at n2 hz ⊢
    have hb2 : w.heap.size ≤ b2 := by omega
    obtain ⟨⟨q0, q1⟩, _⟩ := box2 n0
    obtain ⟨⟨x0, x1, x2⟩, _⟩ := box3 n1
    obtain ⟨⟨y0, y1⟩, g0, g1⟩ := box2 n2
    have HE : Hid (DocOut f w ((W.setCell ⟨b2, 0, none⟩ (.int .i64 P)).setCell ⟨b2, 1, none⟩ (.slice p l.length c)) p c l) := Lib.hid ⟨hc, HL.out.boxed hB hb2 _ _, bel2 hB hb2 _ _⟩
    clear hB n0 n1 n2 e1 e2 hz
    rcases hk2 with hk2 | ⟨hk2, hk3⟩
    · go_wp2
      exact bodyPost_ret (v := .tuple #[.agg #[.int .i64 P, .slice p l.length c], .int .i64 1]) (by simp [results, Tryz.results79, go_sem, y0, y1]) rfl ⟨p, c, rfl, HE.out⟩
    · go_wp2
      exact bodyPost_ret (v := .tuple #[.agg #[.int .i64 P, .slice p l.length c], .int .i64 1]) (by simp [results, Tryz.results79, go_sem, y0, y1]) rfl ⟨p, c, rfl, HE.out⟩
  · have hk2 : ¬ t.p < 0 := by omega
    have hk3 : t.p < P := by omega
    have ef : fnd l k = fnd l t.p := by rw [e]
    rw [ef] at hcs
    clear e ef
    rcases hcs with ⟨e, x, hfd⟩ | ⟨e, hfd⟩
    · have eL : insL P l t = l := by unfold insL; rw [if_neg (by omega)]
      rw [eL, e]
      rw [hfd] at KG
      clear e eL KP hfd hk
      unfold ansT at KG
      go_enter Tryz.func79, Tryz.ntmps79
      go_upto_region 1 with (fail)
      obtain ⟨W, eW, hB, hz, n0, n1, n2⟩ := H3.out
      rw [eW]
      clear H3 eW
      obtain ⟨b1, e1⟩ : ∃ b, w.heap.size + 1 = b := ⟨_, rfl⟩
      rw [e1] at n1 n2 hz ⊢
      obtain ⟨b2, e2⟩ : ∃ b, b1 + 1 = b := ⟨_, rfl⟩
      rw [e2] at n2 hz ⊢
      have hb2 : w.heap.size ≤ b2 := by omega
      obtain ⟨⟨q0, q1⟩, _⟩ := box2 n0
      obtain ⟨⟨x0, x1, x2⟩, _⟩ := box3 n1
      have HB := Lib.hid hB
      have HN0 := Lib.hid n0
      have HN2 := Lib.hid n2
      clear hB n0 n1 n2 e1 e2 hz
      go_wp2_with fail
      with_reducible refine (KG.out _ (HL.out.bel HB.out).has).mono ?_
      rintro e w1 ⟨rfl, hb⟩
      have hb3 : Bel W (w1.alloc (.cells #[.int .u64 x.a, .int .u64 x.s, .int .i64 x.p] 37)) := hb.alloc _ _
      have HB3 := Lib.hid hb3
      clear hb hb3 q0 q1 x0 x1 x2
      go_upto_region 4 with (fail)
      generalize w1.alloc (.cells #[.int .u64 x.a, .int .u64 x.s, .int .i64 x.p] 37) = W3 at *
      obtain ⟨⟨q0, q1⟩, _⟩ := box2 (HB3.out.heap HN0.out)
      obtain ⟨⟨y0, y1⟩, g0, g1⟩ := box2 (HB3.out.heap HN2.out)
      have HE : Hid (DocOut f w ((W3.setCell ⟨b2, 0, none⟩ (.int .i64 P)).setCell ⟨b2, 1, none⟩ (.slice p l.length c)) p c l) := Lib.hid ⟨hc, HL.out.boxed (HB.out.trans HB3.out) hb2 _ _, bel2 (HB.out.trans HB3.out) hb2 _ _⟩
      go_wp2
      exact bodyPost_ret (v := .tuple #[.agg #[.int .i64 P, .slice p l.length c], .int .i64 4]) (by simp [results, Tryz.results79, go_sem, y0, y1]) rfl ⟨p, c, rfl, HE.out⟩
    · have eL : insL P l t = put l t := by unfold insL; rw [if_pos e]
      rw [eL, e]
      rw [hfd] at KG
      clear e eL hfd hk
      unfold ansT at KG
      go_enter Tryz.func79, Tryz.ntmps79
      go_upto_region 1 with (fail)
      obtain ⟨W, eW, hB, hz, n0, n1, n2⟩ := H3.out
      rw [eW]
      clear H3 eW
      obtain ⟨b1, e1⟩ : ∃ b, w.heap.size + 1 = b := ⟨_, rfl⟩
      rw [e1] at n1 n2 hz ⊢
      obtain ⟨b2, e2⟩ : ∃ b, b1 + 1 = b := ⟨_, rfl⟩
      rw [e2] at n2 hz ⊢
      have hb2 : w.heap.size ≤ b2 := by omega
      obtain ⟨⟨q0, q1⟩, _⟩ := box2 n0
      obtain ⟨⟨x0, x1, x2⟩, _⟩ := box3 n1
      have HB := Lib.hid hB
      have HN0 := Lib.hid n0
      have HN1 := Lib.hid n1
      have HN2 := Lib.hid n2
      clear hB n0 n1 n2 e1 e2 hz
      go_wp2_with fail
      with_reducible refine (KG.out _ (HL.out.bel HB.out).has).mono ?_
      rintro e w1 ⟨rfl, hb⟩
      have hb3 : Bel W (w1.alloc (.cells #[.int .u64 0, .int .u64 0, .int .i64 0] 37)) := hb.alloc _ _
      have HB3 := Lib.hid hb3
      clear hb hb3 q0 q1 x0 x1 x2
      go_upto_region 4 with (fail)
      generalize w1.alloc (.cells #[.int .u64 0, .int .u64 0, .int .i64 0] 37) = W3 at *
      obtain ⟨⟨q0, q1⟩, _⟩ := box2 (HB3.out.heap HN0.out)
      obtain ⟨⟨x0, x1, x2⟩, _⟩ := box3 (HB3.out.heap HN1.out)
      have HBd : Hid (Bel w W3.drew) := Lib.hid (HB.out.trans HB3.out).drew
      have HY : Hid (∀ w', Bel W3.drew w' → (w'.cell? ⟨w.heap.size, 0, none⟩ = some (.int .i64 P)) ∧ (w'.cell? ⟨b2, 0, none⟩ = some (.int .i64 0) ∧ w'.cell? ⟨b2, 1, none⟩ = some (.slice none 0 0)) ∧ (w'.frozen? ⟨b2, 0, none⟩ = false ∧ w'.frozen? ⟨b2, 1, none⟩ = false)) := Lib.hid (fun w' h =>
        ⟨(box2 (h.heap (HB3.out.drew.heap HN0.out))).1.1, box2 (h.heap (HB3.out.drew.heap HN2.out))⟩)
      go_wp2
      go_region_with (go_at_call 115; (with_reducible refine (KP.out _ (HL.out.bel HBd.out).has).mono ?_); rintro e w5 ⟨⟨p5, c5, rfl, hc5, hl5⟩, hb5⟩; have hy5 := HY.out _ hb5; obtain ⟨q0, ⟨y0, y1⟩, g0, g1⟩ := hy5)
      all_goals
        have HE : Hid (DocOut f w ((w5.setCell ⟨b2, 0, none⟩ (.int .i64 P)).setCell ⟨b2, 1, none⟩ (.slice p5 (put l t).length c5)) p5 c5 (put l t)) := Lib.hid (by
          have o2 := off2 w5 b2 (.int .i64 P) (.slice p5 (put l t).length c5)
          have hlt : b2 < W3.drew.heap.size := (Array.getElem?_eq_some_iff.1 (HB3.out.drew.heap HN2.out)).1
          have hl6 := hl5.off (o2.mono (g := old W3.drew) (fun i _ e => by unfold old; omega)) (fun i e => e)
          exact ⟨hc5, hl6.mono (fun b _ e => Nat.lt_of_lt_of_le (HF.out b e) HBd.out.size), bel2 (HBd.out.trans hb5) hb2 _ _⟩)
        clear hl5 hb5
        go_wp2
        exact bodyPost_ret (v := .tuple #[.agg #[.int .i64 P, .slice p5 (put l t).length c5], .int .i64 0]) (by simp [results, Tryz.results79, go_sem, y0, y1]) rfl ⟨p5, c5, rfl, HE.out⟩
end Go.Proofs.YtdoceldofkaapaaGreatDoor
namespace Go.Proofs.YtdoceldofkaapaaGreatDoor
open Go.RowKit
/-- What the document's Cancel hands back. -/
def dcV (P : Nat) (p : Option Addr) (n c : Nat) (t : T) (er : Int) : Value := .tuple #[.agg #[.int .i64 P, .slice p n c], .agg #[.int .u64 t.a, .int .u64 t.s, .int .i64 t.p], .int .i64 er]
theorem bel5 {w w' : World} (h : Bel w w') {S U : Nat} (hS : w.heap.size ≤ S) (hU : w.heap.size ≤ U) (a b x y z : Value) : Bel w (((((w'.setCell ⟨S, 0, none⟩ a).setCell ⟨S, 1, none⟩ b).setCell ⟨U, 0, none⟩ x).setCell ⟨U, 1, none⟩ y).setCell ⟨U, 2, none⟩ z) :=
  bel3 (bel2 h hS a b) hU x y z
theorem off5 (w : World) (S U : Nat) (a b x y z : Value) : Off (fun k => k = S ∨ k = U) w (((((w.setCell ⟨S, 0, none⟩ a).setCell ⟨S, 1, none⟩ b).setCell ⟨U, 0, none⟩ x).setCell ⟨U, 1, none⟩ y).setCell ⟨U, 2, none⟩ z) :=
  Off.then ((off2 w S a b).mono (fun _ _ e => .inl e)) ((off3 _ U x y z).mono (fun _ _ e => .inr e))
set_option maxHeartbeats 2000000 in
theorem dcancel_any (f : Nat → Prop) (P : Nat) (p : Option Addr) (c : Nat) (l : List T) (k : Int) (w : World) (hm : l.length ≤ 5000) (hf : ∀ j, f j → j < w.heap.size) (hc : l.length ≤ c) (hl : Lies f w p (encs l)) (hin : hp P k = false → fnd l k = none) :
    Calls Tryz.prog 80 #[.agg #[.int .i64 P, .slice p l.length c], .int .i64 k] w fun e w' => ∃ p' c', e = .returned (dcV P p' (wo l k).length c' ((fnd l k).getD default) (canE P l k)) ∧ DocOut f w w' p' c' (wo l k) := by
  have H3 := Lib.hid (three_new w #[.int .i64 P, .slice p l.length c] #[.int .i64 0, .slice none 0 0] #[.int .u64 0, .int .u64 0, .int .i64 0] 31 31 37)
  have HL := Lib.hid hl
  have HF := Lib.hid hf
  have hcases := canE_cases P l k
  have KG := Lib.hid (fun w' (h : Has w' p l) => dget_any P p l.length c l k w' rfl hm h)
  have KW := Lib.hid (fun w' (h : Has w' p l) => dwo_any P p l.length c l k w' rfl hm h)
  clear hl hf
  rcases hcases with ⟨_, ⟨e, hk⟩ | ⟨e, hk, hfd⟩⟩ | ⟨e, j, ej, hj, x, hfd⟩
  · have hfd := hin hk
    rw [wo_none hfd, hfd, e]
    have hk2 : k < 0 ∨ ¬ k < 0 ∧ ¬ k < P := by
      unfold hp at hk
      simp at hk
      omega
    clear e hk KG KW hfd hin
    unfold dcV
    go_enter Tryz.func80, Tryz.ntmps80
    go_upto_region 1 with (fail)
    obtain ⟨W, eW, hB, hz, n0, n1, n2⟩ := H3.out
    rw [eW]
    clear H3 eW
    obtain ⟨b1, e1⟩ : ∃ b, w.heap.size + 1 = b := ⟨_, rfl⟩
    rw [e1] at n1 n2 hz ⊢
    obtain ⟨b2, e2⟩ : ∃ b, b1 + 1 = b := ⟨_, rfl⟩
    rw [e2] at n2 hz ⊢
    have hb1 : w.heap.size ≤ b1 := by omega
    have hb2 : w.heap.size ≤ b2 := by omega
    have n12 : ¬ b1 = b2 := by omega
    have n21 : ¬ b2 = b1 := by omega
    obtain ⟨⟨q0, q1⟩, _⟩ := box2 n0
    obtain ⟨⟨x0, x1⟩, h0, h1⟩ := box2 n1
    obtain ⟨⟨y0, y1, y2⟩, g0, g1, g2⟩ := box3 n2
    have HE : Hid (DocOut f w (((((W.setCell ⟨b1, 0, none⟩ (.int .i64 P)).setCell ⟨b1, 1, none⟩ (.slice p l.length c)).setCell ⟨b2, 0, none⟩ (.int .u64 0)).setCell ⟨b2, 1, none⟩ (.int .u64 0)).setCell ⟨b2, 2, none⟩ (.int .i64 0)) p c l) := Lib.hid ⟨hc, HL.out.bel (bel5 hB hb1 hb2 _ _ _ _ _), bel5 hB hb1 hb2 _ _ _ _ _⟩
    clear hB n0 n1 n2 e1 e2 hz
    rcases hk2 with hk2 | ⟨hk2, hk3⟩
    all_goals
      go_wp2
      exact bodyPost_ret (v := .tuple #[.agg #[.int .i64 P, .slice p l.length c], .agg #[.int .u64 0, .int .u64 0, .int .i64 0], .int .i64 1]) (by simp [results, Tryz.results80, go_sem, x0, x1, y0, y1, y2, n12, n21]) rfl ⟨p, c, rfl, HE.out⟩
  · rw [wo_none hfd, hfd, e]
    rw [hfd] at KG
    obtain ⟨j, rfl, hj⟩ := hp_nat hk
    have hk2 : ¬ (j : Int) < 0 := by omega
    have hk3 : (j : Int) < P := by omega
    clear e hk KW hfd hin
    unfold dcV
    unfold ansT at KG
    generalize (j : Int) = k at *
    go_enter Tryz.func80, Tryz.ntmps80
    go_upto_region 1 with (fail)
    obtain ⟨W, eW, hB, hz, n0, n1, n2⟩ := H3.out
    rw [eW]
    clear H3 eW
    obtain ⟨b1, e1⟩ : ∃ b, w.heap.size + 1 = b := ⟨_, rfl⟩
    rw [e1] at n1 n2 hz ⊢
    obtain ⟨b2, e2⟩ : ∃ b, b1 + 1 = b := ⟨_, rfl⟩
    rw [e2] at n2 hz ⊢
    have hb1 : w.heap.size ≤ b1 := by omega
    have hb2 : w.heap.size ≤ b2 := by omega
    have n12 : ¬ b1 = b2 := by omega
    have n21 : ¬ b2 = b1 := by omega
    obtain ⟨⟨q0, q1⟩, _⟩ := box2 n0
    have HB := Lib.hid hB
    have HN0 := Lib.hid n0
    have HN1 := Lib.hid n1
    have HN2 := Lib.hid n2
    clear hB n0 n1 n2 e1 e2 hz
    go_wp2_with fail
    with_reducible refine (KG.out _ (HL.out.bel HB.out).has).mono ?_
    rintro e w1 ⟨rfl, hb⟩
    have hb3 : Bel W (w1.alloc (.cells #[.int .u64 0, .int .u64 0, .int .i64 0] 37)) := hb.alloc _ _
    have HB3 := Lib.hid hb3
    clear hb hb3 q0 q1
    go_upto_region 4 with (fail)
    generalize w1.alloc (.cells #[.int .u64 0, .int .u64 0, .int .i64 0] 37) = W3 at *
    obtain ⟨⟨q0, q1⟩, _⟩ := box2 (HB3.out.heap HN0.out)
    obtain ⟨⟨x0, x1⟩, h0, h1⟩ := box2 (HB3.out.heap HN1.out)
    obtain ⟨⟨y0, y1, y2⟩, g0, g1, g2⟩ := box3 (HB3.out.heap HN2.out)
    have HE : Hid (DocOut f w (((((W3.setCell ⟨b1, 0, none⟩ (.int .i64 P)).setCell ⟨b1, 1, none⟩ (.slice p l.length c)).setCell ⟨b2, 0, none⟩ (.int .u64 0)).setCell ⟨b2, 1, none⟩ (.int .u64 0)).setCell ⟨b2, 2, none⟩ (.int .i64 0)) p c l) := Lib.hid ⟨hc, HL.out.bel (bel5 (HB.out.trans HB3.out) hb1 hb2 _ _ _ _ _), bel5 (HB.out.trans HB3.out) hb1 hb2 _ _ _ _ _⟩
    go_wp2
    exact bodyPost_ret (v := .tuple #[.agg #[.int .i64 P, .slice p l.length c], .agg #[.int .u64 0, .int .u64 0, .int .i64 0], .int .i64 5]) (by simp [results, Tryz.results80, go_sem, x0, x1, y0, y1, y2, n12, n21]) rfl ⟨p, c, rfl, HE.out⟩
  · subst ej
    rw [hfd, e]
    rw [hfd] at KG
    have hk2 : ¬ (j : Int) < 0 := by omega
    have hk3 : (j : Int) < P := by omega
    clear e hfd hin
    unfold dcV
    unfold ansT at KG
    generalize (j : Int) = k at *
    have HX : Hid ((some x).getD default = x) := Lib.hid rfl
    rw [HX.out]
    clear HX
    go_enter Tryz.func80, Tryz.ntmps80
    go_upto_region 1 with (fail)
    obtain ⟨W, eW, hB, hz, n0, n1, n2⟩ := H3.out
    rw [eW]
    clear H3 eW
    obtain ⟨b1, e1⟩ : ∃ b, w.heap.size + 1 = b := ⟨_, rfl⟩
    rw [e1] at n1 n2 hz ⊢
    obtain ⟨b2, e2⟩ : ∃ b, b1 + 1 = b := ⟨_, rfl⟩
    rw [e2] at n2 hz ⊢
    have hb1 : w.heap.size ≤ b1 := by omega
    have hb2 : w.heap.size ≤ b2 := by omega
    have n12 : ¬ b1 = b2 := by omega
    have n21 : ¬ b2 = b1 := by omega
    obtain ⟨⟨q0, q1⟩, _⟩ := box2 n0
    have HB := Lib.hid hB
    have HN0 := Lib.hid n0
    have HN1 := Lib.hid n1
    have HN2 := Lib.hid n2
    clear hB n0 n1 n2 e1 e2 hz
    go_wp2_with fail
    with_reducible refine (KG.out _ (HL.out.bel HB.out).has).mono ?_
    rintro e w1 ⟨rfl, hb⟩
    have hb3 : Bel W (w1.alloc (.cells #[.int .u64 x.a, .int .u64 x.s, .int .i64 x.p] 37)) := hb.alloc _ _
    have HB3 := Lib.hid hb3
    have HM : Hid ((w1.alloc (.cells #[.int .u64 x.a, .int .u64 x.s, .int .i64 x.p] 37)).heap[w1.heap.size]? = some (.cells #[.int .u64 x.a, .int .u64 x.s, .int .i64 x.p] 37 (0, 0))) := Lib.hid (heap_alloc_new _ _)
    have l9 : b2 < w1.heap.size := Nat.lt_of_lt_of_le (Array.getElem?_eq_some_iff.1 HN2.out).1 hb.size
    have l12 : b1 < w1.heap.size := Nat.lt_of_lt_of_le (Array.getElem?_eq_some_iff.1 HN1.out).1 hb.size
    clear hb hb3 q0 q1
    go_upto_region 4 with (fail)
    generalize w1.alloc (.cells #[.int .u64 x.a, .int .u64 x.s, .int .i64 x.p] 37) = W3 at *
    generalize w1.heap.size = b9 at *
    have n19 : ¬ b1 = b9 := by omega
    have n91 : ¬ b9 = b1 := by omega
    have n29 : ¬ b2 = b9 := by omega
    have n92 : ¬ b9 = b2 := by omega
    obtain ⟨⟨q0, q1⟩, _⟩ := box2 (HB3.out.heap HN0.out)
    obtain ⟨⟨m0, m1, m2⟩, _⟩ := box3 HM.out
    have HBd : Hid (Bel w W3.drew) := Lib.hid (HB.out.trans HB3.out).drew
    have HY : Hid (∀ w', Bel W3.drew w' → (w'.cell? ⟨b9, 0, none⟩ = some (.int .u64 x.a) ∧ w'.cell? ⟨b9, 1, none⟩ = some (.int .u64 x.s) ∧ w'.cell? ⟨b9, 2, none⟩ = some (.int .i64 x.p)) ∧ ((w'.cell? ⟨w.heap.size, 0, none⟩ = some (.int .i64 P) ∧ w'.cell? ⟨w.heap.size, 1, none⟩ = some (.slice p l.length c)) ∧ (w'.cell? ⟨b1, 0, none⟩ = some (.int .i64 0) ∧ w'.cell? ⟨b1, 1, none⟩ = some (.slice none 0 0)) ∧ (w'.frozen? ⟨b1, 0, none⟩ = false ∧ w'.frozen? ⟨b1, 1, none⟩ = false)) ∧ ((w'.cell? ⟨b2, 0, none⟩ = some (.int .u64 0) ∧ w'.cell? ⟨b2, 1, none⟩ = some (.int .u64 0) ∧ w'.cell? ⟨b2, 2, none⟩ = some (.int .i64 0)) ∧ (w'.frozen? ⟨b2, 0, none⟩ = false ∧ w'.frozen? ⟨b2, 1, none⟩ = false ∧ w'.frozen? ⟨b2, 2, none⟩ = false))) := Lib.hid (fun w' h =>
      ⟨(box3 (h.heap ((Bel.refl W3).drew.heap HM.out))).1, ⟨(box2 (h.heap (HB3.out.drew.heap HN0.out))).1, box2 (h.heap (HB3.out.drew.heap HN1.out))⟩, box3 (h.heap (HB3.out.drew.heap HN2.out))⟩)
    go_wp2
    go_region_with (go_at_call 116; (with_reducible refine (KW.out _ (HL.out.bel HBd.out).has).mono ?_); rintro e w5 ⟨p5, c5, rfl, hc5, hl5, hb5⟩; have hy5 := HY.out _ hb5; obtain ⟨⟨m0, m1, m2⟩, ⟨⟨q0, q1⟩, ⟨x0, x1⟩, h0, h1⟩, ⟨y0, y1, y2⟩, g0, g1, g2⟩ := hy5)
    all_goals
      have HE : Hid (DocOut f w (((((w5.setCell ⟨b1, 0, none⟩ (.int .i64 P)).setCell ⟨b1, 1, none⟩ (.slice p5 (wo l k).length c5)).setCell ⟨b2, 0, none⟩ (.int .u64 x.a)).setCell ⟨b2, 1, none⟩ (.int .u64 x.s)).setCell ⟨b2, 2, none⟩ (.int .i64 x.p)) p5 c5 (wo l k)) := Lib.hid (by
        have o2 := off5 w5 b1 b2 (.int .i64 P) (.slice p5 (wo l k).length c5) (.int .u64 x.a) (.int .u64 x.s) (.int .i64 x.p)
        have hlt1 : b1 < W3.drew.heap.size := (Array.getElem?_eq_some_iff.1 (HB3.out.drew.heap HN1.out)).1
        have hlt2 : b2 < W3.drew.heap.size := (Array.getElem?_eq_some_iff.1 (HB3.out.drew.heap HN2.out)).1
        have hl6 := hl5.off (o2.mono (g := old W3.drew) (fun i _ e => by unfold old; omega)) (fun i e => e)
        exact ⟨hc5, hl6.mono (fun b _ e => Nat.lt_of_lt_of_le (HF.out b e) HBd.out.size), bel5 (HBd.out.trans hb5) hb1 hb2 _ _ _ _ _⟩)
      clear hl5 hb5
      go_wp2
      exact bodyPost_ret (v := .tuple #[.agg #[.int .i64 P, .slice p5 (wo l k).length c5], .agg #[.int .u64 x.a, .int .u64 x.s, .int .i64 x.p], .int .i64 0]) (by simp [results, Tryz.results80, go_sem, x0, x1, y0, y1, y2, n12, n21]) rfl ⟨p5, c5, rfl, HE.out⟩
end Go.Proofs.YtdoceldofkaapaaGreatDoor
