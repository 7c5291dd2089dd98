/-
  Contract of the document's Due.
-/
import Derived.Test.YtdlfppdekllloaaDocc
set_option linter.unusedVariables false
set_option linter.unusedSimpArgs false
namespace Go.Proofs.Ytdlfppdekllloaa
open Go.RowKit
set_option maxHeartbeats 4000000 in
theorem ddue_any (f : Nat → Prop) (P : Nat) (p : Option Addr) (c : Nat) (l : List T) (now : Int) (w : World) (hm : l.length ≤ 5000) (hf : ∀ j, f j → j < w.heap.size) (hl : Lies f w p (encs l)) :
    Calls Try.prog 33 #[.agg #[.int .i64 P, .slice p l.length c], .int .u64 now] w fun e w' => ∃ p' c' p2 c2, e = .returned (.tuple #[.agg #[.int .i64 P, .slice p' (due l now false).length c'], .slice p2 (due l now true).length c2]) ∧ DocOut f w w' p' c' (due l now false) ∧ Lies (old w) w' p2 (encs (due l now true)) := by
  have H2 : Hid (∃ W, (w.alloc (.cells #[.int .i64 P, .slice p l.length c] 30)).alloc (.cells #[.int .i64 0, .slice none 0 0] 30) = W ∧ Bel w W ∧ W.heap[w.heap.size]? = some (.cells #[.int .i64 P, .slice p l.length c] 30 (0, 0)) ∧ W.heap[w.heap.size + 1]? = some (.cells #[.int .i64 0, .slice none 0 0] 30 (0, 0))) := Lib.hid (by
    refine ⟨_, rfl, ((Bel.refl w).alloc _ _).alloc _ _, ?_, ?_⟩
    · rw [Below.heap_alloc _ _ _ (by simp), heap_alloc_new]
    · have := heap_alloc_new (w.alloc (.cells #[.int .i64 P, .slice p l.length c] 30)) (.cells #[.int .i64 0, .slice none 0 0] 30)
      simpa using this)
  have HL := Lib.hid hl
  have HF := Lib.hid hf
  have KD := Lib.hid (fun d w' (h : Has w' p l) => rdue_any p l.length c l now d w' rfl hm h)
  clear hl hf
  go_enter Try.func33, Try.ntmps33
  go_upto_region 1 with (fail)
  obtain ⟨W, eW, hB, n0, n1⟩ := H2.out
  rw [eW]
  clear H2 eW
  obtain ⟨b1, e1⟩ : ∃ b, w.heap.size + 1 = b := ⟨_, rfl⟩
  rw [e1] at n1 ⊢
  have hb1 : w.heap.size ≤ b1 := by omega
  have hb01 : ¬ w.heap.size = b1 := by omega
  clear e1
  obtain ⟨⟨q0, q1⟩, _⟩ := box2 n0
  have HBd : Hid (Bel w W.drew) := Lib.hid hB.drew
  have HH : Hid (∀ w', Bel W.drew w' → Has w' p l) := Lib.hid (fun w' h => ((HL.out.bel HBd.out).bel h).has)
  have HY : Hid (∀ w', Bel W.drew w' → (w'.cell? ⟨w.heap.size, 0, none⟩ = some (.int .i64 P) ∧ w'.cell? ⟨w.heap.size, 1, none⟩ = some (.slice p l.length c)) ∧ (w'.cell? ⟨b1, 0, none⟩ = some (.int .i64 0) ∧ w'.cell? ⟨b1, 1, none⟩ = some (.slice none 0 0)) ∧ (w'.frozen? ⟨b1, 0, none⟩ = false ∧ w'.frozen? ⟨b1, 1, none⟩ = false)) := Lib.hid (fun w' h =>
    ⟨(box2 (h.heap ((Bel.refl W).drew.heap n0))).1, box2 (h.heap ((Bel.refl W).drew.heap n1))⟩)
  have hlt1 : b1 < W.drew.heap.size := (Array.getElem?_eq_some_iff.1 n1).1
  have HR := Lib.hid (Bel.refl W.drew)
  have HZ : Hid (∀ w', Bel W.drew w' → ∀ x y : Value, ((w'.setCell ⟨b1, 0, none⟩ x).setCell ⟨b1, 1, none⟩ y).cell? ⟨w.heap.size, 0, none⟩ = some (.int .i64 P) ∧ ((w'.setCell ⟨b1, 0, none⟩ x).setCell ⟨b1, 1, none⟩ y).cell? ⟨w.heap.size, 1, none⟩ = some (.slice p l.length c)) := Lib.hid (fun w' h x y => by
    have o2 := off2 w' b1 x y
    have h2 := (HY.out _ h).1
    exact ⟨o2.cell (p := ⟨w.heap.size, 0, none⟩) (fun e => hb01 e) h2.1, o2.cell (p := ⟨w.heap.size, 1, none⟩) (fun e => hb01 e) h2.2⟩)
  clear hB n0 n1
  go_wp2
  go_region_held3 (fun w' => w'.cell? ⟨w.heap.size, 0, none⟩ = some (.int .i64 P) ∧ w'.cell? ⟨w.heap.size, 1, none⟩ = some (.slice p l.length c))
    (first | (with_reducible exact (HY.out _ HR.out).1) | exact (HY.out _ hb5).1 | exact (HY.out _ (hb5.trans hb6)).1 | exact HZ.out _ (hb5.trans hb6) _ _)
    (first | (go_at_call 54; (with_reducible refine (KD.out _ _ (HH.out _ HR.out)).mono ?_); rintro e w5 ⟨⟨p5, c5, rfl, hc5, hl5⟩, hb5⟩; have hy5 := HY.out _ hb5; obtain ⟨_, ⟨x0, x1⟩, h0, h1⟩ := hy5) | (go_at_call 54; (with_reducible refine (KD.out _ _ (HH.out _ hb5)).mono ?_); rintro e w6 ⟨⟨p6, c6, rfl, hc6, hl6⟩, hb6⟩; have hy6 := HY.out _ (hb5.trans hb6); obtain ⟨_, ⟨x0, x1⟩, h0, h1⟩ := hy6))
  all_goals
    have HE : Hid (DocOut f w ((w6.setCell ⟨b1, 0, none⟩ (.int .i64 P)).setCell ⟨b1, 1, none⟩ (.slice p5 (due l now false).length c5)) p5 c5 (due l now false) ∧ Lies (old w) ((w6.setCell ⟨b1, 0, none⟩ (.int .i64 P)).setCell ⟨b1, 1, none⟩ (.slice p5 (due l now false).length c5)) p6 (encs (due l now true))) := Lib.hid (by
      have o2 := off2 w6 b1 (.int .i64 P) (.slice p5 (due l now false).length c5)
      have hlt5 : b1 < w5.heap.size := Nat.lt_of_lt_of_le hlt1 hb5.size
      have hl7 := (hl5.bel hb6).off (o2.mono (g := old W.drew) (fun i _ e => by unfold old; omega)) (fun i e => e)
      have hl8 := hl6.off (o2.mono (g := old w5) (fun i _ e => by unfold old; omega)) (fun i e => e)
      exact ⟨⟨hc5, hl7.mono (fun b _ e => Nat.lt_of_lt_of_le (HF.out b e) HBd.out.size), bel2 (HBd.out.trans (hb5.trans hb6)) hb1 _ _⟩, hl8.mono (fun b _ e => Nat.lt_of_lt_of_le e (HBd.out.trans hb5).size)⟩)
    clear hl5 hl6 hb5 hb6
    go_wp2
    exact bodyPost_ret (v := .tuple #[.agg #[.int .i64 P, .slice p5 (due l now false).length c5], .slice p6 (due l now true).length c6]) (by simp [results, Try.results33, go_sem, x0, x1]) rfl ⟨p5, c5, p6, c6, rfl, HE.out⟩
end Go.Proofs.Ytdlfppdekllloaa
