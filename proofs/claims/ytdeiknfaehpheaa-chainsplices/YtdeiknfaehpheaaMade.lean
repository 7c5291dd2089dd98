/-
  Contract of the law's made: chains behind acts, and the document's own: they agree.
-/
import Derived.Test.YtdeiknfaehpheaaWorks
import Derived.Test.YtdeiknfaehpheaaDo
namespace Go.Proofs.Ytdeiknfaehpheaa
open Go.RowKit
set_option maxHeartbeats 1000000 in
theorem made_no (P L : Int) (pa : Option Addr) (N ca : Nat) (w : World) (h : ¬ (0 ≤ P ∧ P ≤ 1024 ∧ 0 ≤ L ∧ L ≤ 1024)) :
    Calls Try.prog 9 #[.int .i64 P, .int .i64 L, .slice pa N ca] w fun e w' => ∃ p c, e = .returned (.tuple #[.pointer none, .agg #[.int .i64 0, .slice p 0 c], .bool true]) ∧ Bel w w' := by
  have K1 := Lib.hid (fun w => new_no P L w h)
  have K2 := Lib.hid (fun w => rnew_no P L w h)
  have hBW : Bel w (w.alloc (.cells #[.int .i64 0, .slice none 0 0] 27)) := (Bel.refl w).alloc _ _
  have HBW := Lib.hid hBW
  clear h hBW
  go_enter Try.func9, Try.ntmps9
  go_wp2_with fail
  with_reducible refine (K1.out _).mono ?_
  rintro e w1 ⟨rfl, rfl⟩
  go_wp2_with fail
  with_reducible refine (K2.out _).mono ?_
  rintro e w2 ⟨rfl, hb⟩
  have b7 := hb.heap (heap_alloc_new w (.cells #[.int .i64 0, .slice none 0 0] 27))
  have HB2 := Lib.hid (HBW.out.trans hb)
  clear hb
  go_upto_region 3 with (fail)
  have e9 := (box2 (heap_alloc_new w2 (.cells #[.int .i64 0, .slice none 0 0] 27))).1
  have hz2 : w.heap.size < w2.heap.size := (Array.getElem?_eq_some_iff.1 b7).1
  have HB9 : Hid (Bel w2 (w2.alloc (.cells #[.int .i64 0, .slice none 0 0] 27))) := Lib.hid ((Bel.refl w2).alloc _ _)
  obtain ⟨y0, y1⟩ := e9
  generalize w2.alloc (.cells #[.int .i64 0, .slice none 0 0] 27) = W9 at *
  obtain ⟨⟨e0, e1⟩, g0, g1⟩ := box2 (HB9.out.heap b7)
  have HB3 := Lib.hid (HB2.out.trans HB9.out)
  have ne1 : ¬ w2.heap.size = w.heap.size := by omega
  have ne2 : ¬ w.heap.size = w2.heap.size := by omega
  have hz9 : w.heap.size < W9.heap.size := Nat.lt_of_lt_of_le hz2 HB9.out.size
  go_wp2
  go_loopw [13] (fun v wr => v = .int .i64 0 ∧ wr = W9) (fun _ _ => 0)
  case atStart => exact ⟨rfl, rfl⟩
  case round =>
    obtain ⟨rfl, rfl⟩ := hrel
    have hO := Lib.hid (off2 wr.drew w.heap.size (.int .i64 0) (.slice none 0 0))
    by_cases hN : 0 < N
    · have hN1 : (0 : Int) < N := by omega
      go_wp2
      go_region
      go_wp2
      exact bodyPost_ret (v := .tuple #[.pointer none, .agg #[.int .i64 0, .slice none 0 0], .bool true]) (by simp [results, Try.results9, go_sem, e0, e1]) rfl ⟨none, 0, rfl, Off.trans HB3.out.drew hO.out (fun i e => .inr (by omega))⟩
    · obtain rfl : N = 0 := by omega
      go_wp2
      go_region
      go_wp2
      exact bodyPost_ret (v := .tuple #[.pointer none, .agg #[.int .i64 0, .slice none 0 0], .bool true]) (by simp [results, Try.results9, go_sem, e0, e1]) rfl ⟨none, 0, rfl, Off.trans HB3.out.drew hO.out (fun i e => .inr (by omega))⟩
/-- What holds at each round's head. -/
structure Inv (w : World) (B G P L : Nat) (ls : Ls) (p : Option Addr) (c T7 T11 : Nat) (wr : World) : Prop where
  way : Way w B G P L ls wr
  ref : RefIn (Only G) wr p L ls
  m7 : wr.heap[T7]? = some (.cells #[.int .i64 0, .slice none 0 0] 27 (0, 0))
  m11 : wr.heap[T11]? = some (.cells #[.int .i64 P, .slice p L c] 27 (0, 0))
theorem Inv.bel {w : World} {B G P L : Nat} {ls : Ls} {p : Option Addr} {c T7 T11 : Nat} {wr w' : World} (h : Inv w B G P L ls p c T7 T11 wr) (k : Bel wr w') : Inv w B G P L ls p c T7 T11 w' :=
  ⟨h.way.bel k, h.ref.bel k, k.heap h.m7, k.heap h.m11⟩
def MadePost (w : World) (P L : Nat) (e : Ending) (w' : World) : Prop :=
  ∃ B G ls p c, e = .returned (.tuple #[.pointer (some ⟨B, 0, none⟩), rv P p L c, .bool true]) ∧ L ≤ c ∧ Way w B G P L ls w' ∧ RefIn (Only G) w' p L ls ∧ w.heap.size ≤ B
theorem set2 {w : World} {T : Nat} {a b a' b' : Value} {t : TypeId} (h : w.heap[T]? = some (.cells #[a, b] t (0, 0))) :
    ((w.setCell ⟨T, 0, none⟩ a').setCell ⟨T, 1, none⟩ b').heap[T]? = some (.cells #[a', b'] t (0, 0)) :=
  heap_setCell_same _ T 1 _ t b' (heap_setCell_same w T 0 _ t a' h)
/-- One act more: the loop's box turns. -/
theorem Inv.turn {w : World} {B G P L : Nat} {ls ls' : Ls} {p p' : Option Addr} {c c' T7 T11 : Nat} {wr w5 : World} (h : Inv w B G P L ls p c T7 T11 wr) (hc : Ch w5 B G P L ls') (hr : RefIn (Only G) w5 p' L ls') (ho : Off (Only G) wr w5) (h7 : ¬ T7 = G) (h11 : ¬ T11 = G) (hne : ¬ T7 = T11) (hw : w.heap.size ≤ T11) (hB : ¬ B = T11) :
    Inv w B G P L ls' p' c' T7 T11 ((w5.setCell ⟨T11, 0, none⟩ (.int .i64 P)).setCell ⟨T11, 1, none⟩ (.slice p' L c')) := by
  have hO := off2 w5 T11 (.int .i64 P) (.slice p' L c')
  have l11 := (Array.getElem?_eq_some_iff.1 h.m11).1
  have l7 := (Array.getElem?_eq_some_iff.1 h.m7).1
  have m11 : w5.heap[T11]? = some (.cells #[.int .i64 P, .slice p L c] 27 (0, 0)) := (ho.block T11 l11 h11).trans h.m11
  have m7 : w5.heap[T7]? = some (.cells #[.int .i64 0, .slice none 0 0] 27 (0, 0)) := (ho.block T7 l7 h7).trans h.m7
  have hw5 := h.way.step hc ho
  refine ⟨⟨hc.off hO hB (fun e => h11 e.symm), Off.trans hw5.off hO (fun i e => .inr (by omega)), h.way.ge⟩, hr.apart hO m11, ?_, set2 m11⟩
  exact (hO.block T7 (Nat.lt_of_lt_of_le l7 ho.size) hne).trans m7
end Go.Proofs.Ytdeiknfaehpheaa
