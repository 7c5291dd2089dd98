/-
  Contracts of the document's Same (of what was told) and of the law's made.
-/
import Derived.Test.YtmkpnojojkgmiaaDdo
import Derived.Test.YtmkpnojojkgmiaaQnew
namespace Go.Proofs.Ytmkpnojojkgmiaa
open Go.RowKit
set_option maxHeartbeats 1000000 in
theorem sameT_any (er : Int) (t : T) (p q : Option Addr) (c d : Nat) (l : List T) (w : World) (hm : l.length ≤ 5000) (h1 : Has w p l) (h2 : Has w q l) :
    Calls Try.prog 24 #[tdV er t p l.length c, tdV er t q l.length d] w fun e w' => e = .returned (.bool true) ∧ Bel w w' := by
  have H2 := Lib.hid (two_new w #[.int .i64 er, .int .u64 t.a, .int .u64 t.s, .int .i64 t.p, .slice p l.length c] #[.int .i64 er, .int .u64 t.a, .int .u64 t.s, .int .i64 t.p, .slice q l.length d] 56 56)
  have KS := Lib.hid (fun w' (h : Bel w w') => same_any p q l.length c d l l w' rfl rfl hm (h1.bel h) (h2.bel h))
  rw [decide_eq_true rfl] at KS
  have hE := eql_yes t t rfl
  have hI : (er == er) = true := by simp
  clear h1 h2
  unfold tdV
  go_enter Try.func24, Try.ntmps24
  go_upto_region 1 with (fail)
  obtain ⟨W, eW, hB, hz, n0, n1⟩ := H2.out
  rw [eW]
  clear H2 eW
  obtain ⟨b1, e1⟩ : ∃ b, w.heap.size + 1 = b := ⟨_, rfl⟩
  rw [e1] at n1 hz ⊢
  have HN0 := Lib.hid n0
  have HN1 := Lib.hid n1
  obtain ⟨⟨x0, x1, x2, x3, x4⟩, _⟩ := box5 n0
  obtain ⟨⟨y0, y1, y2, y3, y4⟩, _⟩ := box5 n1
  have HB := Lib.hid hB
  clear hB n0 n1 e1 hz
  go_wp2_with fail
  with_reducible refine (KS.out _ HB.out).mono ?_
  rintro e w1 ⟨rfl, hb⟩
  have HB1 := Lib.hid (HB.out.trans hb)
  clear x0 x1 x2 x3 x4 y0 y1 y2 y3 y4
  obtain ⟨⟨x0, x1, x2, x3, x4⟩, _⟩ := box5 (hb.heap HN0.out)
  obtain ⟨⟨y0, y1, y2, y3, y4⟩, _⟩ := box5 (hb.heap HN1.out)
  clear hb
  go_wp2
  go_ret
  exact ⟨rfl, HB1.out⟩
/-- Acts, as cells. -/
def encK (l : List Ak) : List Value := l.flatMap fun a => [.int .i64 a.k, .int .u64 a.t.a, .int .u64 a.t.s, .int .i64 a.t.p, .int .u64 a.now]
theorem encK_len : ∀ l : List Ak, (encK l).length = l.length * 5
  | [] => rfl
  | x :: r => by have := encK_len r; unfold encK at this ⊢; rw [List.flatMap_cons, List.length_append, this]; simp; omega
theorem encK_get (l : List Ak) (i : Nat) (x : Ak) (h : l[i]? = some x) : (encK l)[i * 5]? = some (.int .i64 x.k) ∧ (encK l)[i * 5 + 1]? = some (.int .u64 x.t.a) ∧ (encK l)[i * 5 + 2]? = some (.int .u64 x.t.s) ∧ (encK l)[i * 5 + 3]? = some (.int .i64 x.t.p) ∧ (encK l)[i * 5 + 4]? = some (.int .u64 x.now) :=
  ⟨flat_get _ 5 (fun _ => rfl) l i 0 x h (by omega), flat_get _ 5 (fun _ => rfl) l i 1 x h (by omega), flat_get _ 5 (fun _ => rfl) l i 2 x h (by omega), flat_get _ 5 (fun _ => rfl) l i 3 x h (by omega), flat_get _ 5 (fun _ => rfl) l i 4 x h (by omega)⟩
theorem row_ak {w : World} {b off : Nat} {l : List Ak} (h : RowG w b off (encK l)) {i : Nat} {x : Ak} (hx : l[i]? = some x) : w.cell? ⟨b, off + i * 5, none⟩ = some (.int .i64 x.k) ∧ w.cell? ⟨b, off + i * 5 + 1, none⟩ = some (.int .u64 x.t.a) ∧ w.cell? ⟨b, off + i * 5 + 2, none⟩ = some (.int .u64 x.t.s) ∧ w.cell? ⟨b, off + i * 5 + 3, none⟩ = some (.int .i64 x.t.p) ∧ w.cell? ⟨b, off + i * 5 + 4, none⟩ = some (.int .u64 x.now) :=
  ⟨h _ _ (encK_get l i x hx).1, h _ _ (encK_get l i x hx).2.1, h _ _ (encK_get l i x hx).2.2.1, h _ _ (encK_get l i x hx).2.2.2.1, h _ _ (encK_get l i x hx).2.2.2.2⟩
theorem lies_ak {f : Nat → Prop} {w : World} {p : Option Addr} {l : List Ak} (h : Lies f w p (encK l)) {i : Nat} (hi : i < l.length) : ∃ b off, p = some ⟨b, off, none⟩ ∧ ¬ f b ∧ RowG w b off (encK l) :=
  h.row (fun e => by have := encK_len l; rw [e] at this; simp at this; omega)
set_option maxHeartbeats 1000000 in
theorem made_no (P : Int) (pa : Option Addr) (N ca : Nat) (w : World) (h : ¬ (0 ≤ P ∧ P ≤ 1024)) :
    Calls Try.prog 8 #[.int .i64 P, .slice pa N ca] w fun e w' => e = .returned (.tuple #[.pointer none, .agg #[.int .i64 0, .slice none 0 0], .bool true]) ∧ Bel w w' := by
  have K1 := Lib.hid (fun w => qnew_no P w h)
  have K2 := Lib.hid (fun w => dnew_no P w h)
  have hBW : Bel w (w.alloc (.cells #[.int .i64 0, .slice none 0 0] 27)) := (Bel.refl w).alloc _ _
  have HBW := Lib.hid hBW
  clear h hBW
  go_enter Try.func8, Try.ntmps8
  go_wp2_with fail
  with_reducible refine (K1.out _).mono ?_
  rintro e w1 ⟨rfl, rfl⟩
  go_wp2_with fail
  with_reducible refine (K2.out _).mono ?_
  rintro e w2 ⟨rfl, hb⟩
  have b7 := hb.heap (heap_alloc_new w (.cells #[.int .i64 0, .slice none 0 0] 27))
  have HB2 := Lib.hid (HBW.out.trans hb)
  clear hb
  go_upto_region 3 with (fail)
  have e9 := (box2 (heap_alloc_new w2 (.cells #[.int .i64 0, .slice none 0 0] 27))).1
  have hz2 : w.heap.size < w2.heap.size := (Array.getElem?_eq_some_iff.1 b7).1
  have HB9 : Hid (Bel w2 (w2.alloc (.cells #[.int .i64 0, .slice none 0 0] 27))) := Lib.hid ((Bel.refl w2).alloc _ _)
  obtain ⟨y0, y1⟩ := e9
  generalize w2.alloc (.cells #[.int .i64 0, .slice none 0 0] 27) = W9 at *
  obtain ⟨⟨e0, e1⟩, g0, g1⟩ := box2 (HB9.out.heap b7)
  have HB3 := Lib.hid (HB2.out.trans HB9.out)
  have ne1 : ¬ w2.heap.size = w.heap.size := by omega
  have ne2 : ¬ w.heap.size = w2.heap.size := by omega
  have hz9 : w.heap.size < W9.heap.size := Nat.lt_of_lt_of_le hz2 HB9.out.size
  go_wp2
  go_loopw [11] (fun v wr => v = .int .i64 0 ∧ wr = W9) (fun _ _ => 0)
  case atStart => exact ⟨rfl, rfl⟩
  case round =>
    obtain ⟨rfl, rfl⟩ := hrel
    have hO := Lib.hid (off2 wr.drew w.heap.size (.int .i64 0) (.slice none 0 0))
    by_cases hN : 0 < N
    · have hN1 : (0 : Int) < N := by omega
      go_wp2
      go_region
      go_wp2
      exact bodyPost_ret (v := .tuple #[.pointer none, .agg #[.int .i64 0, .slice none 0 0], .bool true]) (by simp [results, Try.results8, go_sem, e0, e1]) rfl ⟨rfl, Off.trans HB3.out.drew hO.out (fun i e => .inr (by omega))⟩
    · obtain rfl : N = 0 := by omega
      go_wp2
      go_region
      go_wp2
      exact bodyPost_ret (v := .tuple #[.pointer none, .agg #[.int .i64 0, .slice none 0 0], .bool true]) (by simp [results, Try.results8, go_sem, e0, e1]) rfl ⟨rfl, Off.trans HB3.out.drew hO.out (fun i e => .inr (by omega))⟩
end Go.Proofs.Ytmkpnojojkgmiaa
