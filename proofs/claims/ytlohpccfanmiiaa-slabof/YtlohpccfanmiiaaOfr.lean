/-
  Contract of slab.rules: the row of closures.
-/
import Derived.Test.YtlohpccfanmiiaaRow
namespace Go.Proofs.Ytlohpccfanmiiaa
open Go.RowKit
structure RO (w w' : World) (P : Nat) (G : Int) (ul : List Int) (pu pf pl : Option Addr) (nu cu nf cf nl cl TF T5 T6 T7 T8 T9 T11 T12 T13 M : Nat) : Prop where
  ctx : Ctx w' P G ul pu nu cu P P T5 T6 T7 T11 T12 T13 M
  marks : Marks w' M (List.replicate P false)
  f0 : w'.cell? ⟨TF, 0, none⟩ = some (.func (.func 42) #[] #[.pointer (some ⟨T7, 0, none⟩), .pointer (some ⟨T5, 0, none⟩)])
  f1 : w'.cell? ⟨TF, 1, none⟩ = some (.func (.func 43) #[] #[.pointer (some ⟨T7, 0, none⟩), .pointer (some ⟨T6, 0, none⟩)])
  f2 : w'.cell? ⟨TF, 2, none⟩ = some (.func (.func 46) #[] #[.pointer (some ⟨T8, 0, none⟩), .pointer (some ⟨T13, 0, none⟩), .pointer (some ⟨T7, 0, none⟩), .pointer (some ⟨T6, 0, none⟩), .pointer (some ⟨T12, 0, none⟩)])
  f3 : w'.cell? ⟨TF, 3, none⟩ = some (.func (.func 48) #[] #[.pointer (some ⟨T9, 0, none⟩), .pointer (some ⟨T13, 0, none⟩), .pointer (some ⟨T7, 0, none⟩), .pointer (some ⟨T12, 0, none⟩)])
  f4 : w'.cell? ⟨TF, 4, none⟩ = some (.func (.func 51) #[] #[.pointer (some ⟨T7, 0, none⟩), .pointer (some ⟨T11, 0, none⟩), .pointer (some ⟨T6, 0, none⟩)])
  t8 : w'.cell? ⟨T8, 0, none⟩ = some (.slice pf nf cf)
  t9 : w'.cell? ⟨T9, 0, none⟩ = some (.slice pl nl cl)
  nF : TF ≠ M
  n8 : T8 ≠ M
  n9 : T9 ≠ M
  ge : w.heap.size ≤ M
  bel : Bel w w'
theorem info4 : (Try.prog.info? 4).map (fun i => (i.zero, i.size, i.bytes)) = some (some (.bool false), 1, 1) := by kernel_rfl
theorem made_marks {w' : World} {n M : Nat} (h : w'.ownsRow 0 4 1 (.slice (some ⟨M, 0, none⟩) n n) n (madeCells #[Value.bool false] n).toList) : Marks w' M (List.replicate n false) := by
  rcases h.2 with ⟨e, _⟩ | ⟨g, cap, cur, e, _, hg, _, _, hs, ht⟩
  · cases e
  · injection e with e1 e2 e3
    injection e1 with e1
    injection e1 with e1
    subst e1 e3
    unfold Marks
    rw [hg]
    congr 2
    unfold encB
    have h1 : cur.toList.take (n * 1) = cur.toList := List.take_of_length_le (by rw [Array.length_toList, hs]; omega)
    rw [h1, toList_madeCells_one] at ht
    apply Array.ext'
    rw [ht]
    simp
theorem lies_isM {w w' : World} {p : Option Addr} {cs : List Value} (h : Lies nof w p cs) (k : Bel w w') {M : Nat} (hM : w.heap.size ≤ M) : Lies (isM M) w' p cs :=
  (h.mono (g := isM M) (fun b hb e => by unfold isM at e; omega)).bel k
set_option maxHeartbeats 1000000 in
theorem rules_any (P : Nat) (G : Int) (ul : List Int) (pu pf pl : Option Addr) (nu cu nf cf nl cl : Nat) (w : World) (hP : P ≤ 1024) (hl : ul.length = nu) (hn : nu ≤ 2000) (hL : Lies nof w pu (encI ul)) :
    Calls Try.prog 32 #[.int .i64 P, .int .i64 G, .slice pu nu cu, .slice pf nf cf, .slice pl nl cl] w fun e w' => ∃ TF T5 T6 T7 T8 T9 T11 T12 T13 M, e = .returned (.slice (some ⟨TF, 0, none⟩) 5 5) ∧ RO w w' P G ul pu pf pl nu cu nf cf nl cl TF T5 T6 T7 T8 T9 T11 T12 T13 M := by
  obtain ⟨i4, hi4, hz0, hz1, hz2⟩ := info_parts info4
  have HI4 := Lib.hid hi4
  have HZ0 := Lib.hid hz0
  have HZ1 := Lib.hid hz1
  have HZ2 := Lib.hid hz2
  have HL := Lib.hid hL
  have HN := Lib.hid hl
  clear hi4 hz0 hz1 hz2 hL hl
  go_enter Try.func32, Try.ntmps32
  go_wp2_with (refine wpList_make_full _ rfl (.tmp 14) (.tmp 14) 83 rfl 0 4 i4 (.bool false) 1 Try.underlying83 HI4.out HZ0.out HZ1.out .i64 .i64 (P : Int) (P : Int) P rfl rfl rfl rfl (by rw [HZ2.out]; omega) (by unfold maxLen; omega) (Nat.zero_le _) ?_)
  intro w1 hown hgrow
  have HM := Lib.hid (made_marks hown)
  have HB : Hid (Bel (((((w.alloc (.cells #[.int .i64 P] 3)).alloc (.cells #[.int .i64 G] 3)).alloc (.cells #[.slice pu nu cu] 28)).alloc (.cells #[.slice pf nf cf] 28)).alloc (.cells #[.slice pl nl cl] 29)) w1) := Lib.hid (Off.grown (Off.refl nof _) hgrow (fun _ e => by cases e))
  have HB0 : Hid (Bel w w1) := Lib.hid ((((((Bel.refl _).alloc _ _).alloc _ _).alloc _ _).alloc _ _).alloc _ _ |>.trans HB.out)
  have c5 : w1.cell? ⟨w.heap.size, 0, none⟩ = some (.int .i64 P) := HB.out.cell (by simp [go_sem])
  have c6 : w1.cell? ⟨w.heap.size + 1, 0, none⟩ = some (.int .i64 G) := HB.out.cell (by simp [go_sem])
  have c7 : w1.cell? ⟨w.heap.size + 1 + 1, 0, none⟩ = some (.slice pu nu cu) := HB.out.cell (by simp [go_sem])
  have c8 : w1.cell? ⟨w.heap.size + 1 + 1 + 1, 0, none⟩ = some (.slice pf nf cf) := HB.out.cell (by simp [go_sem])
  have c9 : w1.cell? ⟨w.heap.size + 1 + 1 + 1 + 1, 0, none⟩ = some (.slice pl nl cl) := HB.out.cell (by simp [go_sem])
  have hz : w.heap.size + 1 + 1 + 1 + 1 + 1 < w1.heap.size := (Array.getElem?_eq_some_iff.1 HM.out).1
  clear hown hgrow
  go_wp2
  go_ret
  refine ⟨_, w.heap.size, w.heap.size + 1, w.heap.size + 1 + 1, w.heap.size + 1 + 1 + 1, w.heap.size + 1 + 1 + 1 + 1, w1.heap.size, w1.heap.size + 1, w1.heap.size + 1 + 1, w.heap.size + 1 + 1 + 1 + 1 + 1, rfl, ?_⟩
  have hb : Bel w1 ((((w1.alloc (.cells #[.slice (some ⟨w.heap.size + 1 + 1 + 1 + 1 + 1, 0, none⟩) P P] 83)).alloc (.cells #[.func (.func 40) #[] #[.pointer (some ⟨w1.heap.size, 0, none⟩)]] 48)).alloc (.cells #[.func (.func 41) #[] #[.pointer (some ⟨w.heap.size + 1 + 1, 0, none⟩)]] 48)).alloc (.cells #[.func (.func 42) #[] #[.pointer (some ⟨w.heap.size + 1 + 1, 0, none⟩), .pointer (some ⟨w.heap.size, 0, none⟩)], .func (.func 43) #[] #[.pointer (some ⟨w.heap.size + 1 + 1, 0, none⟩), .pointer (some ⟨w.heap.size + 1, 0, none⟩)], .func (.func 46) #[] #[.pointer (some ⟨w.heap.size + 1 + 1 + 1, 0, none⟩), .pointer (some ⟨w1.heap.size + 1 + 1, 0, none⟩), .pointer (some ⟨w.heap.size + 1 + 1, 0, none⟩), .pointer (some ⟨w.heap.size + 1, 0, none⟩), .pointer (some ⟨w1.heap.size + 1, 0, none⟩)], .func (.func 48) #[] #[.pointer (some ⟨w.heap.size + 1 + 1 + 1 + 1, 0, none⟩), .pointer (some ⟨w1.heap.size + 1 + 1, 0, none⟩), .pointer (some ⟨w.heap.size + 1 + 1, 0, none⟩), .pointer (some ⟨w1.heap.size + 1, 0, none⟩)], .func (.func 51) #[] #[.pointer (some ⟨w.heap.size + 1 + 1, 0, none⟩), .pointer (some ⟨w1.heap.size, 0, none⟩), .pointer (some ⟨w.heap.size + 1, 0, none⟩)]] 23)) := ((((Bel.refl _).alloc _ _).alloc _ _).alloc _ _).alloc _ _
  refine ⟨⟨hb.cell c5, hb.cell c6, hb.cell c7, by simp [go_sem], by simp [go_sem], by simp [go_sem], lies_isM HL.out (HB0.out.trans hb) (by omega), HN.out, hn, by omega, by omega, by omega, by omega, by omega, by omega⟩, hb.heap HM.out, by simp [go_sem], by simp [go_sem], by simp [go_sem], by simp [go_sem], by simp [go_sem], hb.cell c8, hb.cell c9, by omega, by omega, by omega, by omega, HB0.out.trans hb⟩
end Go.Proofs.Ytlohpccfanmiiaa
