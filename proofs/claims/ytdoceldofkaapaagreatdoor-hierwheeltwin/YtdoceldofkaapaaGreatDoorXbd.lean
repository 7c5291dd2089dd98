/-
  Contracts of a wheel: Base and Looked.
  Contract of hashwheel.New.
  What the laws want of a queue of slots: the contracts of its calls, as one structure over what a queue in memory is.
  A wheel is what the laws want of a queue.
-/
import Derived.Test.YtdoceldofkaapaaGreatDoorXba
import Derived.Test.YtdoceldofkaapaaGreatDoorXaw
import Derived.Test.YtdoceldofkaapaaGreatDoorXaj
import Derived.Test.YtdoceldofkaapaaGreatDoorAdue
import Derived.Test.YtdoceldofkaapaaGreatDoorAmin
set_option linter.unusedVariables false
set_option linter.unusedSimpArgs false
namespace Go.Proofs.YtdoceldofkaapaaGreatDoor.Ha
open Go.RowKit
variable {Q Z B G R P b : Nat} {s k : Int} {l : List T}
theorem Wh.cellB {w : World} (q : Wh w Q Z B G R P b s k l) : w.cell? ⟨Q, 2, none⟩ = some (.int .u64 s) := by
  obtain ⟨⟨ls, r, F, q1, q2⟩, q3⟩ := q
  exact q1.cell rfl
theorem base_any (w : World) (q : Wh w Q Z B G R P b s k l) :
    Calls Tryz.prog 16 #[.pointer (some ⟨Q, 0, none⟩)] w fun e w' => e = .returned (.int .u64 s) ∧ Bel w w' := by
  have c3 := q.cellB
  clear q
  go_enter Tryz.func16, Tryz.ntmps16
  go_wp2
  go_ret
  exact ⟨rfl, Bel.refl _⟩
theorem Wh.cellK {w : World} (q : Wh w Q Z B G R P b s k l) : w.cell? ⟨Q, 7, none⟩ = some (.int .i64 k) := by
  obtain ⟨⟨ls, r, F, q1, q2⟩, q3⟩ := q
  exact q1.cell rfl
theorem looked_any (w : World) (q : Wh w Q Z B G R P b s k l) :
    Calls Tryz.prog 17 #[.pointer (some ⟨Q, 0, none⟩)] w fun e w' => e = .returned (.int .i64 k) ∧ Bel w w' := by
  have c3 := q.cellK
  clear q
  go_enter Tryz.func17, Tryz.ntmps17
  go_wp2
  go_ret
  exact ⟨rfl, Bel.refl _⟩
end Go.Proofs.YtdoceldofkaapaaGreatDoor.Ha
namespace Go.Proofs.YtdoceldofkaapaaGreatDoor.Ha
open Go.RowKit
theorem qnew_bits (P b s : Int) (w : World) (h : ¬ (1 ≤ b ∧ b ≤ 6)) :
    Calls Tryz.prog 11 #[.int .i64 P, .int .i64 b, .int .u64 s] w fun e w' => e = .returned (.tuple #[.pointer none, .int .i64 1]) ∧ Bel w w' := by
  by_cases h1 : b < 1
  · clear h
    go_enter Tryz.func11, Tryz.ntmps11
    go_wp2
    go_ret2
    exact ⟨rfl, Bel.refl _⟩
  · have h2 : 6 < b := by omega
    clear h
    go_enter Tryz.func11, Tryz.ntmps11
    go_wp2
    go_ret2
    exact ⟨rfl, Bel.refl _⟩
theorem shl_slo {b S : Nat} (hb : b ≤ 6) (hS : slo b = S) : wrap64 (4 * (2 : Int) ^ b) = (S : Int) := by
  subst hS
  have : b = 0 ∨ b = 1 ∨ b = 2 ∨ b = 3 ∨ b = 4 ∨ b = 5 ∨ b = 6 := by omega
  rcases this with rfl | rfl | rfl | rfl | rfl | rfl | rfl <;> (simp [slo]; first | rfl | (unfold wrap64; decide) | simp [wrap64] | (unfold wrap64; omega))
theorem qnew_place (P s : Int) (b : Nat) (hb : 1 ≤ b ∧ b ≤ 6) (w : World) (hP : ¬ (0 ≤ P ∧ P ≤ 1024)) :
    Calls Tryz.prog 11 #[.int .i64 P, .int .i64 (b : Nat), .int .u64 s] w fun e w' => e = .returned (.tuple #[.pointer none, .int .i64 1]) ∧ Bel w w' := by
  obtain ⟨S, hS⟩ : ∃ S, slo b = S := ⟨_, rfl⟩
  have hsh := shl_slo hb.2 hS
  have hSb := slo_le hb.2
  rw [hS] at hSb
  have K1 := pnew_no P (S + 1) (by omega) w hP
  rw [show (((S + 1 : Nat) : Int)) = (S : Int) + 1 by omega] at K1
  have K := Lib.hid K1
  have h1 : ¬ (b : Int) < 1 := by omega
  have h2 : ¬ (6 : Int) < b := by omega
  clear K1 hP hb hS
  go_enter Tryz.func11, Tryz.ntmps11
  go_wp2_with fail
  with_reducible refine K.out.mono ?_
  rintro e w1 ⟨rfl, rfl⟩
  go_wp2
  go_ret2
  exact ⟨rfl, Bel.refl _⟩
theorem qnew_no (P b s : Int) (w : World) (h : ¬ ((0 ≤ P ∧ P ≤ 1024) ∧ 1 ≤ b ∧ b ≤ 6)) :
    Calls Tryz.prog 11 #[.int .i64 P, .int .i64 b, .int .u64 s] w fun e w' => e = .returned (.tuple #[.pointer none, .int .i64 1]) ∧ Bel w w' := by
  by_cases hb : 1 ≤ b ∧ b ≤ 6
  · obtain ⟨bn, rfl⟩ : ∃ bn : Nat, b = bn := ⟨b.toNat, by omega⟩
    exact qnew_place P s bn (by omega) w (fun e => h ⟨e, hb⟩)
  · exact qnew_bits P b s w hb
theorem qnew_yes (P b : Nat) (s : Int) (w : World) (hP : P ≤ 1024) (hb : 1 ≤ b ∧ b ≤ 6) (hs : Tk s) (hT : Bm.Tab w) :
    Calls Tryz.prog 11 #[.int .i64 P, .int .i64 b, .int .u64 s] w fun e w' => ∃ Q Z B G R, e = .returned (.tuple #[.pointer (some ⟨Q, 0, none⟩), .int .i64 0]) ∧ Wh w' Q Z B G R P b s 0 [] ∧ (∀ k, Fo5 Q Z B G R k → w.heap.size ≤ k) ∧ Bel w w' := by
  obtain ⟨S, hS⟩ : ∃ S, slo b = S := ⟨_, rfl⟩
  have hsh := shl_slo hb.2 hS
  have hSb := slo_le hb.2
  rw [hS] at hSb
  have K1 := pnew_yes P (S + 1) w hP (by omega)
  rw [show (((S + 1 : Nat) : Int)) = (S : Int) + 1 by omega] at K1
  have K := Lib.hid K1
  have HT := Lib.hid hT
  have HBS := Lib.hid (And.intro hb hs)
  have HS := Lib.hid hS
  have h1 : ¬ (b : Int) < 1 := by omega
  have h2 : ¬ (6 : Int) < b := by omega
  clear K1 hP hb hS hs hT
  go_enter Tryz.func11, Tryz.ntmps11
  go_wp2_with fail
  with_reducible refine K.out.mono ?_
  rintro e w1 ⟨Z, B, G, R, rfl, hq, hb, hZ, hB, hG, hR⟩
  have HQ := Lib.hid hq
  have HB1 := Lib.hid hb
  have HG : Hid (w.heap.size ≤ Z ∧ w.heap.size ≤ B ∧ w.heap.size ≤ G ∧ w.heap.size ≤ R) := Lib.hid ⟨hZ, hB, hG, hR⟩
  clear hq hb hZ hB hG hR K
  have HX : Hid (Wh (w1.alloc (.cells #[.pointer (some ⟨Z, 0, none⟩), .int .i64 S, .int .u64 s, .int .u64 0, .int .u64 0, .int .u64 0, .int .u64 0, .int .i64 0] 52)) w1.heap.size Z B G R P b s 0 [] ∧ Bel w1 (w1.alloc (.cells #[.pointer (some ⟨Z, 0, none⟩), .int .i64 S, .int .u64 s, .int .u64 0, .int .u64 0, .int .u64 0, .int .u64 0, .int .i64 0] 52))) := Lib.hid (by
    obtain ⟨g1, g2, g3, g4⟩ := HG.out
    obtain ⟨hbb, hss⟩ := HBS.out
    have hz0 : 0 < w.heap.size := by
      have := World.block_lt_of_cell? w _ (HT.out 0 (by omega))
      simpa using this
    have hzz := HB1.out.size
    have hb2 : Bel w1 (w1.alloc (.cells #[.pointer (some ⟨Z, 0, none⟩), .int .i64 S, .int .u64 s, .int .u64 0, .int .u64 0, .int .u64 0, .int .u64 0, .int .i64 0] 52)) := (Bel.refl w1).alloc _ _
    have hn := heap_alloc_new w1 (.cells #[.pointer (some ⟨Z, 0, none⟩), .int .i64 S, .int .u64 s, .int .u64 0, .int .u64 0, .int .u64 0, .int .u64 0, .int .i64 0] 52)
    refine ⟨⟨⟨fun _ => [], fun _ => ⟨0, 0, 0⟩, fun _ => 0, ⟨?_, ?_, rfl, by decide⟩, ⟨fun k => by simp, fun i => by simp [Bm.tb]⟩⟩, ⟨hbb, hss, fun t ht => by simp at ht, fun j hj => hb2.cell (HB1.out.cell (HT.out j hj)), by omega, by omega, by omega, by omega, by omega⟩⟩, hb2⟩
    · rw [HS.out]; exact hn
    · rw [HS.out]; exact (HQ.out _).bel hb2)
  go_wp2
  go_ret2
  refine ⟨_, _, _, _, _, rfl, HX.out.1, fun k e => ?_, HB1.out.trans HX.out.2⟩
  obtain ⟨g1, g2, g3, g4⟩ := HG.out
  have := HB1.out.size
  rcases e with e | e | e | e | e <;> omega
end Go.Proofs.YtdoceldofkaapaaGreatDoor.Ha
namespace Go.Proofs.YtdoceldofkaapaaGreatDoor.Ha
open Go.RowKit
/-- A queue (its blocks in f, at Q, of P places and bits b, its base s, k slots looked into, the timers l in order) and its calls. -/
structure Con (Qu : QT) : Prop where
  off : ∀ {f g w w' Q P b s k l}, Qu f w Q P b s k l → Off g w w' → (∀ i, f i → ¬ g i) → ¬ g 0 → Qu f w' Q P b s k l
  lt_ : ∀ {f w Q P b s k l}, Qu f w Q P b s k l → ∀ j, f j → j < w.heap.size
  z : ∀ {f w Q P b s k l}, Qu f w Q P b s k l → ¬ f 0
  pos : ∀ {f w Q P b s k l}, Qu f w Q P b s k l → 0 < w.heap.size
  so : ∀ {f w Q P b s k l}, Qu f w Q P b s k l → So l
  len : ∀ {f w Q P b s k l}, Qu f w Q P b s k l → l.length ≤ P
  hP : ∀ {f w Q P b s k l}, Qu f w Q P b s k l → P ≤ 1024
  hb : ∀ {f w Q P b s k l}, Qu f w Q P b s k l → 1 ≤ b ∧ b ≤ 6
  base : ∀ {f w Q P b s k l}, Qu f w Q P b s k l → Tk s
  ticks : ∀ {f w Q P b s k l}, Qu f w Q P b s k l → ∀ t ∈ l, Tk t.a
  places : ∀ {f w Q P b s k l}, Qu f w Q P b s k l → (l.map T.p).Nodup ∧ ∀ t ∈ l, hp P t.p = true
  zp : ∀ {f w Q P b s k l}, Qu f w Q P b s k l → ∃ Z, w.cell? ⟨Q, 0, none⟩ = some (.pointer (some ⟨Z, 0, none⟩))
  qnew_no : ∀ (P b s : Int) (w : World), ¬ ((0 ≤ P ∧ P ≤ 1024) ∧ 1 ≤ b ∧ b ≤ 6) → Calls Tryz.prog 11 #[.int .i64 P, .int .i64 b, .int .u64 s] w fun e w' => e = .returned (.tuple #[.pointer none, .int .i64 1]) ∧ Bel w w'
  qnew_yes : ∀ (P b : Nat) (s : Int) (w : World), P ≤ 1024 → 1 ≤ b ∧ b ≤ 6 → Tk s → Bm.Tab w → Calls Tryz.prog 11 #[.int .i64 P, .int .i64 b, .int .u64 s] w fun e w' => ∃ Q f, e = .returned (.tuple #[.pointer (some ⟨Q, 0, none⟩), .int .i64 0]) ∧ Qu f w' Q P b s 0 [] ∧ (∀ k, f k → w.heap.size ≤ k) ∧ Bel w w'
  insert : ∀ {f Q P b s k l} (t : T) (w : World), Qu f w Q P b s k l → Tk t.a → Calls Tryz.prog 39 #[.pointer (some ⟨Q, 0, none⟩), .agg #[.int .u64 t.a, .int .u64 t.s, .int .i64 t.p]] w fun e w' => e = .returned (.int .i64 (insE P l t)) ∧ ∃ f', Grw f f' w w' ∧ Qu f' w' Q P b s k (insL P l t) ∧ Off f w w'
  cancel : ∀ {f Q P b s k l} (p : Int) (w : World), Qu f w Q P b s k l → Calls Tryz.prog 40 #[.pointer (some ⟨Q, 0, none⟩), .int .i64 p] w fun e w' => e = .returned (canV ((fnd l p).getD default) (canE P l p)) ∧ ∃ f', Grw f f' w w' ∧ Qu f' w' Q P b s k (wo l p) ∧ Off f w w'
  move : ∀ {f Q P b s k l} (t : T) (w : World), Qu f w Q P b s k l → Tk t.a → Calls Tryz.prog 41 #[.pointer (some ⟨Q, 0, none⟩), .agg #[.int .u64 t.a, .int .u64 t.s, .int .i64 t.p]] w fun e w' => e = .returned (.int .i64 (canE P l t.p)) ∧ ∃ f', Grw f f' w w' ∧ Qu f' w' Q P b s k (movL P l t) ∧ Off f w w'
  due : ∀ {f Q P b s k l} (now : Int) (w : World), Qu f w Q P b s k l → Tk now → Calls Tryz.prog 42 #[.pointer (some ⟨Q, 0, none⟩), .int .u64 now] w fun e w' => ∃ p c f', e = .returned (.slice p (due l now true).length c) ∧ (due l now true).length ≤ c ∧ Lies (fun j => old w j ∨ f' j) w' p (encs (due l now true)) ∧ Grw f f' w w' ∧ Qu f' w' Q P b (max s now) (lks (slo b) s now l) (due l now false) ∧ Off f w w'
  get : ∀ {f Q Z P b s k l} (p : Int) (w : World), Qu f w Q P b s k l → w.cell? ⟨Q, 0, none⟩ = some (.pointer (some ⟨Z, 0, none⟩)) → Calls Tryz.prog 19 #[.pointer (some ⟨Z, 0, none⟩), .int .i64 p] w fun e w' => e = .returned (ansT (fnd l p)) ∧ Bel w w'
  min : ∀ {f Q P b s k l} (w : World), Qu f w Q P b s k l → Calls Tryz.prog 21 #[.pointer (some ⟨Q, 0, none⟩)] w fun e w' => e = .returned (ansT l.head?) ∧ Bel w w'
  count : ∀ {f Q Z P b s k l} (w : World), Qu f w Q P b s k l → w.cell? ⟨Q, 0, none⟩ = some (.pointer (some ⟨Z, 0, none⟩)) → Calls Tryz.prog 18 #[.pointer (some ⟨Z, 0, none⟩)] w fun e w' => e = .returned (.int .i64 l.length) ∧ Bel w w'
  all : ∀ {f Q Z P b s k l} (w : World), Qu f w Q P b s k l → w.cell? ⟨Q, 0, none⟩ = some (.pointer (some ⟨Z, 0, none⟩)) → Calls Tryz.prog 24 #[.pointer (some ⟨Z, 0, none⟩)] w fun e w' => ∃ p c, e = .returned (.slice p l.length c) ∧ l.length ≤ c ∧ Lies (old w) w' p (encs l) ∧ Bel w w'
  based : ∀ {f Q P b s k l} (w : World), Qu f w Q P b s k l → Calls Tryz.prog 16 #[.pointer (some ⟨Q, 0, none⟩)] w fun e w' => e = .returned (.int .u64 s) ∧ Bel w w'
  looked : ∀ {f Q P b s k l} (w : World), Qu f w Q P b s k l → Calls Tryz.prog 17 #[.pointer (some ⟨Q, 0, none⟩)] w fun e w' => e = .returned (.int .i64 k) ∧ Bel w w'
theorem Con.bel {Qu : QT} (C : Con Qu) {f w w' Q P b s k l} (h : Qu f w Q P b s k l) (hb : Bel w w') : Qu f w' Q P b s k l := C.off h hb (fun _ _ e => e) (fun e => e)
end Go.Proofs.YtdoceldofkaapaaGreatDoor.Ha
namespace Go.Proofs.YtdoceldofkaapaaGreatDoor.Ha
open Go.RowKit
/-- A wheel, its five blocks in f. -/
def Qu : QT := fun f w Q P b s k l => ∃ Z B G R, Wh w Q Z B G R P b s k l ∧ f = Fo5 Q Z B G R
theorem foI {Q Z B G R : Nat} {a b : World} (h : Off (Fo Q G R) a b) : Off (Fo5 Q Z B G R) a b := h.mono (fun _ _ e => by
  rcases e with e | e | e
  · exact .inl e
  · exact .inr (.inr (.inr (.inl e)))
  · exact .inr (.inr (.inr (.inr e))))
theorem wh_lt {w : World} {Q Z B G R P b : Nat} {s k : Int} {l : List T} (q : Wh w Q Z B G R P b s k l) {j : Nat} (hj : Fo5 Q Z B G R j) : j < w.heap.size := by
  obtain ⟨l1, l2, l3, l4, l5⟩ := q.lt
  rcases hj with rfl | rfl | rfl | rfl | rfl <;> assumption
theorem grw_same (f : Nat → Prop) (w w' : World) : Grw f f w w' := fun _ e => .inl e
theorem ptr_one {w : World} {Q Z Z' : Nat} (h : w.cell? ⟨Q, 0, none⟩ = some (.pointer (some ⟨Z, 0, none⟩))) (k : w.cell? ⟨Q, 0, none⟩ = some (.pointer (some ⟨Z', 0, none⟩))) : Z = Z' := by
  rw [h] at k
  injection k with k
  injection k with k
  injection k with k
  injection k
theorem con : Con Qu where
  off := by
    rintro f g w w' Q P b s k l ⟨Z, B, G, R, h, rfl⟩ o hf h0
    exact ⟨Z, B, G, R, h.off o hf h0, rfl⟩
  lt_ := by
    rintro f w Q P b s k l ⟨Z, B, G, R, h, rfl⟩ j hj
    exact wh_lt h hj
  z := by
    rintro f w Q P b s k l ⟨Z, B, G, R, h, rfl⟩ e
    obtain ⟨z1, z2, z3, z4, z5⟩ := h.re.zs
    rcases e with e | e | e | e | e <;> omega
  pos := by
    rintro f w Q P b s k l ⟨Z, B, G, R, h, rfl⟩
    have := h.lt.1
    omega
  so := by
    rintro f w Q P b s k l ⟨Z, B, G, R, h, rfl⟩
    obtain ⟨⟨ls, r, F, q1, q2⟩, q3⟩ := h
    exact q1.ql.is.so
  len := by
    rintro f w Q P b s k l ⟨Z, B, G, R, ⟨⟨ls, r, F, q1, q2⟩, q3⟩, rfl⟩
    exact q1.ql.is.len
  hP := by
    rintro f w Q P b s k l ⟨Z, B, G, R, ⟨⟨ls, r, F, q1, q2⟩, q3⟩, rfl⟩
    exact q1.ql.hP
  hb := by
    rintro f w Q P b s k l ⟨Z, B, G, R, h, rfl⟩
    exact h.re.hb
  base := by
    rintro f w Q P b s k l ⟨Z, B, G, R, h, rfl⟩
    exact h.re.ts
  ticks := by
    rintro f w Q P b s k l ⟨Z, B, G, R, h, rfl⟩
    exact h.re.tl
  places := by
    rintro f w Q P b s k l ⟨Z, B, G, R, ⟨⟨ls, r, F, q1, q2⟩, q3⟩, rfl⟩
    have hi := q1.ql.is
    constructor
    · refine List.pairwise_map.2 ?_
      have hn : l.Pairwise (fun x y => pl x ≠ pl y) := List.pairwise_map.1 hi.nd
      exact hn.imp (fun e h => e (by unfold pl; rw [h]))
    · intro t ht
      obtain ⟨e, h1, _⟩ := hi.tm t ht
      unfold hp
      rw [e]
      simp [h1]
  zp := by
    rintro f w Q P b s k l ⟨Z, B, G, R, ⟨⟨ls, r, F, q1, q2⟩, q3⟩, rfl⟩
    exact ⟨Z, q1.cell rfl⟩
  qnew_no := qnew_no
  qnew_yes := by
    intro P b s w hP hb hs hT
    refine (qnew_yes P b s w hP hb hs hT).mono ?_
    rintro e w' ⟨Q, Z, B, G, R, h1, h2, h3, h4⟩
    exact ⟨Q, Fo5 Q Z B G R, h1, ⟨Z, B, G, R, h2, rfl⟩, h3, h4⟩
  insert := by
    rintro f Q P b s k l t w ⟨Z, B, G, R, h, rfl⟩ ht
    refine (insert_any t w h ht).mono ?_
    rintro e w' ⟨h1, h2, h3⟩
    exact ⟨h1, _, grw_same _ _ _, ⟨Z, B, G, R, h2, rfl⟩, foI h3⟩
  cancel := by
    rintro f Q P b s k l p w ⟨Z, B, G, R, h, rfl⟩
    refine (cancel_any p w h).mono ?_
    rintro e w' ⟨h1, h2, h3⟩
    exact ⟨h1, _, grw_same _ _ _, ⟨Z, B, G, R, h2, rfl⟩, foI h3⟩
  move := by
    rintro f Q P b s k l t w ⟨Z, B, G, R, h, rfl⟩ ht
    refine (move_any t w h ht).mono ?_
    rintro e w' ⟨h1, h2, h3⟩
    exact ⟨h1, _, grw_same _ _ _, ⟨Z, B, G, R, h2, rfl⟩, foI h3⟩
  due := by
    rintro f Q P b s k l now w ⟨Z, B, G, R, h, rfl⟩ hn
    refine (due_any now w h hn).mono ?_
    rintro e w' ⟨⟨p, c, h1, h2, h5⟩, h3, h4⟩
    refine ⟨p, c, _, h1, h2, h5.mono ?_, grw_same _ _ _, ⟨Z, B, G, R, h3, rfl⟩, foI h4⟩
    rintro j _ (e | e)
    · exact e
    · exact wh_lt h e
  get := by
    rintro f Q Z' P b s k l p w ⟨Z, B, G, R, ⟨⟨ls, r, F, q1, q2⟩, q3⟩, rfl⟩ hz
    obtain rfl := ptr_one hz (q1.cell rfl)
    exact get_any p w q1.ql
  min := by
    rintro f Q P b s k l w ⟨Z, B, G, R, h, rfl⟩
    exact min_any w h
  count := by
    rintro f Q Z' P b s k l w ⟨Z, B, G, R, ⟨⟨ls, r, F, q1, q2⟩, q3⟩, rfl⟩ hz
    obtain rfl := ptr_one hz (q1.cell rfl)
    exact count_any w q1.ql
  all := by
    rintro f Q Z' P b s k l w ⟨Z, B, G, R, ⟨⟨ls, r, F, q1, q2⟩, q3⟩, rfl⟩ hz
    obtain rfl := ptr_one hz (q1.cell rfl)
    refine (all_any w q1.ql).mono ?_
    rintro e w' ⟨⟨p, c, h1, h2, h5⟩, h4⟩
    exact ⟨p, c, h1, h2, h5, h4⟩
  based := by
    rintro f Q P b s k l w ⟨Z, B, G, R, h, rfl⟩
    exact base_any w h
  looked := by
    rintro f Q P b s k l w ⟨Z, B, G, R, h, rfl⟩
    exact looked_any w h
end Go.Proofs.YtdoceldofkaapaaGreatDoor.Ha
