/-
  A wheel is what the laws want of a queue.
  A queue, and boxes beside it: what each call keeps.
-/
import Derived.Test.YtdoceldofkaapaaDoorAdue
import Derived.Test.YtdoceldofkaapaaDoorAmin
import Derived.Test.YtdoceldofkaapaaDoorXas
import Derived.Test.YtdoceldofkaapaaDoorXae
import Derived.Test.YtdoceldofkaapaaDoorXaf
set_option linter.unusedVariables false
set_option linter.unusedSimpArgs false
namespace Go.Proofs.YtdoceldofkaapaaDoor.Ha
open Go.RowKit
/-- A wheel, its five blocks in f. -/
def Qu : QT := fun f w Q P b s k l => ∃ Z B G R, Wh w Q Z B G R P b s k l ∧ f = Fo5 Q Z B G R
theorem foI {Q Z B G R : Nat} {a b : World} (h : Off (Fo Q G R) a b) : Off (Fo5 Q Z B G R) a b := h.mono (fun _ _ e => by
  rcases e with e | e | e
  · exact .inl e
  · exact .inr (.inr (.inr (.inl e)))
  · exact .inr (.inr (.inr (.inr e))))
theorem wh_lt {w : World} {Q Z B G R P b : Nat} {s k : Int} {l : List T} (q : Wh w Q Z B G R P b s k l) {j : Nat} (hj : Fo5 Q Z B G R j) : j < w.heap.size := by
  obtain ⟨l1, l2, l3, l4, l5⟩ := q.lt
  rcases hj with rfl | rfl | rfl | rfl | rfl <;> assumption
theorem grw_same (f : Nat → Prop) (w w' : World) : Grw f f w w' := fun _ e => .inl e
theorem ptr_one {w : World} {Q Z Z' : Nat} (h : w.cell? ⟨Q, 0, none⟩ = some (.pointer (some ⟨Z, 0, none⟩))) (k : w.cell? ⟨Q, 0, none⟩ = some (.pointer (some ⟨Z', 0, none⟩))) : Z = Z' := by
  rw [h] at k
  injection k with k
  injection k with k
  injection k with k
  injection k
theorem wh_ptr {w : World} {Q Z B G R P b : Nat} {s k : Int} {l : List T} (q : Wh w Q Z B G R P b s k l) : w.cell? ⟨Q, 0, none⟩ = some (.pointer (some ⟨Z, 0, none⟩)) := by
  obtain ⟨⟨ls, r, F, q1, q2⟩, q3⟩ := q
  exact q1.cell rfl
theorem con : Con Qu where
  off := by
    rintro f g w w' Q P b s k l ⟨Z, B, G, R, h, rfl⟩ o hf h0
    exact ⟨Z, B, G, R, h.off o hf h0, rfl⟩
  lt_ := by
    rintro f w Q P b s k l ⟨Z, B, G, R, h, rfl⟩ j hj
    exact wh_lt h hj
  z := by
    rintro f w Q P b s k l ⟨Z, B, G, R, h, rfl⟩ e
    obtain ⟨z1, z2, z3, z4, z5⟩ := h.re.zs
    rcases e with e | e | e | e | e <;> omega
  pos := by
    rintro f w Q P b s k l ⟨Z, B, G, R, h, rfl⟩
    have := h.lt.1
    omega
  so := by
    rintro f w Q P b s k l ⟨Z, B, G, R, h, rfl⟩
    obtain ⟨⟨ls, r, F, q1, q2⟩, q3⟩ := h
    exact q1.ql.is.so
  len := by
    rintro f w Q P b s k l ⟨Z, B, G, R, ⟨⟨ls, r, F, q1, q2⟩, q3⟩, rfl⟩
    exact q1.ql.is.len
  hP := by
    rintro f w Q P b s k l ⟨Z, B, G, R, ⟨⟨ls, r, F, q1, q2⟩, q3⟩, rfl⟩
    exact q1.ql.hP
  hb := by
    rintro f w Q P b s k l ⟨Z, B, G, R, h, rfl⟩
    exact h.re.hb
  base := by
    rintro f w Q P b s k l ⟨Z, B, G, R, h, rfl⟩
    exact h.re.ts
  ticks := by
    rintro f w Q P b s k l ⟨Z, B, G, R, h, rfl⟩
    exact h.re.tl
  places := by
    rintro f w Q P b s k l ⟨Z, B, G, R, ⟨⟨ls, r, F, q1, q2⟩, q3⟩, rfl⟩
    have hi := q1.ql.is
    constructor
    · refine List.pairwise_map.2 ?_
      have hn : l.Pairwise (fun x y => pl x ≠ pl y) := List.pairwise_map.1 hi.nd
      exact hn.imp (fun e h => e (by unfold pl; rw [h]))
    · intro t ht
      obtain ⟨e, h1, _⟩ := hi.tm t ht
      unfold hp
      rw [e]
      simp [h1]
  zp := by
    rintro f w Q P b s k l ⟨Z, B, G, R, ⟨⟨ls, r, F, q1, q2⟩, q3⟩, rfl⟩
    exact ⟨Z, q1.cell rfl⟩
  qnew_no := qnew_no
  qnew_yes := by
    intro P b s w hP hb hs hT
    refine (qnew_yes P b s w hP hb hs hT).mono ?_
    rintro e w' ⟨Q, Z, B, G, R, h1, h2, h3, h4⟩
    exact ⟨Q, Fo5 Q Z B G R, h1, ⟨Z, B, G, R, h2, rfl⟩, h3, h4⟩
  insert := by
    rintro f Q P b s k l t w ⟨Z, B, G, R, h, rfl⟩ ht
    refine (insert_any t w h ht).mono ?_
    rintro e w' ⟨h1, h2, h3⟩
    exact ⟨h1, _, grw_same _ _ _, ⟨Z, B, G, R, h2, rfl⟩, foI h3⟩
  cancel := by
    rintro f Q P b s k l p w ⟨Z, B, G, R, h, rfl⟩
    refine (cancel_any p w h).mono ?_
    rintro e w' ⟨h1, h2, h3⟩
    exact ⟨h1, _, grw_same _ _ _, ⟨Z, B, G, R, h2, rfl⟩, foI h3⟩
  move := by
    rintro f Q P b s k l t w ⟨Z, B, G, R, h, rfl⟩ ht
    refine (move_any t w h ht).mono ?_
    rintro e w' ⟨h1, h2, h3⟩
    exact ⟨h1, _, grw_same _ _ _, ⟨Z, B, G, R, h2, rfl⟩, foI h3⟩
  due := by
    rintro f Q P b s k l now w ⟨Z, B, G, R, h, rfl⟩ hn
    refine (due_any now w h hn).mono ?_
    rintro e w' ⟨⟨p, c, h1, h2, h5⟩, h3, h4⟩
    refine ⟨p, c, _, h1, h2, h5.mono ?_, grw_same _ _ _, ⟨Z, B, G, R, h3, rfl⟩, foI h4⟩
    rintro j _ (e | e)
    · exact e
    · exact wh_lt h e
  own := by
    rintro f w Q P b s k l ⟨Z, B, G, R, h, rfl⟩
    exact .inl rfl
  duez := by
    rintro f Q P b s k l now w ⟨Z, B, G, R, h, rfl⟩ hn
    refine (due_any now w h hn).mono ?_
    rintro e w' ⟨⟨p, c, h1, h2, h5⟩, h3, h4⟩
    have hc := (wh_ptr h3).trans (wh_ptr h).symm
    refine ⟨⟨p, c, _, h1, h2, h5.mono ?_, grw_same _ _ _, ⟨Z, B, G, R, h3, rfl⟩, foI h4⟩, hc⟩
    rintro j _ (e | e)
    · exact e
    · exact wh_lt h e
  get := by
    rintro f Q Z' P b s k l p w ⟨Z, B, G, R, ⟨⟨ls, r, F, q1, q2⟩, q3⟩, rfl⟩ hz
    obtain rfl := ptr_one hz (q1.cell rfl)
    exact get_any p w q1.ql
  min := by
    rintro f Q P b s k l w ⟨Z, B, G, R, h, rfl⟩
    exact min_any w h
  count := by
    rintro f Q Z' P b s k l w ⟨Z, B, G, R, ⟨⟨ls, r, F, q1, q2⟩, q3⟩, rfl⟩ hz
    obtain rfl := ptr_one hz (q1.cell rfl)
    exact count_any w q1.ql
  all := by
    rintro f Q Z' P b s k l w ⟨Z, B, G, R, ⟨⟨ls, r, F, q1, q2⟩, q3⟩, rfl⟩ hz
    obtain rfl := ptr_one hz (q1.cell rfl)
    refine (all_any w q1.ql).mono ?_
    rintro e w' ⟨⟨p, c, h1, h2, h5⟩, h4⟩
    exact ⟨p, c, h1, h2, h5, h4⟩
  based := by
    rintro f Q P b s k l w ⟨Z, B, G, R, h, rfl⟩
    exact base_any w h
  looked := by
    rintro f Q P b s k l w ⟨Z, B, G, R, h, rfl⟩
    exact looked_any w h
end Go.Proofs.YtdoceldofkaapaaDoor.Ha
set_option linter.unusedSectionVars false
namespace Go.Proofs.YtdoceldofkaapaaDoor.Ha
open Go.RowKit
theorem three_new (w : World) (a b c : Array Value) (ta tb tc : TypeId) : ∃ W, ((w.alloc (.cells a ta)).alloc (.cells b tb)).alloc (.cells c tc) = W ∧ Bel w W ∧ W.heap.size = w.heap.size + 1 + 1 + 1 ∧
    W.heap[w.heap.size]? = some (.cells a ta (0, 0)) ∧ W.heap[w.heap.size + 1]? = some (.cells b tb (0, 0)) ∧ W.heap[w.heap.size + 1 + 1]? = some (.cells c tc (0, 0)) := by
  refine ⟨_, rfl, (((Bel.refl w).alloc _ _).alloc _ _).alloc _ _, by simp, ?_, ?_, ?_⟩
  · rw [Below.heap_alloc _ _ _ (by simp only [World.size_alloc]; omega), Below.heap_alloc _ _ _ (by simp), heap_alloc_new]
  · rw [Below.heap_alloc _ _ _ (by simp only [World.size_alloc]; omega)]
    have := heap_alloc_new (w.alloc (.cells a ta)) (.cells b tb)
    simpa using this
  · have := heap_alloc_new ((w.alloc (.cells a ta)).alloc (.cells b tb)) (.cells c tc)
    simpa using this
/-- A timer's box. -/
abbrev tb (t : T) : Obj := .cells #[.int .u64 t.a, .int .u64 t.s, .int .i64 t.p] 41
structure Ow (Qu : QT) (w : World) (Q P b : Nat) (s kk : Int) (l : List T) (bx : List (Nat × Obj)) (wx : World) : Prop where
  ex : ∃ f, Qu f wx Q P b s kk l ∧ (∀ j, f j → w.heap.size ≤ j) ∧ ∀ x ∈ bx, ¬ f x.1
  bel : Bel w wx
  at_ : ∀ x ∈ bx, wx.heap[x.1]? = some x.2
theorem Ow.c3 {Qu : QT} {w : World} {Q P b : Nat} {s kk : Int} {l : List T} {bx : List (Nat × Obj)} {w1 : World} (h : Ow Qu w Q P b s kk l bx w1) {j : Nat} {x y z : Value} {ty : TypeId} (hm : (j, .cells #[x, y, z] ty) ∈ bx) : w1.cell? ⟨j, 0, none⟩ = some x ∧ w1.cell? ⟨j, 1, none⟩ = some y ∧ w1.cell? ⟨j, 2, none⟩ = some z := (box3 (h.at_ _ hm)).1
theorem Ow.less {Qu : QT} {w : World} {Q P b : Nat} {s kk : Int} {l : List T} {bx : List (Nat × Obj)} {w1 : World} {x : Nat × Obj} (h : Ow Qu w Q P b s kk l (x :: bx) w1) : Ow Qu w Q P b s kk l bx w1 := by
  obtain ⟨⟨f, h1, h2, h3⟩, h4, h5⟩ := h
  exact ⟨⟨f, h1, h2, fun y hy => h3 y (List.mem_cons_of_mem _ hy)⟩, h4, fun y hy => h5 y (List.mem_cons_of_mem _ hy)⟩
section
variable {Qu : QT} (C : Con Qu) {w : World} {Q P b : Nat} {s kk : Int} {l : List T} {bx : List (Nat × Obj)}
include C
theorem ow_le {w1 w2 : World} (h : Ow Qu w Q P b s kk l bx w1) (k : Bel w1 w2) : Ow Qu w Q P b s kk l bx w2 := by
  obtain ⟨⟨f, h1, h2, h3⟩, h4, h5⟩ := h
  exact ⟨⟨f, C.bel h1 k, h2, h3⟩, h4.trans k, fun x hx => k.heap (h5 x hx)⟩
theorem ow_step {f f' : Nat → Prop} {w1 w2 : World} {s' kk' : Int} {l' : List T} (h3 : ∀ k, f k → w.heap.size ≤ k) (h6 : ∀ x ∈ bx, ¬ f x.1) (h7 : Bel w w1) (h8 : ∀ x ∈ bx, w1.heap[x.1]? = some x.2)
    (hf : Grw f f' w1 w2) (hq : Qu f' w2 Q P b s' kk' l') (k : Off f w1 w2) : Ow Qu w Q P b s' kk' l' bx w2 := by
  refine ⟨⟨f', hq, fun j e => ?_, fun x hx e => ?_⟩, Off.trans h7 k (fun i e => .inr (h3 i e)), fun x hx => (k.block _ (Array.getElem?_eq_some_iff.1 (h8 x hx)).1 (h6 x hx)).trans (h8 x hx)⟩
  · rcases hf j e with e | e
    · exact h3 j e
    · exact Nat.le_trans h7.size e.1
  · rcases hf _ e with e | e
    · exact h6 x hx e
    · have := (Array.getElem?_eq_some_iff.1 (h8 x hx)).1
      omega
theorem ow_box {w1 : World} (h : Ow Qu w Q P b s kk l bx w1) (c : Array Value) (t : TypeId) : Ow Qu w Q P b s kk l ((w1.heap.size, .cells c t) :: bx) (w1.alloc (.cells c t)) := by
  have k : Bel w1 (w1.alloc (.cells c t)) := (Bel.refl w1).alloc c t
  obtain ⟨⟨f, h1, h2, h3⟩, h4, h5⟩ := h
  refine ⟨⟨f, C.bel h1 k, h2, fun x hx => ?_⟩, h4.trans k, fun x hx => ?_⟩
  · rcases List.mem_cons.1 hx with rfl | hx
    · exact fun e => Nat.lt_irrefl _ (C.lt_ h1 _ e)
    · exact h3 x hx
  · rcases List.mem_cons.1 hx with rfl | hx
    · exact heap_alloc_new _ _
    · exact k.heap (h5 x hx)
theorem ow_insert {l' : List T} {t : T} {er : Int} (e1 : insE P l t = er) (e2 : insL P l t = l') (ht : Tk t.a) {w1 : World} (h : Ow Qu w Q P b s kk l bx w1) :
    Calls Tryd.prog 15 #[.pointer (some ⟨Q, 0, none⟩), .agg #[.int .u64 t.a, .int .u64 t.s, .int .i64 t.p]] w1 fun e w2 => e = .returned (.int .i64 er) ∧ Ow Qu w Q P b s kk l' bx w2 := by
  subst e1 e2
  obtain ⟨⟨f, h1, h2, h3⟩, h4, h5⟩ := h
  exact (C.insert t w1 h1 ht).mono fun e w2 ⟨he, f', hf, hq, ho⟩ => ⟨he, ow_step C h2 h3 h4 h5 hf hq ho⟩
theorem ow_move {l' : List T} {t : T} {er : Int} (e1 : canE P l t.p = er) (e2 : movL P l t = l') (ht : Tk t.a) {w1 : World} (h : Ow Qu w Q P b s kk l bx w1) :
    Calls Tryd.prog 21 #[.pointer (some ⟨Q, 0, none⟩), .agg #[.int .u64 t.a, .int .u64 t.s, .int .i64 t.p]] w1 fun e w2 => e = .returned (.int .i64 er) ∧ Ow Qu w Q P b s kk l' bx w2 := by
  subst e1 e2
  obtain ⟨⟨f, h1, h2, h3⟩, h4, h5⟩ := h
  exact (C.move t w1 h1 ht).mono fun e w2 ⟨he, f', hf, hq, ho⟩ => ⟨he, ow_step C h2 h3 h4 h5 hf hq ho⟩
theorem ow_cancel {l' : List T} {k er : Int} {t : T} (e1 : canE P l k = er) (e2 : wo l k = l') (e3 : (fnd l k).getD default = t) {w1 : World} (h : Ow Qu w Q P b s kk l bx w1) :
    Calls Tryd.prog 22 #[.pointer (some ⟨Q, 0, none⟩), .int .i64 k] w1 fun e w2 => e = .returned (canV t er) ∧ Ow Qu w Q P b s kk l' bx w2 := by
  subst e1 e2 e3
  obtain ⟨⟨f, h1, h2, h3⟩, h4, h5⟩ := h
  exact (C.cancel k w1 h1).mono fun e w2 ⟨he, f', hf, hq, ho⟩ => ⟨he, ow_step C h2 h3 h4 h5 hf hq ho⟩
theorem ow_due {l' d : List T} {now s' k' : Int} {n : Nat} (e1 : due l now true = d) (e2 : due l now false = l') (e3 : max s now = s') (e4 : (lks (slo b) s now l : Int) = k') (e5 : d.length = n) (hn : Tk now) {w1 : World} (h : Ow Qu w Q P b s kk l bx w1) :
    Calls Tryd.prog 11 #[.pointer (some ⟨Q, 0, none⟩), .int .u64 now] w1 fun e w2 => ∃ p c, e = .returned (.slice p n c) ∧ Has w2 p d ∧ Ow Qu w Q P b s' k' l' bx w2 := by
  subst e1 e2 e3 e4 e5
  obtain ⟨⟨f, h1, h2, h3⟩, h4, h5⟩ := h
  exact (C.due now w1 h1 hn).mono fun e w2 ⟨p, c, f', he, _, hl, hf, hq, ho⟩ => ⟨p, c, he, hl.has, ow_step C h2 h3 h4 h5 hf hq ho⟩
theorem ow_zp {w1 : World} (h : Ow Qu w Q P b s kk l bx w1) : ∃ Z, w1.cell? ⟨Q, 0, none⟩ = some (.pointer (some ⟨Z, 0, none⟩)) := by
  obtain ⟨⟨f, h1, _⟩, _⟩ := h
  exact C.zp h1
theorem ow_all {Z : Nat} {w1 : World} (hz : w1.cell? ⟨Q, 0, none⟩ = some (.pointer (some ⟨Z, 0, none⟩))) {n : Nat} (e : l.length = n) (h : Ow Qu w Q P b s kk l bx w1) :
    Calls Tryd.prog 20 #[.pointer (some ⟨Z, 0, none⟩)] w1 fun e w2 => ∃ p c, e = .returned (.slice p n c) ∧ Has w2 p l ∧ Bel w1 w2 := by
  subst e
  obtain ⟨⟨f, h1, _⟩, _⟩ := h
  exact (C.all w1 h1 hz).mono fun e w2 ⟨p, c, he, _, hl, hb⟩ => ⟨p, c, he, hl.has, hb⟩
theorem ow_min {t : T} (e : l.head? = some t) {w1 : World} (h : Ow Qu w Q P b s kk l bx w1) :
    Calls Tryd.prog 19 #[.pointer (some ⟨Q, 0, none⟩)] w1 fun e w2 => e = .returned (.tuple #[.agg #[.int .u64 t.a, .int .u64 t.s, .int .i64 t.p], .bool true]) ∧ Bel w1 w2 := by
  obtain ⟨⟨f, h1, _⟩, _⟩ := h
  have k := C.min w1 h1
  rw [e] at k
  exact k
theorem ow_get {Z : Nat} {w1 : World} (hz : w1.cell? ⟨Q, 0, none⟩ = some (.pointer (some ⟨Z, 0, none⟩))) {t : T} {k : Int} (e : fnd l k = some t) (h : Ow Qu w Q P b s kk l bx w1) :
    Calls Tryd.prog 23 #[.pointer (some ⟨Z, 0, none⟩), .int .i64 k] w1 fun e w2 => e = .returned (.tuple #[.agg #[.int .u64 t.a, .int .u64 t.s, .int .i64 t.p], .bool true]) ∧ Bel w1 w2 := by
  obtain ⟨⟨f, h1, _⟩, _⟩ := h
  have k := C.get k w1 h1 hz
  rw [e] at k
  exact k
theorem ow_len {Z : Nat} {w1 : World} (hz : w1.cell? ⟨Q, 0, none⟩ = some (.pointer (some ⟨Z, 0, none⟩))) {n : Nat} (e : l.length = n) (h : Ow Qu w Q P b s kk l bx w1) :
    Calls Tryd.prog 9 #[.pointer (some ⟨Z, 0, none⟩)] w1 fun e w2 => e = .returned (.int .i64 n) ∧ Bel w1 w2 := by
  subst e
  obtain ⟨⟨f, h1, _⟩, _⟩ := h
  exact C.count w1 h1 hz
theorem ow_base {w1 : World} (h : Ow Qu w Q P b s kk l bx w1) :
    Calls Tryd.prog 10 #[.pointer (some ⟨Q, 0, none⟩)] w1 fun e w2 => e = .returned (.int .u64 s) ∧ Bel w1 w2 := by
  obtain ⟨⟨f, h1, _⟩, _⟩ := h
  exact C.based w1 h1
theorem ow_looked {w1 : World} (h : Ow Qu w Q P b s kk l bx w1) :
    Calls Tryd.prog 12 #[.pointer (some ⟨Q, 0, none⟩)] w1 fun e w2 => e = .returned (.int .i64 kk) ∧ Bel w1 w2 := by
  obtain ⟨⟨f, h1, _⟩, _⟩ := h
  exact C.looked w1 h1
theorem ow_new {w1 : World} {f : Nat → Prop} (h1 : Qu f w1 Q P b s kk l) (hf : ∀ k, f k → w.heap.size ≤ k) (b1 : Bel w w1) : Ow Qu w Q P b s kk l [] w1 :=
  ⟨⟨f, h1, hf, fun x hx => by simp at hx⟩, b1, fun x hx => by simp at hx⟩
end
theorem has_row {w : World} {b : Nat} {l : List T} {cs : Array Value} (h : w.heap[b]? = some (.cells cs 41 (0, 0))) (e : cs = (encs l).toArray) : Has w (some ⟨b, 0, none⟩) l := by
  by_cases h0 : l = []
  · exact .inl h0
  refine .inr ⟨b, 0, rfl, fun i hi => ?_⟩
  have hg := encs_get l i hi
  have c : ∀ j, w.cell? ⟨b, j, none⟩ = (encs l)[j]? := fun j => by rw [cell_of_row w b _ _ 41 (0, 0) h, e, List.getElem?_toArray]
  rw [Nat.zero_add, c, c, c]
  exact hg
theorem same_yes (p q : Option Addr) (c d : Nat) (l : List T) (w : World) (hm : l.length ≤ 5000) (h1 : Has w p l) (h2 : Has w q l) :
    Calls Tryd.prog 16 #[.slice p l.length c, .slice q l.length d] w fun e w' => e = .returned (.bool true) ∧ Bel w w' := by
  have K := same_any p q l.length c d l l w rfl rfl hm h1 h2
  rw [decide_eq_true rfl] at K
  exact K
theorem new3 (w : World) (a b c : Array Value) (ta tb tc : TypeId) : ∃ W, ((w.alloc (.cells a ta)).alloc (.cells b tb)).alloc (.cells c tc) = W ∧ Bel w W ∧ W.heap.size = w.heap.size + 1 + 1 + 1 ∧ W.heap[w.heap.size]? = some (.cells a ta (0, 0)) ∧ W.heap[w.heap.size + 1]? = some (.cells b tb (0, 0)) ∧ W.heap[w.heap.size + 1 + 1]? = some (.cells c tc (0, 0)) := three_new w a b c ta tb tc
end Go.Proofs.YtdoceldofkaapaaDoor.Ha
