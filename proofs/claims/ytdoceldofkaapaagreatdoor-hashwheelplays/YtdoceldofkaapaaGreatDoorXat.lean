/-
  Contracts of a wheel of four levels: put, Insert.
  Contracts of a wheel of four levels: put.
-/
import Derived.Test.YtdoceldofkaapaaGreatDoorRmark
import Derived.Test.YtdoceldofkaapaaGreatDoorXas
set_option linter.unusedVariables false
set_option linter.unusedSimpArgs false
namespace Go.Proofs.YtdoceldofkaapaaGreatDoor
open Go.RowKit
section
variable {Q Z B G R P b : Nat} {s k : Int} {l : List T}
/-- The bits are right where one list turned, once it was marked. -/
theorem Fh.marked {ls ls' : Ls} {F : Nat → Nat → Nat} (h : Fh b ls F) (hb : b ≤ 6) {m i : Nat} (hm : m ≤ 3) (hi : i < 2 ^ b) (ho : ∀ u, u ≠ 2 + m * 2 ^ b + i → ls' u = ls u) :
    (ls' (2 + m * 2 ^ b + i) = [] → Fh b ls' (upF F m (Bm.dp (F m) i))) ∧ (¬ ls' (2 + m * 2 ^ b + i) = [] → Fh b ls' (upF F m (Bm.pt (F m) i))) := by
  have k := h.mark hb hm hi ho
  constructor
  · intro e
    unfold mkF at k
    rw [if_pos e] at k
    exact k
  · intro e
    unfold mkF at k
    rw [if_neg e] at k
    exact k
/-- A spot was marked: the wheel is whole again. v and u are the spot's level and slot, its list the only one that turned. -/
theorem mark_wr {ls ls' : Ls} {r : Nat → T} {F : Nat → Nat → Nat} {l' : List T} {v u : Int} (w : World) (q : Qw w Q Z B G R P (2 + 4 * 2 ^ b) (lw b s) ls' r 78 (rcells Z b (fst4 b) F s k) l') (hF : Fh b ls F)
    (hv : v = -1 ∨ v = 4 ∨ ∃ m i : Nat, m ≤ 3 ∧ i < 2 ^ b ∧ v = m ∧ u = i) (ho : ∀ t, t ≠ lsn b v u → ls' t = ls t) (hso : So ((ls' 1).map r)) (hr : Rest w Q Z B G R b s l') :
    Calls Tryz.prog 67 #[.pointer (some ⟨Q, 0, none⟩), spV v u] w fun e w' => e = .returned (.tuple #[]) ∧ Wr w' Q Z B G R P b s k l' ∧ Off (Fo Q G R) w w' := by
  have hb := hr.hb.2
  have out : v = -1 ∨ v = 4 → Calls Tryz.prog 67 #[.pointer (some ⟨Q, 0, none⟩), spV v u] w fun e w' => e = .returned (.tuple #[]) ∧ Wr w' Q Z B G R P b s k l' ∧ Off (Fo Q G R) w w' := fun h =>
    (mark_out v u h w).mono fun e w' ⟨a1, a2⟩ => ⟨a1, ⟨⟨ls', r, F, q.bel a2, hF.same (fun t ht => ho t (by rcases h with rfl | rfl <;> (unfold lsn; simp; omega))), hso⟩, hr.off a2 (fun e => e)⟩, a2.off _⟩
  have inn : ∀ {X : Nat → Nat} {m : Nat} {w' : World}, Fh b ls' (upF F m X) → Qw w' Q Z B G R P (2 + 4 * 2 ^ b) (lw b s) ls' r 78 (rcells Z b (fst4 b) (upF F m X) s k) l' → Off (Only Q) w w' → Wr w' Q Z B G R P b s k l' ∧ Off (Fo Q G R) w w' := fun h1 h2 h3 =>
    ⟨⟨⟨ls', r, _, h2, h1, hso⟩, hr.off h3 hr.only⟩, h3.foQ⟩
  rcases hv with h | h | ⟨m, i, hm, hi, rfl, rfl⟩
  · exact out (.inl h)
  · exact out (.inr h)
  · have hl := lsn_slot b m i hm
    rw [hl] at ho
    obtain ⟨f1, f2⟩ := hF.marked hb hm hi ho
    have hwd := hF.wd m hm
    have hcs : m = 0 ∨ m = 1 ∨ m = 2 ∨ m = 3 := by omega
    by_cases he : ls' (2 + m * 2 ^ b + i) = []
    · have f := f1 he
      rcases hcs with rfl | rfl | rfl | rfl
      · exact (mark_0e hi hb hwd w q he).mono fun e w' ⟨a1, a2, a3⟩ => ⟨a1, inn f a2 a3⟩
      · exact (mark_1e hi hb hwd w q he).mono fun e w' ⟨a1, a2, a3⟩ => ⟨a1, inn f a2 a3⟩
      · exact (mark_2e hi hb hwd w q he).mono fun e w' ⟨a1, a2, a3⟩ => ⟨a1, inn f a2 a3⟩
      · exact (mark_3e hi hb hwd w q he).mono fun e w' ⟨a1, a2, a3⟩ => ⟨a1, inn f a2 a3⟩
    · have f := f2 he
      rcases hcs with rfl | rfl | rfl | rfl
      · exact (mark_0f hi hb hwd w q he).mono fun e w' ⟨a1, a2, a3⟩ => ⟨a1, inn f a2 a3⟩
      · exact (mark_1f hi hb hwd w q he).mono fun e w' ⟨a1, a2, a3⟩ => ⟨a1, inn f a2 a3⟩
      · exact (mark_2f hi hb hwd w q he).mono fun e w' ⟨a1, a2, a3⟩ => ⟨a1, inn f a2 a3⟩
      · exact (mark_3f hi hb hwd w q he).mono fun e w' ⟨a1, a2, a3⟩ => ⟨a1, inn f a2 a3⟩
/-- The levels and slots that there are. -/
theorem spot_cases (b : Nat) (s a : Int) : lv b s a = -1 ∨ lv b s a = 4 ∨ ∃ m i : Nat, m ≤ 3 ∧ i < 2 ^ b ∧ lv b s a = m ∧ sv b s a = i := by
  have h1 := lv_in b s a
  have h2 := sv_in b s a
  by_cases e1 : lv b s a = -1
  · exact .inl e1
  · by_cases e2 : lv b s a = 4
    · exact .inr (.inl e2)
    · exact .inr (.inr ⟨(lv b s a).toNat, (sv b s a).toNat, by omega, by omega, by omega, by omega⟩)
/-- list, of any spot that there is. -/
theorem list_any {L : Nat} {lo : T → Nat} {ls : Ls} {r : Nat → T} {F : Nat → Nat → Nat} {v u : Int} (hb : b ≤ 6) (w : World) (q : Qw w Q Z B G R P L lo ls r 78 (rcells Z b (fst4 b) F s k) l) (hv : v = -1 ∨ v = 4 ∨ ∃ m i : Nat, m ≤ 3 ∧ i < 2 ^ b ∧ v = m ∧ u = i) :
    Calls Tryz.prog 61 #[.pointer (some ⟨Q, 0, none⟩), spV v u] w fun e w' => e = .returned (.int .i64 (lsn b v u : Nat)) ∧ Bel w w' := by
  have hp := pow_le hb
  rcases hv with rfl | rfl | ⟨m, i, hm, hi, rfl, rfl⟩
  · exact list_out Q (-1) u _ (.inl ⟨rfl, rfl⟩) w
  · exact list_out Q 4 u _ (.inr ⟨rfl, rfl⟩) w
  · rw [lsn_slot b m i hm]
    have hcs : m = 0 ∨ m = 1 ∨ m = 2 ∨ m = 3 := by omega
    refine list_in Q m i (fst4 b m) _ hm w ?_ ?_
    · rcases hcs with rfl | rfl | rfl | rfl <;> exact q.cell rfl
    · unfold fst4
      rw [IntKind.wrap_i64]
      rcases hcs with rfl | rfl | rfl | rfl <;> omega
theorem lv_far (b : Nat) (s a : Int) : (lv b s a == 4) = decide (lw b s ⟨a, 0, 0⟩ = 1) := by
  rw [Bool.eq_iff_iff]
  simp only [beq_iff_eq, decide_eq_true_eq]
  exact (lw_one (x := ⟨a, 0, 0⟩)).symm
end
end Go.Proofs.YtdoceldofkaapaaGreatDoor
namespace Go.Proofs.YtdoceldofkaapaaGreatDoor
open Go.RowKit
section
variable {Q Z B G R P L b : Nat} {lo : T → Nat} {ls : Ls} {r : Nat → T} {F : Nat → Nat → Nat} {s k : Int} {l : List T}
set_option maxHeartbeats 2000000 in
theorem put_far {v u : Int} (hb : b ≤ 6) (x : T) (w : World) (q : Qw w Q Z B G R P L lo ls r 78 (rcells Z b (fst4 b) F s k) l) (hv : v = -1 ∨ v = 4 ∨ ∃ m i : Nat, m ≤ 3 ∧ i < 2 ^ b ∧ v = m ∧ u = i) (hl4 : v = 4) {Rl : Ending → World → World → Prop}
    (K : ∀ w', Bel w w' → Calls Tryz.prog 101 #[.pointer (some ⟨Z, 0, none⟩), .int .i64 (lsn b v u : Nat), .agg #[.int .u64 x.a, .int .u64 x.s, .int .i64 x.p]] w' fun e w2 => ((∃ v : Int, e = .returned (.int .i64 v)) ∧ Off (Fo2 G R) w' w2) ∧ Rl e w' w2) :
    Calls Tryz.prog 66 #[.pointer (some ⟨Q, 0, none⟩), spV v u, .agg #[.int .u64 x.a, .int .u64 x.s, .int .i64 x.p]] w fun e w2 => ∃ w', Bel w w' ∧ Rl e w' w2 := by
  have KL : Hid (∀ w', Bel w w' → Calls Tryz.prog 61 #[.pointer (some ⟨Q, 0, none⟩), spV v u] w' fun e w2 => e = .returned (.int .i64 (lsn b v u : Nat)) ∧ Bel w' w2) := Lib.hid (fun w' hw => list_any hb w' (q.bel hw) hv)
  have K7 := Lib.hid K
  have hlv : (v == 4) = true := by simp [hl4]
  generalize lsn b v u = t at *
  have HB1 : Hid (Bel w ((w.alloc (.cells #[.int .i64 v, .int .i64 u] 109)).alloc (.cells #[.int .u64 x.a, .int .u64 x.s, .int .i64 x.p] 37))) := Lib.hid (((Bel.refl _).alloc _ _).alloc _ _)
  have HN : Hid (((w.alloc (.cells #[.int .i64 v, .int .i64 u] 109)).alloc (.cells #[.int .u64 x.a, .int .u64 x.s, .int .i64 x.p] 37)).heap[w.heap.size]? = some (.cells #[.int .i64 v, .int .i64 u] 109 (0, 0))) := Lib.hid (by rw [Below.heap_alloc _ _ _ (by simp), heap_alloc_new])
  have HM : Hid (((w.alloc (.cells #[.int .i64 v, .int .i64 u] 109)).alloc (.cells #[.int .u64 x.a, .int .u64 x.s, .int .i64 x.p] 37)).heap[w.heap.size + 1]? = some (.cells #[.int .u64 x.a, .int .u64 x.s, .int .i64 x.p] 37 (0, 0))) := Lib.hid (by
    have := heap_alloc_new (w.alloc (.cells #[.int .i64 v, .int .i64 u] 109)) (.cells #[.int .u64 x.a, .int .u64 x.s, .int .i64 x.p] 37)
    rw [World.size_alloc] at this; exact this)
  have HFL : ∀ i, Fo2 G R i → i < w.heap.size ∧ i ≠ Q := fun i e => by
    obtain ⟨l1, l2, l3, l4, l5⟩ := q.lt
    obtain ⟨_, _, n3, n4⟩ := q.ne
    rcases e with e | e <;> omega
  have hz1 : ((w.alloc (.cells #[.int .i64 v, .int .i64 u] 109)).alloc (.cells #[.int .u64 x.a, .int .u64 x.s, .int .i64 x.p] 37)).heap.size = w.heap.size + 2 := by simp
  have HX : Hid (∀ w', Off (Fo2 G R) ((w.alloc (.cells #[.int .i64 v, .int .i64 u] 109)).alloc (.cells #[.int .u64 x.a, .int .u64 x.s, .int .i64 x.p] 37)) w' → w'.cell? ⟨Q, 0, none⟩ = some (.pointer (some ⟨Z, 0, none⟩)) ∧ (w'.cell? ⟨w.heap.size, 0, none⟩ = some (.int .i64 v) ∧ w'.cell? ⟨w.heap.size, 1, none⟩ = some (.int .i64 u)) ∧ w'.cell? ⟨w.heap.size + 1, 0, none⟩ = some (.int .u64 x.a) ∧ w'.cell? ⟨w.heap.size + 1, 1, none⟩ = some (.int .u64 x.s) ∧ w'.cell? ⟨w.heap.size + 1, 2, none⟩ = some (.int .i64 x.p)) :=
    Lib.hid (fun w' hw => ⟨hw.cell (p := ⟨Q, 0, none⟩) (fun e => (HFL _ e).2 rfl) ((q.bel HB1.out).cell rfl), (box2 ((hw.block _ (by omega) (fun e => by have := (HFL _ e).1; omega)).trans HN.out)).1, (box3 ((hw.block _ (by omega) (fun e => by have := (HFL _ e).1; omega)).trans HM.out)).1⟩)
  clear HFL hz1
  have HD : Hid (Bel ((w.alloc (.cells #[.int .i64 v, .int .i64 u] 109)).alloc (.cells #[.int .u64 x.a, .int .u64 x.s, .int .i64 x.p] 37)) ((w.alloc (.cells #[.int .i64 v, .int .i64 u] 109)).alloc (.cells #[.int .u64 x.a, .int .u64 x.s, .int .i64 x.p] 37)).drew) := Lib.hid (Bel.refl _).drew
  have lQ := q.ltQ
  clear q hv K hl4
  go_enter Tryz.func66, Tryz.ntmps66
  go_wp2
  go_region_held3 (fun w' => w'.cell? ⟨Q, 0, none⟩ = some (.pointer (some ⟨Z, 0, none⟩)) ∧ (w'.cell? ⟨w.heap.size, 0, none⟩ = some (.int .i64 v) ∧ w'.cell? ⟨w.heap.size, 1, none⟩ = some (.int .i64 u)) ∧ w'.cell? ⟨w.heap.size + 1, 0, none⟩ = some (.int .u64 x.a) ∧ w'.cell? ⟨w.heap.size + 1, 1, none⟩ = some (.int .u64 x.s) ∧ w'.cell? ⟨w.heap.size + 1, 2, none⟩ = some (.int .i64 x.p))
    (first | (with_reducible exact HX.out _ (HD.out.off _)) | (with_reducible exact HX.out _ ((HD.out.trans hb1).off _)) | exact HX.out _ (((HD.out.trans hb1).off _).then ho2))
    (first
      | (go_at_call 61; (with_reducible refine (KL.out _ (HB1.out.trans HD.out)).mono ?_); rintro e w1 ⟨rfl, hb1⟩)
      | (go_at_call 101; (with_reducible refine (K7.out _ ((HB1.out.trans HD.out).trans hb1)).mono ?_); rintro e w2 ⟨⟨⟨v2, rfl⟩, ho2⟩, hr⟩))
  all_goals
    have HE : Hid (Bel w w1) := Lib.hid ((HB1.out.trans HD.out).trans hb1)
    go_wp2
    go_ret
    exact ⟨_, HE.out, hr⟩
set_option maxHeartbeats 2000000 in
theorem put_near {v u : Int} (hb : b ≤ 6) (x : T) (w : World) (q : Qw w Q Z B G R P L lo ls r 78 (rcells Z b (fst4 b) F s k) l) (hv : v = -1 ∨ v = 4 ∨ ∃ m i : Nat, m ≤ 3 ∧ i < 2 ^ b ∧ v = m ∧ u = i) (hl4 : ¬ v = 4) {Rl : Ending → World → World → Prop}
    (K : ∀ w', Bel w w' → Calls Tryz.prog 73 #[.pointer (some ⟨Z, 0, none⟩), .int .i64 (lsn b v u : Nat), .agg #[.int .u64 x.a, .int .u64 x.s, .int .i64 x.p]] w' fun e w2 => ((∃ v : Int, e = .returned (.int .i64 v)) ∧ Off (Fo2 G R) w' w2) ∧ Rl e w' w2) :
    Calls Tryz.prog 66 #[.pointer (some ⟨Q, 0, none⟩), spV v u, .agg #[.int .u64 x.a, .int .u64 x.s, .int .i64 x.p]] w fun e w2 => ∃ w', Bel w w' ∧ Rl e w' w2 := by
  have KL : Hid (∀ w', Bel w w' → Calls Tryz.prog 61 #[.pointer (some ⟨Q, 0, none⟩), spV v u] w' fun e w2 => e = .returned (.int .i64 (lsn b v u : Nat)) ∧ Bel w' w2) := Lib.hid (fun w' hw => list_any hb w' (q.bel hw) hv)
  have K7 := Lib.hid K
  have hlv : (v == 4) = false := by simp; exact hl4
  generalize lsn b v u = t at *
  have HB1 : Hid (Bel w ((w.alloc (.cells #[.int .i64 v, .int .i64 u] 109)).alloc (.cells #[.int .u64 x.a, .int .u64 x.s, .int .i64 x.p] 37))) := Lib.hid (((Bel.refl _).alloc _ _).alloc _ _)
  have HN : Hid (((w.alloc (.cells #[.int .i64 v, .int .i64 u] 109)).alloc (.cells #[.int .u64 x.a, .int .u64 x.s, .int .i64 x.p] 37)).heap[w.heap.size]? = some (.cells #[.int .i64 v, .int .i64 u] 109 (0, 0))) := Lib.hid (by rw [Below.heap_alloc _ _ _ (by simp), heap_alloc_new])
  have HM : Hid (((w.alloc (.cells #[.int .i64 v, .int .i64 u] 109)).alloc (.cells #[.int .u64 x.a, .int .u64 x.s, .int .i64 x.p] 37)).heap[w.heap.size + 1]? = some (.cells #[.int .u64 x.a, .int .u64 x.s, .int .i64 x.p] 37 (0, 0))) := Lib.hid (by
    have := heap_alloc_new (w.alloc (.cells #[.int .i64 v, .int .i64 u] 109)) (.cells #[.int .u64 x.a, .int .u64 x.s, .int .i64 x.p] 37)
    rw [World.size_alloc] at this; exact this)
  have HFL : ∀ i, Fo2 G R i → i < w.heap.size ∧ i ≠ Q := fun i e => by
    obtain ⟨l1, l2, l3, l4, l5⟩ := q.lt
    obtain ⟨_, _, n3, n4⟩ := q.ne
    rcases e with e | e <;> omega
  have hz1 : ((w.alloc (.cells #[.int .i64 v, .int .i64 u] 109)).alloc (.cells #[.int .u64 x.a, .int .u64 x.s, .int .i64 x.p] 37)).heap.size = w.heap.size + 2 := by simp
  have HX : Hid (∀ w', Off (Fo2 G R) ((w.alloc (.cells #[.int .i64 v, .int .i64 u] 109)).alloc (.cells #[.int .u64 x.a, .int .u64 x.s, .int .i64 x.p] 37)) w' → w'.cell? ⟨Q, 0, none⟩ = some (.pointer (some ⟨Z, 0, none⟩)) ∧ (w'.cell? ⟨w.heap.size, 0, none⟩ = some (.int .i64 v) ∧ w'.cell? ⟨w.heap.size, 1, none⟩ = some (.int .i64 u)) ∧ w'.cell? ⟨w.heap.size + 1, 0, none⟩ = some (.int .u64 x.a) ∧ w'.cell? ⟨w.heap.size + 1, 1, none⟩ = some (.int .u64 x.s) ∧ w'.cell? ⟨w.heap.size + 1, 2, none⟩ = some (.int .i64 x.p)) :=
    Lib.hid (fun w' hw => ⟨hw.cell (p := ⟨Q, 0, none⟩) (fun e => (HFL _ e).2 rfl) ((q.bel HB1.out).cell rfl), (box2 ((hw.block _ (by omega) (fun e => by have := (HFL _ e).1; omega)).trans HN.out)).1, (box3 ((hw.block _ (by omega) (fun e => by have := (HFL _ e).1; omega)).trans HM.out)).1⟩)
  clear HFL hz1
  have HD : Hid (Bel ((w.alloc (.cells #[.int .i64 v, .int .i64 u] 109)).alloc (.cells #[.int .u64 x.a, .int .u64 x.s, .int .i64 x.p] 37)) ((w.alloc (.cells #[.int .i64 v, .int .i64 u] 109)).alloc (.cells #[.int .u64 x.a, .int .u64 x.s, .int .i64 x.p] 37)).drew) := Lib.hid (Bel.refl _).drew
  have lQ := q.ltQ
  clear q hv K hl4
  go_enter Tryz.func66, Tryz.ntmps66
  go_wp2
  go_region_held3 (fun w' => w'.cell? ⟨Q, 0, none⟩ = some (.pointer (some ⟨Z, 0, none⟩)) ∧ (w'.cell? ⟨w.heap.size, 0, none⟩ = some (.int .i64 v) ∧ w'.cell? ⟨w.heap.size, 1, none⟩ = some (.int .i64 u)) ∧ w'.cell? ⟨w.heap.size + 1, 0, none⟩ = some (.int .u64 x.a) ∧ w'.cell? ⟨w.heap.size + 1, 1, none⟩ = some (.int .u64 x.s) ∧ w'.cell? ⟨w.heap.size + 1, 2, none⟩ = some (.int .i64 x.p))
    (first | (with_reducible exact HX.out _ (HD.out.off _)) | (with_reducible exact HX.out _ ((HD.out.trans hb1).off _)) | exact HX.out _ (((HD.out.trans hb1).off _).then ho2))
    (first
      | (go_at_call 61; (with_reducible refine (KL.out _ (HB1.out.trans HD.out)).mono ?_); rintro e w1 ⟨rfl, hb1⟩)
      | (go_at_call 73; (with_reducible refine (K7.out _ ((HB1.out.trans HD.out).trans hb1)).mono ?_); rintro e w2 ⟨⟨⟨v2, rfl⟩, ho2⟩, hr⟩))
  all_goals
    have HE : Hid (Bel w w1) := Lib.hid ((HB1.out.trans HD.out).trans hb1)
    go_wp2
    go_ret
    exact ⟨_, HE.out, hr⟩
end
section
variable {Q Z B G R P b : Nat} {s k : Int} {l : List T}
/-- What a put leaves: the timer's list alone has turned, and those that are far are in order. -/
structure Pt (w : World) (Q Z B G R P b : Nat) (s k : Int) (F : Nat → Nat → Nat) (ls : Ls) (x : T) (l' : List T) : Prop where
  ex : ∃ ls' r', Qw w Q Z B G R P (2 + 4 * 2 ^ b) (lw b s) ls' r' 78 (rcells Z b (fst4 b) F s k) l' ∧ (∀ t, t ≠ lw b s x → ls' t = ls t) ∧ So ((ls' 1).map r')
theorem rput_no {ls : Ls} {r : Nat → T} {F : Nat → Nat → Nat} (x : T) (w : World) (q : Qw w Q Z B G R P (2 + 4 * 2 ^ b) (lw b s) ls r 78 (rcells Z b (fst4 b) F s k) l) (hb : b ≤ 6) (hso : So ((ls 1).map r)) (hn : ¬ insE P l x = 0) :
    Calls Tryz.prog 66 #[.pointer (some ⟨Q, 0, none⟩), spV (lv b s x.a) (sv b s x.a), .agg #[.int .u64 x.a, .int .u64 x.s, .int .i64 x.p]] w fun e w' => e = .returned (.int .i64 (insE P l x)) ∧ Bel w w' := by
  have hp := pow_le hb
  by_cases h : lv b s x.a = 4
  · have e : lsn b (lv b s x.a) (sv b s x.a) = 1 := lw_one.2 h
    refine (put_far (Rl := fun e w' w2 => e = .returned (.int .i64 (insE P l x)) ∧ Bel w' w2) hb x w q (spot_cases b s x.a) h (fun w' hw => ?_)).mono fun e w' ⟨w1, h1, h2, h3⟩ => ⟨h2, h1.trans h3⟩
    rw [e]
    exact (line_no (by omega) x w' (q.ql.bel hw) hso hn).mono fun e w2 ⟨a1, a2⟩ => ⟨⟨⟨_, a1⟩, a2.off _⟩, a1, a2⟩
  · refine (put_near (Rl := fun e w' w2 => e = .returned (.int .i64 (insE P l x)) ∧ Bel w' w2) hb x w q (spot_cases b s x.a) h (fun w' hw => ?_)).mono fun e w' ⟨w1, h1, h2, h3⟩ => ⟨h2, h1.trans h3⟩
    exact (put_no (lw_lt b s x) x w' (q.ql.bel hw) hn).mono fun e w2 ⟨a1, a2⟩ => ⟨⟨⟨_, a1⟩, a2.off _⟩, a1, a2⟩
theorem rput_ok {ls : Ls} {r : Nat → T} {F : Nat → Nat → Nat} (x : T) (w : World) (q : Qw w Q Z B G R P (2 + 4 * 2 ^ b) (lw b s) ls r 78 (rcells Z b (fst4 b) F s k) l) (hb : b ≤ 6) (hso : So ((ls 1).map r)) {j : Nat} (e : x.p = j) (hj : j < P) (hf : fnd l j = none) :
    Calls Tryz.prog 66 #[.pointer (some ⟨Q, 0, none⟩), spV (lv b s x.a) (sv b s x.a), .agg #[.int .u64 x.a, .int .u64 x.s, .int .i64 x.p]] w fun e w' => e = .returned (.int .i64 0) ∧ Pt w' Q Z B G R P b s k F ls x (put l x) ∧ Off (Fo2 G R) w w' := by
  have hp := pow_le hb
  by_cases h : lv b s x.a = 4
  · have e1 : lw b s x = 1 := lw_one.2 h
    refine (put_far (Rl := fun e w' w2 => e = .returned (.int .i64 0) ∧ (∃ m, Qp w2 Z B G R P (2 + 4 * 2 ^ b) (lw b s) (upd ls 1 m) (upT r j x) (put l x) ∧ m.map (upT r j x) = put ((ls 1).map r) x ∧ m ≠ []) ∧ Off (Fo2 G R) w' w2) hb x w q (spot_cases b s x.a) h (fun w' hw => ?_)).mono fun e w' ⟨w1, h1, h2, ⟨m, h3, h4, h5⟩, h6⟩ => ⟨h2, ⟨_, _, (q.bel h1).put h6 h3, fun t ht => upd_other _ _ (by rw [e1] at ht; exact ht), by rw [upd_same, h4]; exact put_so hso x⟩, (h1.off _).then h6⟩
    rw [show lsn b (lv b s x.a) (sv b s x.a) = 1 from e1]
    exact (line_ok (by omega) x w' (q.ql.bel hw) hso e hj hf e1).mono fun e w2 ⟨a1, a2, a3⟩ => ⟨⟨⟨_, a1⟩, a3⟩, a1, a2, a3⟩
  · have e1 : lw b s x ≠ 1 := fun e => h (lw_one.1 e)
    refine (put_near (Rl := fun e w' w2 => e = .returned (.int .i64 0) ∧ Qp w2 Z B G R P (2 + 4 * 2 ^ b) (lw b s) (upd ls (lw b s x) (ls (lw b s x) ++ [j])) (upT r j x) (put l x) ∧ Off (Fo2 G R) w' w2) hb x w q (spot_cases b s x.a) h (fun w' hw => ?_)).mono fun e w' ⟨w1, h1, h2, h3, h6⟩ => ⟨h2, ⟨_, _, (q.bel h1).put h6 h3, fun t ht => upd_other _ _ ht, ?_⟩, (h1.off _).then h6⟩
    · exact (put_ok (lw_lt b s x) x w' (q.ql.bel hw) e hj hf rfl).mono fun e w2 ⟨a1, a2, a3⟩ => ⟨⟨⟨_, a1⟩, a3⟩, a1, a2, a3⟩
    · rw [upd_other _ _ (fun e => e1 e.symm), map_out (q.ql.is.out hf 1 (by omega))]
      exact hso
end
end Go.Proofs.YtdoceldofkaapaaGreatDoor
