/-
  A row of marks: how it lies in memory, how it is made and set.
  A wheel of slots as plain mathematics: which slot a tick lies in, and which slots a Due looks into.
  Contracts of chain's small calls: hasPlace, hasList, isIn, end, forward, backward, alone, join, put.
  What each act answers and leaves, over a plain list of timers in order; small facts on boxes.
-/
import Derived.Test.YtdoceldofkaapaaDoorTframe
import Derived.Test.YtdoceldofkaapaaDoorTmath
import Derived.Test.YtdoceldofkaapaaDoorFrame
import Derived.Deep.QuietTactic
import Derived.BigQuiet
import Derived.RegionTactic
import Derived.StillTailTactics
import Derived.Deep.Cut
set_option linter.unusedVariables false
set_option linter.unusedSimpArgs false
namespace Go.Proofs.YtdoceldofkaapaaDoor
open Go.RowKit
def encB (l : List Bool) : Array Value := (l.map Value.bool).toArray
def Marks (w : World) (M : Nat) (l : List Bool) : Prop := w.heap[M]? = some (.cells (encB l) 4 (0, 0))
theorem marks_get {w : World} {M : Nat} {l : List Bool} (h : Marks w M l) {k : Nat} {b : Bool} (hk : l[k]? = some b) : w.cell? ⟨M, k, none⟩ = some (.bool b) ∧ w.frozen? ⟨M, k, none⟩ = false := by
  refine ⟨?_, frozen_of_row w M k _ 4 h⟩
  rw [cell_of_row w M k _ 4 (0, 0) h]
  unfold encB
  simp [hk]
theorem marks_set {w : World} {M : Nat} {l : List Bool} (h : Marks w M l) (k : Nat) : Marks (w.setCell ⟨M, k, none⟩ (.bool true)) M (l.set k true) ∧ Off (fun j => j = M) w (w.setCell ⟨M, k, none⟩ (.bool true)) := by
  refine ⟨?_, Off.setCell (Off.refl (fun j => j = M) w) (p := ⟨M, k, none⟩) (.inl rfl) _⟩
  unfold Marks
  rw [heap_setCell_same w M k _ 4 _ h]
  congr 2
  unfold encB
  rw [List.map_set]
  simp
theorem info4 : (Tryd.prog.info? 4).map (fun i => (i.zero, i.size, i.bytes)) = some (some (.bool false), 1, 1) := by kernel_rfl
theorem made_marks {w' : World} {n M : Nat} (h : w'.ownsRow 0 4 1 (.slice (some ⟨M, 0, none⟩) n n) n (madeCells #[Value.bool false] n).toList) : Marks w' M (List.replicate n false) := by
  rcases h.2 with ⟨e, _⟩ | ⟨g, cap, cur, e, _, hg, _, _, hs, ht⟩
  · cases e
  · injection e with e1 e2 e3
    injection e1 with e1
    injection e1 with e1
    subst e1 e3
    unfold Marks
    rw [hg]
    congr 2
    unfold encB
    have h1 : cur.toList.take (n * 1) = cur.toList := List.take_of_length_le (by rw [Array.length_toList, hs]; omega)
    rw [h1, toList_madeCells_one] at ht
    apply Array.ext'
    rw [ht]
    simp
end Go.Proofs.YtdoceldofkaapaaDoor
namespace Go.Proofs.YtdoceldofkaapaaDoor
/-- How many slots there are. -/
def slo (b : Nat) : Nat := 4 * 2 ^ b
theorem slo_le {b : Nat} (h : b ≤ 6) : 4 ≤ slo b ∧ slo b ≤ 256 := by
  unfold slo
  have : b = 0 ∨ b = 1 ∨ b = 2 ∨ b = 3 ∨ b = 4 ∨ b = 5 ∨ b = 6 := by omega
  rcases this with rfl | rfl | rfl | rfl | rfl | rfl | rfl <;> decide
theorem slo_step (b : Nat) : slo (b + 1) = 2 * slo b := by unfold slo; rw [Nat.pow_succ]; omega
/-- Is a timer's slot one of a tick behind s and up to now, and is it of a tick behind s? -/
def hit (S : Nat) (s now : Int) (t : T) : Bool := decide (s < t.a) && decide ((t.a - s - 1) % (S : Int) < now - s)
def slt (S : Nat) (t : T) : Nat := (t.a % (S : Int)).toNat
theorem slt_lt {S : Nat} (h : 0 < S) (t : T) : slt S t < S := by
  unfold slt
  have h1 := Int.emod_nonneg t.a (b := (S : Int)) (by omega)
  have h2 := Int.emod_lt_of_pos t.a (b := (S : Int)) (by omega)
  omega
/-- The slots, each with whether it is looked into. -/
def mks (S : Nat) (s now : Int) (l : List T) : List Bool := (List.range S).map fun i => l.any fun t => hit S s now t && decide (slt S t = i)
theorem mks_len (S : Nat) (s now : Int) (l : List T) : (mks S s now l).length = S := by unfold mks; simp
theorem mks_nil (S : Nat) (s now : Int) : mks S s now [] = List.replicate S false := by
  unfold mks
  apply List.ext_getElem
  · simp
  · intro i h1 h2; simp
theorem mks_snoc (S : Nat) (s now : Int) (l : List T) (x : T) : mks S s now (l ++ [x]) = if hit S s now x = true then (mks S s now l).set (slt S x) true else mks S s now l := by
  unfold mks
  split
  · rename_i e
    apply List.ext_getElem
    · simp
    · intro i h1 h2
      rw [List.getElem_set]
      simp only [List.getElem_map, List.getElem_range, List.any_append, List.any_cons, List.any_nil, e, Bool.true_and, Bool.or_false]
      by_cases h : slt S x = i
      · rw [if_pos h]; simp [h]
      · rw [if_neg h]; simp [h]
  · rename_i e
    have e : hit S s now x = false := by simpa using e
    apply List.ext_getElem
    · simp
    · intro i h1 h2
      simp [e]
/-- How many slots a Due looks into. -/
def lks (S : Nat) (s now : Int) (l : List T) : Nat := if now ≤ s then 0 else (mks S s now l).countP fun b => b
theorem lks_past {S : Nat} {s now : Int} {l : List T} (h : now ≤ s) : lks S s now l = 0 := by unfold lks; rw [if_pos h]
theorem lks_slots (S : Nat) (s now : Int) (l : List T) : lks S s now l ≤ S := by
  unfold lks
  split
  · omega
  · have := List.countP_le_length (p := fun b : Bool => b) (l := mks S s now l)
    rw [mks_len] at this
    exact this
theorem cnt_set (bs : List Bool) (i : Nat) : (bs.set i true).countP (fun b => b) ≤ bs.countP (fun b => b) + 1 := by
  induction bs generalizing i with
  | nil => simp
  | cons b r ih =>
    cases i with
    | zero => simp [List.countP_cons]
    | succ i => simp only [List.set_cons_succ, List.countP_cons]; have := ih i; omega
theorem mks_cnt (S : Nat) (s now : Int) : ∀ l : List T, (mks S s now l).countP (fun b => b) ≤ l.length := by
  have key : ∀ (n : Nat) (l : List T), l.length = n → (mks S s now l).countP (fun b => b) ≤ n := by
    intro n
    induction n with
    | zero => intro l h; have : l = [] := List.length_eq_zero_iff.1 h; subst this; rw [mks_nil]; simp [List.countP_replicate]
    | succ n ih =>
      intro l h
      have hne : l ≠ [] := fun e => by subst e; simp at h
      obtain ⟨m, x, rfl⟩ : ∃ m x, l = m ++ [x] := ⟨l.dropLast, l.getLast hne, (List.dropLast_concat_getLast hne).symm⟩
      have hm : m.length = n := by simp at h; exact h
      rw [mks_snoc]
      split
      · exact Nat.le_trans (cnt_set _ _) (Nat.succ_le_succ (ih m hm))
      · exact Nat.le_succ_of_le (ih m hm)
  exact fun l => key l.length l rfl
theorem lks_len (S : Nat) (s now : Int) (l : List T) : lks S s now l ≤ l.length := by
  unfold lks
  split
  · omega
  · exact mks_cnt S s now l
end Go.Proofs.YtdoceldofkaapaaDoor
namespace Go.Proofs.YtdoceldofkaapaaDoor
open Go.RowKit
/-- Is there such a place? -/
def hp (P : Nat) (i : Int) : Bool := decide (0 ≤ i) && decide (i < P)
theorem hp_nat {P : Nat} {i : Int} (h : hp P i = true) : ∃ k : Nat, i = k ∧ k < P := by
  unfold hp at h
  simp only [Bool.and_eq_true, decide_eq_true_eq] at h
  exact ⟨i.toNat, by omega, by omega⟩
theorem hp_yes {P k : Nat} (h : k < P) : hp P k = true := by unfold hp; simp; omega
theorem hp_no {P : Nat} {i : Int} (h : ¬ (0 ≤ i ∧ i < P)) : hp P i = false := by unfold hp; simp; omega
theorem hasPlace_any (B : Nat) (P : Nat) (i : Int) (w : World) (h : w.cell? ⟨B, 0, none⟩ = some (.int .i64 P)) :
    Calls Tryd.prog 55 #[.pointer (some ⟨B, 0, none⟩), .int .i64 i] w fun e w' => e = .returned (.bool (hp P i)) ∧ w = w' := by
  unfold hp
  by_cases h0 : 0 ≤ i
  · go_enter Tryd.func55, Tryd.ntmps55
    go_wp2
    go_ret
    exact ⟨ret_bool (by simp [h0]), rfl⟩
  · go_enter Tryd.func55, Tryd.ntmps55
    go_wp2
    go_ret
    exact ⟨ret_bool (by simp; omega), rfl⟩
theorem end_any (B : Nat) (P : Nat) (i : Nat) (w : World) (h : w.cell? ⟨B, 0, none⟩ = some (.int .i64 P)) (hP : P ≤ 1024) (hi : i ≤ 1024) :
    Calls Tryd.prog 63 #[.pointer (some ⟨B, 0, none⟩), .int .i64 i] w fun e w' => e = .returned (.int .i64 ((P + i : Nat) : Int)) ∧ w = w' := by
  go_enter Tryd.func63, Tryd.ntmps63
  go_wp2
  go_ret
  exact ⟨ret_int (by omega), rfl⟩
theorem hasList_any (B : Nat) (P L : Nat) (p : Option Addr) (i : Int) (w : World) (h : w.cell? ⟨B, 0, none⟩ = some (.int .i64 P)) (h1 : w.cell? ⟨B, 1, none⟩ = some (.slice p (P + L) (P + L))) (hP : P ≤ 1024) (hL : L ≤ 1024) :
    Calls Tryd.prog 65 #[.pointer (some ⟨B, 0, none⟩), .int .i64 i] w fun e w' => e = .returned (.bool (hp L i)) ∧ ∃ k, w' = w.drewN k := by
  have hs : IntKind.i64.wrap ((P + L : Nat) - (P : Int)) = L := by rw [i64_in _ (by omega) (by omega)]; omega
  unfold hp
  generalize P + L = N at *
  by_cases h0 : 0 ≤ i
  · have hd : decide (0 ≤ i) = true := decide_eq_true h0
    go_enter Tryd.func65, Tryd.ntmps65
    go_wp2
    go_quiet (fail)
    go_wp2
    go_ret
    exact ⟨ret_bool (by simp [hd]), _, rfl⟩
  · have hd : decide (0 ≤ i) = false := decide_eq_false h0
    go_enter Tryd.func65, Tryd.ntmps65
    go_wp2
    go_quiet (fail)
    go_wp2
    go_ret
    exact ⟨ret_bool (by simp [hd]), _, rfl⟩
theorem isIn_any (B G P L : Nat) (g : Rg) (k : Nat) (w : World) (h : Chn w B G P L g) (hk : k < P + L) (hs : P + L ≤ 2048) :
    Calls Tryd.prog 56 #[.pointer (some ⟨B, 0, none⟩), .int .i64 k] w fun e w' => e = .returned (.bool (!decide ((g k).li = -1))) ∧ w = w' := by
  obtain ⟨c0, c1⟩ := h.head
  obtain ⟨a0, a1, a2, _⟩ := h.at hk
  generalize (g k).li = v at *
  generalize P + L = N at *
  clear h
  go_enter Tryd.func56, Tryd.ntmps56
  go_wp2
  go_ret
  exact ⟨ret_bool rfl, rfl⟩
theorem forward_any (a b : Int) (w : World) :
    Calls Tryd.prog 70 #[.agg #[.int .i64 a, .int .i64 b]] w fun e w' => e = .returned (.int .i64 b) ∧ Bel w w' := by
  go_enter Tryd.func70, Tryd.ntmps70
  go_wp2
  go_ret
  exact ⟨rfl, (Bel.refl _).alloc _ _⟩
theorem alone_any (w : World) :
    Calls Tryd.prog 62 #[] w fun e w' => e = .returned (.agg #[.int .i64 (-1), .int .i64 (-1), .int .i64 (-1)]) ∧ Bel w w' := by
  go_enter Tryd.func62, Tryd.ntmps62
  go_wp2
  refine bodyPost_ret (v := .agg #[.int .i64 (-1), .int .i64 (-1), .int .i64 (-1)]) (by simp [results, Tryd.results62, go_sem]) rfl ⟨rfl, ?_⟩
  exact (Bel.refl _).alloc _ _
theorem join_any (B G P L : Nat) (g : Rg) (a b : Nat) (w : World) (h : Chn w B G P L g) (ha : a < P + L) (hb : b < P + L) (hs : P + L ≤ 2048) :
    Calls Tryd.prog 64 #[.pointer (some ⟨B, 0, none⟩), .int .i64 a, .int .i64 b] w fun e w' => e = .returned (.tuple #[]) ∧ Chn w' B G P L (joinG g a b) ∧ Off (Only G) w w' := by
  obtain ⟨c0, c1⟩ := h.head
  obtain ⟨_, a1, _, fz⟩ := h.at ha
  obtain ⟨k1, o1⟩ := h.putB ha b
  obtain ⟨b0, _, _, fz2⟩ := k1.at hb
  obtain ⟨k2, o2⟩ := k1.putA hb a
  obtain ⟨d0, d1⟩ := k1.head
  have HR : Hid (Chn ((w.setCell ⟨G, a * 3 + 1, none⟩ (.int .i64 b)).setCell ⟨G, b * 3, none⟩ (.int .i64 a)) B G P L (joinG g a b) ∧ Off (Only G) w ((w.setCell ⟨G, a * 3 + 1, none⟩ (.int .i64 b)).setCell ⟨G, b * 3, none⟩ (.int .i64 a))) := Lib.hid ⟨k2, o1.then o2⟩
  have z1 := fz (a * 3 + 1)
  have z2 := fz2 (b * 3)
  generalize (g a).bh = u at *
  generalize (upB g a b b).ah = u2 at *
  clear k1 k2 h o1 o2 fz fz2
  generalize P + L = N at *
  go_enter Tryd.func64, Tryd.ntmps64
  go_upto_region 2 with (fail)
  generalize hW : w.setCell ⟨G, a * 3 + 1, none⟩ (.int .i64 b) = W at *
  clear hW
  go_wp2
  go_end0
  exact ⟨rfl, HR.out⟩
end Go.Proofs.YtdoceldofkaapaaDoor
namespace Go.Proofs.YtdoceldofkaapaaDoor
open Go.RowKit
/-- A timer's place. -/
def pl (t : T) : Nat := t.p.toNat
/-- The places of a list. -/
def pls (l : List T) : List Nat := l.map pl
/-- The one at a place. -/
def fnd (l : List T) (k : Int) : Option T := l.find? fun t => decide (t.p = k)
theorem fnd_some {l : List T} {k : Int} {t : T} (h : fnd l k = some t) : t ∈ l ∧ t.p = k := by
  unfold fnd at h
  refine ⟨List.mem_of_find?_eq_some h, ?_⟩
  simpa using List.find?_some h
theorem fnd_none {l : List T} {k : Int} (h : fnd l k = none) : ∀ t ∈ l, ¬ t.p = k := by
  unfold fnd at h
  intro t ht
  simpa using List.find?_eq_none.1 h t ht
/-- What is told of a timer, if there is one. -/
def ansT : Option T → Value
  | some t => .tuple #[.agg #[.int .u64 t.a, .int .u64 t.s, .int .i64 t.p], .bool true]
  | none => .tuple #[.agg #[.int .u64 0, .int .u64 0, .int .i64 0], .bool false]
theorem box3 {w : World} {T : Nat} {a b c : Value} {t : TypeId} (h : w.heap[T]? = some (.cells #[a, b, c] t (0, 0))) :
    (w.cell? ⟨T, 0, none⟩ = some a ∧ w.cell? ⟨T, 1, none⟩ = some b ∧ w.cell? ⟨T, 2, none⟩ = some c) ∧ (w.frozen? ⟨T, 0, none⟩ = false ∧ w.frozen? ⟨T, 1, none⟩ = false ∧ w.frozen? ⟨T, 2, none⟩ = false) := by
  refine ⟨⟨?_, ?_, ?_⟩, frozen_of_row w T _ _ t h, frozen_of_row w T _ _ t h, frozen_of_row w T _ _ t h⟩ <;> (rw [cell_of_row w T _ _ t (0, 0) h]; rfl)
theorem off3 (w : World) (T : Nat) (a b c : Value) : Off (fun k => k = T) w (((w.setCell ⟨T, 0, none⟩ a).setCell ⟨T, 1, none⟩ b).setCell ⟨T, 2, none⟩ c) :=
  Off.setCell (p := ⟨T, 2, none⟩) (off2 w T a b) (.inl rfl) c
theorem bel3 {w w' : World} (h : Bel w w') {T : Nat} (hT : w.heap.size ≤ T) (a b c : Value) : Bel w (((w'.setCell ⟨T, 0, none⟩ a).setCell ⟨T, 1, none⟩ b).setCell ⟨T, 2, none⟩ c) :=
  ((h.setCell (p := ⟨T, 0, none⟩) hT a).setCell (p := ⟨T, 1, none⟩) hT b).setCell (p := ⟨T, 2, none⟩) hT c
/-- Those at other places. -/
def wo (l : List T) (k : Int) : List T := l.filter fun t => !decide (t.p = k)
def canE (P : Nat) (l : List T) (k : Int) : Int := if hp P k = true then (if (fnd l k).isSome = true then 0 else 5) else 1
def insE (P : Nat) (l : List T) (t : T) : Int := if hp P t.p = true then (if (fnd l t.p).isSome = true then 4 else 0) else 1
def insL (P : Nat) (l : List T) (t : T) : List T := if insE P l t = 0 then put l t else l
def movL (P : Nat) (l : List T) (t : T) : List T := if canE P l t.p = 0 then put (wo l t.p) t else l
theorem wo_none {l : List T} {k : Int} (h : fnd l k = none) : wo l k = l := by
  unfold wo
  rw [List.filter_eq_self]
  intro t ht
  simpa using fnd_none h t ht
theorem fnd_wo (l : List T) (k : Int) : fnd (wo l k) k = none := by
  unfold fnd wo
  rw [List.find?_eq_none]
  intro t ht
  simpa using (List.mem_filter.1 ht).2
theorem wo_so {l : List T} (h : So l) (k : Int) : So (wo l k) := h.filter _
theorem canE_cases (P : Nat) (l : List T) (k : Int) : (¬ canE P l k = 0 ∧ (canE P l k = 1 ∧ hp P k = false ∨ canE P l k = 5 ∧ hp P k = true ∧ fnd l k = none)) ∨ (canE P l k = 0 ∧ ∃ j : Nat, k = j ∧ j < P ∧ ∃ x, fnd l j = some x) := by
  unfold canE
  cases hk : hp P k with
  | false => exact .inl ⟨by simp, .inl ⟨rfl, rfl⟩⟩
  | true =>
    obtain ⟨j, rfl, hj⟩ := hp_nat hk
    cases hf : fnd l j with
    | none => exact .inl ⟨by simp, .inr ⟨rfl, rfl, rfl⟩⟩
    | some x => exact .inr ⟨rfl, j, rfl, hj, x, hf⟩
theorem insE_wo {P : Nat} {l : List T} {t : T} {j : Nat} (e : t.p = j) (hj : j < P) : insE P (wo l t.p) t = 0 := by
  unfold insE
  rw [fnd_wo, e, hp_yes hj]
  rfl
theorem insE_cases (P : Nat) (l : List T) (t : T) : (insE P l t = 1 ∧ hp P t.p = false) ∨ (∃ k : Nat, t.p = k ∧ k < P ∧ ((insE P l t = 4 ∧ ∃ x, fnd l k = some x) ∨ (insE P l t = 0 ∧ fnd l k = none))) := by
  unfold insE
  cases hk : hp P t.p with
  | false => exact .inl ⟨rfl, rfl⟩
  | true =>
    obtain ⟨k, e, hk2⟩ := hp_nat hk
    refine .inr ⟨k, e, hk2, ?_⟩
    rw [e]
    cases hf : fnd l k with
    | none => exact .inr ⟨rfl, rfl⟩
    | some x => exact .inl ⟨rfl, x, rfl⟩
def canV (t : T) (er : Int) : Value := .tuple #[.agg #[.int .u64 t.a, .int .u64 t.s, .int .i64 t.p], .int .i64 er]
theorem So.at {d m : List T} {x : T} (h : So (d ++ x :: m)) : ∀ y ∈ m, x.a ≤ y.a := by
  intro y hy
  have h1 := (List.pairwise_append.1 h).2.1
  have h2 := (List.pairwise_cons.1 h1).1 y hy
  rw [lt_no] at h2
  unfold Lt at h2
  omega
theorem due_split {d m : List T} {now : Int} (h : So (d ++ m)) (hd : ∀ x ∈ d, x.a ≤ now) (hm : ∀ x ∈ m.head?, ¬ x.a ≤ now) : due (d ++ m) now true = d ∧ due (d ++ m) now false = m := by
  have hm2 : ∀ x ∈ m, ¬ x.a ≤ now := by
    cases m with
    | nil => intro x hx; simp at hx
    | cons y r =>
      have h1 := hm y (by simp)
      intro x hx
      rcases List.mem_cons.1 hx with rfl | hx
      · exact h1
      · have := h.at x hx; omega
  have e1 : d.filter (fun x => decide (x.a ≤ now) == true) = d := by rw [List.filter_eq_self]; intro x hx; simpa using hd x hx
  have e2 : m.filter (fun x => decide (x.a ≤ now) == true) = [] := by rw [List.filter_eq_nil_iff]; intro x hx; simpa using hm2 x hx
  have e3 : d.filter (fun x => decide (x.a ≤ now) == false) = [] := by rw [List.filter_eq_nil_iff]; intro x hx; simpa using hd x hx
  have e4 : m.filter (fun x => decide (x.a ≤ now) == false) = m := by rw [List.filter_eq_self]; intro x hx; simpa using hm2 x hx
  unfold due
  rw [List.filter_append, List.filter_append, e1, e2, e3, e4]
  simp
end Go.Proofs.YtdoceldofkaapaaDoor
