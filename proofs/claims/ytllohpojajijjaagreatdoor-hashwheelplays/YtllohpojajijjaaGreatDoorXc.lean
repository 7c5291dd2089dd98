/-
  Contracts of chain's small calls: hasPlace, hasList, isIn, end, forward, backward, alone, join, put.
  What each act answers and leaves, over a plain list of timers in order; small facts on boxes.
-/
import Derived.Test.YtllohpojajijjaaGreatDoorXb
import Derived.Deep.QuietTactic
import Derived.BigQuiet
import Derived.RegionTactic
import Derived.StillTailTactics
import Derived.Deep.Cut
set_option linter.unusedVariables false
set_option linter.unusedSimpArgs false
namespace Go.Proofs.YtllohpojajijjaaGreatDoor
open Go.RowKit
/-- Is there such a place? -/
def hp (P : Nat) (i : Int) : Bool := decide (0 ≤ i) && decide (i < P)
theorem hp_nat {P : Nat} {i : Int} (h : hp P i = true) : ∃ k : Nat, i = k ∧ k < P := by
  unfold hp at h
  simp only [Bool.and_eq_true, decide_eq_true_eq] at h
  exact ⟨i.toNat, by omega, by omega⟩
theorem hp_yes {P k : Nat} (h : k < P) : hp P k = true := by unfold hp; simp; omega
theorem hp_no {P : Nat} {i : Int} (h : ¬ (0 ≤ i ∧ i < P)) : hp P i = false := by unfold hp; simp; omega
theorem hasPlace_any (B : Nat) (P : Nat) (i : Int) (w : World) (h : w.cell? ⟨B, 0, none⟩ = some (.int .i64 P)) :
    Calls Tryz.prog 47 #[.pointer (some ⟨B, 0, none⟩), .int .i64 i] w fun e w' => e = .returned (.bool (hp P i)) ∧ w = w' := by
  unfold hp
  by_cases h0 : 0 ≤ i
  · go_enter Tryz.func47, Tryz.ntmps47
    go_wp2
    go_ret
    exact ⟨ret_bool (by simp [h0]), rfl⟩
  · go_enter Tryz.func47, Tryz.ntmps47
    go_wp2
    go_ret
    exact ⟨ret_bool (by simp; omega), rfl⟩
theorem end_any (B : Nat) (P : Nat) (i : Nat) (w : World) (h : w.cell? ⟨B, 0, none⟩ = some (.int .i64 P)) (hP : P ≤ 1024) (hi : i ≤ 1024) :
    Calls Tryz.prog 64 #[.pointer (some ⟨B, 0, none⟩), .int .i64 i] w fun e w' => e = .returned (.int .i64 ((P + i : Nat) : Int)) ∧ w = w' := by
  go_enter Tryz.func64, Tryz.ntmps64
  go_wp2
  go_ret
  exact ⟨ret_int (by omega), rfl⟩
theorem hasList_any (B : Nat) (P L : Nat) (p : Option Addr) (i : Int) (w : World) (h : w.cell? ⟨B, 0, none⟩ = some (.int .i64 P)) (h1 : w.cell? ⟨B, 1, none⟩ = some (.slice p (P + L) (P + L))) (hP : P ≤ 1024) (hL : L ≤ 1024) :
    Calls Tryz.prog 69 #[.pointer (some ⟨B, 0, none⟩), .int .i64 i] w fun e w' => e = .returned (.bool (hp L i)) ∧ ∃ k, w' = w.drewN k := by
  have hs : IntKind.i64.wrap ((P + L : Nat) - (P : Int)) = L := by rw [i64_in _ (by omega) (by omega)]; omega
  unfold hp
  generalize P + L = N at *
  by_cases h0 : 0 ≤ i
  · have hd : decide (0 ≤ i) = true := decide_eq_true h0
    go_enter Tryz.func69, Tryz.ntmps69
    go_wp2
    go_quiet (fail)
    go_wp2
    go_ret
    exact ⟨ret_bool (by simp [hd]), _, rfl⟩
  · have hd : decide (0 ≤ i) = false := decide_eq_false h0
    go_enter Tryz.func69, Tryz.ntmps69
    go_wp2
    go_quiet (fail)
    go_wp2
    go_ret
    exact ⟨ret_bool (by simp [hd]), _, rfl⟩
theorem isIn_any (B G P L : Nat) (g : Rg) (k : Nat) (w : World) (h : Chn w B G P L g) (hk : k < P + L) (hs : P + L ≤ 2048) :
    Calls Tryz.prog 48 #[.pointer (some ⟨B, 0, none⟩), .int .i64 k] w fun e w' => e = .returned (.bool (!decide ((g k).li = -1))) ∧ w = w' := by
  obtain ⟨c0, c1⟩ := h.head
  obtain ⟨a0, a1, a2, _⟩ := h.at hk
  generalize (g k).li = v at *
  generalize P + L = N at *
  clear h
  go_enter Tryz.func48, Tryz.ntmps48
  go_wp2
  go_ret
  exact ⟨ret_bool rfl, rfl⟩
theorem forward_any (a b : Int) (w : World) :
    Calls Tryz.prog 71 #[.agg #[.int .i64 a, .int .i64 b]] w fun e w' => e = .returned (.int .i64 b) ∧ Bel w w' := by
  go_enter Tryz.func71, Tryz.ntmps71
  go_wp2
  go_ret
  exact ⟨rfl, (Bel.refl _).alloc _ _⟩
theorem alone_any (w : World) :
    Calls Tryz.prog 63 #[] w fun e w' => e = .returned (.agg #[.int .i64 (-1), .int .i64 (-1), .int .i64 (-1)]) ∧ Bel w w' := by
  go_enter Tryz.func63, Tryz.ntmps63
  go_wp2
  refine bodyPost_ret (v := .agg #[.int .i64 (-1), .int .i64 (-1), .int .i64 (-1)]) (by simp [results, Tryz.results63, go_sem]) rfl ⟨rfl, ?_⟩
  exact (Bel.refl _).alloc _ _
theorem join_any (B G P L : Nat) (g : Rg) (a b : Nat) (w : World) (h : Chn w B G P L g) (ha : a < P + L) (hb : b < P + L) (hs : P + L ≤ 2048) :
    Calls Tryz.prog 65 #[.pointer (some ⟨B, 0, none⟩), .int .i64 a, .int .i64 b] w fun e w' => e = .returned (.tuple #[]) ∧ Chn w' B G P L (joinG g a b) ∧ Off (Only G) w w' := by
  obtain ⟨c0, c1⟩ := h.head
  obtain ⟨_, a1, _, fz⟩ := h.at ha
  obtain ⟨k1, o1⟩ := h.putB ha b
  obtain ⟨b0, _, _, fz2⟩ := k1.at hb
  obtain ⟨k2, o2⟩ := k1.putA hb a
  obtain ⟨d0, d1⟩ := k1.head
  have HR : Hid (Chn ((w.setCell ⟨G, a * 3 + 1, none⟩ (.int .i64 b)).setCell ⟨G, b * 3, none⟩ (.int .i64 a)) B G P L (joinG g a b) ∧ Off (Only G) w ((w.setCell ⟨G, a * 3 + 1, none⟩ (.int .i64 b)).setCell ⟨G, b * 3, none⟩ (.int .i64 a))) := Lib.hid ⟨k2, o1.then o2⟩
  have z1 := fz (a * 3 + 1)
  have z2 := fz2 (b * 3)
  generalize (g a).bh = u at *
  generalize (upB g a b b).ah = u2 at *
  clear k1 k2 h o1 o2 fz fz2
  generalize P + L = N at *
  go_enter Tryz.func65, Tryz.ntmps65
  go_upto_region 2 with (fail)
  generalize hW : w.setCell ⟨G, a * 3 + 1, none⟩ (.int .i64 b) = W at *
  clear hW
  go_wp2
  go_end0
  exact ⟨rfl, HR.out⟩
end Go.Proofs.YtllohpojajijjaaGreatDoor
namespace Go.Proofs.YtllohpojajijjaaGreatDoor
open Go.RowKit
/-- A timer's place. -/
def pl (t : T) : Nat := t.p.toNat
/-- The places of a list. -/
def pls (l : List T) : List Nat := l.map pl
/-- The one at a place. -/
def fnd (l : List T) (k : Int) : Option T := l.find? fun t => decide (t.p = k)
theorem fnd_some {l : List T} {k : Int} {t : T} (h : fnd l k = some t) : t ∈ l ∧ t.p = k := by
  unfold fnd at h
  refine ⟨List.mem_of_find?_eq_some h, ?_⟩
  simpa using List.find?_some h
theorem fnd_none {l : List T} {k : Int} (h : fnd l k = none) : ∀ t ∈ l, ¬ t.p = k := by
  unfold fnd at h
  intro t ht
  simpa using List.find?_eq_none.1 h t ht
/-- What is told of a timer, if there is one. -/
def ansT : Option T → Value
  | some t => .tuple #[.agg #[.int .u64 t.a, .int .u64 t.s, .int .i64 t.p], .bool true]
  | none => .tuple #[.agg #[.int .u64 0, .int .u64 0, .int .i64 0], .bool false]
theorem box3 {w : World} {T : Nat} {a b c : Value} {t : TypeId} (h : w.heap[T]? = some (.cells #[a, b, c] t (0, 0))) :
    (w.cell? ⟨T, 0, none⟩ = some a ∧ w.cell? ⟨T, 1, none⟩ = some b ∧ w.cell? ⟨T, 2, none⟩ = some c) ∧ (w.frozen? ⟨T, 0, none⟩ = false ∧ w.frozen? ⟨T, 1, none⟩ = false ∧ w.frozen? ⟨T, 2, none⟩ = false) := by
  refine ⟨⟨?_, ?_, ?_⟩, frozen_of_row w T _ _ t h, frozen_of_row w T _ _ t h, frozen_of_row w T _ _ t h⟩ <;> (rw [cell_of_row w T _ _ t (0, 0) h]; rfl)
theorem off3 (w : World) (T : Nat) (a b c : Value) : Off (fun k => k = T) w (((w.setCell ⟨T, 0, none⟩ a).setCell ⟨T, 1, none⟩ b).setCell ⟨T, 2, none⟩ c) :=
  Off.setCell (p := ⟨T, 2, none⟩) (off2 w T a b) (.inl rfl) c
theorem bel3 {w w' : World} (h : Bel w w') {T : Nat} (hT : w.heap.size ≤ T) (a b c : Value) : Bel w (((w'.setCell ⟨T, 0, none⟩ a).setCell ⟨T, 1, none⟩ b).setCell ⟨T, 2, none⟩ c) :=
  ((h.setCell (p := ⟨T, 0, none⟩) hT a).setCell (p := ⟨T, 1, none⟩) hT b).setCell (p := ⟨T, 2, none⟩) hT c
/-- Those at other places. -/
def wo (l : List T) (k : Int) : List T := l.filter fun t => !decide (t.p = k)
def canE (P : Nat) (l : List T) (k : Int) : Int := if hp P k = true then (if (fnd l k).isSome = true then 0 else 5) else 1
def insE (P : Nat) (l : List T) (t : T) : Int := if hp P t.p = true then (if (fnd l t.p).isSome = true then 4 else 0) else 1
def insL (P : Nat) (l : List T) (t : T) : List T := if insE P l t = 0 then put l t else l
def movL (P : Nat) (l : List T) (t : T) : List T := if canE P l t.p = 0 then put (wo l t.p) t else l
theorem wo_none {l : List T} {k : Int} (h : fnd l k = none) : wo l k = l := by
  unfold wo
  rw [List.filter_eq_self]
  intro t ht
  simpa using fnd_none h t ht
theorem fnd_wo (l : List T) (k : Int) : fnd (wo l k) k = none := by
  unfold fnd wo
  rw [List.find?_eq_none]
  intro t ht
  simpa using (List.mem_filter.1 ht).2
theorem wo_so {l : List T} (h : So l) (k : Int) : So (wo l k) := h.filter _
theorem canE_cases (P : Nat) (l : List T) (k : Int) : (¬ canE P l k = 0 ∧ (canE P l k = 1 ∧ hp P k = false ∨ canE P l k = 5 ∧ hp P k = true ∧ fnd l k = none)) ∨ (canE P l k = 0 ∧ ∃ j : Nat, k = j ∧ j < P ∧ ∃ x, fnd l j = some x) := by
  unfold canE
  cases hk : hp P k with
  | false => exact .inl ⟨by simp, .inl ⟨rfl, rfl⟩⟩
  | true =>
    obtain ⟨j, rfl, hj⟩ := hp_nat hk
    cases hf : fnd l j with
    | none => exact .inl ⟨by simp, .inr ⟨rfl, rfl, rfl⟩⟩
    | some x => exact .inr ⟨rfl, j, rfl, hj, x, hf⟩
theorem insE_wo {P : Nat} {l : List T} {t : T} {j : Nat} (e : t.p = j) (hj : j < P) : insE P (wo l t.p) t = 0 := by
  unfold insE
  rw [fnd_wo, e, hp_yes hj]
  rfl
theorem insE_cases (P : Nat) (l : List T) (t : T) : (insE P l t = 1 ∧ hp P t.p = false) ∨ (∃ k : Nat, t.p = k ∧ k < P ∧ ((insE P l t = 4 ∧ ∃ x, fnd l k = some x) ∨ (insE P l t = 0 ∧ fnd l k = none))) := by
  unfold insE
  cases hk : hp P t.p with
  | false => exact .inl ⟨rfl, rfl⟩
  | true =>
    obtain ⟨k, e, hk2⟩ := hp_nat hk
    refine .inr ⟨k, e, hk2, ?_⟩
    rw [e]
    cases hf : fnd l k with
    | none => exact .inr ⟨rfl, rfl⟩
    | some x => exact .inl ⟨rfl, x, rfl⟩
def canV (t : T) (er : Int) : Value := .tuple #[.agg #[.int .u64 t.a, .int .u64 t.s, .int .i64 t.p], .int .i64 er]
theorem So.at {d m : List T} {x : T} (h : So (d ++ x :: m)) : ∀ y ∈ m, x.a ≤ y.a := by
  intro y hy
  have h1 := (List.pairwise_append.1 h).2.1
  have h2 := (List.pairwise_cons.1 h1).1 y hy
  rw [lt_no] at h2
  unfold Lt at h2
  omega
theorem due_split {d m : List T} {now : Int} (h : So (d ++ m)) (hd : ∀ x ∈ d, x.a ≤ now) (hm : ∀ x ∈ m.head?, ¬ x.a ≤ now) : due (d ++ m) now true = d ∧ due (d ++ m) now false = m := by
  have hm2 : ∀ x ∈ m, ¬ x.a ≤ now := by
    cases m with
    | nil => intro x hx; simp at hx
    | cons y r =>
      have h1 := hm y (by simp)
      intro x hx
      rcases List.mem_cons.1 hx with rfl | hx
      · exact h1
      · have := h.at x hx; omega
  have e1 : d.filter (fun x => decide (x.a ≤ now) == true) = d := by rw [List.filter_eq_self]; intro x hx; simpa using hd x hx
  have e2 : m.filter (fun x => decide (x.a ≤ now) == true) = [] := by rw [List.filter_eq_nil_iff]; intro x hx; simpa using hm2 x hx
  have e3 : d.filter (fun x => decide (x.a ≤ now) == false) = [] := by rw [List.filter_eq_nil_iff]; intro x hx; simpa using hd x hx
  have e4 : m.filter (fun x => decide (x.a ≤ now) == false) = m := by rw [List.filter_eq_self]; intro x hx; simpa using hm2 x hx
  unfold due
  rw [List.filter_append, List.filter_append, e1, e2, e3, e4]
  simp
end Go.Proofs.YtllohpojajijjaaGreatDoor
