/-
  The document's examples, call by call.
-/
import Derived.Test.YtbbhgmdpafhbeaaMerge
import Derived.Test.YtbbhgmdpafhbeaaCut
import Derived.Test.YtbbhgmdpafhbeaaPut
import Derived.Test.YtbbhgmdpafhbeaaSame
namespace Go.Proofs.Ytbbhgmdpafhbeaa
open Go.RowKit
abbrev xa : T := ⟨1, 0, 0⟩
abbrev xb : T := ⟨2, 0, 0⟩
abbrev xc : T := ⟨3, 0, 0⟩
abbrev xd : T := ⟨2, 1, 0⟩
/-- A row that was just laid. -/
theorem has_lit (w : World) (l : List T) (cs : Array Value) (h : cs = (encs l).toArray) (hm : l.length ≤ 1000) : Has (w.alloc (.cells cs 30)) (some ⟨w.heap.size, 0, none⟩) l := by
  have k := World.ownsRow_lit (base := 0) (e := 30) (size := 3) w cs l.length (Nat.zero_le _) (by unfold maxLen; omega) (by rw [h]; simp [encs_len])
  have e : cs.toList = encs l := by rw [h]
  rw [e] at k
  have hk : Own (w.alloc (.cells cs 30)) 0 (.slice (some ⟨w.heap.size, 0, none⟩) l.length l.length) l := k
  obtain ⟨p, cap, e2, _, _, hp⟩ := hk.slice
  injection e2 with e3
  rw [e3]
  exact hp
theorem ex_sort (p : Option Addr) (cap : Nat) (w : World) (h : Has w p [xc, xa, xb]) :
    Calls Try.prog 12 #[.slice p 3 cap] w fun e w' => ∃ q k, e = .returned (.slice q 3 k) ∧ Has w' q [xa, xb, xc] ∧ Bel w w' :=
  (sort_any p 3 cap _ w rfl (by omega) h).mono fun e w' ⟨⟨q, k, he, _, hq⟩, hb⟩ => ⟨q, k, he, by rw [show [xa, xb, xc] = srt [xc, xa, xb] by decide]; exact hq, hb⟩
theorem ex_same (p q : Option Addr) (c k n : Nat) (l : List T) (w : World) (hn : l.length = n) (hm : n ≤ 1000) (h1 : Has w p l) (h2 : Has w q l) :
    Calls Try.prog 11 #[.slice p n c, .slice q n k] w fun e w' => e = .returned (.bool true) ∧ Bel w w' := by
  have K := same_any p q n c k l l w hn hn hm h1 h2
  rw [decide_eq_true rfl] at K
  exact K
theorem ex_merge (q : Option Addr) (w : World) (h : HasL w q [[xa, xb, xc], [xd]]) :
    Calls Try.prog 15 #[.slice q 2 2] w fun e w' => (∃ p k, e = .returned (.tuple #[.slice p 4 k, .int .i64 0]) ∧ 4 ≤ k ∧ Has w' p [xa, xb, xd, xc]) ∧ Bel w w' := by
  have K := merge_yes q 2 2 4 _ w rfl (by omega) (by omega) rfl (by omega) h (by
    intro l hl
    simp at hl
    rcases hl with rfl | rfl
    · exact (so_iff _).1 (by decide)
    · exact (so_iff _).1 (by decide))
  rw [show srt [[xa, xb, xc], [xd]].flatten = [xa, xb, xd, xc] by decide] at K
  exact K
theorem ex_find (p : Option Addr) (k : Nat) (w : World) (h : Has w p [xa, xb, xd, xc]) :
    Calls Try.prog 16 #[.slice p 4 k, .agg #[.int .u64 3, .int .u64 0, .int .i64 0]] w fun e w' => e = .returned (.tuple #[.int .i64 3, .int .i64 0]) ∧ Bel w w' :=
  find_yes p 4 k _ xc w rfl (by omega) ((so_iff _).1 (by decide)) h
theorem ex_cut (p : Option Addr) (w : World) (h : Has w p [xa, xb, xc]) :
    Calls Try.prog 20 #[.slice p 3 3, .int .u64 2] w fun e w' => (∃ q1 q2 k1 k2, e = .returned (.tuple #[.slice q1 2 k1, .slice q2 1 k2, .int .i64 0])) ∧ Bel w w' :=
  (cut_yes p 3 3 _ 2 w rfl (by omega) (by omega) ((so_iff _).1 (by decide)) h).mono fun e w' ⟨⟨q1, q2, n1, n2, k1, k2, he, h1, h2, _⟩, hb⟩ => ⟨⟨q1, q2, k1, k2, by
    rw [he, ← h1, ← h2, show (due [xa, xb, xc] 2 true).length = 2 by decide, show (due [xa, xb, xc] 2 false).length = 1 by decide]⟩, hb⟩
theorem ex_put (p : Option Addr) (w : World) (h : Has w p [xa, xc]) :
    Calls Try.prog 17 #[.slice p 2 2, .agg #[.int .u64 2, .int .u64 0, .int .i64 0]] w fun e w' => (∃ q k, e = .returned (.tuple #[.slice q 3 k, .int .i64 0]) ∧ Has w' q [xa, xb, xc]) ∧ Bel w w' :=
  (put_yes p 2 2 _ xb w rfl (by omega) (by omega) ((so_iff _).1 (by decide)) h).mono fun e w' ⟨⟨q, c, he, _, hq⟩, hb⟩ => ⟨⟨q, c, he, by rw [show [xa, xb, xc] = put [xa, xc] xb by decide]; exact hq⟩, hb⟩
theorem ex_refuse (q : Option Addr) (w : World) (h : HasL w q [[xb, xa]]) :
    Calls Try.prog 15 #[.slice q 1 1] w fun e w' => e = .returned (.tuple #[.slice none 0 0, .int .i64 12]) ∧ Bel w w' :=
  merge_no q 1 1 _ w rfl (by omega) (by omega) (by decide) h (fun k => by
    have := (so_iff _).2 (k [xb, xa] (by simp))
    revert this
    decide)
theorem ex_sorted (p : Option Addr) (k : Nat) (w : World) (h : Has w p [xa, xb, xd, xc]) :
    Calls Try.prog 13 #[.slice p 4 k] w fun e w' => e = .returned (.bool true) ∧ Bel w w' := by
  have K := sorted_any p 4 k _ w rfl (by omega) h
  rw [show so [xa, xb, xd, xc] = true by decide] at K
  exact K
/-- A row of two lists, and of one. -/
theorem hasL_two {w : World} {g : Nat} {p1 p2 : Option Addr} {l1 l2 : List T} {n1 n2 c1 c2 : Nat} (e1 : l1.length = n1) (e2 : l2.length = n2) (k0 : w.cell? ⟨g, 0, none⟩ = some (.slice p1 n1 c1)) (k1 : w.cell? ⟨g, 1, none⟩ = some (.slice p2 n2 c2)) (hc1 : n1 ≤ c1) (hc2 : n2 ≤ c2) (h1 : Has w p1 l1) (h2 : Has w p2 l2) : HasL w (some ⟨g, 0, none⟩) [l1, l2] := by
  subst e1 e2
  refine .inr ⟨g, 0, rfl, fun i hi => ?_⟩
  obtain rfl | rfl : i = 0 ∨ i = 1 := by simp at hi; omega
  · exact ⟨p1, c1, k0, hc1, h1⟩
  · exact ⟨p2, c2, k1, hc2, h2⟩
theorem hasL_one {w : World} {g : Nat} {p1 : Option Addr} {l1 : List T} {n1 c1 : Nat} (e1 : l1.length = n1) (k0 : w.cell? ⟨g, 0, none⟩ = some (.slice p1 n1 c1)) (hc1 : n1 ≤ c1) (h1 : Has w p1 l1) : HasL w (some ⟨g, 0, none⟩) [l1] := by
  subst e1
  refine .inr ⟨g, 0, rfl, fun i hi => ?_⟩
  obtain rfl : i = 0 := by simp at hi; omega
  exact ⟨p1, c1, k0, hc1, h1⟩
/-- Four timers, each in a block of its own. -/
def Four (w : World) (B : Nat) : Prop :=
  (w.cell? ⟨B, 0, none⟩ = some (.int .u64 1) ∧ w.cell? ⟨B, 1, none⟩ = some (.int .u64 0) ∧ w.cell? ⟨B, 2, none⟩ = some (.int .i64 0)) ∧
  (w.cell? ⟨B + 1, 0, none⟩ = some (.int .u64 2) ∧ w.cell? ⟨B + 1, 1, none⟩ = some (.int .u64 0) ∧ w.cell? ⟨B + 1, 2, none⟩ = some (.int .i64 0)) ∧
  (w.cell? ⟨B + 1 + 1, 0, none⟩ = some (.int .u64 3) ∧ w.cell? ⟨B + 1 + 1, 1, none⟩ = some (.int .u64 0) ∧ w.cell? ⟨B + 1 + 1, 2, none⟩ = some (.int .i64 0)) ∧
  (w.cell? ⟨B + 1 + 1 + 1, 0, none⟩ = some (.int .u64 2) ∧ w.cell? ⟨B + 1 + 1 + 1, 1, none⟩ = some (.int .u64 1) ∧ w.cell? ⟨B + 1 + 1 + 1, 2, none⟩ = some (.int .i64 0))
theorem Four.bel {w w' : World} {B : Nat} (h : Four w B) (k : Bel w w') : Four w' B :=
  ⟨⟨k.cell h.1.1, k.cell h.1.2.1, k.cell h.1.2.2⟩, ⟨k.cell h.2.1.1, k.cell h.2.1.2.1, k.cell h.2.1.2.2⟩, ⟨k.cell h.2.2.1.1, k.cell h.2.2.1.2.1, k.cell h.2.2.1.2.2⟩, ⟨k.cell h.2.2.2.1, k.cell h.2.2.2.2.1, k.cell h.2.2.2.2.2⟩⟩
end Go.Proofs.Ytbbhgmdpafhbeaa
