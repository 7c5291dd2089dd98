/-
  Contracts of order.Merge's deferred function and of order.Merge.
-/
import Derived.Test.YtbbhgmdpafhbeaaJoins
import Derived.Defers
import Derived.Recover
import Derived.Laws.Pointers
import Derived.Laws.EntriesVeiled
namespace Go.Proofs.Ytbbhgmdpafhbeaa
open Go.RowKit
theorem Row.store {w : World} {b off : Nat} {l : List T} (h : Row w b off l) {B : Nat} {v : Value} (hv : w.cell? ⟨B, 0, none⟩ = some v) (hne : ∀ x, v ≠ .int .u64 x) (u : Value) : Row (w.setCell ⟨B, 0, none⟩ u) b off l := by
  intro i hi
  obtain ⟨h0, h1, h2⟩ := h i hi
  have key : ∀ j (x : Value), w.cell? ⟨b, off + i * 3 + j, none⟩ = some x → (j = 0 → ∃ y, x = .int .u64 y) → (w.setCell ⟨B, 0, none⟩ u).cell? ⟨b, off + i * 3 + j, none⟩ = some x := by
    intro j x hx hj
    rw [World.cell?_setCell_other]
    · exact hx
    · intro e
      injection e with e1 e2
      obtain ⟨y, rfl⟩ := hj (by omega)
      subst e1
      have e3 : off + i * 3 + j = 0 := by omega
      rw [e3, hv] at hx
      exact hne y (Option.some.inj hx)
  exact ⟨key 0 _ h0 (fun _ => ⟨_, rfl⟩), key 1 _ h1 (by omega), key 2 _ h2 (by omega)⟩
theorem Has.store {w : World} {p : Option Addr} {l : List T} (h : Has w p l) {B : Nat} {v : Value} (hv : w.cell? ⟨B, 0, none⟩ = some v) (hne : ∀ x, v ≠ .int .u64 x) (u : Value) : Has (w.setCell ⟨B, 0, none⟩ u) p l := by
  rcases h with h | ⟨b, off, e, h⟩
  · exact .inl h
  · exact .inr ⟨b, off, e, h.store hv hne u⟩
theorem as_errno (v : Value) (w : World) : (Instr.typeAssert (.iface 34 v) 20 34 true).run Try.prog w = .ok (.tuple #[v, .bool true]) w := by kernel_rfl
theorem as_nil (w : World) : (Instr.typeAssert .nilIface 20 34 true).run Try.prog w = .ok (.tuple #[.int .i64 0, .bool false]) w := by kernel_rfl
set_option maxHeartbeats 2000000 in
theorem catch_panicking (B : Nat) (v0 : Value) (x0 : Int) (older : List PanicEntry) (w : World) (h0 : w.cell? ⟨B, 0, none⟩ = some v0) (f0 : w.frozen? ⟨B, 0, none⟩ = false) (h1 : w.cell? ⟨B + 1, 0, none⟩ = some (.int .i64 x0)) (f1 : w.frozen? ⟨B + 1, 0, none⟩ = false) :
    CallsD Try.prog 27 #[.pointer (some ⟨B, 0, none⟩), .pointer (some ⟨B + 1, 0, none⟩)] (.panicking ({ v := .iface 34 (.int .i64 12), recovered := false } :: older)) w fun e u' w' =>
      e = .returned (.tuple #[]) ∧ u' = .panicking ({ v := .iface 34 (.int .i64 12), recovered := true } :: older) ∧ w' = (w.setCell ⟨B, 0, none⟩ (.slice none 0 0)).setCell ⟨B + 1, 0, none⟩ (.int .i64 12) := by
  refine callsD_of_wpS Try.func27 rfl fun c₀ cs hu => ?_
  apply wpS_seq
  apply wpS_region
  simp [wpOpsS, go_sem, recoverD, hu, Try.ntmps27, Exit.thenS, as_errno]
  apply wpS_seq
  apply wpS_region
  simp [wpOpsS, go_sem, Exit.thenS, Array.replicate]
  refine wpS_cond (t := true) (by simp [Act.eval]) ?_
  simp only [if_true]
  apply wpS_region
  simp [wpOpsS, go_sem, h0, f0, h1, f1, bodyPostS, results, Try.results27]
set_option maxHeartbeats 2000000 in
theorem catch_idle (B : Nat) (w : World) :
    CallsD Try.prog 27 #[.pointer (some ⟨B, 0, none⟩), .pointer (some ⟨B + 1, 0, none⟩)] .returning w fun e u' w' => e = .returned (.tuple #[]) ∧ u' = .returning ∧ w' = w := by
  refine callsD_of_wpS Try.func27 rfl fun c₀ cs hu => ?_
  apply wpS_seq
  apply wpS_region
  simp [wpOpsS, go_sem, recoverD, hu, Try.ntmps27, Exit.thenS, as_nil]
  apply wpS_seq
  apply wpS_region
  simp [wpOpsS, go_sem, Exit.thenS, Array.replicate]
  refine wpS_cond (t := false) (by simp [Act.eval]) ?_
  simp only [Bool.false_eq_true, if_false]
  refine wpS_of_wp (wp_skip ?_)
  cases c₀
  simp_all [bodyPostS, results, Try.results27]
set_option maxHeartbeats 2000000 in
theorem merge_yes (q : Option Addr) (m c n : Nat) (ls : List (List T)) (w : World) (hlen : ls.length = m) (hmc : m ≤ c) (hm : m ≤ 1000) (hn : ls.flatten.length = n) (hf : n ≤ 1000) (hl : HasL w q ls) (hs : AllSo ls) :
    Calls Try.prog 15 #[.slice q m c] w fun e w' => (∃ p k, e = .returned (.tuple #[.slice p n k, .int .i64 0]) ∧ n ≤ k ∧ Has w' p (srt ls.flatten)) ∧ Bel w w' := by
  have hmf : ∀ (fn : Fn) (first cap : Array Value) (w : World), (Instr.makeFunc fn first cap).run Try.prog w = .ok (.func fn first cap) w := fun _ _ _ _ => rfl
  have HL := Lib.hid hl
  have HN := Lib.hid hn
  have K := Lib.hid (fun J w' (hb : Bel w w') (hJ : w'.cell? ⟨J, 0, none⟩ = some (me J)) => (join_all J m ls q m c w' (Nat.le_refl _) hlen hmc hm (by omega) (hl.bel hb) hJ).mono (fun e w2 hp => (⟨hp.2.1 hs, hp.1⟩ : Out w2 e (srt ls.flatten) ∧ Bel w' w2)))
  clear hl hn hlen hs
  go_enter_defers Try.func15, Try.ntmps15
  go_wp2_with fail
  with_reducible refine (K.out _ _ ?h1 ?h2).mono ?_
  case h1 => exact (((Bel.refl w).alloc _ _).alloc _ _).alloc _ _
  case h2 => simp [go_sem]
  rintro e w1 ⟨⟨p, k, rfl, hk, hp⟩, hb⟩
  have y0 : w1.cell? ⟨w.heap.size, 0, none⟩ = some (.slice none 0 0) := hb.cell (by simp [go_sem])
  have y1 : w1.cell? ⟨w.heap.size + 1, 0, none⟩ = some (.int .i64 0) := hb.cell (by simp [go_sem])
  have f0 : w1.frozen? ⟨w.heap.size, 0, none⟩ = false := hb.froz (v := .slice none 0 0) (by simp [go_sem]) (by simp [go_sem])
  have f1 : w1.frozen? ⟨w.heap.size + 1, 0, none⟩ = false := hb.froz (v := .int .i64 0) (by simp [go_sem]) (by simp [go_sem])
  have hsl : (srt ls.flatten).length = n := by rw [srt_len, HN.out]
  rw [hsl] at hk ⊢
  have HB : Hid (Bel w w1) := Lib.hid (((((Bel.refl w).alloc _ _).alloc _ _).alloc _ _).trans hb)
  have HP : Hid (Has ((w1.setCell ⟨w.heap.size, 0, none⟩ (.slice p n k)).setCell ⟨w.heap.size + 1, 0, none⟩ (.int .i64 0)) p (srt ls.flatten)) := Lib.hid ((hp.store y0 (by simp) _).store (v := .int .i64 0) (by simp [go_sem, y1]) (by simp) _)
  clear hb hp hsl
  go_wp2
  refine leaves_cons (f := 27) (args := #[.pointer (some ⟨w.heap.size, 0, none⟩), .pointer (some ⟨w.heap.size + 1, 0, none⟩)]) (by simp) (by simp [go_sem]) ?_
  refine (catch_idle w.heap.size _).mono ?_
  rintro e u' w'' ⟨rfl, rfl, rfl⟩
  have z0 : ((w1.setCell ⟨w.heap.size, 0, none⟩ (.slice p n k)).setCell ⟨w.heap.size + 1, 0, none⟩ (.int .i64 0)).cell? ⟨w.heap.size, 0, none⟩ = some (.slice p n k) := by simp [go_sem, y0]
  have z1 : ((w1.setCell ⟨w.heap.size, 0, none⟩ (.slice p n k)).setCell ⟨w.heap.size + 1, 0, none⟩ (.int .i64 0)).cell? ⟨w.heap.size + 1, 0, none⟩ = some (.int .i64 0) := by simp [go_sem, y1]
  have HB2 : Bel w ((w1.setCell ⟨w.heap.size, 0, none⟩ (.slice p n k)).setCell ⟨w.heap.size + 1, 0, none⟩ (.int .i64 0)) := (HB.out.setCell (by simp) _).setCell (by simp) _
  generalize (w1.setCell ⟨w.heap.size, 0, none⟩ (.slice p n k)).setCell ⟨w.heap.size + 1, 0, none⟩ (.int .i64 0) = W at *
  simp [Leaves, settle, results, Try.results15, go_sem, z0, z1]
  exact ⟨⟨p, k, ⟨rfl, rfl⟩, hk, HP.out⟩, HB2⟩
set_option maxHeartbeats 2000000 in
theorem merge_no (q : Option Addr) (m c : Nat) (ls : List (List T)) (w : World) (hlen : ls.length = m) (hmc : m ≤ c) (hm : m ≤ 1000) (hf : ls.flatten.length ≤ 1000) (hl : HasL w q ls) (hs : ¬ AllSo ls) :
    Calls Try.prog 15 #[.slice q m c] w fun e w' => e = .returned (.tuple #[.slice none 0 0, .int .i64 12]) ∧ Bel w w' := by
  have hmf : ∀ (fn : Fn) (first cap : Array Value) (w : World), (Instr.makeFunc fn first cap).run Try.prog w = .ok (.func fn first cap) w := fun _ _ _ _ => rfl
  have K := Lib.hid (fun J w' (hb : Bel w w') (hJ : w'.cell? ⟨J, 0, none⟩ = some (me J)) => (join_all J m ls q m c w' (Nat.le_refl _) hlen hmc hm hf (hl.bel hb) hJ).mono (fun e w2 hp => (⟨hp.2.2 hs, hp.1⟩ : e = .panicked boom ∧ Bel w' w2)))
  clear hl hlen hs
  go_enter_defers Try.func15, Try.ntmps15
  go_wp2_with fail
  with_reducible refine (K.out _ _ ?h1 ?h2).mono ?_
  case h1 => exact (((Bel.refl w).alloc _ _).alloc _ _).alloc _ _
  case h2 => simp [go_sem]
  rintro e w1 ⟨rfl, hb⟩
  have y0 : w1.cell? ⟨w.heap.size, 0, none⟩ = some (.slice none 0 0) := hb.cell (by simp [go_sem])
  have y1 : w1.cell? ⟨w.heap.size + 1, 0, none⟩ = some (.int .i64 0) := hb.cell (by simp [go_sem])
  have f0 : w1.frozen? ⟨w.heap.size, 0, none⟩ = false := hb.froz (v := .slice none 0 0) (by simp [go_sem]) (by simp [go_sem])
  have f1 : w1.frozen? ⟨w.heap.size + 1, 0, none⟩ = false := hb.froz (v := .int .i64 0) (by simp [go_sem]) (by simp [go_sem])
  have HB : Hid (Bel w w1) := Lib.hid (((((Bel.refl w).alloc _ _).alloc _ _).alloc _ _).trans hb)
  clear hb
  refine leaves_cons (f := 27) (args := #[.pointer (some ⟨w.heap.size, 0, none⟩), .pointer (some ⟨w.heap.size + 1, 0, none⟩)]) (by simp) (by simp [go_sem]) ?_
  refine (catch_panicking w.heap.size _ _ [] _ y0 f0 y1 f1).mono ?_
  rintro e u' w'' ⟨rfl, rfl, rfl⟩
  have z0 : ((w1.setCell ⟨w.heap.size, 0, none⟩ (.slice none 0 0)).setCell ⟨w.heap.size + 1, 0, none⟩ (.int .i64 12)).cell? ⟨w.heap.size, 0, none⟩ = some (.slice none 0 0) := by simp [go_sem, y0]
  have z1 : ((w1.setCell ⟨w.heap.size, 0, none⟩ (.slice none 0 0)).setCell ⟨w.heap.size + 1, 0, none⟩ (.int .i64 12)).cell? ⟨w.heap.size + 1, 0, none⟩ = some (.int .i64 12) := by simp [go_sem, y1]
  have HB2 : Bel w ((w1.setCell ⟨w.heap.size, 0, none⟩ (.slice none 0 0)).setCell ⟨w.heap.size + 1, 0, none⟩ (.int .i64 12)) := (HB.out.setCell (by simp) _).setCell (by simp) _
  generalize (w1.setCell ⟨w.heap.size, 0, none⟩ (.slice none 0 0)).setCell ⟨w.heap.size + 1, 0, none⟩ (.int .i64 12) = W at *
  simp [Leaves, settle, results, Try.results15, go_sem, z0, z1]
  exact HB2
end Go.Proofs.Ytbbhgmdpafhbeaa
