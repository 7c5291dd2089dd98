/-
  Contracts of the atomic numbers' methods: what Add, Store, Load and Swap of one of fifteen numbers in a block do.
-/
import Derived.Test.YtfplmleakgpkiaaFrame
set_option linter.unusedVariables false
set_option linter.unusedSimpArgs false
namespace Go.Proofs.Ytfplmleakgpkiaa
open Go.RowKit
theorem wp_unit_help : True := trivial
/-- sync/atomic.SwapT: the number is stored, what was there handed back. -/
theorem run_call_swap {P : Program} {f : FuncId} {fn : Func} (hf : P.funcs[f]? = some fn) (hname : (fn.name == "runtime.NumGoroutine") = false) (hb : fn.body.isNone = true) (hn : Extern.findNext fn = none) (k : IntKind)
    (he : Extern.find fn = some (Extern.Atomic.swapT (.int k))) {a : Addr} {x y : Int} {w : World} (hc : w.cell? a = some (.int k x)) (hz : w.frozen? a = false) :
    (callFunc f #[.pointer (some a), .int k y]).run P w = .ok (.value (.int k x)) (w.setCell a (.int k y)) := by
  rw [run_callFunc_extern hf hname hb hn he]
  change (Sem.run P (do
    let a' ← asAddr (.pointer (some a))
    let old ← Extern.Atomic.read (.int k) a'
    store a' (.int k y) .atomic
    pure old) w).andThen _ = _
  simp [Extern.Atomic.read, asAddr, hc, hz, run_store P w a (.int k y) .atomic rfl, Result.andThen]
theorem load_at (w : World) (p j : Nat) (f : Nat → Int) (h : Nums w p f) (hj : j < 15) :
    Calls Try.prog 25 #[.pointer (some ⟨p, j, none⟩)] w fun e w' => e = .returned (.int .i64 (f j)) ∧ w' = w := by
  have c := (h j hj).1
  have hl := run_call_load (P := Try.prog) Try.func30 (by kernel_rfl) (by kernel_rfl) (by kernel_rfl) .i64 (by kernel_rfl) c
  clear h
  generalize f j = x at *
  go_enter Try.func25, Try.ntmps25
  go_wp2
  go_ret
  exact ⟨rfl, rfl⟩
theorem store_at (w : World) (p j : Nat) (f : Nat → Int) (y : Int) (h : Nums w p f) (hj : j < 15) :
    Calls Try.prog 24 #[.pointer (some ⟨p, j, none⟩), .int .i64 y] w fun e w' => e = .returned (.tuple #[]) ∧ Nums w' p (upd f j y) ∧ Off (only p) w w' := by
  obtain ⟨c, z⟩ := h j hj
  have hl := run_call_store (P := Try.prog) Try.func29 (by kernel_rfl) (by kernel_rfl) (by kernel_rfl) (by kernel_rfl) (k := .i64) (y := y) c z
  have H := Lib.hid (h.set hj y)
  clear h
  generalize f j = x at c
  go_enter Try.func24, Try.ntmps24
  go_wp2
  go_end0
  exact ⟨rfl, H.out, Off.set1 _ _ _ _⟩
theorem swap_at (w : World) (p j : Nat) (f : Nat → Int) (y : Int) (h : Nums w p f) (hj : j < 15) :
    Calls Try.prog 31 #[.pointer (some ⟨p, j, none⟩), .int .i64 y] w fun e w' => e = .returned (.int .i64 (f j)) ∧ Nums w' p (upd f j y) ∧ Off (only p) w w' := by
  obtain ⟨c, z⟩ := h j hj
  have hl := run_call_swap (P := Try.prog) Try.func33 (by kernel_rfl) (by kernel_rfl) (by kernel_rfl) .i64 (by kernel_rfl) (y := y) c z
  have H := Lib.hid (h.set hj y)
  clear h
  go_enter Try.func31, Try.ntmps31
  go_wp2
  go_ret
  exact ⟨rfl, H.out, Off.set1 _ _ _ _⟩
theorem add_at (w : World) (p j : Nat) (f : Nat → Int) (y : Int) (h : Nums w p f) (hj : j < 15) (h0 : -9223372036854775808 ≤ f j + y) (h1 : f j + y < 9223372036854775808) :
    Calls Try.prog 23 #[.pointer (some ⟨p, j, none⟩), .int .i64 y] w fun e w' => e = .returned (.int .i64 (f j + y)) ∧ Nums w' p (upd f j (f j + y)) ∧ Off (only p) w w' := by
  obtain ⟨c, z⟩ := h j hj
  have e := i64_in _ h0 h1
  have hl := run_call_add (P := Try.prog) Try.func28 (by kernel_rfl) (by kernel_rfl) (by kernel_rfl) .i64 (by kernel_rfl) (y := y) (s := f j + y) c z (by simp [go_sem, e])
  have H := Lib.hid (h.set hj (f j + y))
  clear h h0 h1 e
  go_enter Try.func23, Try.ntmps23
  go_wp2
  go_ret
  exact ⟨rfl, H.out, Off.set1 _ _ _ _⟩
end Go.Proofs.Ytfplmleakgpkiaa
