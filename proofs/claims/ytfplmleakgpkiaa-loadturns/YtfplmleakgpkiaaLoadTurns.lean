/-
  Proved: whatever list of notes and whatever turns it is given, LoadTurns returns true, and the input reads as it did. Conditions: none.
-/
import Derived.Test.YtfplmleakgpkiaaRows
import Derived.Test.YtfplmleakgpkiaaOpen
import Derived.SizedLaws
import Derived.Test.YtfplmleakgpkiaaLawT
set_option linter.unusedVariables false
set_option linter.unusedSimpArgs false
namespace Go.Proofs.Ytfplmleakgpkiaa.loadTurns
open Go.ChangeShapes Go.WideShapes Go.ChangeAt Go.RowKit Go.Deep

theorem walk (W : World) (a : Option Addr) (n cap : Nat) (l : List T) (hn : l.length = n) (_ : n ≤ cap) (hl : Has nof W a l) (hs : n * 24 ≤ 140737488355328) (b : Option Addr) (m k : Nat) (hb : IsBytes W b m) : Calls Try.prog 5 #[.slice a n cap, .slice b m k] W fun e W' => e = .returned (.bool true) ∧ Bel W W' := turns_any a b n m cap k l W hn hs hl hb
set_option maxRecDepth 100000 in
theorem lifted (os : Os) (started : os.Started) (H : Type) (enc : TypeId × Value → H) :
    ReturnsInHanded {} Try.checked os 5 .any (Rows.loadTurnsSpec.pre6 enc Try.prog Try.f5 Rows.loadTurnsRow.domain false) (Rows.loadTurnsSpec.post enc Try.prog Try.f5 false true false false) := by
  refine returnsInHanded_of_change_sized (C := Try.checked) own started (by kernel_rfl) Try.func5
    (ChangeSpec.witness6 (enc := enc) (C := Try.checked) false ⟨#[], #[.slice none 0 0, .slice none 0 0], []⟩ 8 (by kernel_rfl) (by kernel_rfl) (by kernel_rfl) (by kernel_rfl)) ?_
  intro W base args ds gs before hval0 hW hcnd hsz0 _
  have hval : ∀ (j : Nat) t v, Try.f5.params[j]? = some t → args[j]? = some v → Value.okWide Try.prog W .any base t v := hval0
  have hW' := hW
  obtain ⟨p, q, hA0, hV, rfl, hfz, hnd⟩ := hW
  have hA : DataW.TrodAll enc Try.prog W 0 (fun _ => true) true Try.f5.params.toList args.toList ds p := hA0
  rw [Try.params5] at hA hval
  obtain ⟨v0, vs0, d0, ds0, p0, q0, hargs, rfl, rfl, h0, r0⟩ := trodAll_cons hA
  obtain ⟨v1, vs1, d1, ds1, p1, q1, rfl, rfl, rfl, h1, r1⟩ := trodAll_cons r0
  obtain ⟨rfl, rfl, rfl⟩ := trodAll_nil r1
  obtain rfl : args = #[v0, v1] := by cases args; simp_all
  obtain ⟨rfl, rfl⟩ := trodVars_none hV
  have k0 := h0
  have lt0 : ∀ x ∈ p0, x.block < W.heap.size := by obtain ⟨m, hm⟩ := k0; exact DataW.trod_lt m _ _ _ hm
  have k1 := h1
  have lt1 : ∀ x ∈ p1, x.block < W.heap.size := by obtain ⟨m, hm⟩ := k1; exact DataW.trod_lt m _ _ _ hm
  obtain ⟨a0, len0, cap0, rfl⟩ := okWide_slice Try.underlying22 (hval 0 22 v0 rfl rfl)
  obtain ⟨hc0, l0, hl0, hh0⟩ := notes_of h0
  have hs0 : len0 * 24 ≤ 140737488355328 := by
    have hr := reachBytes_lt
    rcases notes_len h0 with e | ⟨elems, spare, rfl, e⟩
    · omega
    · have k := sized_slice hsz0 (j := 0) (t := 22) (e := 29) (elems := elems) (spare := spare) rfl rfl Try.underlying22
      have hb : Try.checked.prog.bytesOf 29 = 24 := by kernel_rfl
      rw [hb] at k
      omega
  obtain ⟨a1, len1, cap1, rfl⟩ := okWide_slice Try.underlying44 (hval 1 44 v1 rfl rfl)
  have hh1 := bytes_of h1
  clear hA0 hval0
  refine (walk W a0 len0 cap0 l0 hl0 hc0 hh0 hs0 a1 len1 cap1 hh1).mono fun e W' ⟨he, hg⟩ => ?_
  subst he
  have bel : Below W.heap.size W W' := hg.below
  exact ⟨_, rfl, _, _, _, [], _, [], hW', trodAll_mk1 (shut_bool Try.underlying4 _), (trodAll_cons_mk (Below.trod laidOut (by kernel_rfl) (of_decide_eq_true (by kernel_rfl)) k0 bel lt0) (trodAll_cons_mk (Below.trod laidOut (by kernel_rfl) (of_decide_eq_true (by kernel_rfl)) k1 bel lt1) trodAll_mk0)), rfl, bel.frame _, fun h => by cases h⟩

theorem over : Rows.loadTurnsRow.holds Try.pinned (OpenSpec.ofChange Rows.loadTurnsSpec) :=
  OpenClaim.holds_of_wide 5 Try.f5 rfl rfl rfl rfl rfl rfl rfl ⟨rfl, rfl, rfl, rfl, rfl⟩ rfl rfl rfl rfl rfl (by kernel_rfl) Try.func5 (by kernel_rfl)
    (of_decide_eq_true (by kernel_rfl)) (by unfold Func.isWrapper; first | (rw [if_pos (by decide +kernel)]; kernel_rfl) | (rw [if_neg (by decide +kernel)]; exact ⟨rfl, rfl⟩))
    (fun os started H enc _ => lifted os started H enc)
end Go.Proofs.Ytfplmleakgpkiaa.loadTurns
namespace Go.Proofs.Ytfplmleakgpkiaa
theorem loadTurns_holds : Rows.LoadTurnsSaid := loadTurns.over
end Go.Proofs.Ytfplmleakgpkiaa
