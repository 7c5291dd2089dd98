/-
  Contract of order.Merge, of two lists in order.
-/
import Derived.Test.YtdlfppdekllloaaJoin
import Derived.Defers
import Derived.Recover
import Derived.Laws.Pointers
import Derived.Laws.EntriesVeiled
set_option linter.unusedVariables false
set_option linter.unusedSimpArgs false
namespace Go.Proofs.Ytdlfppdekllloaa
open Go.RowKit
abbrev me (J : Nat) : Value := .func (.func 41) #[] #[.pointer (some ⟨J, 0, none⟩)]
theorem heldJ {w w1 w2 : World} {J : Nat} {v : Value} (k : Bel w1 w2) (h : Bel w w1 ∧ w1.cell? ⟨J, 0, none⟩ = some v) : Bel w w2 ∧ w2.cell? ⟨J, 0, none⟩ = some v := ⟨h.1.trans k, k.cell h.2⟩
set_option maxHeartbeats 2000000 in
theorem join_yes (b off m c J h : Nat) (A B : List T) (w : World) (hh : (m : Int).tdiv 2 = h) (h1 : 1 ≤ h) (h2 : h < m) (hm : m ≤ c) (hm2 : m ≤ 1000) (hs : A.length + B.length ≤ 1000) (hJ : w.cell? ⟨J, 0, none⟩ = some (me J))
    (KL : Hid (∀ w' k, Bel w w' → h ≤ k → Calls Try.prog 41 #[.slice (some ⟨b, off, none⟩) h k, .pointer (some ⟨J, 0, none⟩)] w' fun e w2 => Out w2 e A ∧ Bel w' w2))
    (KR : Hid (∀ w' k, Bel w w' → m - h ≤ k → Calls Try.prog 41 #[.slice (some ⟨b, off + h, none⟩) (m - h) k, .pointer (some ⟨J, 0, none⟩)] w' fun e w2 => Out w2 e B ∧ Bel w' w2)) :
    Calls Try.prog 41 #[.slice (some ⟨b, off, none⟩) m c, .pointer (some ⟨J, 0, none⟩)] w fun e w' => OutN w w' e (mrg A B) ∧ Bel w w' := by
  have e0 : ((m : Int) == 0) = false := by simp; omega
  have e1 : ((m : Int) == 1) = false := by simp; omega
  have b0 : (0 : Int) ≤ (h : Int) := by omega
  have b1 : (h : Int) ≤ (m : Int) := by omega
  have b2 : (h : Int) ≤ (c : Int) := by omega
  have b3 : (m : Int) ≤ (c : Int) := by omega
  have b4 : ¬ c = h := by omega
  have b5 : IntKind.i64.wrap (h : Int) = h := i64_in _ (by omega) (by omega)
  go_enter Try.func41, Try.ntmps41
  go_wp2
  go_region_held3 (fun w' => Bel w w' ∧ w'.cell? ⟨J, 0, none⟩ = some (me J)) (first | exact ⟨(Bel.refl w).drew, hJ⟩ | exact heldJ hg1 ‹_› | exact heldJ hg2 ‹_› | exact heldJ hg3 ‹_›)
    (first | (go_at_call 41; (with_reducible refine (KL.out _ _ (And.left (by assumption)) (by omega)).mono ?_); rintro e w2 ⟨⟨pA, cA, rfl, hcA, hA⟩, hg1⟩) | (go_at_call 41; (with_reducible refine (KR.out _ _ (And.left (by assumption)) (by omega)).mono ?_); rintro e w3 ⟨⟨pB, cB, rfl, hcB, hB⟩, hg2⟩) | (go_at_call 44; refine (both_any pA pB A.length B.length cA cB A B _ rfl rfl hcA hcB hs (hA.bel hg2) hB).mono ?_; rintro e w4 ⟨hout, hg3⟩; obtain ⟨pO, cO, rfl, hcO, hO⟩ := hout))
  have HB : Hid (Bel w w4) := Lib.hid ((((Bel.refl w).drew.trans hg1).trans hg2).trans hg3)
  have HO : Hid (Lies (old w) w4 pO (encs (mrg A B))) := Lib.hid (hO.mono (fun b _ e => Nat.lt_of_lt_of_le e (((Bel.refl w).drew.trans hg1).trans hg2).size))
  clear hg1 hg2 hg3 hA hB hO
  go_wp2
  go_ret
  exact ⟨⟨pO, cO, rfl, hcO, HO.out⟩, HB.out⟩
theorem join_two (b off c J : Nat) (A B : List T) (w : World) (hc : 2 ≤ c) (hs : A.length + B.length ≤ 900) (sA : So A) (sB : So B) (hr : RowL w b off [A, B]) (hJ : w.cell? ⟨J, 0, none⟩ = some (me J)) :
    Calls Try.prog 41 #[.slice (some ⟨b, off, none⟩) 2 c, .pointer (some ⟨J, 0, none⟩)] w fun e w' => OutN w w' e (mrg A B) ∧ Bel w w' := by
  refine join_yes b off 2 c J 1 A B w rfl (by omega) (by omega) hc (by omega) (by omega) hJ (Lib.hid fun w' k hb _ => ?_) (Lib.hid fun w' k hb _ => ?_)
  · have r1 : RowL w' b off [A] := (hr.bel hb).take 1
    refine (join_one b off k J A w' (by omega) r1).mono fun e w2 h => ⟨?_, h.1⟩
    have := h.2.1 (fun x hx => by simp at hx; subst hx; exact sA)
    simpa [srt_self sA] using this
  · have r1 : RowL w' b (off + 1) [B] := (hr.bel hb).drop 1
    refine (join_one b (off + 1) k J B w' (by omega) r1).mono fun e w2 h => ⟨?_, h.1⟩
    have := h.2.1 (fun x hx => by simp at hx; subst hx; exact sB)
    simpa [srt_self sB] using this
theorem Row.store {w : World} {b off : Nat} {l : List T} (h : Row w b off l) {B : Nat} {v : Value} (hv : w.cell? ⟨B, 0, none⟩ = some v) (hne : ∀ x, v ≠ .int .u64 x) (u : Value) : Row (w.setCell ⟨B, 0, none⟩ u) b off l := by
  intro i hi
  obtain ⟨h0, h1, h2⟩ := h i hi
  have key : ∀ j (x : Value), w.cell? ⟨b, off + i * 3 + j, none⟩ = some x → (j = 0 → ∃ y, x = .int .u64 y) → (w.setCell ⟨B, 0, none⟩ u).cell? ⟨b, off + i * 3 + j, none⟩ = some x := by
    intro j x hx hj
    rw [World.cell?_setCell_other]
    · exact hx
    · intro e
      injection e with e1 e2
      obtain ⟨y, rfl⟩ := hj (by omega)
      subst e1
      have e3 : off + i * 3 + j = 0 := by omega
      rw [e3, hv] at hx
      exact hne y (Option.some.inj hx)
  exact ⟨key 0 _ h0 (fun _ => ⟨_, rfl⟩), key 1 _ h1 (by omega), key 2 _ h2 (by omega)⟩
theorem Has.store {w : World} {p : Option Addr} {l : List T} (h : Has w p l) {B : Nat} {v : Value} (hv : w.cell? ⟨B, 0, none⟩ = some v) (hne : ∀ x, v ≠ .int .u64 x) (u : Value) : Has (w.setCell ⟨B, 0, none⟩ u) p l := by
  rcases h with h | ⟨b, off, e, h⟩
  · exact .inl h
  · exact .inr ⟨b, off, e, h.store hv hne u⟩
theorem as_nil (w : World) : (Instr.typeAssert .nilIface 20 25 true).run Try.prog w = .ok (.tuple #[.int .i64 0, .bool false]) w := by kernel_rfl
set_option maxHeartbeats 2000000 in
theorem catch_idle (B : Nat) (w : World) :
    CallsD Try.prog 40 #[.pointer (some ⟨B, 0, none⟩), .pointer (some ⟨B + 1, 0, none⟩)] .returning w fun e u' w' => e = .returned (.tuple #[]) ∧ u' = .returning ∧ w' = w := by
  refine callsD_of_wpS Try.func40 rfl fun c₀ cs hu => ?_
  apply wpS_seq
  apply wpS_region
  simp [wpOpsS, go_sem, recoverD, hu, Try.ntmps40, Exit.thenS, as_nil]
  apply wpS_seq
  apply wpS_region
  simp [wpOpsS, go_sem, Exit.thenS, Array.replicate]
  refine wpS_cond (t := false) (by simp [Act.eval]) ?_
  simp only [Bool.false_eq_true, if_false]
  refine wpS_of_wp (wp_skip ?_)
  cases c₀
  simp_all [bodyPostS, results, Try.results40]
set_option maxHeartbeats 2000000 in
theorem merge_two (b off c n : Nat) (A B : List T) (w : World) (hc : 2 ≤ c) (hn : A.length + B.length = n) (hf : n ≤ 900) (hl : RowL w b off [A, B]) (sA : So A) (sB : So B) :
    Calls Try.prog 19 #[.slice (some ⟨b, off, none⟩) 2 c] w fun e w' => (∃ p k, e = .returned (.tuple #[.slice p n k, .int .i64 0]) ∧ n ≤ k ∧ Lies (old w) w' p (encs (mrg A B))) ∧ Bel w w' := by
  have hmf : ∀ (fn : Fn) (first cap : Array Value) (w : World), (Instr.makeFunc fn first cap).run Try.prog w = .ok (.func fn first cap) w := fun _ _ _ _ => rfl
  have HN := Lib.hid hn
  have K := Lib.hid (fun J w' (hb : Bel w w') (hJ : w'.cell? ⟨J, 0, none⟩ = some (me J)) => join_two b off c J A B w' hc (by omega) sA sB (hl.bel hb) hJ)
  clear hl hn
  go_enter_defers Try.func19, Try.ntmps19
  go_wp2_with fail
  with_reducible refine (K.out _ _ ?h1 ?h2).mono ?_
  case h1 => exact (((Bel.refl w).alloc _ _).alloc _ _).alloc _ _
  case h2 => simp [go_sem]
  rintro e w1 ⟨⟨p, k, rfl, hk, hp⟩, hb⟩
  have y0 : w1.cell? ⟨w.heap.size, 0, none⟩ = some (.slice none 0 0) := hb.cell (by simp [go_sem])
  have y1 : w1.cell? ⟨w.heap.size + 1, 0, none⟩ = some (.int .i64 0) := hb.cell (by simp [go_sem])
  have f0 : w1.frozen? ⟨w.heap.size, 0, none⟩ = false := hb.froz (v := .slice none 0 0) (by simp [go_sem]) (by simp [go_sem])
  have f1 : w1.frozen? ⟨w.heap.size + 1, 0, none⟩ = false := hb.froz (v := .int .i64 0) (by simp [go_sem]) (by simp [go_sem])
  have hsl : (mrg A B).length = n := by rw [mrg_len, HN.out]
  rw [hsl] at hk ⊢
  have HB : Hid (Bel w w1) := Lib.hid (((((Bel.refl w).alloc _ _).alloc _ _).alloc _ _).trans hb)
  have HP : Hid (Lies (old w) ((w1.setCell ⟨w.heap.size, 0, none⟩ (.slice p n k)).setCell ⟨w.heap.size + 1, 0, none⟩ (.int .i64 0)) p (encs (mrg A B))) := Lib.hid (by
    have o : Off (fun j => j = w.heap.size ∨ j = w.heap.size + 1) w1 ((w1.setCell ⟨w.heap.size, 0, none⟩ (.slice p n k)).setCell ⟨w.heap.size + 1, 0, none⟩ (.int .i64 0)) := Off.setCell (p := ⟨w.heap.size + 1, 0, none⟩) (Off.setCell (p := ⟨w.heap.size, 0, none⟩) (Off.refl _ _) (.inl (.inl rfl)) _) (.inl (.inr rfl)) _
    refine (hp.off o (fun j e => ?_)).mono (fun b _ e => ?_)
    · unfold old
      simp
      omega
    · unfold old at e ⊢
      simp
      omega)
  clear hb hp hsl
  go_wp2
  refine leaves_cons (f := 40) (args := #[.pointer (some ⟨w.heap.size, 0, none⟩), .pointer (some ⟨w.heap.size + 1, 0, none⟩)]) (by simp) (by simp [go_sem]) ?_
  refine (catch_idle w.heap.size _).mono ?_
  rintro e u' w'' ⟨rfl, rfl, rfl⟩
  have z0 : ((w1.setCell ⟨w.heap.size, 0, none⟩ (.slice p n k)).setCell ⟨w.heap.size + 1, 0, none⟩ (.int .i64 0)).cell? ⟨w.heap.size, 0, none⟩ = some (.slice p n k) := by simp [go_sem, y0]
  have z1 : ((w1.setCell ⟨w.heap.size, 0, none⟩ (.slice p n k)).setCell ⟨w.heap.size + 1, 0, none⟩ (.int .i64 0)).cell? ⟨w.heap.size + 1, 0, none⟩ = some (.int .i64 0) := by simp [go_sem, y1]
  have HB2 : Bel w ((w1.setCell ⟨w.heap.size, 0, none⟩ (.slice p n k)).setCell ⟨w.heap.size + 1, 0, none⟩ (.int .i64 0)) := (HB.out.setCell (by simp) _).setCell (by simp) _
  generalize (w1.setCell ⟨w.heap.size, 0, none⟩ (.slice p n k)).setCell ⟨w.heap.size + 1, 0, none⟩ (.int .i64 0) = W at *
  simp [Leaves, settle, results, Try.results19, go_sem, z0, z1]
  exact ⟨⟨p, k, ⟨rfl, rfl⟩, hk, HP.out⟩, HB2⟩
end Go.Proofs.Ytdlfppdekllloaa
