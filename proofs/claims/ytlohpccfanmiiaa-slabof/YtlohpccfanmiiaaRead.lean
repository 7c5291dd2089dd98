/-
  A slab in memory; contracts of the calls that only read it.
-/
import Derived.Test.YtlohpccfanmiiaaFrame
import Derived.Deep.QuietTactic
import Derived.BigQuiet
namespace Go.Proofs.Ytlohpccfanmiiaa
open Go.RowKit
/-- A slab lies at block B, its slices are vt and vf, all within f. -/
structure SlbV (w : World) (B : Nat) (vt vf : Value) (f : Nat → Prop) (S : St) : Prop where
  hB : w.heap[B]? = some (.cells #[.int .i64 S.pl, .int .i64 S.gn, vt, vf] 62 (0, 0))
  ot : w.ownsRow 0 67 2 vt S.tk.length (encP S.tk)
  of : w.ownsRow 0 3 1 vf S.fr.length (encI S.fr)
  dt : vt.ownBlock ≠ some B
  df : vf.ownBlock ≠ some B
  tf : ∀ k, vt.ownBlock = some k → vf.ownBlock ≠ some k
  fB : f B
  ft : ∀ k, vt.ownBlock = some k → f k
  ff : ∀ k, vf.ownBlock = some k → f k
  lt : ∀ k, f k → k < w.heap.size
def Slb (w : World) (B : Nat) (f : Nat → Prop) (S : St) : Prop := ∃ vt vf, SlbV w B vt vf f S
theorem SlbV.off {g : Nat → Prop} {w w' : World} {B : Nat} {vt vf : Value} {f : Nat → Prop} {S : St} (h : SlbV w B vt vf f S) (k : Off g w w') (hg : ∀ k, f k → ¬ g k) : SlbV w' B vt vf f S :=
  ⟨(k.block B (h.lt B h.fB) (hg B h.fB)).trans h.hB, own_off h.ot k (fun i hi => hg i (h.ft i hi)), own_off h.of k (fun i hi => hg i (h.ff i hi)), h.dt, h.df, h.tf, h.fB, h.ft, h.ff, fun i hi => Nat.lt_of_lt_of_le (h.lt i hi) k.size⟩
theorem Slb.off {g : Nat → Prop} {w w' : World} {B : Nat} {f : Nat → Prop} {S : St} (h : Slb w B f S) (k : Off g w w') (hg : ∀ k, f k → ¬ g k) : Slb w' B f S := by
  obtain ⟨vt, vf, h⟩ := h
  exact ⟨vt, vf, h.off k hg⟩
theorem Slb.bel {w w' : World} {B : Nat} {f : Nat → Prop} {S : St} (h : Slb w B f S) (k : Bel w w') : Slb w' B f S := h.off k (fun _ _ e => e)
theorem Slb.lt {w : World} {B : Nat} {f : Nat → Prop} {S : St} (h : Slb w B f S) : ∀ k, f k → k < w.heap.size := by
  obtain ⟨vt, vf, h⟩ := h
  exact h.lt
/-- What is read of a slab. -/
theorem Slb.read {w : World} {B : Nat} {f : Nat → Prop} {S : St} (h : Slb w B f S) : ∃ pt ct pf cf, w.cell? ⟨B, 0, none⟩ = some (.int .i64 S.pl) ∧ w.cell? ⟨B, 1, none⟩ = some (.int .i64 S.gn) ∧
    w.cell? ⟨B, 2, none⟩ = some (.slice pt S.tk.length ct) ∧ w.cell? ⟨B, 3, none⟩ = some (.slice pf S.fr.length cf) ∧ S.tk.length ≤ ct ∧ S.fr.length ≤ cf ∧ Lies nof w pt (encP S.tk) ∧ Lies nof w pf (encI S.fr) := by
  obtain ⟨vt, vf, h⟩ := h
  obtain ⟨pt, ct, rfl, h1, _, h2⟩ := own_slice h.ot nof (fun _ _ e => e)
  obtain ⟨pf, cf, rfl, h3, _, h4⟩ := own_slice h.of nof (fun _ _ e => e)
  refine ⟨pt, ct, pf, cf, ?_, ?_, ?_, ?_, h1, h3, h2, h4⟩ <;> rw [cell_of_row w B _ _ 62 (0, 0) h.hB] <;> rfl
/-- Its lists are no longer than places may be. -/
structure Sm (S : St) : Prop where
  p0 : 0 ≤ S.pl
  p1 : S.pl ≤ 1024
  t1 : S.tk.length ≤ 1024
  f1 : S.fr.length ≤ 1024
/-- Blocks that were there. -/
def old (w : World) : Nat → Prop := fun k => k < w.heap.size
theorem Lies.fresh {w w' : World} {p : Option Addr} {cs : List Value} (h : Lies (old w) w' p cs) {f : Nat → Prop} (hf : ∀ k, f k → k < w.heap.size) : Lies f w' p cs := h.mono (fun b _ e => hf b e)
/-- Is a handle alive? -/
def lv (S : St) (h : Hd) : Bool := decide (0 ≤ h.p) && decide (S.tk[h.p.toNat]? = some ⟨h.g, true⟩)
theorem lv_iff (S : St) (h : Hd) : lv S h = true ↔ ∃ k : Nat, h.p = k ∧ S.tk[k]? = some ⟨h.g, true⟩ := by
  unfold lv
  simp only [Bool.and_eq_true, decide_eq_true_eq]
  constructor
  · intro ⟨h0, h1⟩
    exact ⟨h.p.toNat, by omega, h1⟩
  · rintro ⟨k, h0, h1⟩
    rw [h0]
    exact ⟨by omega, by simpa using h1⟩
def lenS (S : St) : Nat := (S.tk.filter (·.al)).length
theorem lenS_le (S : St) : lenS S ≤ S.tk.length := List.length_filter_le _ _
theorem size_any (B : Nat) (p : Option Addr) (n c : Nat) (w : World) (h : w.cell? ⟨B, 3, none⟩ = some (.slice p n c)) :
    Calls Try.prog 30 #[.pointer (some ⟨B, 3, none⟩)] w fun e w' => e = .returned (.int .i64 n) ∧ w = w' := by
  go_enter Try.func30, Try.ntmps30
  go_wp2
  go_ret
  exact ⟨rfl, rfl⟩
theorem list_any (B : Nat) (p : Option Addr) (n c : Nat) (l : List Int) (w : World) (h : w.cell? ⟨B, 3, none⟩ = some (.slice p n c)) (hn : l.length = n) (hm : n ≤ 1024) (hl : Lies nof w p (encI l)) :
    Calls Try.prog 31 #[.pointer (some ⟨B, 3, none⟩)] w fun e w' => ∃ q k, e = .returned (.slice q n k) ∧ n ≤ k ∧ Lies (old w) w' q (encI l) ∧ Bel w w' := by
  have HL := Lib.hid hl
  have HN : Hid ((encI l).length = n * 1) := Lib.hid (by rw [encI_len, hn])
  clear hl hn
  go_enter Try.func31, Try.ntmps31
  go_wp2_with (at_builtin; refine wpList_append_gen el28 rfl _ _ rfl _ 0 [] rfl (World.ownsRow_nil _ _ _ _) _ _ _ (encI l) rfl HN.out HL.out (encI_one l) (by omega) ?_)
  intro v' w1 hown hgrow hnew
  obtain ⟨q, k, hv, hk, _, hq⟩ := own_slice hown (old w) (fun j hj => by
    rcases hnew j hj with e | e
    · cases e
    · unfold old; omega)
  have HO := Lib.hid hq
  have HB : Hid (Bel w w1) := Lib.hid (Off.grown (Off.refl nof w) hgrow (fun _ e => by cases e))
  clear hown hgrow hnew hq
  rw [hv]
  clear hv
  go_wp2
  go_ret
  exact ⟨q, k, by simp, by omega, by simpa using HO.out, HB.out⟩
theorem left_any (B : Nat) (f : Nat → Prop) (S : St) (w : World) (h : Slb w B f S) (hs : Sm S) :
    Calls Try.prog 18 #[.pointer (some ⟨B, 0, none⟩)] w fun e w' => e = .returned (.int .i64 (S.pl - S.tk.length + S.fr.length)) ∧ ∃ k, w' = w.drewN k := by
  obtain ⟨pt, ct, pf, cf, c0, c1, c2, c3, _, _, _, _⟩ := h.read
  have p0 := hs.p0
  have p1 := hs.p1
  have t1 := hs.t1
  have f1 := hs.f1
  obtain ⟨P, hP⟩ : ∃ P, S.pl = P := ⟨_, rfl⟩
  obtain ⟨n, hn⟩ : ∃ n, S.tk.length = n := ⟨_, rfl⟩
  obtain ⟨m, hm⟩ : ∃ m, S.fr.length = m := ⟨_, rfl⟩
  rw [hP] at p0 p1 c0 ⊢
  rw [hn] at t1 c2 ⊢
  rw [hm] at f1 c3 ⊢
  clear hs h hP hn hm c1
  have w1 : IntKind.i64.wrap (P - n) = P - n := i64_in _ (by omega) (by omega)
  have w2 : IntKind.i64.wrap (P - n + m) = P - n + m := i64_in _ (by omega) (by omega)
  go_enter Try.func18, Try.ntmps18
  go_wp2
  go_quiet ((go_at_call 30; exact Calls.quiet_of_same ((size_any B pf m cf _ (by simpa using c3)).mono (fun _ _ h => ⟨h.1, h.2.symm⟩))))
  go_wp2
  go_ret
  exact ⟨rfl, _, rfl⟩
end Go.Proofs.Ytlohpccfanmiiaa
