/-
  Contracts of tick.First: of no timers, and of n timers in a row of memory.
-/
import Derived.Test.YtpehmmgdcjlfkaaCmp
namespace Go.Proofs.Ytpehmmgdcjlfkaa
open Go.RowKit
theorem first_none (cap : Nat) (w : World) (a : Option Addr) :
    Calls Try.prog 22 #[.slice a 0 cap] w fun e w' => e = .returned (.tuple #[.agg #[.int .u64 0, .int .u64 0, .int .i64 0], .bool false]) ∧ Grew w w' := by
  go_enter Try.func22, Try.ntmps22
  go_wp2
  exact bodyPost_ret (v := .tuple #[.agg #[.int .u64 0, .int .u64 0, .int .i64 0], .bool false]) (by simp [results, Try.results22, go_sem]) rfl ⟨rfl, (Grew.refl _).alloc _ _⟩
/-- Of the first k timers, which one is first. -/
def fr (A S P : Nat → Int) : Nat → Nat
  | 0 => 0
  | k + 1 => if tcmp (A k) (S k) (P k) (A (fr A S P k)) (S (fr A S P k)) (P (fr A S P k)) < 0 then k else fr A S P k
theorem fr_yes (A S P : Nat → Int) (k m : Nat) (hm : fr A S P k = m) (h : tcmp (A k) (S k) (P k) (A m) (S m) (P m) < 0) : fr A S P (k + 1) = k := by
  subst hm; rw [fr, if_pos h]
theorem fr_no (A S P : Nat → Int) (k m : Nat) (hm : fr A S P k = m) (h : ¬ tcmp (A k) (S k) (P k) (A m) (S m) (P m) < 0) : fr A S P (k + 1) = m := by
  subst hm; rw [fr, if_neg h]
/-- What holds at each round's head: the block of the first one holds the first of the first k. -/
def FirstAt (w : World) (A S P : Nat → Int) (k : Nat) (wr : World) : Prop :=
  Grew w wr ∧ w.heap.size + 2 ≤ wr.heap.size ∧
    (wr.cell? ⟨w.heap.size + 1, 0, none⟩ = some (.int .u64 (A (fr A S P k))) ∧ wr.cell? ⟨w.heap.size + 1, 1, none⟩ = some (.int .u64 (S (fr A S P k))) ∧ wr.cell? ⟨w.heap.size + 1, 2, none⟩ = some (.int .i64 (P (fr A S P k)))) ∧
    (wr.cell? ⟨w.heap.size, 0, none⟩ = some (.int .u64 0) ∧ wr.cell? ⟨w.heap.size, 1, none⟩ = some (.int .u64 0) ∧ wr.cell? ⟨w.heap.size, 2, none⟩ = some (.int .i64 0))
theorem first_some (b off n cap : Nat) (A S P : Nat → Int) (w : World) (hn : 1 ≤ n) (hm : n ≤ 60)
    (hA : ∀ i, i < n → w.cell? ⟨b, off + i * 3, none⟩ = some (.int .u64 (A i))) (hS : ∀ i, i < n → w.cell? ⟨b, off + i * 3 + 1, none⟩ = some (.int .u64 (S i))) (hP : ∀ i, i < n → w.cell? ⟨b, off + i * 3 + 2, none⟩ = some (.int .i64 (P i))) :
    Calls Try.prog 22 #[.slice (some ⟨b, off, none⟩) n cap] w fun e w' =>
      e = .returned (.tuple #[.agg #[.int .u64 (A (fr A S P n)), .int .u64 (S (fr A S P n)), .int .i64 (P (fr A S P n))], .bool true]) ∧ Grew w w' := by
  have h0 : ((n : Int) == 0) = false := by simp; omega
  have a0 := hA 0 (by omega)
  have s0 := hS 0 (by omega)
  have p0 := hP 0 (by omega)
  simp only [Nat.zero_mul, Nat.add_zero] at a0 s0 p0
  have hb : b < w.heap.size := World.block_lt_of_cell? w _ a0
  have HA := Lib.hid hA
  have HS := Lib.hid hS
  have HP := Lib.hid hP
  clear hA hS hP
  go_enter Try.func22, Try.ntmps22
  go_wp2
  clear a0 s0 p0
  go_loopw [15] (fun i wr => ∃ k : Nat, k ≤ n ∧ i = .int .i64 k ∧ FirstAt w A S P k wr) (fun i _ => n - (intOf i).toNat)
  case atStart => exact ⟨0, by omega, rfl, (((Grew.refl _).alloc _ _).alloc _ _), by simp, by simp [go_sem, fr], by simp [go_sem]⟩
  case round =>
    obtain ⟨k, hk, rfl, hg, hz, hf, hr⟩ := hrel
    obtain ⟨m, hm'⟩ : ∃ m, fr A S P k = m := ⟨_, rfl⟩
    rw [hm'] at hf
    obtain ⟨f0, f1, f2⟩ := hf
    obtain ⟨r0, r1, r2⟩ := hr
    have HM := Lib.hid hm'
    clear hm'
    by_cases hlt : k < n
    · have ak := cell_later hg.2 (HA.out k hlt)
      have sk := cell_later hg.2 (HS.out k hlt)
      have pk := cell_later hg.2 (HP.out k hlt)
      by_cases hc : tcmp (A k) (S k) (P k) (A m) (S m) (P m) < 0
      · go_wp2
        go_region_held3 (fun w' => w'.cell? ⟨b, off + k * 3, none⟩ = some (.int .u64 (A k)) ∧ w'.cell? ⟨b, off + k * 3 + 1, none⟩ = some (.int .u64 (S k)) ∧ w'.cell? ⟨b, off + k * 3 + 2, none⟩ = some (.int .i64 (P k)) ∧
            w'.cell? ⟨w.heap.size + 1, 0, none⟩ = some (.int .u64 (A m)) ∧ w'.cell? ⟨w.heap.size + 1, 1, none⟩ = some (.int .u64 (S m)) ∧ w'.cell? ⟨w.heap.size + 1, 2, none⟩ = some (.int .i64 (P m))) (first | exact ⟨ak, sk, pk, f0, f1, f2⟩ | exact ⟨cell_later hg1.2 ak, cell_later hg1.2 sk, cell_later hg1.2 pk, cell_later hg1.2 f0, cell_later hg1.2 f1, cell_later hg1.2 f2⟩)
          (first | (go_at_call 20; refine (compare_any _ _ _ _ _ _ _).mono ?_; rintro e w1 ⟨rfl, hg1⟩))
        rename_i hheld
        obtain ⟨ak1, sk1, pk1, g0, g1, g2⟩ := hheld
        have q0 := cell_later hg1.2 r0
        have q1 := cell_later hg1.2 r1
        have q2 := cell_later hg1.2 r2
        have hg2 := Lib.hid (hg.trans ((Grew.refl wr).drew.trans hg1))
        have z1 : w.heap.size + 2 ≤ w1.heap.size := Nat.le_trans hz hg1.2.size
        have fz : ∀ j, w1.frozen? ⟨w.heap.size + 1, j, none⟩ = false := fun j => by rw [hg2.out.1.2.1]; simp [World.frozen?]
        have fz0 := fz 0
        have fz1 := fz 1
        have fz2 := fz 2
        clear fz hg1 hg ak sk pk f0 f1 f2 r0 r1 r2 hz
        go_wp2
        go_roundw
        case rel =>
          refine ⟨k + 1, by omega, by go_num, ((hg2.out.setCell (by simp) _).setCell (by simp) _).setCell (by simp) _, by simpa [World.setCell] using z1, ?_, ?_⟩
          · rw [fr_yes A S P k m HM.out (by omega)]
            simp [go_sem, g0, g1, g2]
          · simp [go_sem, q0, q1, q2]
        case measure => simp [intOf]; omega
      · go_wp2
        go_region_held3 (fun w' => w'.cell? ⟨b, off + k * 3, none⟩ = some (.int .u64 (A k)) ∧ w'.cell? ⟨b, off + k * 3 + 1, none⟩ = some (.int .u64 (S k)) ∧ w'.cell? ⟨b, off + k * 3 + 2, none⟩ = some (.int .i64 (P k)) ∧
            w'.cell? ⟨w.heap.size + 1, 0, none⟩ = some (.int .u64 (A m)) ∧ w'.cell? ⟨w.heap.size + 1, 1, none⟩ = some (.int .u64 (S m)) ∧ w'.cell? ⟨w.heap.size + 1, 2, none⟩ = some (.int .i64 (P m))) (first | exact ⟨ak, sk, pk, f0, f1, f2⟩ | exact ⟨cell_later hg1.2 ak, cell_later hg1.2 sk, cell_later hg1.2 pk, cell_later hg1.2 f0, cell_later hg1.2 f1, cell_later hg1.2 f2⟩)
          (first | (go_at_call 20; refine (compare_any _ _ _ _ _ _ _).mono ?_; rintro e w1 ⟨rfl, hg1⟩))
        rename_i hheld
        obtain ⟨ak1, sk1, pk1, g0, g1, g2⟩ := hheld
        have q0 := cell_later hg1.2 r0
        have q1 := cell_later hg1.2 r1
        have q2 := cell_later hg1.2 r2
        have hg2 := Lib.hid (hg.trans ((Grew.refl wr).drew.trans hg1))
        have z1 : w.heap.size + 2 ≤ w1.heap.size := Nat.le_trans hz hg1.2.size
        have fz : ∀ j, w1.frozen? ⟨w.heap.size + 1, j, none⟩ = false := fun j => by rw [hg2.out.1.2.1]; simp [World.frozen?]
        have fz0 := fz 0
        have fz1 := fz 1
        have fz2 := fz 2
        clear fz hg1 hg ak sk pk f0 f1 f2 r0 r1 r2 hz
        go_wp2
        go_roundw
        case rel => exact ⟨k + 1, by omega, by go_num, hg2.out, z1, by rw [fr_no A S P k m HM.out (by omega)]; exact ⟨g0, g1, g2⟩, q0, q1, q2⟩
        case measure => simp [intOf]; omega
    · have fz : ∀ j, wr.frozen? ⟨w.heap.size, j, none⟩ = false := fun j => by rw [hg.1.2.1]; simp [World.frozen?]
      have fz0 := fz 0
      have fz1 := fz 1
      have fz2 := fz 2
      clear fz
      have hkn : k = n := by omega
      have HM2 : Hid (fr A S P n = m) := Lib.hid (by rw [← hkn]; exact HM.out)
      clear hkn
      go_wp2
      refine bodyPost_ret (v := .tuple #[.agg #[.int .u64 (A m), .int .u64 (S m), .int .i64 (P m)], .bool true]) (by simp [results, Try.results22, go_sem, r0, r1, r2]) rfl ⟨by rw [HM2.out], ?_⟩
      exact ((hg.setCell (by simp) _).setCell (by simp) _).setCell (by simp) _
end Go.Proofs.Ytpehmmgdcjlfkaa
