/-
  The walk of TickFirst: whatever timers it is given, the law returns true and turns nothing that was there.
-/
import Derived.Test.YtpehmmgdcjlfkaaLawOrder
namespace Go.Proofs.Ytpehmmgdcjlfkaa
open Go.RowKit

theorem fr_first (A S P : Nat → Int) : ∀ k : Nat, (1 ≤ k → fr A S P k < k) ∧ (k = 0 → fr A S P k = 0) ∧ ∀ i, i < k → tcmp (A i) (S i) (P i) (A (fr A S P k)) (S (fr A S P k)) (P (fr A S P k)) ≠ -1
  | 0 => ⟨by omega, fun _ => rfl, by omega⟩
  | k + 1 => by
    obtain ⟨h1, h2, h3⟩ := fr_first A S P k
    obtain ⟨m, hm⟩ : ∃ m, fr A S P k = m := ⟨_, rfl⟩
    rw [hm] at h1 h2 h3
    by_cases hc : tcmp (A k) (S k) (P k) (A m) (S m) (P m) < 0
    · rw [fr_yes A S P k m hm hc]
      refine ⟨by omega, by omega, fun i hi => ?_⟩
      have q1 := tcmp_cases (A k) (S k) (P k) (A m) (S m) (P m)
      have q2 := tcmp_cases (A i) (S i) (P i) (A k) (S k) (P k)
      have q3 := tcmp_cases (A i) (S i) (P i) (A m) (S m) (P m)
      by_cases hik : i < k
      · have := h3 i hik
        omega
      · obtain rfl : i = k := by omega
        omega
    · rw [fr_no A S P k m hm hc]
      refine ⟨by omega, by omega, fun i hi => ?_⟩
      by_cases hik : i < k
      · exact h3 i hik
      · obtain rfl : i = k := by omega
        omega
theorem eql_no (a1 s1 p1 a2 s2 p2 : Int) (h : ¬ (a1 = a2 ∧ s1 = s2 ∧ p1 = p2)) (w : World) :
   (binOp .eql 33 (.agg #[.int .u64 a1, .int .u64 s1, .int .i64 p1]) (.agg #[.int .u64 a2, .int .u64 s2, .int .i64 p2])).run Try.prog w = .ok (.bool false) w := by
  by_cases ha : a1 = a2
  · subst ha
    by_cases hs : s1 = s2
    · subst hs
      have hp : p1 ≠ p2 := fun e => h ⟨rfl, rfl, e⟩
      simp [go_sem, hp]
    · simp [go_sem, hs]
  · simp [go_sem, ha]
theorem eql_yes (a1 s1 p1 a2 s2 p2 : Int) (h : a1 = a2 ∧ s1 = s2 ∧ p1 = p2) (w : World) :
   (binOp .eql 33 (.agg #[.int .u64 a1, .int .u64 s1, .int .i64 p1]) (.agg #[.int .u64 a2, .int .u64 s2, .int .i64 p2])).run Try.prog w = .ok (.bool true) w := by
  obtain ⟨rfl, rfl, rfl⟩ := h
  simp [go_sem]
/-- More timers than the law asks about. -/
theorem first_long (a : Option Addr) (n cap : Nat) (h : 60 < n) (w : World) :
    Calls Try.prog 8 #[.slice a n cap] w fun e w' => e = .returned (.bool true) ∧ Grew w w' := by
  have h' : (60 : Int) < n := by omega
  go_enter Try.func8, Try.ntmps8
  go_wp2_with fail
  with_reducible refine (works_any _).mono ?_
  rintro e w1 ⟨rfl, hg⟩
  go_wp2
  go_ret
  exact ⟨rfl, hg⟩
/-- No timers. -/
theorem first_empty (a : Option Addr) (cap : Nat) (w : World) :
    Calls Try.prog 8 #[.slice a 0 cap] w fun e w' => e = .returned (.bool true) ∧ Grew w w' := by
  go_enter Try.func8, Try.ntmps8
  go_wp2_with fail
  with_reducible refine (works_any _).mono ?_
  rintro e w1 ⟨rfl, hg⟩
  go_wp2_with fail
  with_reducible refine (first_none cap _ a).mono ?_
  rintro e w2 ⟨rfl, hg2⟩
  go_wp2
  go_ret
  exact ⟨rfl, (hg.trans hg2).alloc _ _⟩
/-- What holds at each round's head. -/
def LoopAt (w : World) (N : Nat) (a s p : Int) (wr : World) : Prop :=
  Grew w wr ∧ wr.cell? ⟨N, 0, none⟩ = some (.int .u64 a) ∧ wr.cell? ⟨N, 1, none⟩ = some (.int .u64 s) ∧ wr.cell? ⟨N, 2, none⟩ = some (.int .i64 p)
set_option maxHeartbeats 1000000 in
theorem first_list (b off n cap : Nat) (A S P : Nat → Int) (w : World) (hn : 1 ≤ n) (hm : n ≤ 60)
    (hA : ∀ i, i < n → w.cell? ⟨b, off + i * 3, none⟩ = some (.int .u64 (A i))) (hS : ∀ i, i < n → w.cell? ⟨b, off + i * 3 + 1, none⟩ = some (.int .u64 (S i))) (hP : ∀ i, i < n → w.cell? ⟨b, off + i * 3 + 2, none⟩ = some (.int .i64 (P i))) :
    Calls Try.prog 8 #[.slice (some ⟨b, off, none⟩) n cap] w fun e w' => e = .returned (.bool true) ∧ Grew w w' := by
  have h0 : ((n : Int) == 0) = false := by simp; omega
  have h60 : ¬ (60 : Int) < n := by omega
  have HA := Lib.hid hA
  have HS := Lib.hid hS
  have HP := Lib.hid hP
  have KF : Hid (∀ w1, Grew w w1 → Calls Try.prog 22 #[.slice (some ⟨b, off, none⟩) n cap] w1 fun e w' =>
      e = .returned (.tuple #[.agg #[.int .u64 (A (fr A S P n)), .int .u64 (S (fr A S P n)), .int .i64 (P (fr A S P n))], .bool true]) ∧ Grew w1 w') :=
    Lib.hid fun w1 hg => first_some b off n cap A S P w1 hn hm (fun i hi => cell_later hg.2 (hA i hi)) (fun i hi => cell_later hg.2 (hS i hi)) (fun i hi => cell_later hg.2 (hP i hi))
  obtain ⟨q1, _, q2⟩ := fr_first A S P n
  obtain ⟨m, hmm⟩ : ∃ m, fr A S P n = m := ⟨_, rfl⟩
  rw [hmm] at KF q1 q2
  have hmn : m < n := q1 hn
  have KB : Hid (∀ k, k < n → ∀ w, Calls Try.prog 23 #[.agg #[.int .u64 (A k), .int .u64 (S k), .int .i64 (P k)], .agg #[.int .u64 (A m), .int .u64 (S m), .int .i64 (P m)]] w fun e w' => e = .returned (.bool false) ∧ Grew w w') :=
    Lib.hid fun k hk w => by
      have := before_any (A k) (S k) (P k) (A m) (S m) (P m) w
      have e : bf (A k) (S k) (P k) (A m) (S m) (P m) = false := decide_eq_false (q2 k hk)
      rw [e] at this
      exact this
  clear q1 q2 hmm hA hS hP
  go_enter Try.func8, Try.ntmps8
  go_wp2_with fail
  with_reducible refine (works_any _).mono ?_
  rintro e w1 ⟨rfl, hg⟩
  have HG := Lib.hid hg
  clear hg
  go_wp2_with fail
  with_reducible refine (KF.out _ HG.out).mono ?_
  rintro e w2 ⟨rfl, hg2⟩
  have HG2 := Lib.hid (HG.out.trans hg2)
  clear hg2 HG
  go_wp2
  go_loopw [6, 7] (fun t i wr => ∃ (k : Nat) (u : Bool), k ≤ n ∧ i = .int .i64 k ∧ t = .bool u ∧ (m < k → u = true) ∧ LoopAt w w2.heap.size (A m) (S m) (P m) wr) (fun _ i _ => n - (intOf i).toNat)
  case atStart => exact ⟨0, false, by omega, rfl, rfl, by omega, HG2.out.alloc _ _, by simp [go_sem], by simp [go_sem], by simp [go_sem]⟩
  case round =>
    obtain ⟨k, u, hk, rfl, rfl, hu, hg, f0, f1, f2⟩ := hrel
    have HU := Lib.hid hu
    clear hu HG2
    by_cases hlt : k < n
    · have ak := cell_later hg.2 (HA.out k hlt)
      have sk := cell_later hg.2 (HS.out k hlt)
      have pk := cell_later hg.2 (HP.out k hlt)
      have G := Lib.hid hg
      clear hg
      cases u
      · by_cases he : A k = A m ∧ S k = S m ∧ P k = P m
        · have hE := eql_yes (A k) (S k) (P k) (A m) (S m) (P m) he
          clear he HU
          go_wp2
          go_quiet (fail)
          go_wp2
          go_region_held3 (fun w' => w'.cell? ⟨b, off + k * 3, none⟩ = some (.int .u64 (A k)) ∧ w'.cell? ⟨b, off + k * 3 + 1, none⟩ = some (.int .u64 (S k)) ∧ w'.cell? ⟨b, off + k * 3 + 2, none⟩ = some (.int .i64 (P k)) ∧
              w'.cell? ⟨w2.heap.size, 0, none⟩ = some (.int .u64 (A m)) ∧ w'.cell? ⟨w2.heap.size, 1, none⟩ = some (.int .u64 (S m)) ∧ w'.cell? ⟨w2.heap.size, 2, none⟩ = some (.int .i64 (P m))) (first | exact ⟨ak, sk, pk, f0, f1, f2⟩ | exact ⟨cell_later hg1.2 ak, cell_later hg1.2 sk, cell_later hg1.2 pk, cell_later hg1.2 f0, cell_later hg1.2 f1, cell_later hg1.2 f2⟩)
            (first | (go_at_call 23; (with_reducible refine (KB.out k hlt _).mono ?_); rintro e w1 ⟨rfl, hg1⟩))
          rename_i hheld
          have G2 := Lib.hid (G.out.trans (((Grew.refl wr).drewN nq).drew.trans hg1))
          obtain ⟨_, _, _, g0, g1, g2⟩ := hheld
          clear hg1 G ak sk pk f0 f1 f2
          go_wp2
          go_roundw
          case rel => exact ⟨k + 1, true, by omega, by go_num, rfl, fun _ => rfl, G2.out, g0, g1, g2⟩
          case measure => simp [intOf]; omega
        · have hE := eql_no (A k) (S k) (P k) (A m) (S m) (P m) he
          have HR : Hid (m < k + 1 → false = true) := Lib.hid (fun h => by
            by_cases h' : m < k
            · exact HU.out h'
            · obtain rfl : m = k := by omega
              exact absurd ⟨rfl, rfl, rfl⟩ he)
          clear he HU
          go_wp2
          go_quiet (fail)
          go_wp2
          go_region_held3 (fun w' => w'.cell? ⟨b, off + k * 3, none⟩ = some (.int .u64 (A k)) ∧ w'.cell? ⟨b, off + k * 3 + 1, none⟩ = some (.int .u64 (S k)) ∧ w'.cell? ⟨b, off + k * 3 + 2, none⟩ = some (.int .i64 (P k)) ∧
              w'.cell? ⟨w2.heap.size, 0, none⟩ = some (.int .u64 (A m)) ∧ w'.cell? ⟨w2.heap.size, 1, none⟩ = some (.int .u64 (S m)) ∧ w'.cell? ⟨w2.heap.size, 2, none⟩ = some (.int .i64 (P m))) (first | exact ⟨ak, sk, pk, f0, f1, f2⟩ | exact ⟨cell_later hg1.2 ak, cell_later hg1.2 sk, cell_later hg1.2 pk, cell_later hg1.2 f0, cell_later hg1.2 f1, cell_later hg1.2 f2⟩)
            (first | (go_at_call 23; (with_reducible refine (KB.out k hlt _).mono ?_); rintro e w1 ⟨rfl, hg1⟩))
          rename_i hheld
          have G2 := Lib.hid (G.out.trans (((Grew.refl wr).drewN nq).drew.trans hg1))
          obtain ⟨_, _, _, g0, g1, g2⟩ := hheld
          clear hg1 G ak sk pk f0 f1 f2
          go_wp2
          go_roundw
          case rel => exact ⟨k + 1, false, by omega, by go_num, rfl, HR.out, G2.out, g0, g1, g2⟩
          case measure => simp [intOf]; omega
      · clear HU
        go_wp2
        go_quiet (fail)
        go_wp2
        go_region_held3 (fun w' => w'.cell? ⟨b, off + k * 3, none⟩ = some (.int .u64 (A k)) ∧ w'.cell? ⟨b, off + k * 3 + 1, none⟩ = some (.int .u64 (S k)) ∧ w'.cell? ⟨b, off + k * 3 + 2, none⟩ = some (.int .i64 (P k)) ∧
            w'.cell? ⟨w2.heap.size, 0, none⟩ = some (.int .u64 (A m)) ∧ w'.cell? ⟨w2.heap.size, 1, none⟩ = some (.int .u64 (S m)) ∧ w'.cell? ⟨w2.heap.size, 2, none⟩ = some (.int .i64 (P m))) (first | exact ⟨ak, sk, pk, f0, f1, f2⟩ | exact ⟨cell_later hg1.2 ak, cell_later hg1.2 sk, cell_later hg1.2 pk, cell_later hg1.2 f0, cell_later hg1.2 f1, cell_later hg1.2 f2⟩)
          (first | (go_at_call 23; (with_reducible refine (KB.out k hlt _).mono ?_); rintro e w1 ⟨rfl, hg1⟩))
        rename_i hheld
        have G2 := Lib.hid (G.out.trans (((Grew.refl wr).drewN nq).drew.trans hg1))
        obtain ⟨_, _, _, g0, g1, g2⟩ := hheld
        clear hg1 G ak sk pk f0 f1 f2
        go_wp2
        go_roundw
        case rel => exact ⟨k + 1, true, by omega, by go_num, rfl, fun _ => rfl, G2.out, g0, g1, g2⟩
        case measure => simp [intOf]; omega
    · have G := Lib.hid hg
      clear hg
      have hu : u = true := HU.out (by omega)
      subst hu
      go_wp2
      go_ret
      exact ⟨rfl, G.out⟩
end Go.Proofs.Ytpehmmgdcjlfkaa
