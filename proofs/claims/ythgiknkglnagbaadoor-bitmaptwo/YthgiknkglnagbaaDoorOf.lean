/-
  Contracts of bitmap.Of and of the document's Of.
-/
import Derived.Test.YthgiknkglnagbaaDoorWords
import Derived.Deep.RegionWith
namespace Go.Proofs.YthgiknkglnagbaaDoor
open Go.RowKit

/-- Just the first n of L. -/
def ofw (L : Nat → Int) : Nat → (Nat → Nat)
  | 0 => fun _ => 0
  | n + 1 => pti (ofw L n) (L n)
theorem ofw_wd (L : Nat → Int) : ∀ n, Wd (ofw L n)
  | 0 => fun _ => (by decide : 0 < 18446744073709551616)
  | n + 1 => pti_wd (ofw_wd L n) _
/-- Numbers in a row of memory. -/
def Ints (W : World) (a : Option Addr) (n : Nat) (L : Nat → Int) : Prop :=
  n = 0 ∨ ∃ b off, a = some ⟨b, off, none⟩ ∧ ∀ i, i < n → W.cell? ⟨b, off + i, none⟩ = some (.int .i64 (L i))
theorem Ints.bel {w w' : World} {a : Option Addr} {n : Nat} {L : Nat → Int} (h : Ints w a n L) (k : Bel w w') : Ints w' a n L := by
  rcases h with h | ⟨b, off, e, hc⟩
  · exact .inl h
  · exact .inr ⟨b, off, e, fun i hi => k.cell (hc i hi)⟩
/-- What holds at each round's head. -/
def OfAt (w : World) (L : Nat → Int) (k : Nat) (wr : World) : Prop :=
  Bel w wr ∧ Box wr w.heap.size 0 0 0 0 ∧ Box wr (w.heap.size + 1) (ofw L k 0) (ofw L k 1) (ofw L k 2) (ofw L k 3)
theorem box4 {w : World} {b : Nat} {x0 x1 x2 x3 : Int} (h : Box w b x0 x1 x2 x3) (y0 y1 y2 y3 : Int) :
    Box ((((w.setCell ⟨b, 0, none⟩ (.int .u64 y0)).setCell ⟨b, 1, none⟩ (.int .u64 y1)).setCell ⟨b, 2, none⟩ (.int .u64 y2)).setCell ⟨b, 3, none⟩ (.int .u64 y3)) b y0 y1 y2 y3 :=
  (((h.put0 y0).put1 y1).put2 y2).put3 y3
theorem of_start (L : Nat → Int) (w : World) : OfAt w L 0 ((w.alloc (.cells #[.int .u64 0, .int .u64 0, .int .u64 0, .int .u64 0] 24)).alloc (.cells #[.int .u64 0, .int .u64 0, .int .u64 0, .int .u64 0] 24)) := by
  refine ⟨((Bel.refl _).alloc _ _).alloc _ _, (Box.new _ _ _ _ _ _).alloc _ _, ?_⟩
  have := Box.new (w.alloc (.cells #[.int .u64 0, .int .u64 0, .int .u64 0, .int .u64 0] 24)) 0 0 0 0 24
  simp only [World.size_alloc] at this
  exact this
set_option maxHeartbeats 1000000 in
theorem of_any (a : Option Addr) (n cap : Nat) (hn : n ≤ 300) (L : Nat → Int) (w : World) (hI : Ints w a n L) :
    Calls Tryd.prog 19 #[.slice a n cap] w fun e w' => e = .returned (.agg #[.int .u64 (ofw L n 0), .int .u64 (ofw L n 1), .int .u64 (ofw L n 2), .int .u64 (ofw L n 3)]) ∧ Bel w w' := by
  have HI := Lib.hid hI
  clear hI
  go_enter Tryd.func19, Tryd.ntmps19
  go_wp2
  go_loopw [8] (fun i wr => ∃ k : Nat, k ≤ n ∧ i = .int .i64 k ∧ OfAt w L k wr) (fun i _ => n - (intOf i).toNat)
  case atStart => exact ⟨0, by omega, rfl, of_start L w⟩
  case round =>
    obtain ⟨k, hk, rfl, hg, b0, b1⟩ := hrel
    have G := Lib.hid hg
    have B0 := Lib.hid b0
    clear hg
    by_cases hlt : k < n
    · obtain ⟨b, off, ha, hc⟩ : ∃ b off, a = some ⟨b, off, none⟩ ∧ wr.cell? ⟨b, off + k, none⟩ = some (.int .i64 (L k)) := by
        rcases HI.out.bel G.out with h | ⟨b, off, e, hc⟩
        · omega
        · exact ⟨b, off, e, hc k hlt⟩
      subst ha
      have K := Lib.hid (put_any (ofw L k) (ofw_wd L k) (L k))
      have B1 := Lib.hid b1
      obtain ⟨⟨c0, c1, c2, c3⟩, e0, e1, e2, e3⟩ := b1
      clear b0
      go_wp2_with fail
      with_reducible refine (K.out _).mono ?_
      rintro e w1 ⟨rfl, hb⟩
      have b1 := B1.out.bel hb
      have B1' := Lib.hid b1
      have B0' := Lib.hid (B0.out.bel hb)
      have G' := Lib.hid (G.out.trans hb)
      obtain ⟨⟨d0, d1, d2, d3⟩, f0, f1, f2, f3⟩ := b1
      clear B1 B0 G c0 c1 c2 c3 e0 e1 e2 e3 hb K hc
      go_wp2
      go_roundw
      case rel =>
        refine ⟨k + 1, by omega, by go_num, (((G'.out.setCell (by simp) _).setCell (by simp) _).setCell (by simp) _).setCell (by simp) _, (((B0'.out.set (by simp) _).set (by simp) _).set (by simp) _).set (by simp) _, ?_⟩
        exact box4 B1'.out _ _ _ _
      case measure => simp [intOf]; omega
    · obtain rfl : k = n := by omega
      obtain ⟨⟨c0, c1, c2, c3⟩, e0, e1, e2, e3⟩ := b1
      obtain ⟨⟨g0, g1, g2, g3⟩, f0, f1, f2, f3⟩ := b0
      go_wp2
      refine bodyPost_ret (v := .agg #[.int .u64 (ofw L k 0), .int .u64 (ofw L k 1), .int .u64 (ofw L k 2), .int .u64 (ofw L k 3)]) (by simp [results, Tryd.results19, go_sem, g0, g1, g2, g3]) rfl ⟨rfl, ?_⟩
      exact (((G.out.setCell (by simp) _).setCell (by simp) _).setCell (by simp) _).setCell (by simp) _
set_option maxHeartbeats 1000000 in
theorem rof_any (a : Option Addr) (n cap : Nat) (hn : n ≤ 300) (L : Nat → Int) (w : World) (hI : Ints w a n L) :
    Calls Tryd.prog 15 #[.slice a n cap] w fun e w' => e = .returned (.agg #[.int .u64 (ofw L n 0), .int .u64 (ofw L n 1), .int .u64 (ofw L n 2), .int .u64 (ofw L n 3)]) ∧ Bel w w' := by
  have HI := Lib.hid hI
  clear hI
  go_enter Tryd.func15, Tryd.ntmps15
  go_wp2
  go_loopw [4] (fun i wr => ∃ k : Nat, k ≤ n ∧ i = .int .i64 k ∧ OfAt w L k wr) (fun i _ => n - (intOf i).toNat)
  case atStart => exact ⟨0, by omega, rfl, of_start L w⟩
  case round =>
    obtain ⟨k, hk, rfl, hg, b0, b1⟩ := hrel
    have G := Lib.hid hg
    have B0 := Lib.hid b0
    clear hg
    by_cases hlt : k < n
    · obtain ⟨b, off, ha, hc⟩ : ∃ b off, a = some ⟨b, off, none⟩ ∧ wr.cell? ⟨b, off + k, none⟩ = some (.int .i64 (L k)) := by
        rcases HI.out.bel G.out with h | ⟨b, off, e, hc⟩
        · omega
        · exact ⟨b, off, e, hc k hlt⟩
      subst ha
      have K := Lib.hid (rput_any_true (ofw L k) (ofw_wd L k) (L k))
      have B1 := Lib.hid b1
      obtain ⟨⟨c0, c1, c2, c3⟩, e0, e1, e2, e3⟩ := b1
      clear b0
      go_wp2
      go_region_with (go_at_call 10; (with_reducible refine (K.out _).mono ?_); rintro e w1 ⟨rfl, hb⟩; have b1 := B1.out.drew.bel hb; obtain ⟨⟨d0, d1, d2, d3⟩, f0, f1, f2, f3⟩ := b1)
      all_goals
        have B1' := Lib.hid (B1.out.drew.bel hb)
        have B0' := Lib.hid (B0.out.drew.bel hb)
        have G' := Lib.hid (G.out.drew.trans hb)
        clear B1 B0 G c0 c1 c2 c3 e0 e1 e2 e3 hb K hc d0 d1 d2 d3 f0 f1 f2 f3
        go_wp2
        go_roundw
        case rel =>
          refine ⟨k + 1, by omega, by go_num, (((G'.out.setCell (by simp) _).setCell (by simp) _).setCell (by simp) _).setCell (by simp) _, (((B0'.out.set (by simp) _).set (by simp) _).set (by simp) _).set (by simp) _, ?_⟩
          exact box4 B1'.out _ _ _ _
        case measure => simp [intOf]; omega
    · obtain rfl : k = n := by omega
      obtain ⟨⟨c0, c1, c2, c3⟩, e0, e1, e2, e3⟩ := b1
      obtain ⟨⟨g0, g1, g2, g3⟩, f0, f1, f2, f3⟩ := b0
      go_wp2
      refine bodyPost_ret (v := .agg #[.int .u64 (ofw L k 0), .int .u64 (ofw L k 1), .int .u64 (ofw L k 2), .int .u64 (ofw L k 3)]) (by simp [results, Tryd.results15, go_sem, g0, g1, g2, g3]) rfl ⟨rfl, ?_⟩
      exact (((G.out.setCell (by simp) _).setCell (by simp) _).setCell (by simp) _).setCell (by simp) _
end Go.Proofs.YthgiknkglnagbaaDoor
