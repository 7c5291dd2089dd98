/-
  Contracts of load's calls that tell: tally, Open, Last, Notes, Windows, Total.
-/
import Derived.Test.YtfplmleakgpkiaaFun
set_option linter.unusedVariables false
set_option linter.unusedSimpArgs false
namespace Go.Proofs.Ytfplmleakgpkiaa
open Go.RowKit
/-- Five numbers, as a tally. -/
abbrev five (f : Nat → Int) (o : Nat) : Value := .agg #[.int .i64 (f o), .int .i64 (f (o + 1)), .int .i64 (f (o + 2)), .int .i64 (f (o + 3)), .int .i64 (f (o + 4))]
/-- A tally's block that was just made. -/
theorem box5 {w w1 : World} (hb : Bel (w.alloc (.cells #[.int .i64 0, .int .i64 0, .int .i64 0, .int .i64 0, .int .i64 0] 33)) w1) :
    (w1.cell? ⟨w.heap.size, 0, none⟩ = some (.int .i64 0) ∧ w1.cell? ⟨w.heap.size, 1, none⟩ = some (.int .i64 0) ∧ w1.cell? ⟨w.heap.size, 2, none⟩ = some (.int .i64 0) ∧ w1.cell? ⟨w.heap.size, 3, none⟩ = some (.int .i64 0) ∧ w1.cell? ⟨w.heap.size, 4, none⟩ = some (.int .i64 0)) ∧
    (w1.frozen? ⟨w.heap.size, 0, none⟩ = false ∧ w1.frozen? ⟨w.heap.size, 1, none⟩ = false ∧ w1.frozen? ⟨w.heap.size, 2, none⟩ = false ∧ w1.frozen? ⟨w.heap.size, 3, none⟩ = false ∧ w1.frozen? ⟨w.heap.size, 4, none⟩ = false) ∧ w.heap.size < w1.heap.size := by
  refine ⟨⟨hb.cell (by simp [go_sem]), hb.cell (by simp [go_sem]), hb.cell (by simp [go_sem]), hb.cell (by simp [go_sem]), hb.cell (by simp [go_sem])⟩, ⟨?_, ?_, ?_, ?_, ?_⟩, ?_⟩
  any_goals exact hb.froz (v := .int .i64 0) (by simp [go_sem]) (by simp [go_sem])
  have := Bel.size hb
  simp at this
  omega
theorem tally_any (p o : Nat) (f : Nat → Int) (w : World) (h : Nums w p f) (ho : o ≤ 10) :
    Calls Try.prog 27 #[.pointer (some ⟨p, o, none⟩)] w fun e w' => e = .returned (five f o) ∧ Bel w w' := by
  have H := Lib.hid h
  clear h
  have K : Hid (∀ (j : Int) (i : Nat) w', j = i → i < 5 → Bel w w' → w'.cell? ⟨w.heap.size, 0, none⟩ = some (.pointer (some ⟨p, o, none⟩)) → Calls Try.prog 32 #[.int .i64 j, .pointer (some ⟨w.heap.size, 0, none⟩)] w' fun e w'' => e = .returned (.int .i64 (f (o + i))) ∧ w'' = w') :=
    Lib.hid fun j i w' hj hi hb hc => by subst hj; exact at_any p o i _ f w' (H.out.bel hb) (by omega) hi hc
  obtain ⟨W, hW⟩ : ∃ W, (w.alloc (.cells #[.pointer (some ⟨p, o, none⟩)] 66)).alloc (.cells #[.int .i64 0, .int .i64 0, .int .i64 0, .int .i64 0, .int .i64 0] 33) = W := ⟨_, rfl⟩
  have HB : Hid (Bel w W) := Lib.hid (by rw [← hW]; exact ((Bel.refl w).alloc _ _).alloc _ _)
  have HC : Hid (W.cell? ⟨w.heap.size, 0, none⟩ = some (.pointer (some ⟨p, o, none⟩))) := Lib.hid (by rw [← hW]; simp [go_sem])
  have K0 := Lib.hid (K.out 0 0 W rfl (by decide) HB.out HC.out)
  have K1 := Lib.hid (K.out 1 1 W rfl (by decide) HB.out HC.out)
  have K2 := Lib.hid (K.out 2 2 W rfl (by decide) HB.out HC.out)
  have K3 := Lib.hid (K.out 3 3 W rfl (by decide) HB.out HC.out)
  have K4 := Lib.hid (K.out 4 4 W rfl (by decide) HB.out HC.out)
  clear K H HC
  simp only [Nat.add_zero] at K0
  unfold five
  generalize f o = x0 at *
  generalize f (o + 1) = x1 at *
  generalize f (o + 2) = x2 at *
  generalize f (o + 3) = x3 at *
  generalize f (o + 4) = x4 at *
  subst hW
  go_enter Try.func27, Try.ntmps27
  go_wp2_with fail
  with_reducible refine K0.out.mono ?_
  rintro e w1 ⟨rfl, rfl⟩
  go_wp2_with fail
  with_reducible refine K1.out.mono ?_
  rintro e w1 ⟨rfl, rfl⟩
  go_wp2_with fail
  with_reducible refine K2.out.mono ?_
  rintro e w1 ⟨rfl, rfl⟩
  go_wp2_with fail
  with_reducible refine K3.out.mono ?_
  rintro e w1 ⟨rfl, rfl⟩
  go_wp2_with fail
  with_reducible refine K4.out.mono ?_
  rintro e w1 ⟨rfl, rfl⟩
  go_wp2
  exact bodyPost_ret (v := .agg #[.int .i64 x0, .int .i64 x1, .int .i64 x2, .int .i64 x3, .int .i64 x4]) (by simp [results, Try.results27, go_sem]) rfl ⟨rfl, ((Bel.refl w).alloc _ _).alloc _ _⟩
theorem open_any (p : Nat) (f : Nat → Int) (w : World) (h : Nums w p f) :
    Calls Try.prog 16 #[.pointer (some ⟨p, 0, none⟩)] w fun e w' => e = .returned (five f 1) ∧ Bel w w' := by
  have HB : Hid (Bel w (w.alloc (.cells #[.int .i64 0, .int .i64 0, .int .i64 0, .int .i64 0, .int .i64 0] 33))) := Lib.hid ((Bel.refl w).alloc _ _)
  have K := Lib.hid (tally_any p 1 f _ (h.bel HB.out) (by decide))
  unfold five at *
  generalize f 1 = x0 at *
  generalize f (1 + 1) = x1 at *
  generalize f (1 + 2) = x2 at *
  generalize f (1 + 3) = x3 at *
  generalize f (1 + 4) = x4 at *
  clear h
  go_enter Try.func16, Try.ntmps16
  go_wp2_with fail
  with_reducible refine K.out.mono ?_
  rintro e w1 ⟨rfl, hb⟩
  have HB1 := Lib.hid (HB.out.trans hb)
  obtain ⟨⟨c0, c1, c2, c3, c4⟩, ⟨z0, z1, z2, z3, z4⟩, HS⟩ := box5 hb
  clear hb
  go_wp2
  exact bodyPost_ret (v := .agg #[.int .i64 x0, .int .i64 x1, .int .i64 x2, .int .i64 x3, .int .i64 x4]) (by simp [results, Try.results16, go_sem, c0, c1, c2, c3, c4]) rfl ⟨rfl, by repeat (first | exact HB1.out | refine Bel.setCell ?_ (by simp) _)⟩
theorem notes_any (p : Nat) (f : Nat → Int) (n : Nat) (w : World) (h : Nums w p f) (hn : f 0 = n) (hs : n ≤ 1000000) :
    Calls Try.prog 18 #[.pointer (some ⟨p, 0, none⟩)] w fun e w' => e = .returned (.int .i64 ((n % 32 : Nat) : Int)) ∧ w' = w := by
  have K := load_at w p 0 f h (by decide)
  rw [hn] at K
  have K := Lib.hid K
  have e : (n : Int).tmod 32 = ((n % 32 : Nat) : Int) := by rw [Int.tmod_eq_emod_of_nonneg (by omega)]; omega
  generalize n % 32 = q at *
  clear h hn hs
  go_enter Try.func18, Try.ntmps18
  go_wp2_with fail
  with_reducible refine K.out.mono ?_
  rintro e w1 ⟨rfl, rfl⟩
  go_wp2
  go_ret
  exact ⟨rfl, rfl⟩
theorem windows_any (p : Nat) (f : Nat → Int) (n : Nat) (w : World) (h : Nums w p f) (hn : f 0 = n) (hs : n ≤ 1000000) :
    Calls Try.prog 19 #[.pointer (some ⟨p, 0, none⟩)] w fun e w' => e = .returned (.int .i64 ((n / 32 : Nat) : Int)) ∧ w' = w := by
  have K := load_at w p 0 f h (by decide)
  rw [hn] at K
  have K := Lib.hid K
  have e : (n : Int).tdiv 32 = ((n / 32 : Nat) : Int) := by rw [Int.tdiv_eq_ediv_of_nonneg (by omega)]; omega
  have b0 : (0 : Int) ≤ ((n / 32 : Nat) : Int) := by omega
  have b1 : ((n / 32 : Nat) : Int) < 1000000 := by omega
  generalize n / 32 = q at *
  clear h hn hs
  go_enter Try.func19, Try.ntmps19
  go_wp2_with fail
  with_reducible refine K.out.mono ?_
  rintro e w1 ⟨rfl, rfl⟩
  go_wp2
  go_ret
  exact ⟨by first | rfl | (simp only [*]), rfl⟩
theorem total_yes (p : Nat) (f : Nat → Int) (k : Nat) (w : World) (h : Nums w p f) (hk : k ≤ 3) :
    Calls Try.prog 20 #[.pointer (some ⟨p, 0, none⟩), .int .i64 k] w fun e w' => e = .returned (.int .i64 (f (11 + k))) ∧ w' = w := by
  have K := Lib.hid (load_at w p (11 + k) f h (by omega))
  have K1 := known_any (k : Int) w
  rw [decide_eq_true (show (0 : Int) ≤ k by omega), decide_eq_true (show (k : Int) ≤ 3 by omega)] at K1
  have K1 := Lib.hid K1
  have b0 : (0 : Int) ≤ k := by omega
  have b1 : (k : Int) < 4 := by omega
  generalize f (11 + k) = x at *
  clear h hk
  go_enter Try.func20, Try.ntmps20
  go_wp2_with fail
  with_reducible refine K1.out.mono ?_
  rintro e w1 ⟨rfl, rfl⟩
  go_wp2_with fail
  with_reducible refine K.out.mono ?_
  rintro e w1 ⟨rfl, rfl⟩
  go_wp2
  go_ret
  exact ⟨rfl, rfl⟩
theorem total_no (p : Nat) (x : Int) (w : World) (h : ¬ (0 ≤ x ∧ x ≤ 3)) :
    Calls Try.prog 20 #[.pointer (some ⟨p, 0, none⟩), .int .i64 x] w fun e w' => e = .returned (.int .i64 0) ∧ w' = w := by
  have K1 := known_any x w
  rw [show (decide (0 ≤ x) && decide (x ≤ 3)) = false by simp; omega] at K1
  have K1 := Lib.hid K1
  clear h
  go_enter Try.func20, Try.ntmps20
  go_wp2_with fail
  with_reducible refine K1.out.mono ?_
  rintro e w1 ⟨rfl, rfl⟩
  go_wp2
  go_ret
  exact ⟨rfl, rfl⟩
theorem last_any (p : Nat) (f : Nat → Int) (n : Nat) (w : World) (h : Nums w p f) (hn : f 0 = n) (hs : n ≤ 1000000) :
    Calls Try.prog 13 #[.pointer (some ⟨p, 0, none⟩)] w fun e w' => e = .returned (.tuple #[five f 6, .bool (decide (32 ≤ n))]) ∧ Bel w w' := by
  have HB : Hid (Bel w (w.alloc (.cells #[.int .i64 0, .int .i64 0, .int .i64 0, .int .i64 0, .int .i64 0] 33))) := Lib.hid ((Bel.refl w).alloc _ _)
  have K := Lib.hid (tally_any p 6 f _ (h.bel HB.out) (by decide))
  have K2 : Hid (∀ w', Bel w w' → Calls Try.prog 19 #[.pointer (some ⟨p, 0, none⟩)] w' fun e w'' => e = .returned (.int .i64 ((n / 32 : Nat) : Int)) ∧ w'' = w') := Lib.hid fun w' hb => windows_any p f n w' (h.bel hb) hn hs
  have e1 : decide (32 ≤ n) = decide ((0 : Int) < ((n / 32 : Nat) : Int)) := decide_eq_decide.2 (by omega)
  rw [e1]
  generalize n / 32 = q at *
  unfold five at *
  generalize f 6 = x0 at *
  generalize f (6 + 1) = x1 at *
  generalize f (6 + 2) = x2 at *
  generalize f (6 + 3) = x3 at *
  generalize f (6 + 4) = x4 at *
  clear h hn hs e1
  go_enter Try.func13, Try.ntmps13
  go_wp2_with fail
  with_reducible refine K.out.mono ?_
  rintro e w1 ⟨rfl, hb⟩
  have HB1 := Lib.hid (HB.out.trans hb)
  obtain ⟨⟨c0, c1, c2, c3, c4⟩, ⟨z0, z1, z2, z3, z4⟩, HS⟩ := box5 hb
  clear hb
  go_wp2_with fail
  with_reducible refine (K2.out _ HB1.out).mono ?_
  rintro e w2 ⟨rfl, rfl⟩
  go_wp2
  exact bodyPost_ret (v := .tuple #[.agg #[.int .i64 x0, .int .i64 x1, .int .i64 x2, .int .i64 x3, .int .i64 x4], .bool (decide ((0 : Int) < (q : Int)))]) (by simp [results, Try.results13, go_sem, c0, c1, c2, c3, c4]) rfl ⟨rfl, by repeat (first | exact HB1.out | refine Bel.setCell ?_ (by simp) _)⟩
end Go.Proofs.Ytfplmleakgpkiaa
