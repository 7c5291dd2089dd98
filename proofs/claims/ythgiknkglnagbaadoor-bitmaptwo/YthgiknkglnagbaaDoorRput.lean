/-
  Contracts of the document's Put, with a bit and without it.
-/
import Derived.Test.YthgiknkglnagbaaDoorOne
namespace Go.Proofs.YthgiknkglnagbaaDoor
open Go.RowKit

/-- A block of four words that may be written. -/
def Box (w : World) (b : Nat) (x0 x1 x2 x3 : Int) : Prop :=
  (w.cell? ⟨b, 0, none⟩ = some (.int .u64 x0) ∧ w.cell? ⟨b, 1, none⟩ = some (.int .u64 x1) ∧ w.cell? ⟨b, 2, none⟩ = some (.int .u64 x2) ∧ w.cell? ⟨b, 3, none⟩ = some (.int .u64 x3)) ∧
  (w.frozen? ⟨b, 0, none⟩ = false ∧ w.frozen? ⟨b, 1, none⟩ = false ∧ w.frozen? ⟨b, 2, none⟩ = false ∧ w.frozen? ⟨b, 3, none⟩ = false)
theorem Bel.froz {a b : World} (h : Bel a b) {p : Addr} {v : Value} (hc : a.cell? p = some v) (hf : a.frozen? p = false) : b.frozen? p = false :=
  (Below.frozen h (World.block_lt_of_cell? _ _ hc)).trans hf
theorem Box.bel {w w' : World} {b : Nat} {x0 x1 x2 x3 : Int} (h : Box w b x0 x1 x2 x3) (k : Bel w w') : Box w' b x0 x1 x2 x3 :=
  ⟨⟨k.cell h.1.1, k.cell h.1.2.1, k.cell h.1.2.2.1, k.cell h.1.2.2.2⟩, k.froz h.1.1 h.2.1, k.froz h.1.2.1 h.2.2.1, k.froz h.1.2.2.1 h.2.2.2.1, k.froz h.1.2.2.2 h.2.2.2.2⟩
theorem Box.new (w : World) (x0 x1 x2 x3 : Int) (t : TypeId) : Box (w.alloc (.cells #[.int .u64 x0, .int .u64 x1, .int .u64 x2, .int .u64 x3] t)) w.heap.size x0 x1 x2 x3 :=
  ⟨⟨by simp [go_sem], by simp [go_sem], by simp [go_sem], by simp [go_sem]⟩, by simp, by simp, by simp, by simp⟩
theorem Box.alloc {w : World} {b : Nat} {x0 x1 x2 x3 : Int} (h : Box w b x0 x1 x2 x3) (c : Array Value) (t : TypeId) : Box (w.alloc (.cells c t)) b x0 x1 x2 x3 := h.bel ((Bel.refl _).alloc _ _)

theorem twice (k : Nat) (h : k < 63) : IntKind.u64.wrap (2 * ((2 ^ k : Nat) : Int)) = ((2 ^ (k + 1) : Nat) : Int) := by
  have := pow64 (show k + 1 < 64 by omega)
  rw [IntKind.wrap_u64, Nat.pow_succ] at *
  omega
/-- It is as it is asked to be. -/
theorem rput_same_true (B : Nat → Nat) (hB : Wd B) (i : Int) (hi : 0 ≤ i ∧ i < 256) (h : hs B i = true) (w : World) :
    Calls Tryd.prog 10 #[.agg #[.int .u64 (B 0), .int .u64 (B 1), .int .u64 (B 2), .int .u64 (B 3)], .int .i64 i, .bool true] w fun e w' => e = .returned (.agg #[.int .u64 (B 0), .int .u64 (B 1), .int .u64 (B 2), .int .u64 (B 3)]) ∧ Bel w w' := by
  have k := rhas_any B hB i
  rw [h] at k
  have K := Lib.hid k
  have h0 : ¬ i < 0 := by omega
  have h1 : ¬ 255 < i := by omega
  clear h k hi
  go_enter Tryd.func10, Tryd.ntmps10
  go_wp2_with fail
  with_reducible refine (K.out _).mono ?_
  rintro e w1 ⟨rfl, hb⟩
  have b1 := (((Box.new w (B 0) (B 1) (B 2) (B 3) 24).alloc #[.int .u64 0, .int .u64 0, .int .u64 0, .int .u64 0] 24)).bel hb
  have b2 := (Box.new (w.alloc (.cells #[.int .u64 (B 0), .int .u64 (B 1), .int .u64 (B 2), .int .u64 (B 3)] 24)) 0 0 0 0 24).bel hb
  simp only [World.size_alloc] at b2
  obtain ⟨⟨c0, c1, c2, c3⟩, e0, e1, e2, e3⟩ := b1
  obtain ⟨⟨d0, d1, d2, d3⟩, f0, f1, f2, f3⟩ := b2
  have G := Lib.hid ((((Bel.refl w).alloc _ _).alloc _ _).trans hb)
  clear hb
  go_wp2
  refine bodyPost_ret (v := .agg #[.int .u64 (B 0), .int .u64 (B 1), .int .u64 (B 2), .int .u64 (B 3)]) (by simp [results, Tryd.results10, go_sem, d0, d1, d2, d3]) rfl ⟨rfl, ?_⟩
  exact (((G.out.setCell (by simp) _).setCell (by simp) _).setCell (by simp) _).setCell (by simp) _
/-- It is as it is asked to be. -/
theorem rput_same_false (B : Nat → Nat) (hB : Wd B) (i : Int) (hi : 0 ≤ i ∧ i < 256) (h : hs B i = false) (w : World) :
    Calls Tryd.prog 10 #[.agg #[.int .u64 (B 0), .int .u64 (B 1), .int .u64 (B 2), .int .u64 (B 3)], .int .i64 i, .bool false] w fun e w' => e = .returned (.agg #[.int .u64 (B 0), .int .u64 (B 1), .int .u64 (B 2), .int .u64 (B 3)]) ∧ Bel w w' := by
  have k := rhas_any B hB i
  rw [h] at k
  have K := Lib.hid k
  have h0 : ¬ i < 0 := by omega
  have h1 : ¬ 255 < i := by omega
  clear h k hi
  go_enter Tryd.func10, Tryd.ntmps10
  go_wp2_with fail
  with_reducible refine (K.out _).mono ?_
  rintro e w1 ⟨rfl, hb⟩
  have b1 := (((Box.new w (B 0) (B 1) (B 2) (B 3) 24).alloc #[.int .u64 0, .int .u64 0, .int .u64 0, .int .u64 0] 24)).bel hb
  have b2 := (Box.new (w.alloc (.cells #[.int .u64 (B 0), .int .u64 (B 1), .int .u64 (B 2), .int .u64 (B 3)] 24)) 0 0 0 0 24).bel hb
  simp only [World.size_alloc] at b2
  obtain ⟨⟨c0, c1, c2, c3⟩, e0, e1, e2, e3⟩ := b1
  obtain ⟨⟨d0, d1, d2, d3⟩, f0, f1, f2, f3⟩ := b2
  have G := Lib.hid ((((Bel.refl w).alloc _ _).alloc _ _).trans hb)
  clear hb
  go_wp2
  refine bodyPost_ret (v := .agg #[.int .u64 (B 0), .int .u64 (B 1), .int .u64 (B 2), .int .u64 (B 3)]) (by simp [results, Tryd.results10, go_sem, d0, d1, d2, d3]) rfl ⟨rfl, ?_⟩
  exact (((G.out.setCell (by simp) _).setCell (by simp) _).setCell (by simp) _).setCell (by simp) _
/-- It is no number of a bit. -/
theorem rput_not (B : Nat → Nat) (i : Int) (h : ¬ (0 ≤ i ∧ i < 256)) (on : Bool) (w : World) :
    Calls Tryd.prog 10 #[.agg #[.int .u64 (B 0), .int .u64 (B 1), .int .u64 (B 2), .int .u64 (B 3)], .int .i64 i, .bool on] w fun e w' => e = .returned (.agg #[.int .u64 (B 0), .int .u64 (B 1), .int .u64 (B 2), .int .u64 (B 3)]) ∧ Bel w w' := by
  by_cases h0 : i < 0
  · clear h
    go_enter Tryd.func10, Tryd.ntmps10
    go_wp2
    exact bodyPost_ret (v := .agg #[.int .u64 (B 0), .int .u64 (B 1), .int .u64 (B 2), .int .u64 (B 3)]) (by simp [results, Tryd.results10, go_sem]) rfl ⟨rfl, ((Bel.refl _).alloc _ _).alloc _ _⟩
  · have h1 : 255 < i := by omega
    clear h
    go_enter Tryd.func10, Tryd.ntmps10
    go_wp2
    exact bodyPost_ret (v := .agg #[.int .u64 (B 0), .int .u64 (B 1), .int .u64 (B 2), .int .u64 (B 3)]) (by simp [results, Tryd.results10, go_sem]) rfl ⟨rfl, ((Bel.refl _).alloc _ _).alloc _ _⟩
/-- It is not as it is asked to be. -/
theorem rput_turn_true (B : Nat → Nat) (hB : Wd B) (q r : Nat) (hq : q < 4) (hr : r < 64) (hbit : (B q).testBit r = false) (w : World) :
    Calls Tryd.prog 10 #[.agg #[.int .u64 (B 0), .int .u64 (B 1), .int .u64 (B 2), .int .u64 (B 3)], .int .i64 (64 * q + r : Nat), .bool true] w fun e w' => e = .returned (.agg #[.int .u64 (pt B (64 * q + r) 0), .int .u64 (pt B (64 * q + r) 1), .int .u64 (pt B (64 * q + r) 2), .int .u64 (pt B (64 * q + r) 3)]) ∧ Bel w w' := by
  have k := rhas_in B hB q r hq hr
  rw [hbit] at k
  have h0 : ¬ ((64 * q + r : Nat) : Int) < 0 := by omega
  have h1 : ¬ 255 < ((64 * q + r : Nat) : Int) := by omega
  obtain ⟨t1, t2⟩ := parts q r hr
  have V : IntKind.u64.wrap ((B q : Int) + ((2 ^ r : Nat) : Int)) = (pt B (64 * q + r) q : Nat) := by
    have e1 : (64 * q + r) / 64 = q := by omega
    have e2 : (64 * q + r) % 64 = r := by omega
    have hw := pt_wd hB (64 * q + r) q
    unfold pt at hw ⊢
    rw [e1, e2, if_pos rfl] at hw ⊢
    rw [or_add _ _ hbit] at hw ⊢
    generalize 2 ^ r = p at hw ⊢
    clear t1 t2 h0 h1
    rw [IntKind.wrap_u64]
    omega
  have hP : Hid (∀ k, k ≠ q → pt B (64 * q + r) k = B k) := Lib.hid (fun k hk => by
    have e1 : (64 * q + r) / 64 = q := by omega
    unfold pt
    rw [e1, if_neg hk])
  obtain ⟨n, hn⟩ : ∃ n : Nat, 64 * q + r = n := ⟨_, rfl⟩
  rw [hn] at k h0 h1 t1 t2 V hP ⊢
  have K := Lib.hid k
  clear hn k hbit hB
  obtain rfl | rfl | rfl | rfl : q = 0 ∨ q = 1 ∨ q = 2 ∨ q = 3 := by omega
  · go_enter Tryd.func10, Tryd.ntmps10
    go_wp2_with fail
    with_reducible refine (K.out _).mono ?_
    rintro e w1 ⟨rfl, hb⟩
    have b1 := (((Box.new w (B 0) (B 1) (B 2) (B 3) 24).alloc #[.int .u64 0, .int .u64 0, .int .u64 0, .int .u64 0] 24)).bel hb
    have b2 := (Box.new (w.alloc (.cells #[.int .u64 (B 0), .int .u64 (B 1), .int .u64 (B 2), .int .u64 (B 3)] 24)) 0 0 0 0 24).bel hb
    simp only [World.size_alloc] at b2
    obtain ⟨⟨c0, c1, c2, c3⟩, e0, e1, e2, e3⟩ := b1
    obtain ⟨⟨d0, d1, d2, d3⟩, f0, f1, f2, f3⟩ := b2
    have G := Lib.hid ((((Bel.refl w).alloc _ _).alloc _ _).trans hb)
    clear hb
    go_wp2
    go_loop [8, 9] (fun x i => ∃ k y : Nat, k ≤ r ∧ i = .int .i64 k ∧ x = .int .u64 y ∧ 2 ^ k = y) (fun _ i => (r - intOf i).toNat)
    case atStart => exact ⟨0, 1, by omega, rfl, rfl, rfl⟩
    case round =>
      obtain ⟨k, y, hk, rfl, rfl, hy⟩ := hrel
      by_cases hlt : k < r
      · have e1 := twice k (by omega)
        rw [hy] at e1
        have HY := Lib.hid hy
        clear hy
        go_wp2
        go_round
        case rel => exact ⟨k + 1, 2 ^ (k + 1), by omega, by go_num, rfl, rfl⟩
        case measure => simp [intOf]; omega
      · obtain rfl : k = r := by omega
        rw [hy] at V
        clear hy
        go_wp2
        refine bodyPost_ret (v := .agg #[.int .u64 (pt B n 0), .int .u64 (pt B n 1), .int .u64 (pt B n 2), .int .u64 (pt B n 3)]) (by simp [results, Tryd.results10, go_sem, hP.out, d0, d1, d2, d3]) rfl ⟨rfl, ?_⟩
        exact ((((G.out.setCell (by simp) _).setCell (by simp) _).setCell (by simp) _).setCell (by simp) _).setCell (by simp) _
  · go_enter Tryd.func10, Tryd.ntmps10
    go_wp2_with fail
    with_reducible refine (K.out _).mono ?_
    rintro e w1 ⟨rfl, hb⟩
    have b1 := (((Box.new w (B 0) (B 1) (B 2) (B 3) 24).alloc #[.int .u64 0, .int .u64 0, .int .u64 0, .int .u64 0] 24)).bel hb
    have b2 := (Box.new (w.alloc (.cells #[.int .u64 (B 0), .int .u64 (B 1), .int .u64 (B 2), .int .u64 (B 3)] 24)) 0 0 0 0 24).bel hb
    simp only [World.size_alloc] at b2
    obtain ⟨⟨c0, c1, c2, c3⟩, e0, e1, e2, e3⟩ := b1
    obtain ⟨⟨d0, d1, d2, d3⟩, f0, f1, f2, f3⟩ := b2
    have G := Lib.hid ((((Bel.refl w).alloc _ _).alloc _ _).trans hb)
    clear hb
    go_wp2
    go_loop [8, 9] (fun x i => ∃ k y : Nat, k ≤ r ∧ i = .int .i64 k ∧ x = .int .u64 y ∧ 2 ^ k = y) (fun _ i => (r - intOf i).toNat)
    case atStart => exact ⟨0, 1, by omega, rfl, rfl, rfl⟩
    case round =>
      obtain ⟨k, y, hk, rfl, rfl, hy⟩ := hrel
      by_cases hlt : k < r
      · have e1 := twice k (by omega)
        rw [hy] at e1
        have HY := Lib.hid hy
        clear hy
        go_wp2
        go_round
        case rel => exact ⟨k + 1, 2 ^ (k + 1), by omega, by go_num, rfl, rfl⟩
        case measure => simp [intOf]; omega
      · obtain rfl : k = r := by omega
        rw [hy] at V
        clear hy
        go_wp2
        refine bodyPost_ret (v := .agg #[.int .u64 (pt B n 0), .int .u64 (pt B n 1), .int .u64 (pt B n 2), .int .u64 (pt B n 3)]) (by simp [results, Tryd.results10, go_sem, hP.out, d0, d1, d2, d3]) rfl ⟨rfl, ?_⟩
        exact ((((G.out.setCell (by simp) _).setCell (by simp) _).setCell (by simp) _).setCell (by simp) _).setCell (by simp) _
  · go_enter Tryd.func10, Tryd.ntmps10
    go_wp2_with fail
    with_reducible refine (K.out _).mono ?_
    rintro e w1 ⟨rfl, hb⟩
    have b1 := (((Box.new w (B 0) (B 1) (B 2) (B 3) 24).alloc #[.int .u64 0, .int .u64 0, .int .u64 0, .int .u64 0] 24)).bel hb
    have b2 := (Box.new (w.alloc (.cells #[.int .u64 (B 0), .int .u64 (B 1), .int .u64 (B 2), .int .u64 (B 3)] 24)) 0 0 0 0 24).bel hb
    simp only [World.size_alloc] at b2
    obtain ⟨⟨c0, c1, c2, c3⟩, e0, e1, e2, e3⟩ := b1
    obtain ⟨⟨d0, d1, d2, d3⟩, f0, f1, f2, f3⟩ := b2
    have G := Lib.hid ((((Bel.refl w).alloc _ _).alloc _ _).trans hb)
    clear hb
    go_wp2
    go_loop [8, 9] (fun x i => ∃ k y : Nat, k ≤ r ∧ i = .int .i64 k ∧ x = .int .u64 y ∧ 2 ^ k = y) (fun _ i => (r - intOf i).toNat)
    case atStart => exact ⟨0, 1, by omega, rfl, rfl, rfl⟩
    case round =>
      obtain ⟨k, y, hk, rfl, rfl, hy⟩ := hrel
      by_cases hlt : k < r
      · have e1 := twice k (by omega)
        rw [hy] at e1
        have HY := Lib.hid hy
        clear hy
        go_wp2
        go_round
        case rel => exact ⟨k + 1, 2 ^ (k + 1), by omega, by go_num, rfl, rfl⟩
        case measure => simp [intOf]; omega
      · obtain rfl : k = r := by omega
        rw [hy] at V
        clear hy
        go_wp2
        refine bodyPost_ret (v := .agg #[.int .u64 (pt B n 0), .int .u64 (pt B n 1), .int .u64 (pt B n 2), .int .u64 (pt B n 3)]) (by simp [results, Tryd.results10, go_sem, hP.out, d0, d1, d2, d3]) rfl ⟨rfl, ?_⟩
        exact ((((G.out.setCell (by simp) _).setCell (by simp) _).setCell (by simp) _).setCell (by simp) _).setCell (by simp) _
  · go_enter Tryd.func10, Tryd.ntmps10
    go_wp2_with fail
    with_reducible refine (K.out _).mono ?_
    rintro e w1 ⟨rfl, hb⟩
    have b1 := (((Box.new w (B 0) (B 1) (B 2) (B 3) 24).alloc #[.int .u64 0, .int .u64 0, .int .u64 0, .int .u64 0] 24)).bel hb
    have b2 := (Box.new (w.alloc (.cells #[.int .u64 (B 0), .int .u64 (B 1), .int .u64 (B 2), .int .u64 (B 3)] 24)) 0 0 0 0 24).bel hb
    simp only [World.size_alloc] at b2
    obtain ⟨⟨c0, c1, c2, c3⟩, e0, e1, e2, e3⟩ := b1
    obtain ⟨⟨d0, d1, d2, d3⟩, f0, f1, f2, f3⟩ := b2
    have G := Lib.hid ((((Bel.refl w).alloc _ _).alloc _ _).trans hb)
    clear hb
    go_wp2
    go_loop [8, 9] (fun x i => ∃ k y : Nat, k ≤ r ∧ i = .int .i64 k ∧ x = .int .u64 y ∧ 2 ^ k = y) (fun _ i => (r - intOf i).toNat)
    case atStart => exact ⟨0, 1, by omega, rfl, rfl, rfl⟩
    case round =>
      obtain ⟨k, y, hk, rfl, rfl, hy⟩ := hrel
      by_cases hlt : k < r
      · have e1 := twice k (by omega)
        rw [hy] at e1
        have HY := Lib.hid hy
        clear hy
        go_wp2
        go_round
        case rel => exact ⟨k + 1, 2 ^ (k + 1), by omega, by go_num, rfl, rfl⟩
        case measure => simp [intOf]; omega
      · obtain rfl : k = r := by omega
        rw [hy] at V
        clear hy
        go_wp2
        refine bodyPost_ret (v := .agg #[.int .u64 (pt B n 0), .int .u64 (pt B n 1), .int .u64 (pt B n 2), .int .u64 (pt B n 3)]) (by simp [results, Tryd.results10, go_sem, hP.out, d0, d1, d2, d3]) rfl ⟨rfl, ?_⟩
        exact ((((G.out.setCell (by simp) _).setCell (by simp) _).setCell (by simp) _).setCell (by simp) _).setCell (by simp) _
/-- It is not as it is asked to be. -/
theorem rput_turn_false (B : Nat → Nat) (hB : Wd B) (q r : Nat) (hq : q < 4) (hr : r < 64) (hbit : (B q).testBit r = true) (w : World) :
    Calls Tryd.prog 10 #[.agg #[.int .u64 (B 0), .int .u64 (B 1), .int .u64 (B 2), .int .u64 (B 3)], .int .i64 (64 * q + r : Nat), .bool false] w fun e w' => e = .returned (.agg #[.int .u64 (dp B (64 * q + r) 0), .int .u64 (dp B (64 * q + r) 1), .int .u64 (dp B (64 * q + r) 2), .int .u64 (dp B (64 * q + r) 3)]) ∧ Bel w w' := by
  have k := rhas_in B hB q r hq hr
  rw [hbit] at k
  have h0 : ¬ ((64 * q + r : Nat) : Int) < 0 := by omega
  have h1 : ¬ 255 < ((64 * q + r : Nat) : Int) := by omega
  obtain ⟨t1, t2⟩ := parts q r hr
  have V : IntKind.u64.wrap ((B q : Int) - ((2 ^ r : Nat) : Int)) = (dp B (64 * q + r) q : Nat) := by
    have e1 : (64 * q + r) / 64 = q := by omega
    have e2 : (64 * q + r) % 64 = r := by omega
    have hw := dp_wd hB (64 * q + r) q
    unfold dp at hw ⊢
    rw [e1, e2, if_pos rfl] at hw ⊢
    have hle := (sub_bit _ _ hbit).1
    rw [andNot_sub _ _ (hB q) hr hbit] at hw ⊢
    generalize 2 ^ r = p at hw hle ⊢
    clear t1 t2 h0 h1
    rw [IntKind.wrap_u64]
    omega
  have hP : Hid (∀ k, k ≠ q → dp B (64 * q + r) k = B k) := Lib.hid (fun k hk => by
    have e1 : (64 * q + r) / 64 = q := by omega
    unfold dp
    rw [e1, if_neg hk])
  obtain ⟨n, hn⟩ : ∃ n : Nat, 64 * q + r = n := ⟨_, rfl⟩
  rw [hn] at k h0 h1 t1 t2 V hP ⊢
  have K := Lib.hid k
  clear hn k hbit hB
  obtain rfl | rfl | rfl | rfl : q = 0 ∨ q = 1 ∨ q = 2 ∨ q = 3 := by omega
  · go_enter Tryd.func10, Tryd.ntmps10
    go_wp2_with fail
    with_reducible refine (K.out _).mono ?_
    rintro e w1 ⟨rfl, hb⟩
    have b1 := (((Box.new w (B 0) (B 1) (B 2) (B 3) 24).alloc #[.int .u64 0, .int .u64 0, .int .u64 0, .int .u64 0] 24)).bel hb
    have b2 := (Box.new (w.alloc (.cells #[.int .u64 (B 0), .int .u64 (B 1), .int .u64 (B 2), .int .u64 (B 3)] 24)) 0 0 0 0 24).bel hb
    simp only [World.size_alloc] at b2
    obtain ⟨⟨c0, c1, c2, c3⟩, e0, e1, e2, e3⟩ := b1
    obtain ⟨⟨d0, d1, d2, d3⟩, f0, f1, f2, f3⟩ := b2
    have G := Lib.hid ((((Bel.refl w).alloc _ _).alloc _ _).trans hb)
    clear hb
    go_wp2
    go_loop [8, 9] (fun x i => ∃ k y : Nat, k ≤ r ∧ i = .int .i64 k ∧ x = .int .u64 y ∧ 2 ^ k = y) (fun _ i => (r - intOf i).toNat)
    case atStart => exact ⟨0, 1, by omega, rfl, rfl, rfl⟩
    case round =>
      obtain ⟨k, y, hk, rfl, rfl, hy⟩ := hrel
      by_cases hlt : k < r
      · have e1 := twice k (by omega)
        rw [hy] at e1
        have HY := Lib.hid hy
        clear hy
        go_wp2
        go_round
        case rel => exact ⟨k + 1, 2 ^ (k + 1), by omega, by go_num, rfl, rfl⟩
        case measure => simp [intOf]; omega
      · obtain rfl : k = r := by omega
        rw [hy] at V
        clear hy
        go_wp2
        refine bodyPost_ret (v := .agg #[.int .u64 (dp B n 0), .int .u64 (dp B n 1), .int .u64 (dp B n 2), .int .u64 (dp B n 3)]) (by simp [results, Tryd.results10, go_sem, hP.out, d0, d1, d2, d3]) rfl ⟨rfl, ?_⟩
        exact ((((G.out.setCell (by simp) _).setCell (by simp) _).setCell (by simp) _).setCell (by simp) _).setCell (by simp) _
  · go_enter Tryd.func10, Tryd.ntmps10
    go_wp2_with fail
    with_reducible refine (K.out _).mono ?_
    rintro e w1 ⟨rfl, hb⟩
    have b1 := (((Box.new w (B 0) (B 1) (B 2) (B 3) 24).alloc #[.int .u64 0, .int .u64 0, .int .u64 0, .int .u64 0] 24)).bel hb
    have b2 := (Box.new (w.alloc (.cells #[.int .u64 (B 0), .int .u64 (B 1), .int .u64 (B 2), .int .u64 (B 3)] 24)) 0 0 0 0 24).bel hb
    simp only [World.size_alloc] at b2
    obtain ⟨⟨c0, c1, c2, c3⟩, e0, e1, e2, e3⟩ := b1
    obtain ⟨⟨d0, d1, d2, d3⟩, f0, f1, f2, f3⟩ := b2
    have G := Lib.hid ((((Bel.refl w).alloc _ _).alloc _ _).trans hb)
    clear hb
    go_wp2
    go_loop [8, 9] (fun x i => ∃ k y : Nat, k ≤ r ∧ i = .int .i64 k ∧ x = .int .u64 y ∧ 2 ^ k = y) (fun _ i => (r - intOf i).toNat)
    case atStart => exact ⟨0, 1, by omega, rfl, rfl, rfl⟩
    case round =>
      obtain ⟨k, y, hk, rfl, rfl, hy⟩ := hrel
      by_cases hlt : k < r
      · have e1 := twice k (by omega)
        rw [hy] at e1
        have HY := Lib.hid hy
        clear hy
        go_wp2
        go_round
        case rel => exact ⟨k + 1, 2 ^ (k + 1), by omega, by go_num, rfl, rfl⟩
        case measure => simp [intOf]; omega
      · obtain rfl : k = r := by omega
        rw [hy] at V
        clear hy
        go_wp2
        refine bodyPost_ret (v := .agg #[.int .u64 (dp B n 0), .int .u64 (dp B n 1), .int .u64 (dp B n 2), .int .u64 (dp B n 3)]) (by simp [results, Tryd.results10, go_sem, hP.out, d0, d1, d2, d3]) rfl ⟨rfl, ?_⟩
        exact ((((G.out.setCell (by simp) _).setCell (by simp) _).setCell (by simp) _).setCell (by simp) _).setCell (by simp) _
  · go_enter Tryd.func10, Tryd.ntmps10
    go_wp2_with fail
    with_reducible refine (K.out _).mono ?_
    rintro e w1 ⟨rfl, hb⟩
    have b1 := (((Box.new w (B 0) (B 1) (B 2) (B 3) 24).alloc #[.int .u64 0, .int .u64 0, .int .u64 0, .int .u64 0] 24)).bel hb
    have b2 := (Box.new (w.alloc (.cells #[.int .u64 (B 0), .int .u64 (B 1), .int .u64 (B 2), .int .u64 (B 3)] 24)) 0 0 0 0 24).bel hb
    simp only [World.size_alloc] at b2
    obtain ⟨⟨c0, c1, c2, c3⟩, e0, e1, e2, e3⟩ := b1
    obtain ⟨⟨d0, d1, d2, d3⟩, f0, f1, f2, f3⟩ := b2
    have G := Lib.hid ((((Bel.refl w).alloc _ _).alloc _ _).trans hb)
    clear hb
    go_wp2
    go_loop [8, 9] (fun x i => ∃ k y : Nat, k ≤ r ∧ i = .int .i64 k ∧ x = .int .u64 y ∧ 2 ^ k = y) (fun _ i => (r - intOf i).toNat)
    case atStart => exact ⟨0, 1, by omega, rfl, rfl, rfl⟩
    case round =>
      obtain ⟨k, y, hk, rfl, rfl, hy⟩ := hrel
      by_cases hlt : k < r
      · have e1 := twice k (by omega)
        rw [hy] at e1
        have HY := Lib.hid hy
        clear hy
        go_wp2
        go_round
        case rel => exact ⟨k + 1, 2 ^ (k + 1), by omega, by go_num, rfl, rfl⟩
        case measure => simp [intOf]; omega
      · obtain rfl : k = r := by omega
        rw [hy] at V
        clear hy
        go_wp2
        refine bodyPost_ret (v := .agg #[.int .u64 (dp B n 0), .int .u64 (dp B n 1), .int .u64 (dp B n 2), .int .u64 (dp B n 3)]) (by simp [results, Tryd.results10, go_sem, hP.out, d0, d1, d2, d3]) rfl ⟨rfl, ?_⟩
        exact ((((G.out.setCell (by simp) _).setCell (by simp) _).setCell (by simp) _).setCell (by simp) _).setCell (by simp) _
  · go_enter Tryd.func10, Tryd.ntmps10
    go_wp2_with fail
    with_reducible refine (K.out _).mono ?_
    rintro e w1 ⟨rfl, hb⟩
    have b1 := (((Box.new w (B 0) (B 1) (B 2) (B 3) 24).alloc #[.int .u64 0, .int .u64 0, .int .u64 0, .int .u64 0] 24)).bel hb
    have b2 := (Box.new (w.alloc (.cells #[.int .u64 (B 0), .int .u64 (B 1), .int .u64 (B 2), .int .u64 (B 3)] 24)) 0 0 0 0 24).bel hb
    simp only [World.size_alloc] at b2
    obtain ⟨⟨c0, c1, c2, c3⟩, e0, e1, e2, e3⟩ := b1
    obtain ⟨⟨d0, d1, d2, d3⟩, f0, f1, f2, f3⟩ := b2
    have G := Lib.hid ((((Bel.refl w).alloc _ _).alloc _ _).trans hb)
    clear hb
    go_wp2
    go_loop [8, 9] (fun x i => ∃ k y : Nat, k ≤ r ∧ i = .int .i64 k ∧ x = .int .u64 y ∧ 2 ^ k = y) (fun _ i => (r - intOf i).toNat)
    case atStart => exact ⟨0, 1, by omega, rfl, rfl, rfl⟩
    case round =>
      obtain ⟨k, y, hk, rfl, rfl, hy⟩ := hrel
      by_cases hlt : k < r
      · have e1 := twice k (by omega)
        rw [hy] at e1
        have HY := Lib.hid hy
        clear hy
        go_wp2
        go_round
        case rel => exact ⟨k + 1, 2 ^ (k + 1), by omega, by go_num, rfl, rfl⟩
        case measure => simp [intOf]; omega
      · obtain rfl : k = r := by omega
        rw [hy] at V
        clear hy
        go_wp2
        refine bodyPost_ret (v := .agg #[.int .u64 (dp B n 0), .int .u64 (dp B n 1), .int .u64 (dp B n 2), .int .u64 (dp B n 3)]) (by simp [results, Tryd.results10, go_sem, hP.out, d0, d1, d2, d3]) rfl ⟨rfl, ?_⟩
        exact ((((G.out.setCell (by simp) _).setCell (by simp) _).setCell (by simp) _).setCell (by simp) _).setCell (by simp) _
theorem rput_any_true (B : Nat → Nat) (hB : Wd B) (i : Int) (w : World) :
    Calls Tryd.prog 10 #[.agg #[.int .u64 (B 0), .int .u64 (B 1), .int .u64 (B 2), .int .u64 (B 3)], .int .i64 i, .bool true] w fun e w' => e = .returned (.agg #[.int .u64 (pti B i 0), .int .u64 (pti B i 1), .int .u64 (pti B i 2), .int .u64 (pti B i 3)]) ∧ Bel w w' := by
  unfold pti
  by_cases h : 0 ≤ i ∧ i < 256
  · rw [if_pos h]
    cases hb : (B (i.toNat / 64)).testBit (i.toNat % 64) with
    | false =>
      have := rput_turn_true B hB (i.toNat / 64) (i.toNat % 64) (by omega) (by omega) hb w
      have e : 64 * (i.toNat / 64) + i.toNat % 64 = i.toNat := by omega
      rw [e, Int.toNat_of_nonneg h.1] at this
      exact this
    | true =>
      have e : pt B i.toNat = B := by
        funext k
        unfold pt
        split
        · rename_i hk
          rw [hk, or_same _ _ hb]
        · rfl
      rw [e]
      exact rput_same_true B hB i h (by unfold hs tb; rw [decide_eq_true h, hb]; rfl) w
  · rw [if_neg h]
    exact rput_not B i h _ w
theorem rput_any_false (B : Nat → Nat) (hB : Wd B) (i : Int) (w : World) :
    Calls Tryd.prog 10 #[.agg #[.int .u64 (B 0), .int .u64 (B 1), .int .u64 (B 2), .int .u64 (B 3)], .int .i64 i, .bool false] w fun e w' => e = .returned (.agg #[.int .u64 (dpi B i 0), .int .u64 (dpi B i 1), .int .u64 (dpi B i 2), .int .u64 (dpi B i 3)]) ∧ Bel w w' := by
  unfold dpi
  by_cases h : 0 ≤ i ∧ i < 256
  · rw [if_pos h]
    cases hb : (B (i.toNat / 64)).testBit (i.toNat % 64) with
    | true =>
      have := rput_turn_false B hB (i.toNat / 64) (i.toNat % 64) (by omega) (by omega) hb w
      have e : 64 * (i.toNat / 64) + i.toNat % 64 = i.toNat := by omega
      rw [e, Int.toNat_of_nonneg h.1] at this
      exact this
    | false =>
      have e : dp B i.toNat = B := by
        funext k
        unfold dp
        split
        · rename_i hk
          rw [hk, andNot_same _ _ (hB _) (Nat.mod_lt _ (by decide)) hb]
        · rfl
      rw [e]
      exact rput_same_false B hB i h (by unfold hs tb; rw [decide_eq_true h, hb]; rfl) w
  · rw [if_neg h]
    exact rput_not B i h _ w
end Go.Proofs.YthgiknkglnagbaaDoor
