/-
  The walk of SlabOf.
-/
import Derived.Test.YtlohpccfanmiiaaRof
namespace Go.Proofs.Ytlohpccfanmiiaa
open Go.RowKit
set_option maxHeartbeats 4000000 in
set_option maxRecDepth 100000 in
theorem rof_arg (P G : Int) (pa pb pc : Option Addr) (n1 c1 n2 c2 n3 c3 : Nat) (w : World) (hP : ¬ (0 ≤ P ∧ P ≤ 1024 ∧ 1 ≤ G ∧ G ≤ 65535)) :
    Calls Try.prog 22 #[.int .i64 P, .int .i64 G, .slice pa n1 c1, .slice pb n2 c2, .slice pc n3 c3] w fun e w' => e = .returned (.tuple #[.agg #[.int .i64 0, .int .i64 0, .slice none 0 0, .slice none 0 0, .slice none 0 0], .int .i64 1]) ∧ Bel w w' := by
  have K := Lib.hid (fun w => rnew_no P G w hP)
  clear hP
  go_enter Try.func22, Try.ntmps22
  go_wp2_with fail
  with_reducible refine (K.out _).mono ?_
  rintro e w1 ⟨rfl, hb⟩
  have HB1 := Lib.hid ((((Bel.refl w).alloc (#[.int .i64 0, .int .i64 0, .slice none 0 0, .slice none 0 0, .slice none 0 0]) 31)).trans hb)
  have HM1 : Hid (w1.heap[w.heap.size]? = some (.cells #[.int .i64 0, .int .i64 0, .slice none 0 0, .slice none 0 0, .slice none 0 0] 31 (0, 0))) := Lib.hid (hb.heap (heap_alloc_new _ _))
  have hz1 : w.heap.size < w1.heap.size := by have := hb.size; simp at this; omega
  clear hb
  go_upto_region 3 with (fail)
  generalize hW : w1.alloc (.cells #[.int .i64 0, .int .i64 0, .slice none 0 0, .slice none 0 0, .slice none 0 0] 31) = W
  have HB : Hid (Bel w W) := Lib.hid (by rw [← hW]; exact HB1.out.alloc _ _)
  have HM0 : Hid (W.heap[w.heap.size]? = some (.cells #[.int .i64 0, .int .i64 0, .slice none 0 0, .slice none 0 0, .slice none 0 0] 31 (0, 0))) := Lib.hid (by
    rw [← hW]; exact Bel.heap ((Bel.refl _).alloc _ _) HM1.out)
  have HM2 : Hid (W.heap[w1.heap.size]? = some (.cells #[.int .i64 0, .int .i64 0, .slice none 0 0, .slice none 0 0, .slice none 0 0] 31 (0, 0))) := Lib.hid (by
    rw [← hW]; exact heap_alloc_new _ _)
  clear hW
  obtain ⟨⟨d0, d1, d2, d3, d4⟩, ⟨e0, e1, e2, e3, e4⟩⟩ := box5 HM0.out
  obtain ⟨⟨m0, m1, m2, m3, m4⟩, _⟩ := box5 HM2.out
  go_wp2
  exact bodyPost_ret (v := .tuple #[.agg #[.int .i64 0, .int .i64 0, .slice none 0 0, .slice none 0 0, .slice none 0 0], .int .i64 1]) (by simp [results, Try.results22, go_sem, d0, d1, d2, d3, d4]) rfl ⟨rfl, (Bel.setCell (Bel.setCell (Bel.setCell (Bel.setCell (Bel.setCell HB.out (p := ⟨w.heap.size, 0, none⟩) (Nat.le_refl _) _) (p := ⟨w.heap.size, 1, none⟩) (Nat.le_refl _) _) (p := ⟨w.heap.size, 2, none⟩) (Nat.le_refl _) _) (p := ⟨w.heap.size, 3, none⟩) (Nat.le_refl _) _) (p := ⟨w.heap.size, 4, none⟩) (Nat.le_refl _) _)⟩
set_option maxHeartbeats 4000000 in
set_option maxRecDepth 100000 in
theorem rof_big (P : Nat) (G : Int) (pa pb pc : Option Addr) (n1 c1 n2 c2 n3 c3 : Nat) (ul fl : List Int) (al : List Hd) (w : World) (h1 : (P : Int) ≤ 1024) (h2 : 1 ≤ G) (h3 : G ≤ 65535) (hn1 : ul.length = n1) (b1 : n1 ≤ 60) (hP : ¬ n1 ≤ P) :
    Calls Try.prog 22 #[.int .i64 P, .int .i64 G, .slice pa n1 c1, .slice pb n2 c2, .slice pc n3 c3] w (RofPost P G ul fl al w) := by
  have hP' : decide (P < n1) = true := decide_eq_true (by omega)
  have HG : Hid (¬ Good P G ul fl al) := Lib.hid (fun g => by have := g.g1; omega)
  clear hn1 b1
  go_enter Try.func22, Try.ntmps22
  go_wp2_with fail
  with_reducible refine (rnew_yes P G _ (by omega) h1 h2 h3).mono ?_
  rintro e w1 ⟨rfl, hb⟩
  have HB1 := Lib.hid ((((Bel.refl w).alloc (#[.int .i64 0, .int .i64 0, .slice none 0 0, .slice none 0 0, .slice none 0 0]) 31)).trans hb)
  have HM1 : Hid (w1.heap[w.heap.size]? = some (.cells #[.int .i64 0, .int .i64 0, .slice none 0 0, .slice none 0 0, .slice none 0 0] 31 (0, 0))) := Lib.hid (hb.heap (heap_alloc_new _ _))
  have hz1 : w.heap.size < w1.heap.size := by have := hb.size; simp at this; omega
  clear hb
  go_upto_region 4 with (fail)
  generalize hW : w1.alloc (.cells #[.int .i64 P, .int .i64 G, .slice none 0 0, .slice none 0 0, .slice none 0 0] 31) = W
  have HB : Hid (Bel w W) := Lib.hid (by rw [← hW]; exact HB1.out.alloc _ _)
  have HM0 : Hid (W.heap[w.heap.size]? = some (.cells #[.int .i64 0, .int .i64 0, .slice none 0 0, .slice none 0 0, .slice none 0 0] 31 (0, 0))) := Lib.hid (by
    rw [← hW]; exact Bel.heap ((Bel.refl _).alloc _ _) HM1.out)
  have HM2 : Hid (W.heap[w1.heap.size]? = some (.cells #[.int .i64 P, .int .i64 G, .slice none 0 0, .slice none 0 0, .slice none 0 0] 31 (0, 0))) := Lib.hid (by
    rw [← hW]; exact heap_alloc_new _ _)
  clear hW
  obtain ⟨⟨d0, d1, d2, d3, d4⟩, ⟨e0, e1, e2, e3, e4⟩⟩ := box5 HM0.out
  obtain ⟨⟨m0, m1, m2, m3, m4⟩, _⟩ := box5 HM2.out
  go_wp2
  exact bodyPost_ret (v := .tuple #[.agg #[.int .i64 0, .int .i64 0, .slice none 0 0, .slice none 0 0, .slice none 0 0], .int .i64 2]) (by simp [results, Try.results22, go_sem, d0, d1, d2, d3, d4]) rfl ⟨(Bel.setCell (Bel.setCell (Bel.setCell (Bel.setCell (Bel.setCell HB.out (p := ⟨w.heap.size, 0, none⟩) (Nat.le_refl _) _) (p := ⟨w.heap.size, 1, none⟩) (Nat.le_refl _) _) (p := ⟨w.heap.size, 2, none⟩) (Nat.le_refl _) _) (p := ⟨w.heap.size, 3, none⟩) (Nat.le_refl _) _) (p := ⟨w.heap.size, 4, none⟩) (Nat.le_refl _) _), .inl ⟨HG.out, rfl⟩⟩
theorem oflaw_long (P G : Int) (pa pb pc : Option Addr) (n1 c1 n2 c2 n3 c3 : Nat) (w : World) (h : ¬ (n1 ≤ 60 ∧ n2 ≤ 60 ∧ n3 ≤ 60)) :
    Calls Try.prog 8 #[.int .i64 P, .int .i64 G, .slice pa n1 c1, .slice pb n2 c2, .slice pc n3 c3] w fun e w' => e = .returned (.bool true) ∧ Bel w w' := by
  by_cases h1 : n1 ≤ 60
  · have h1' : ¬ (60 : Int) < n1 := by omega
    by_cases h2 : n2 ≤ 60
    · have h2' : ¬ (60 : Int) < n2 := by omega
      have h3' : (60 : Int) < n3 := by omega
      clear h
      go_enter Try.func8, Try.ntmps8
      go_wp2_with fail
      with_reducible refine (works_any _).mono ?_
      rintro e w1 ⟨rfl, hb⟩
      go_wp2
      go_ret
      exact ⟨rfl, hb⟩
    · have h2' : (60 : Int) < n2 := by omega
      clear h
      go_enter Try.func8, Try.ntmps8
      go_wp2_with fail
      with_reducible refine (works_any _).mono ?_
      rintro e w1 ⟨rfl, hb⟩
      go_wp2
      go_ret
      exact ⟨rfl, hb⟩
  · have h1' : (60 : Int) < n1 := by omega
    clear h
    go_enter Try.func8, Try.ntmps8
    go_wp2_with fail
    with_reducible refine (works_any _).mono ?_
    rintro e w1 ⟨rfl, hb⟩
    go_wp2
    go_ret
    exact ⟨rfl, hb⟩
set_option maxRecDepth 100000 in
theorem oflaw_no (P G : Int) (pa pb pc : Option Addr) (n1 c1 n2 c2 n3 c3 : Nat) (w : World) (k1 : n1 ≤ 60) (k2 : n2 ≤ 60) (k3 : n3 ≤ 60) (x : Int) (hx : x = 1 ∨ x = 2)
    (h1 : ∀ w', Bel w w' → Calls Try.prog 21 #[.int .i64 P, .int .i64 G, .slice pa n1 c1, .slice pb n2 c2, .slice pc n3 c3] w' fun e w'' => e = .returned (.tuple #[.pointer none, .int .i64 x]) ∧ Bel w' w'')
    (h2 : ∀ w', Bel w w' → Calls Try.prog 22 #[.int .i64 P, .int .i64 G, .slice pa n1 c1, .slice pb n2 c2, .slice pc n3 c3] w' fun e w'' => e = .returned (.tuple #[.agg #[.int .i64 0, .int .i64 0, .slice none 0 0, .slice none 0 0, .slice none 0 0], .int .i64 x]) ∧ Bel w' w'') :
    Calls Try.prog 8 #[.int .i64 P, .int .i64 G, .slice pa n1 c1, .slice pb n2 c2, .slice pc n3 c3] w fun e w' => e = .returned (.bool true) ∧ Bel w w' := by
  have a1' : ¬ (60 : Int) < n1 := by omega
  have a2' : ¬ (60 : Int) < n2 := by omega
  have a3' : ¬ (60 : Int) < n3 := by omega
  have H1 := Lib.hid h1
  have H2 := Lib.hid h2
  clear h1 h2
  rcases hx with rfl | rfl
  all_goals
    go_enter Try.func8, Try.ntmps8
    go_wp2_with fail
    with_reducible refine (works_any _).mono ?_
    rintro e w1 ⟨rfl, hb⟩
    have HB := Lib.hid hb
    clear hb
    go_wp2_with fail
    with_reducible refine (H1.out _ HB.out).mono ?_
    rintro e w2 ⟨rfl, hb⟩
    have HB2 := Lib.hid (HB.out.trans hb)
    clear hb
    go_wp2_with fail
    with_reducible refine (H2.out _ HB2.out).mono ?_
    rintro e w3 ⟨rfl, hb⟩
    have HB3 := Lib.hid (HB2.out.trans hb)
    clear hb
    go_wp2
    go_ret
    exact ⟨rfl, HB3.out.alloc _ _⟩
set_option maxHeartbeats 4000000 in
set_option maxRecDepth 100000 in
theorem oflaw_yes (P : Nat) (G : Int) (pa pb pc : Option Addr) (n1 c1 n2 c2 n3 c3 : Nat) (ul fl : List Int) (al : List Hd) (w : World) (hn1 : ul.length = n1) (hn2 : fl.length = n2) (hn3 : al.length = n3) (b1 : n1 ≤ 60) (b2 : n2 ≤ 60) (b3 : n3 ≤ 60) (hl3 : Lies nof w pc (encH al)) (hS : Same (ofS P G ul fl al) (ofR P G ul fl al))
    (h1 : ∀ w', Bel w w' → Calls Try.prog 21 #[.int .i64 P, .int .i64 G, .slice pa n1 c1, .slice pb n2 c2, .slice pc n3 c3] w' fun e w'' => ∃ B f, e = .returned (.tuple #[.pointer (some ⟨B, 0, none⟩), .int .i64 0]) ∧ Way w' B f (ofS P G ul fl al) w'')
    (h2 : ∀ w', Bel w w' → Calls Try.prog 22 #[.int .i64 P, .int .i64 G, .slice pa n1 c1, .slice pb n2 c2, .slice pc n3 c3] w' fun e w'' => Bel w' w'' ∧ ∃ x : RP, e = .returned (.tuple #[rv x (ofR P G ul fl al), .int .i64 0]) ∧ RefIn nof w'' x (ofR P G ul fl al)) :
    Calls Try.prog 8 #[.int .i64 P, .int .i64 G, .slice pa n1 c1, .slice pb n2 c2, .slice pc n3 c3] w fun e w' => e = .returned (.bool true) ∧ Bel w w' := by
  have a1' : ¬ (60 : Int) < n1 := by omega
  have a2' : ¬ (60 : Int) < n2 := by omega
  have a3' : ¬ (60 : Int) < n3 := by omega
  have H1 := Lib.hid h1
  have H2 := Lib.hid h2
  have HS := Lib.hid hS
  have L3 := Lib.hid hl3
  clear h1 h2 hS hl3
  unfold rv ofR at H2
  simp only [hn1, hn2, hn3] at H2
  have N3 := Lib.hid hn3
  have N2 := Lib.hid hn2
  have N1 := Lib.hid hn1
  clear hn1 hn2 hn3
  go_enter Try.func8, Try.ntmps8
  go_wp2_with fail
  with_reducible refine (works_any _).mono ?_
  rintro e w1 ⟨rfl, hb⟩
  have HB := Lib.hid hb
  clear hb
  go_wp2_with fail
  with_reducible refine (H1.out _ HB.out).mono ?_
  rintro e w2 ⟨B, f, rfl, hw⟩
  have HW := Lib.hid hw
  have HB2 := Lib.hid (HB.out.trans hw.off)
  clear hw
  go_wp2_with fail
  with_reducible refine (H2.out _ HB2.out).mono ?_
  rintro e w3 ⟨hb, x, rfl, hR⟩
  have HR := Lib.hid hR
  have HW3 := Lib.hid (HW.out.bel hb)
  have HB3 := Lib.hid (HB2.out.trans hb)
  clear hb hR
  obtain ⟨p1, k1, p2, k2, p3, k3⟩ := x
  simp only
  by_cases h0 : n3 = 0
  · subst h0
    have KA := Lib.hid (fun w' (hb : Bel w3 w') => alike_any B f (ofS P G ul fl al) ⟨p1, k1, p2, k2, p3, k3⟩ (ofR P G ul fl al) ⟨0, 0⟩ w' ((HW3.out.bel hb).sl) HS.out (HR.out.bel hb))
    unfold rv ofR at KA
    simp only [N1.out, N2.out, N3.out] at KA
    go_wp2_with fail
    with_reducible refine (KA.out _ (((Bel.refl _).alloc _ _).alloc _ _)).mono ?_
    rintro e w4 ⟨rfl, hb⟩
    have HB4 := Lib.hid ((((HB3.out.alloc _ _).alloc _ _)).trans hb)
    clear hb
    go_wp2
    go_ret
    exact ⟨rfl, HB4.out⟩
  · obtain ⟨b, off, rfl, _, hr⟩ := lies_hd L3.out (i := 0) (by have := N3.out; omega)
    obtain ⟨y, hy⟩ : ∃ y, al[0]? = some y := ⟨_, List.getElem?_eq_getElem (by have := N3.out; omega)⟩
    have hrr := row_hd hr hy
    have x0 := HB3.out.cell hrr.1
    have x1 := HB3.out.cell hrr.2
    have hlt := World.block_lt_of_cell? w3 _ x0
    simp only [Nat.zero_mul, Nat.add_zero, Nat.zero_add] at x0 x1 hlt
    have h0' : (0 : Int) < n3 := by omega
    have h0'' : decide (0 < n3) = true := decide_eq_true (by omega)
    clear hr hy hrr
    have KA := Lib.hid (fun w' (hb : Bel w3 w') => alike_any B f (ofS P G ul fl al) ⟨p1, k1, p2, k2, p3, k3⟩ (ofR P G ul fl al) y w' ((HW3.out.bel hb).sl) HS.out (HR.out.bel hb))
    unfold rv ofR at KA
    simp only [N1.out, N2.out, N3.out] at KA
    go_wp2_with fail
    with_reducible refine (KA.out _ (((Bel.refl _).alloc _ _).alloc _ _)).mono ?_
    rintro e w4 ⟨rfl, hb⟩
    have HB4 := Lib.hid ((((HB3.out.alloc _ _).alloc _ _)).trans hb)
    clear hb
    go_wp2
    go_ret
    exact ⟨rfl, HB4.out⟩
theorem of_law (P G : Int) (pa pb pc : Option Addr) (n1 c1 n2 c2 n3 c3 : Nat) (ul fl : List Int) (al : List Hd) (w : World) (hn1 : ul.length = n1) (hn2 : fl.length = n2) (hn3 : al.length = n3) (hl1 : Lies nof w pa (encI ul)) (hl2 : Lies nof w pb (encI fl)) (hl3 : Lies nof w pc (encH al)) :
    Calls Try.prog 8 #[.int .i64 P, .int .i64 G, .slice pa n1 c1, .slice pb n2 c2, .slice pc n3 c3] w fun e w' => e = .returned (.bool true) ∧ Bel w w' := by
  by_cases hk : n1 ≤ 60 ∧ n2 ≤ 60 ∧ n3 ≤ 60
  · by_cases hp : 0 ≤ P ∧ P ≤ 1024 ∧ 1 ≤ G ∧ G ≤ 65535
    · obtain ⟨Q, rfl⟩ : ∃ Q : Nat, P = Q := ⟨P.toNat, by omega⟩
      have K1 : ∀ w', Bel w w' → Calls Try.prog 21 #[.int .i64 Q, .int .i64 G, .slice pa n1 c1, .slice pb n2 c2, .slice pc n3 c3] w' (OfPost w' Q G ul fl al) := fun w' hb =>
        of_any Q G ul fl al pa pb pc n1 c1 n2 c2 n3 c3 w' (by omega) hp.2.2.1 hp.2.2.2 ⟨hn1, hn2, hn3, by omega, by omega, by omega, hl1.bel hb, hl2.bel hb, hl3.bel hb⟩ (fun hu q hq => by
          obtain ⟨k, e1, e2⟩ := ((upto_good _ _ _ _ _).1 hu).g5 q hq
          exact ⟨k, e1, by have := get_lt e2; omega⟩)
      have K2 : ∀ w', Bel w w' → Calls Try.prog 22 #[.int .i64 Q, .int .i64 G, .slice pa n1 c1, .slice pb n2 c2, .slice pc n3 c3] w' (RofPost Q G ul fl al w') := fun w' hb => by
        by_cases h : n1 ≤ Q
        · exact rof_any Q G pa pb pc n1 c1 n2 c2 n3 c3 ul fl al w' hp.2.1 hp.2.2.1 hp.2.2.2 hn1 hn2 hn3 hk.1 hk.2.1 hk.2.2 (hl1.bel hb) (hl2.bel hb) (hl3.bel hb) h
        · exact rof_big Q G pa pb pc n1 c1 n2 c2 n3 c3 ul fl al w' hp.2.1 hp.2.2.1 hp.2.2.2 hn1 hk.1 h
      by_cases hg : Good Q G ul fl al
      · have hsim := of_sim hg
        have hS : Same (ofS Q G ul fl al) (ofR Q G ul fl al) := ⟨⟨by simp only [ofS]; omega, hp.2.1, by simp only [ofS, fA_len, tk0_len]; omega, by simp only [ofS]; omega⟩, ⟨by simp only [ofR]; omega, hp.2.1, by simp only [ofR]; omega, by simp only [ofR]; omega, by simp only [ofR]; omega⟩, hsim.used, hsim.free, sim_alive hsim, sim_at hsim, hsim.len, hsim.pl⟩
        exact oflaw_yes Q G pa pb pc n1 c1 n2 c2 n3 c3 ul fl al w hn1 hn2 hn3 hk.1 hk.2.1 hk.2.2 hl3 hS (fun w' hb => (K1 w' hb).mono (fun e w'' h => h.2 ((upto_good _ _ _ _ _).2 hg))) (fun w' hb => (K2 w' hb).mono (fun e w'' h => ⟨h.1, by
          rcases h.2 with h | h
          · exact absurd hg h.1
          · exact h.2⟩))
      · exact oflaw_no Q G pa pb pc n1 c1 n2 c2 n3 c3 w hk.1 hk.2.1 hk.2.2 2 (.inr rfl) (fun w' hb => (K1 w' hb).mono (fun e w'' h => h.1 (fun hu => hg ((upto_good _ _ _ _ _).1 hu)))) (fun w' hb => (K2 w' hb).mono (fun e w'' h => by
          rcases h.2 with h2 | h2
          · exact ⟨h2.2, h.1⟩
          · exact absurd h2.1 hg))
    · exact oflaw_no P G pa pb pc n1 c1 n2 c2 n3 c3 w hk.1 hk.2.1 hk.2.2 1 (.inl rfl) (fun w' _ => (of_arg P G pa pb pc n1 c1 n2 c2 n3 c3 w' hp).mono (fun e w'' h => ⟨h.1, by rw [h.2]; exact Bel.refl _⟩)) (fun w' _ => rof_arg P G pa pb pc n1 c1 n2 c2 n3 c3 w' hp)
  · exact oflaw_long P G pa pb pc n1 c1 n2 c2 n3 c3 w hk
end Go.Proofs.Ytlohpccfanmiiaa
