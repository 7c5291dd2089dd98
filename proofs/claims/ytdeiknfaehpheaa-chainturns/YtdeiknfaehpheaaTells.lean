/-
  Contracts of the law's tells and alike.
-/
import Derived.Test.YtdeiknfaehpheaaAny
namespace Go.Proofs.Ytdeiknfaehpheaa
open Go.RowKit
def av : Option Nat → Int
  | some t => t
  | none => 0
theorem ans_eq (r : Option Nat) : ans r = .tuple #[.int .i64 (av r), .bool r.isSome] := by cases r <;> rfl
set_option maxHeartbeats 4000000 in
set_option maxRecDepth 100000 in
theorem tells_any (B G P L : Nat) (ls : Ls) (p : Option Addr) (c : Nat) (x : Int) (w : World) (hC : Ch w B G P L ls) (hR : RefIn nof w p L ls) :
    Calls Try.prog 30 #[.pointer (some ⟨B, 0, none⟩), rv P p L c, .int .i64 x] w fun e w' => e = .returned (.bool true) ∧ Bel w w' := by
  obtain ⟨nx, pv, wh, ht⟩ := tell_ex hC.good x
  have hg := hC.good
  have hP := hC.hP
  have hL := hC.hL
  have hlen := allL_len hg x
  have K1 := Lib.hid (fun w' (h : Bel w w') => rall_any P p L c ls x w' (hR.bel h) hL)
  have K2 := Lib.hid (fun w' (h : Bel w w') => all_any B G P L ls x w' (hC.bel h))
  have K3 := Lib.hid (fun w' q r k k2 (hq : Lies nof w' q (encI (allL L ls x))) (hr : Lies nof w' r (encI (allL L ls x))) => same_yes q r (allL L ls x).length k k2 (allL L ls x) w' rfl (by omega) hq hr)
  have K4 := Lib.hid (fun w' (h : Bel w w') => first_any B G P L ls x w' (hC.bel h))
  have K5 := Lib.hid (fun w' (h : Bel w w') => last_any B G P L ls x w' (hC.bel h))
  have K6 := Lib.hid (fun w' (h : Bel w w') => next_any B G P L ls x nx pv wh w' (hC.bel h) ht)
  have K7 := Lib.hid (fun w' (h : Bel w w') => rnext_any P p L c ls x nx pv wh w' (hR.bel h) hP hL hg ht)
  have K8 := Lib.hid (fun w' (h : Bel w w') => prev_any B G P L ls x nx pv wh w' (hC.bel h) ht)
  have K9 := Lib.hid (fun w' (h : Bel w w') => rprev_any P p L c ls x nx pv wh w' (hR.bel h) hP hL hg ht)
  have K10 := Lib.hid (fun w' (h : Bel w w') => which_any B G P L ls x nx pv wh w' (hC.bel h) ht)
  have K11 := Lib.hid (fun w' (h : Bel w w') => rwh_any P p L c ls x nx pv wh w' (hR.bel h) hP hL hg ht)
  rw [ans_eq nx] at K6 K7
  rw [ans_eq pv] at K8 K9
  generalize av nx = n1 at *
  generalize nx.isSome = n2 at *
  generalize av pv = p1 at *
  generalize pv.isSome = p2 at *
  have E1 : (n1 == n1) = true := by simp
  have E2 : (n2 == n2) = true := by simp
  have E3 : (p1 == p1) = true := by simp
  have E4 : (p2 == p2) = true := by simp
  unfold rv at *
  clear hC hR ht hg
  generalize allL L ls x = l at *
  obtain ⟨n, hn⟩ : ∃ n, l.length = n := ⟨_, rfl⟩
  rw [hn] at K1 K2 K3 hlen
  have HN := Lib.hid hn
  clear hn
  go_enter Try.func30, Try.ntmps30
  go_wp2_with fail
  with_reducible refine (K1.out _ ((Bel.refl _).alloc _ _)).mono ?_
  rintro e w1 ⟨q1, k1, rfl, hk1, hl1, hb⟩
  have HB1 : Hid (Bel w w1) := Lib.hid (((Bel.refl _).alloc _ _).trans hb)
  have d0 : w1.cell? ⟨w.heap.size, 0, none⟩ = some (.int .i64 P) := hb.cell (by simp [go_sem])
  have d1 : w1.cell? ⟨w.heap.size, 1, none⟩ = some (.slice p L c) := hb.cell (by simp [go_sem])
  have HD0 := Lib.hid d0
  have HD1 := Lib.hid d1
  have HL1 := Lib.hid hl1
  clear hb d0 d1 hl1
  go_wp2_with fail
  with_reducible refine (K2.out _ HB1.out).mono ?_
  rintro e w2 ⟨q2, k2, rfl, hk2, hl2, hb⟩
  have HL2 := Lib.hid hl2.any
  have HX2 := Lib.hid hb
  clear hb hl2
  go_wp2_with fail
  with_reducible refine (K3.out _ _ _ _ _ HL2.out (HL1.out.bel HX2.out)).mono ?_
  rintro e w3 ⟨rfl, hb⟩
  have HX3 := Lib.hid (HX2.out.trans hb)
  clear hb
  go_wp2_with fail
  with_reducible refine (K4.out _ (HB1.out.trans HX3.out)).mono ?_
  rintro e w4 ⟨rfl, hb⟩
  have HX4 := Lib.hid (HX3.out.trans hb)
  clear hb
  rcases List.eq_nil_or_concat l with hl | ⟨r, z, hl⟩
  · subst hl
    obtain rfl : 0 = n := HN.out
    simp only [List.head?_nil, List.getLast?_nil] at K5 ⊢
    unfold ans at *
    go_wp2_with fail
    with_reducible refine (K5.out _ (HB1.out.trans HX4.out)).mono ?_
    rintro e w5 ⟨rfl, hb⟩
    have HX5 := Lib.hid (HX4.out.trans hb)
    clear hb
    cases wh
    all_goals
      unfold wv at K11
      go_wp2_with fail
      with_reducible refine (K6.out _ (HB1.out.trans HX5.out)).mono ?_
      rintro e w6 ⟨rfl, hb⟩
      have HX6 := Lib.hid (HX5.out.trans hb)
      clear hb
      have d0 := HX6.out.cell HD0.out
      have d1 := HX6.out.cell HD1.out
      go_wp2_with fail
      with_reducible refine (K7.out _ (HB1.out.trans HX6.out)).mono ?_
      rintro e w7 ⟨rfl, hb⟩
      have HX7 := Lib.hid (HX6.out.trans hb)
      clear hb d0 d1
      go_wp2_with fail
      with_reducible refine (K8.out _ (HB1.out.trans HX7.out)).mono ?_
      rintro e w8 ⟨rfl, hb⟩
      have HX8 := Lib.hid (HX7.out.trans hb)
      clear hb
      have d0 := HX8.out.cell HD0.out
      have d1 := HX8.out.cell HD1.out
      go_wp2_with fail
      with_reducible refine (K9.out _ (HB1.out.trans HX8.out)).mono ?_
      rintro e w9 ⟨rfl, hb⟩
      have HX9 := Lib.hid (HX8.out.trans hb)
      clear hb d0 d1
      go_wp2_with fail
      with_reducible refine (K10.out _ (HB1.out.trans HX9.out)).mono ?_
      rintro e w10 ⟨rfl, hb⟩
      have HX10 := Lib.hid (HX9.out.trans hb)
      clear hb
      have d0 := HX10.out.cell HD0.out
      have d1 := HX10.out.cell HD1.out
      go_wp2_with fail
      with_reducible refine (K11.out _ (HB1.out.trans HX10.out)).mono ?_
      rintro e w11 ⟨rfl, hb⟩
      have HX11 := Lib.hid (HX10.out.trans hb)
      clear hb d0 d1
      go_wp2
      go_ret
      exact ⟨rfl, HB1.out.trans HX11.out⟩
  · obtain ⟨m, hm⟩ : ∃ m, n = m + 1 := ⟨r.length, by rw [← HN.out, hl]; simp⟩
    have hz : l[m]? = some z := by
      have e : m = r.length := by have := HN.out; rw [hl] at this; simp at this; omega
      rw [hl, e]
      simp
    obtain ⟨y, hy⟩ : ∃ y, l[0]? = some y := ⟨_, List.getElem?_eq_getElem (by have := HN.out; omega)⟩
    have eh : l.head? = some y := by rw [← hy]; simp [List.head?_eq_getElem?]
    have el : l.getLast? = some z := by rw [hl]; simp
    rw [el] at K5
    rw [eh]
    obtain ⟨b, off, rfl, _, hr⟩ := lies_int HL1.out (i := 0) (by have := HN.out; omega)
    have y0 := Lib.hid (row_int hr hy)
    have z0 := Lib.hid (row_int hr hz)
    clear hr hy hz eh el hl
    subst hm
    have hm1 : ((m + 1 : Nat) : Int) - 1 = m := by omega
    have hn0 : (((m + 1 : Nat) : Int) == 0) = false := by simp; omega
    have E5 : ((y : Int) == y) = true := by simp
    have E6 : ((z : Int) == z) = true := by simp
    unfold ans at *
    go_wp2_with fail
    with_reducible refine (K5.out _ (HB1.out.trans HX4.out)).mono ?_
    rintro e w5 ⟨rfl, hb⟩
    have HX5 := Lib.hid (HX4.out.trans hb)
    have y1 := HX5.out.cell y0.out
    have z1 := HX5.out.cell z0.out
    rw [Nat.add_zero] at y1
    clear hb
    cases wh
    all_goals
      unfold wv at K11
      go_wp2_with fail
      with_reducible refine (K6.out _ (HB1.out.trans HX5.out)).mono ?_
      rintro e w6 ⟨rfl, hb⟩
      have HX6 := Lib.hid (HX5.out.trans hb)
      clear hb
      have d0 := HX6.out.cell HD0.out
      have d1 := HX6.out.cell HD1.out
      go_wp2_with fail
      with_reducible refine (K7.out _ (HB1.out.trans HX6.out)).mono ?_
      rintro e w7 ⟨rfl, hb⟩
      have HX7 := Lib.hid (HX6.out.trans hb)
      clear hb d0 d1
      go_wp2_with fail
      with_reducible refine (K8.out _ (HB1.out.trans HX7.out)).mono ?_
      rintro e w8 ⟨rfl, hb⟩
      have HX8 := Lib.hid (HX7.out.trans hb)
      clear hb
      have d0 := HX8.out.cell HD0.out
      have d1 := HX8.out.cell HD1.out
      go_wp2_with fail
      with_reducible refine (K9.out _ (HB1.out.trans HX8.out)).mono ?_
      rintro e w9 ⟨rfl, hb⟩
      have HX9 := Lib.hid (HX8.out.trans hb)
      clear hb d0 d1
      go_wp2_with fail
      with_reducible refine (K10.out _ (HB1.out.trans HX9.out)).mono ?_
      rintro e w10 ⟨rfl, hb⟩
      have HX10 := Lib.hid (HX9.out.trans hb)
      clear hb
      have d0 := HX10.out.cell HD0.out
      have d1 := HX10.out.cell HD1.out
      go_wp2_with fail
      with_reducible refine (K11.out _ (HB1.out.trans HX10.out)).mono ?_
      rintro e w11 ⟨rfl, hb⟩
      have HX11 := Lib.hid (HX10.out.trans hb)
      clear hb d0 d1
      go_wp2
      go_ret
      exact ⟨rfl, HB1.out.trans HX11.out⟩
set_option maxHeartbeats 1000000 in
theorem alike_any (B G P L : Nat) (ls : Ls) (p : Option Addr) (c : Nat) (x : Int) (w : World) (hC : Ch w B G P L ls) (hR : RefIn nof w p L ls) :
    Calls Try.prog 11 #[.pointer (some ⟨B, 0, none⟩), rv P p L c, .int .i64 x] w fun e w' => e = .returned (.bool true) ∧ Bel w w' := by
  have K := Lib.hid (fun y w' (h : Bel w w') => tells_any B G P L ls p c y w' (hC.bel h) (hR.bel h))
  unfold rv at *
  clear hC hR
  go_enter Try.func11, Try.ntmps11
  go_wp2
  generalize hW : w.alloc (.cells #[.int .i64 P, .slice p L c] 27) = W
  have HB : Hid (Bel w W) := Lib.hid (by rw [← hW]; exact (Bel.refl _).alloc _ _)
  have d0 : W.cell? ⟨w.heap.size, 0, none⟩ = some (.int .i64 P) := by rw [← hW]; simp [go_sem]
  have d1 : W.cell? ⟨w.heap.size, 1, none⟩ = some (.slice p L c) := by rw [← hW]; simp [go_sem]
  have D0 := Lib.hid d0
  have D1 := Lib.hid d1
  clear hW d0 d1
  go_loopw [7, 8] (fun v _ wr => ∃ m : Int, v = .int .i64 m ∧ -1 ≤ m ∧ m ≤ 12 ∧ Bel W wr) (fun v _ _ => (12 - intOf v).toNat)
  case atStart => exact ⟨-1, rfl, by omega, by omega, Bel.refl _⟩
  case round =>
    obtain ⟨m, rfl, h0, h1, hb⟩ := hrel
    have HBr := Lib.hid hb
    have d0 := hb.cell D0.out
    have d1 := hb.cell D1.out
    clear hb
    by_cases hlt : m < 12
    · go_wp2_with fail
      with_reducible refine (K.out m _ (HB.out.trans HBr.out)).mono ?_
      rintro e w1 ⟨rfl, hb⟩
      have HB1 := Lib.hid (HBr.out.trans hb)
      clear hb d0 d1
      go_wp2
      go_roundw
      case rel => exact ⟨m + 1, by go_num, by omega, by omega, HB1.out⟩
      case measure => simp [intOf]; omega
    · go_wp2_with fail
      with_reducible refine (K.out x _ (HB.out.trans HBr.out)).mono ?_
      rintro e w1 ⟨rfl, hb⟩
      have HB1 := Lib.hid (HBr.out.trans hb)
      clear hb d0 d1
      go_wp2
      go_ret
      exact ⟨rfl, HB.out.trans HB1.out⟩
end Go.Proofs.Ytdeiknfaehpheaa
