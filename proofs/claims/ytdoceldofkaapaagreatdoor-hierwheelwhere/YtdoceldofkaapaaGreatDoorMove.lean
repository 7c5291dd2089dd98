/-
  Contracts of chain's put, Append, Insert and Drop.
-/
import Derived.Test.YtdoceldofkaapaaGreatDoorXac
import Derived.BigRegion
set_option linter.unusedVariables false
set_option linter.unusedSimpArgs false
namespace Go.Proofs.YtdoceldofkaapaaGreatDoor
open Go.RowKit
/-- The ring behind put. -/
def putG (g : Rg) (p a b : Nat) : Rg := joinG (joinG (upL g p (g b).li) a p) p b
theorem put_any (B G P L : Nat) (g : Rg) (p a b : Nat) (w : World) (h : Chn w B G P L g) (hp : p < P + L) (hb : b < P + L) (ha : a < P + L) (hab : (g b).ah = a) (hs : P + L ≤ 2048) :
    Calls Tryz.prog 135 #[.pointer (some ⟨B, 0, none⟩), .int .i64 p, .int .i64 b] w fun e w' => e = .returned (.tuple #[]) ∧ Chn w' B G P L (putG g p a b) ∧ Off (Only G) w w' := by
  obtain ⟨c0, c1⟩ := h.head
  obtain ⟨_, _, p2, fz⟩ := h.at hp
  obtain ⟨_, _, b2, _⟩ := h.at hb
  obtain ⟨k1, o1⟩ := h.putL hp (g b).li
  have hab1 : (upL g p (g b).li b).ah = a := by unfold upL; split <;> simp [hab]
  have z := fz (p * 3 + 2)
  unfold putG
  generalize upL g p (g b).li = g1 at *
  generalize (g b).li = v at *
  generalize (g p).li = v2 at *
  have HK : Hid (Chn ((w.setCell ⟨G, p * 3 + 2, none⟩ (.int .i64 v)).drew) B G P L g1 ∧ Off (Only G) w ((w.setCell ⟨G, p * 3 + 2, none⟩ (.int .i64 v)).drew)) := Lib.hid ⟨k1.bel (Bel.refl _).drew, o1.drew⟩
  have J1 := Lib.hid (fun w' (h : Chn w' B G P L g1) => join_any B G P L g1 a p w' h ha hp hs)
  have J2 := Lib.hid (fun w' (h : Chn w' B G P L (joinG g1 a p)) => join_any B G P L (joinG g1 a p) p b w' h hp hb hs)
  have AT := Lib.hid (fun w' (h : Chn w' B G P L g1) => (show w'.cell? ⟨G, b * 3, none⟩ = some (.int .i64 a) by rw [(h.at hb).1, hab1]))
  clear k1 o1 h fz hab hab1
  have hB1 := Lib.hid (fun w' (h : Chn w' B G P L g1) => h.head.2)
  generalize P + L = N at *
  go_enter Tryz.func135, Tryz.ntmps135
  go_wp2
  go_region
  generalize (w.setCell ⟨G, p * 3 + 2, none⟩ (.int .i64 v)).drew = W at *
  have d1 := hB1.out _ HK.out.1
  have x1 := AT.out _ HK.out.1
  go_wp2_with fail
  with_reducible refine (J1.out _ HK.out.1).mono ?_
  rintro e w1 ⟨rfl, hc, ho⟩
  have HK2 := Lib.hid (And.intro hc (HK.out.2.then ho))
  clear hc ho d1 x1
  go_wp2_with fail
  with_reducible refine (J2.out _ HK2.out.1).mono ?_
  rintro e w2 ⟨rfl, hc, ho⟩
  have HK3 := Lib.hid (And.intro hc (HK2.out.2.then ho))
  clear hc ho
  go_wp2
  go_end0
  exact ⟨rfl, HK3.out⟩
theorem append_arg (B G P L : Nat) (g : Rg) (t p : Int) (w : World) (h : Chn w B G P L g) (hP : P ≤ 1024) (hL : L ≤ 1024) (hn : (hp L t && hp P p) = false) :
    Calls Tryz.prog 109 #[.pointer (some ⟨B, 0, none⟩), .int .i64 t, .int .i64 p] w fun e w' => e = .returned (.int .i64 1) ∧ Bel w w' := by
  have K1 := Lib.hid (fun w' (h : Chn w' B G P L g) => hasList_any B P L _ t w' h.head.1 h.head.2 hP hL)
  have K2 := Lib.hid (fun w' (h : Chn w' B G P L g) => hasPlace_any B P p w' h.head.1)
  have H := Lib.hid h
  clear h
  cases h1 : hp L t with
  | false =>
    rw [h1] at K1
    clear h1
    go_enter Tryz.func109, Tryz.ntmps109
    go_wp2_with fail
    with_reducible refine (K1.out _ H.out).mono ?_
    rintro e w1 ⟨rfl, k, rfl⟩
    go_wp2
    go_ret
    exact ⟨rfl, (Bel.refl _).drewN k⟩
  | true =>
    rw [h1, Bool.true_and] at hn
    rw [h1] at K1
    rw [hn] at K2
    clear h1 hn
    go_enter Tryz.func109, Tryz.ntmps109
    go_wp2_with fail
    with_reducible refine (K1.out _ H.out).mono ?_
    rintro e w1 ⟨rfl, k, rfl⟩
    go_wp2_with fail
    with_reducible refine (K2.out _ (H.out.bel ((Bel.refl _).drewN k))).mono ?_
    rintro e w2 ⟨rfl, rfl⟩
    go_wp2
    go_ret
    exact ⟨rfl, (Bel.refl _).drewN k⟩
theorem append_in (B G P L : Nat) (g : Rg) (t p : Nat) (w : World) (h : Chn w B G P L g) (hP : P ≤ 1024) (hL : L ≤ 1024) (ht : t < L) (hp' : p < P) (hi : (g p).li ≠ -1) :
    Calls Tryz.prog 109 #[.pointer (some ⟨B, 0, none⟩), .int .i64 t, .int .i64 p] w fun e w' => e = .returned (.int .i64 4) ∧ Bel w w' := by
  have K1 := Lib.hid (fun w' (h : Chn w' B G P L g) => hasList_any B P L _ t w' h.head.1 h.head.2 hP hL)
  have K2 := Lib.hid (fun w' (h : Chn w' B G P L g) => hasPlace_any B P p w' h.head.1)
  have K3 := Lib.hid (fun w' (h : Chn w' B G P L g) => isIn_any B G P L g p w' h (by omega) (by omega))
  rw [hp_yes ht] at K1
  rw [hp_yes hp'] at K2
  rw [decide_eq_false hi] at K3
  have H := Lib.hid h
  clear h hi
  go_enter Tryz.func109, Tryz.ntmps109
  go_wp2_with fail
  with_reducible refine (K1.out _ H.out).mono ?_
  rintro e w1 ⟨rfl, k, rfl⟩
  have H2 := Lib.hid (H.out.bel ((Bel.refl _).drewN k))
  go_wp2_with fail
  with_reducible refine (K2.out _ H2.out).mono ?_
  rintro e w2 ⟨rfl, rfl⟩
  go_wp2_with fail
  with_reducible refine (K3.out _ H2.out).mono ?_
  rintro e w2 ⟨rfl, rfl⟩
  go_wp2
  go_ret
  exact ⟨rfl, (Bel.refl _).drewN k⟩
theorem append_ok (B G P L : Nat) (g : Rg) (t p a : Nat) (w : World) (h : Chn w B G P L g) (hP : P ≤ 1024) (hL : L ≤ 1024) (ht : t < L) (hp' : p < P) (hi : (g p).li = -1) (ha : a < P + L) (hab : (g (P + t)).ah = a) :
    Calls Tryz.prog 109 #[.pointer (some ⟨B, 0, none⟩), .int .i64 t, .int .i64 p] w fun e w' => e = .returned (.int .i64 0) ∧ Chn w' B G P L (putG g p a (P + t)) ∧ Off (Only G) w w' := by
  have K1 := Lib.hid (fun w' (h : Chn w' B G P L g) => hasList_any B P L _ t w' h.head.1 h.head.2 hP hL)
  have K2 := Lib.hid (fun w' (h : Chn w' B G P L g) => hasPlace_any B P p w' h.head.1)
  have K3 := Lib.hid (fun w' (h : Chn w' B G P L g) => isIn_any B G P L g p w' h (by omega) (by omega))
  have K4 := Lib.hid (fun w' (h : Chn w' B G P L g) => end_any B P t w' h.head.1 hP (by omega))
  have K5 := Lib.hid (fun w' (h : Chn w' B G P L g) => put_any B G P L g p a (P + t) w' h (by omega) (by omega) ha hab (by omega))
  rw [hp_yes ht] at K1
  rw [hp_yes hp'] at K2
  rw [decide_eq_true hi] at K3
  have H := Lib.hid h
  clear h hi hab
  generalize P + t = E at *
  go_enter Tryz.func109, Tryz.ntmps109
  go_wp2_with fail
  with_reducible refine (K1.out _ H.out).mono ?_
  rintro e w1 ⟨rfl, k, rfl⟩
  have H2 := Lib.hid (H.out.bel ((Bel.refl _).drewN k))
  go_wp2_with fail
  with_reducible refine (K2.out _ H2.out).mono ?_
  rintro e w2 ⟨rfl, rfl⟩
  go_wp2_with fail
  with_reducible refine (K3.out _ H2.out).mono ?_
  rintro e w2 ⟨rfl, rfl⟩
  go_wp2_with fail
  with_reducible refine (K4.out _ H2.out).mono ?_
  rintro e w2 ⟨rfl, rfl⟩
  go_wp2_with fail
  with_reducible refine (K5.out _ H2.out).mono ?_
  rintro e w3 ⟨rfl, hc, ho⟩
  have HC := Lib.hid hc
  have HO := Lib.hid (((Off.refl (Only G) w).drewN k).then ho)
  clear hc ho
  go_wp2
  go_ret
  exact ⟨rfl, HC.out, HO.out⟩
theorem insert_arg (B G P L : Nat) (g : Rg) (p b : Int) (w : World) (h : Chn w B G P L g) (hn : (hp P p && hp P b) = false) :
    Calls Tryz.prog 133 #[.pointer (some ⟨B, 0, none⟩), .int .i64 p, .int .i64 b] w fun e w' => e = .returned (.int .i64 1) ∧ Bel w w' := by
  have K1 := Lib.hid (fun w' (h : Chn w' B G P L g) => hasPlace_any B P p w' h.head.1)
  have K2 := Lib.hid (fun w' (h : Chn w' B G P L g) => hasPlace_any B P b w' h.head.1)
  have H := Lib.hid h
  clear h
  cases h1 : hp P p with
  | false =>
    rw [h1] at K1
    clear h1
    go_enter Tryz.func133, Tryz.ntmps133
    go_wp2_with fail
    with_reducible refine (K1.out _ H.out).mono ?_
    rintro e w1 ⟨rfl, rfl⟩
    go_wp2
    go_ret
    exact ⟨rfl, Bel.refl _⟩
  | true =>
    rw [h1, Bool.true_and] at hn
    rw [h1] at K1
    rw [hn] at K2
    clear h1 hn
    go_enter Tryz.func133, Tryz.ntmps133
    go_wp2_with fail
    with_reducible refine (K1.out _ H.out).mono ?_
    rintro e w1 ⟨rfl, rfl⟩
    go_wp2_with fail
    with_reducible refine (K2.out _ H.out).mono ?_
    rintro e w2 ⟨rfl, rfl⟩
    go_wp2
    go_ret
    exact ⟨rfl, Bel.refl _⟩
theorem insert_in (B G P L : Nat) (g : Rg) (p b : Nat) (w : World) (h : Chn w B G P L g) (hP : P ≤ 1024) (hL : L ≤ 1024) (hp' : p < P) (hb : b < P) (hi : (g p).li ≠ -1) :
    Calls Tryz.prog 133 #[.pointer (some ⟨B, 0, none⟩), .int .i64 p, .int .i64 b] w fun e w' => e = .returned (.int .i64 4) ∧ Bel w w' := by
  have K1 := Lib.hid (fun w' (h : Chn w' B G P L g) => hasPlace_any B P p w' h.head.1)
  have K2 := Lib.hid (fun w' (h : Chn w' B G P L g) => hasPlace_any B P b w' h.head.1)
  have K3 := Lib.hid (fun w' (h : Chn w' B G P L g) => isIn_any B G P L g p w' h (by omega) (by omega))
  rw [hp_yes hp'] at K1
  rw [hp_yes hb] at K2
  rw [decide_eq_false hi] at K3
  have H := Lib.hid h
  clear h hi
  go_enter Tryz.func133, Tryz.ntmps133
  go_wp2_with fail
  with_reducible refine (K1.out _ H.out).mono ?_
  rintro e w1 ⟨rfl, rfl⟩
  go_wp2_with fail
  with_reducible refine (K2.out _ H.out).mono ?_
  rintro e w2 ⟨rfl, rfl⟩
  go_wp2_with fail
  with_reducible refine (K3.out _ H.out).mono ?_
  rintro e w2 ⟨rfl, rfl⟩
  go_wp2
  go_ret
  exact ⟨rfl, Bel.refl _⟩
theorem insert_none (B G P L : Nat) (g : Rg) (p b : Nat) (w : World) (h : Chn w B G P L g) (hP : P ≤ 1024) (hL : L ≤ 1024) (hp' : p < P) (hb : b < P) (hi : (g p).li = -1) (hj : (g b).li = -1) :
    Calls Tryz.prog 133 #[.pointer (some ⟨B, 0, none⟩), .int .i64 p, .int .i64 b] w fun e w' => e = .returned (.int .i64 5) ∧ Bel w w' := by
  have K1 := Lib.hid (fun w' (h : Chn w' B G P L g) => hasPlace_any B P p w' h.head.1)
  have K2 := Lib.hid (fun w' (h : Chn w' B G P L g) => hasPlace_any B P b w' h.head.1)
  have K3 := Lib.hid (fun w' (h : Chn w' B G P L g) => isIn_any B G P L g p w' h (by omega) (by omega))
  have K4 := Lib.hid (fun w' (h : Chn w' B G P L g) => isIn_any B G P L g b w' h (by omega) (by omega))
  rw [hp_yes hp'] at K1
  rw [hp_yes hb] at K2
  rw [decide_eq_true hi] at K3
  rw [decide_eq_true hj] at K4
  have H := Lib.hid h
  clear h hi hj
  go_enter Tryz.func133, Tryz.ntmps133
  go_wp2_with fail
  with_reducible refine (K1.out _ H.out).mono ?_
  rintro e w1 ⟨rfl, rfl⟩
  go_wp2_with fail
  with_reducible refine (K2.out _ H.out).mono ?_
  rintro e w2 ⟨rfl, rfl⟩
  go_wp2_with fail
  with_reducible refine (K3.out _ H.out).mono ?_
  rintro e w2 ⟨rfl, rfl⟩
  go_wp2_with fail
  with_reducible refine (K4.out _ H.out).mono ?_
  rintro e w2 ⟨rfl, rfl⟩
  go_wp2
  go_ret
  exact ⟨rfl, Bel.refl _⟩
theorem insert_ok (B G P L : Nat) (g : Rg) (p b a : Nat) (w : World) (h : Chn w B G P L g) (hP : P ≤ 1024) (hL : L ≤ 1024) (hp' : p < P) (hb : b < P) (hi : (g p).li = -1) (hj : (g b).li ≠ -1) (ha : a < P + L) (hab : (g b).ah = a) :
    Calls Tryz.prog 133 #[.pointer (some ⟨B, 0, none⟩), .int .i64 p, .int .i64 b] w fun e w' => e = .returned (.int .i64 0) ∧ Chn w' B G P L (putG g p a b) ∧ Off (Only G) w w' := by
  have K1 := Lib.hid (fun w' (h : Chn w' B G P L g) => hasPlace_any B P p w' h.head.1)
  have K2 := Lib.hid (fun w' (h : Chn w' B G P L g) => hasPlace_any B P b w' h.head.1)
  have K3 := Lib.hid (fun w' (h : Chn w' B G P L g) => isIn_any B G P L g p w' h (by omega) (by omega))
  have K4 := Lib.hid (fun w' (h : Chn w' B G P L g) => isIn_any B G P L g b w' h (by omega) (by omega))
  have K5 := Lib.hid (fun w' (h : Chn w' B G P L g) => put_any B G P L g p a b w' h (by omega) (by omega) ha hab (by omega))
  rw [hp_yes hp'] at K1
  rw [hp_yes hb] at K2
  rw [decide_eq_true hi] at K3
  rw [decide_eq_false hj] at K4
  have H := Lib.hid h
  clear h hi hj hab
  go_enter Tryz.func133, Tryz.ntmps133
  go_wp2_with fail
  with_reducible refine (K1.out _ H.out).mono ?_
  rintro e w1 ⟨rfl, rfl⟩
  go_wp2_with fail
  with_reducible refine (K2.out _ H.out).mono ?_
  rintro e w2 ⟨rfl, rfl⟩
  go_wp2_with fail
  with_reducible refine (K3.out _ H.out).mono ?_
  rintro e w2 ⟨rfl, rfl⟩
  go_wp2_with fail
  with_reducible refine (K4.out _ H.out).mono ?_
  rintro e w2 ⟨rfl, rfl⟩
  go_wp2_with fail
  with_reducible refine (K5.out _ H.out).mono ?_
  rintro e w3 ⟨rfl, hc, ho⟩
  have HC := Lib.hid (And.intro hc ho)
  clear hc ho
  go_wp2
  go_ret
  exact ⟨rfl, HC.out⟩
end Go.Proofs.YtdoceldofkaapaaGreatDoor
