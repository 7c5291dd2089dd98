/-
  Contracts of chain's put, Append, Insert and Drop.
  Contracts of chain's Drop and New.
  Contract of chain's New.
-/
import Derived.Test.YtdoceldofkaapaaGreatDoorXac
import Derived.BigRegion
set_option linter.unusedVariables false
set_option linter.unusedSimpArgs false
namespace Go.Proofs.YtdoceldofkaapaaGreatDoor
open Go.RowKit
/-- The ring behind put. -/
def putG (g : Rg) (p a b : Nat) : Rg := joinG (joinG (upL g p (g b).li) a p) p b
theorem put_any (B G P L : Nat) (g : Rg) (p a b : Nat) (w : World) (h : Chn w B G P L g) (hp : p < P + L) (hb : b < P + L) (ha : a < P + L) (hab : (g b).ah = a) (hs : P + L ≤ 2048) :
    Calls Tryz.prog 135 #[.pointer (some ⟨B, 0, none⟩), .int .i64 p, .int .i64 b] w fun e w' => e = .returned (.tuple #[]) ∧ Chn w' B G P L (putG g p a b) ∧ Off (Only G) w w' := by
  obtain ⟨c0, c1⟩ := h.head
  obtain ⟨_, _, p2, fz⟩ := h.at hp
  obtain ⟨_, _, b2, _⟩ := h.at hb
  obtain ⟨k1, o1⟩ := h.putL hp (g b).li
  have hab1 : (upL g p (g b).li b).ah = a := by unfold upL; split <;> simp [hab]
  have z := fz (p * 3 + 2)
  unfold putG
  generalize upL g p (g b).li = g1 at *
  generalize (g b).li = v at *
  generalize (g p).li = v2 at *
  have HK : Hid (Chn ((w.setCell ⟨G, p * 3 + 2, none⟩ (.int .i64 v)).drew) B G P L g1 ∧ Off (Only G) w ((w.setCell ⟨G, p * 3 + 2, none⟩ (.int .i64 v)).drew)) := Lib.hid ⟨k1.bel (Bel.refl _).drew, o1.drew⟩
  have J1 := Lib.hid (fun w' (h : Chn w' B G P L g1) => join_any B G P L g1 a p w' h ha hp hs)
  have J2 := Lib.hid (fun w' (h : Chn w' B G P L (joinG g1 a p)) => join_any B G P L (joinG g1 a p) p b w' h hp hb hs)
  have AT := Lib.hid (fun w' (h : Chn w' B G P L g1) => (show w'.cell? ⟨G, b * 3, none⟩ = some (.int .i64 a) by rw [(h.at hb).1, hab1]))
  clear k1 o1 h fz hab hab1
  have hB1 := Lib.hid (fun w' (h : Chn w' B G P L g1) => h.head.2)
  generalize P + L = N at *
  go_enter Tryz.func135, Tryz.ntmps135
  go_wp2
  go_region
  generalize (w.setCell ⟨G, p * 3 + 2, none⟩ (.int .i64 v)).drew = W at *
  have d1 := hB1.out _ HK.out.1
  have x1 := AT.out _ HK.out.1
  go_wp2_with fail
  with_reducible refine (J1.out _ HK.out.1).mono ?_
  rintro e w1 ⟨rfl, hc, ho⟩
  have HK2 := Lib.hid (And.intro hc (HK.out.2.then ho))
  clear hc ho d1 x1
  go_wp2_with fail
  with_reducible refine (J2.out _ HK2.out.1).mono ?_
  rintro e w2 ⟨rfl, hc, ho⟩
  have HK3 := Lib.hid (And.intro hc (HK2.out.2.then ho))
  clear hc ho
  go_wp2
  go_end0
  exact ⟨rfl, HK3.out⟩
theorem append_arg (B G P L : Nat) (g : Rg) (t p : Int) (w : World) (h : Chn w B G P L g) (hP : P ≤ 1024) (hL : L ≤ 1024) (hn : (hp L t && hp P p) = false) :
    Calls Tryz.prog 109 #[.pointer (some ⟨B, 0, none⟩), .int .i64 t, .int .i64 p] w fun e w' => e = .returned (.int .i64 1) ∧ Bel w w' := by
  have K1 := Lib.hid (fun w' (h : Chn w' B G P L g) => hasList_any B P L _ t w' h.head.1 h.head.2 hP hL)
  have K2 := Lib.hid (fun w' (h : Chn w' B G P L g) => hasPlace_any B P p w' h.head.1)
  have H := Lib.hid h
  clear h
  cases h1 : hp L t with
  | false =>
    rw [h1] at K1
    clear h1
    go_enter Tryz.func109, Tryz.ntmps109
    go_wp2_with fail
    with_reducible refine (K1.out _ H.out).mono ?_
    rintro e w1 ⟨rfl, k, rfl⟩
    go_wp2
    go_ret
    exact ⟨rfl, (Bel.refl _).drewN k⟩
  | true =>
    rw [h1, Bool.true_and] at hn
    rw [h1] at K1
    rw [hn] at K2
    clear h1 hn
    go_enter Tryz.func109, Tryz.ntmps109
    go_wp2_with fail
    with_reducible refine (K1.out _ H.out).mono ?_
    rintro e w1 ⟨rfl, k, rfl⟩
    go_wp2_with fail
    with_reducible refine (K2.out _ (H.out.bel ((Bel.refl _).drewN k))).mono ?_
    rintro e w2 ⟨rfl, rfl⟩
    go_wp2
    go_ret
    exact ⟨rfl, (Bel.refl _).drewN k⟩
theorem append_in (B G P L : Nat) (g : Rg) (t p : Nat) (w : World) (h : Chn w B G P L g) (hP : P ≤ 1024) (hL : L ≤ 1024) (ht : t < L) (hp' : p < P) (hi : (g p).li ≠ -1) :
    Calls Tryz.prog 109 #[.pointer (some ⟨B, 0, none⟩), .int .i64 t, .int .i64 p] w fun e w' => e = .returned (.int .i64 4) ∧ Bel w w' := by
  have K1 := Lib.hid (fun w' (h : Chn w' B G P L g) => hasList_any B P L _ t w' h.head.1 h.head.2 hP hL)
  have K2 := Lib.hid (fun w' (h : Chn w' B G P L g) => hasPlace_any B P p w' h.head.1)
  have K3 := Lib.hid (fun w' (h : Chn w' B G P L g) => isIn_any B G P L g p w' h (by omega) (by omega))
  rw [hp_yes ht] at K1
  rw [hp_yes hp'] at K2
  rw [decide_eq_false hi] at K3
  have H := Lib.hid h
  clear h hi
  go_enter Tryz.func109, Tryz.ntmps109
  go_wp2_with fail
  with_reducible refine (K1.out _ H.out).mono ?_
  rintro e w1 ⟨rfl, k, rfl⟩
  have H2 := Lib.hid (H.out.bel ((Bel.refl _).drewN k))
  go_wp2_with fail
  with_reducible refine (K2.out _ H2.out).mono ?_
  rintro e w2 ⟨rfl, rfl⟩
  go_wp2_with fail
  with_reducible refine (K3.out _ H2.out).mono ?_
  rintro e w2 ⟨rfl, rfl⟩
  go_wp2
  go_ret
  exact ⟨rfl, (Bel.refl _).drewN k⟩
theorem append_ok (B G P L : Nat) (g : Rg) (t p a : Nat) (w : World) (h : Chn w B G P L g) (hP : P ≤ 1024) (hL : L ≤ 1024) (ht : t < L) (hp' : p < P) (hi : (g p).li = -1) (ha : a < P + L) (hab : (g (P + t)).ah = a) :
    Calls Tryz.prog 109 #[.pointer (some ⟨B, 0, none⟩), .int .i64 t, .int .i64 p] w fun e w' => e = .returned (.int .i64 0) ∧ Chn w' B G P L (putG g p a (P + t)) ∧ Off (Only G) w w' := by
  have K1 := Lib.hid (fun w' (h : Chn w' B G P L g) => hasList_any B P L _ t w' h.head.1 h.head.2 hP hL)
  have K2 := Lib.hid (fun w' (h : Chn w' B G P L g) => hasPlace_any B P p w' h.head.1)
  have K3 := Lib.hid (fun w' (h : Chn w' B G P L g) => isIn_any B G P L g p w' h (by omega) (by omega))
  have K4 := Lib.hid (fun w' (h : Chn w' B G P L g) => end_any B P t w' h.head.1 hP (by omega))
  have K5 := Lib.hid (fun w' (h : Chn w' B G P L g) => put_any B G P L g p a (P + t) w' h (by omega) (by omega) ha hab (by omega))
  rw [hp_yes ht] at K1
  rw [hp_yes hp'] at K2
  rw [decide_eq_true hi] at K3
  have H := Lib.hid h
  clear h hi hab
  generalize P + t = E at *
  go_enter Tryz.func109, Tryz.ntmps109
  go_wp2_with fail
  with_reducible refine (K1.out _ H.out).mono ?_
  rintro e w1 ⟨rfl, k, rfl⟩
  have H2 := Lib.hid (H.out.bel ((Bel.refl _).drewN k))
  go_wp2_with fail
  with_reducible refine (K2.out _ H2.out).mono ?_
  rintro e w2 ⟨rfl, rfl⟩
  go_wp2_with fail
  with_reducible refine (K3.out _ H2.out).mono ?_
  rintro e w2 ⟨rfl, rfl⟩
  go_wp2_with fail
  with_reducible refine (K4.out _ H2.out).mono ?_
  rintro e w2 ⟨rfl, rfl⟩
  go_wp2_with fail
  with_reducible refine (K5.out _ H2.out).mono ?_
  rintro e w3 ⟨rfl, hc, ho⟩
  have HC := Lib.hid hc
  have HO := Lib.hid (((Off.refl (Only G) w).drewN k).then ho)
  clear hc ho
  go_wp2
  go_ret
  exact ⟨rfl, HC.out, HO.out⟩
theorem insert_arg (B G P L : Nat) (g : Rg) (p b : Int) (w : World) (h : Chn w B G P L g) (hn : (hp P p && hp P b) = false) :
    Calls Tryz.prog 133 #[.pointer (some ⟨B, 0, none⟩), .int .i64 p, .int .i64 b] w fun e w' => e = .returned (.int .i64 1) ∧ Bel w w' := by
  have K1 := Lib.hid (fun w' (h : Chn w' B G P L g) => hasPlace_any B P p w' h.head.1)
  have K2 := Lib.hid (fun w' (h : Chn w' B G P L g) => hasPlace_any B P b w' h.head.1)
  have H := Lib.hid h
  clear h
  cases h1 : hp P p with
  | false =>
    rw [h1] at K1
    clear h1
    go_enter Tryz.func133, Tryz.ntmps133
    go_wp2_with fail
    with_reducible refine (K1.out _ H.out).mono ?_
    rintro e w1 ⟨rfl, rfl⟩
    go_wp2
    go_ret
    exact ⟨rfl, Bel.refl _⟩
  | true =>
    rw [h1, Bool.true_and] at hn
    rw [h1] at K1
    rw [hn] at K2
    clear h1 hn
    go_enter Tryz.func133, Tryz.ntmps133
    go_wp2_with fail
    with_reducible refine (K1.out _ H.out).mono ?_
    rintro e w1 ⟨rfl, rfl⟩
    go_wp2_with fail
    with_reducible refine (K2.out _ H.out).mono ?_
    rintro e w2 ⟨rfl, rfl⟩
    go_wp2
    go_ret
    exact ⟨rfl, Bel.refl _⟩
theorem insert_in (B G P L : Nat) (g : Rg) (p b : Nat) (w : World) (h : Chn w B G P L g) (hP : P ≤ 1024) (hL : L ≤ 1024) (hp' : p < P) (hb : b < P) (hi : (g p).li ≠ -1) :
    Calls Tryz.prog 133 #[.pointer (some ⟨B, 0, none⟩), .int .i64 p, .int .i64 b] w fun e w' => e = .returned (.int .i64 4) ∧ Bel w w' := by
  have K1 := Lib.hid (fun w' (h : Chn w' B G P L g) => hasPlace_any B P p w' h.head.1)
  have K2 := Lib.hid (fun w' (h : Chn w' B G P L g) => hasPlace_any B P b w' h.head.1)
  have K3 := Lib.hid (fun w' (h : Chn w' B G P L g) => isIn_any B G P L g p w' h (by omega) (by omega))
  rw [hp_yes hp'] at K1
  rw [hp_yes hb] at K2
  rw [decide_eq_false hi] at K3
  have H := Lib.hid h
  clear h hi
  go_enter Tryz.func133, Tryz.ntmps133
  go_wp2_with fail
  with_reducible refine (K1.out _ H.out).mono ?_
  rintro e w1 ⟨rfl, rfl⟩
  go_wp2_with fail
  with_reducible refine (K2.out _ H.out).mono ?_
  rintro e w2 ⟨rfl, rfl⟩
  go_wp2_with fail
  with_reducible refine (K3.out _ H.out).mono ?_
  rintro e w2 ⟨rfl, rfl⟩
  go_wp2
  go_ret
  exact ⟨rfl, Bel.refl _⟩
theorem insert_none (B G P L : Nat) (g : Rg) (p b : Nat) (w : World) (h : Chn w B G P L g) (hP : P ≤ 1024) (hL : L ≤ 1024) (hp' : p < P) (hb : b < P) (hi : (g p).li = -1) (hj : (g b).li = -1) :
    Calls Tryz.prog 133 #[.pointer (some ⟨B, 0, none⟩), .int .i64 p, .int .i64 b] w fun e w' => e = .returned (.int .i64 5) ∧ Bel w w' := by
  have K1 := Lib.hid (fun w' (h : Chn w' B G P L g) => hasPlace_any B P p w' h.head.1)
  have K2 := Lib.hid (fun w' (h : Chn w' B G P L g) => hasPlace_any B P b w' h.head.1)
  have K3 := Lib.hid (fun w' (h : Chn w' B G P L g) => isIn_any B G P L g p w' h (by omega) (by omega))
  have K4 := Lib.hid (fun w' (h : Chn w' B G P L g) => isIn_any B G P L g b w' h (by omega) (by omega))
  rw [hp_yes hp'] at K1
  rw [hp_yes hb] at K2
  rw [decide_eq_true hi] at K3
  rw [decide_eq_true hj] at K4
  have H := Lib.hid h
  clear h hi hj
  go_enter Tryz.func133, Tryz.ntmps133
  go_wp2_with fail
  with_reducible refine (K1.out _ H.out).mono ?_
  rintro e w1 ⟨rfl, rfl⟩
  go_wp2_with fail
  with_reducible refine (K2.out _ H.out).mono ?_
  rintro e w2 ⟨rfl, rfl⟩
  go_wp2_with fail
  with_reducible refine (K3.out _ H.out).mono ?_
  rintro e w2 ⟨rfl, rfl⟩
  go_wp2_with fail
  with_reducible refine (K4.out _ H.out).mono ?_
  rintro e w2 ⟨rfl, rfl⟩
  go_wp2
  go_ret
  exact ⟨rfl, Bel.refl _⟩
theorem insert_ok (B G P L : Nat) (g : Rg) (p b a : Nat) (w : World) (h : Chn w B G P L g) (hP : P ≤ 1024) (hL : L ≤ 1024) (hp' : p < P) (hb : b < P) (hi : (g p).li = -1) (hj : (g b).li ≠ -1) (ha : a < P + L) (hab : (g b).ah = a) :
    Calls Tryz.prog 133 #[.pointer (some ⟨B, 0, none⟩), .int .i64 p, .int .i64 b] w fun e w' => e = .returned (.int .i64 0) ∧ Chn w' B G P L (putG g p a b) ∧ Off (Only G) w w' := by
  have K1 := Lib.hid (fun w' (h : Chn w' B G P L g) => hasPlace_any B P p w' h.head.1)
  have K2 := Lib.hid (fun w' (h : Chn w' B G P L g) => hasPlace_any B P b w' h.head.1)
  have K3 := Lib.hid (fun w' (h : Chn w' B G P L g) => isIn_any B G P L g p w' h (by omega) (by omega))
  have K4 := Lib.hid (fun w' (h : Chn w' B G P L g) => isIn_any B G P L g b w' h (by omega) (by omega))
  have K5 := Lib.hid (fun w' (h : Chn w' B G P L g) => put_any B G P L g p a b w' h (by omega) (by omega) ha hab (by omega))
  rw [hp_yes hp'] at K1
  rw [hp_yes hb] at K2
  rw [decide_eq_true hi] at K3
  rw [decide_eq_false hj] at K4
  have H := Lib.hid h
  clear h hi hj hab
  go_enter Tryz.func133, Tryz.ntmps133
  go_wp2_with fail
  with_reducible refine (K1.out _ H.out).mono ?_
  rintro e w1 ⟨rfl, rfl⟩
  go_wp2_with fail
  with_reducible refine (K2.out _ H.out).mono ?_
  rintro e w2 ⟨rfl, rfl⟩
  go_wp2_with fail
  with_reducible refine (K3.out _ H.out).mono ?_
  rintro e w2 ⟨rfl, rfl⟩
  go_wp2_with fail
  with_reducible refine (K4.out _ H.out).mono ?_
  rintro e w2 ⟨rfl, rfl⟩
  go_wp2_with fail
  with_reducible refine (K5.out _ H.out).mono ?_
  rintro e w3 ⟨rfl, hc, ho⟩
  have HC := Lib.hid (And.intro hc ho)
  clear hc ho
  go_wp2
  go_ret
  exact ⟨rfl, HC.out⟩
end Go.Proofs.YtdoceldofkaapaaGreatDoor
namespace Go.Proofs.YtdoceldofkaapaaGreatDoor
open Go.RowKit
theorem drop_arg (B G P L : Nat) (g : Rg) (p : Int) (w : World) (h : Chn w B G P L g) (hn : hp P p = false) :
    Calls Tryz.prog 110 #[.pointer (some ⟨B, 0, none⟩), .int .i64 p] w fun e w' => e = .returned (.int .i64 1) ∧ Bel w w' := by
  have K1 := Lib.hid (fun w' (h : Chn w' B G P L g) => hasPlace_any B P p w' h.head.1)
  rw [hn] at K1
  have H := Lib.hid h
  clear h hn
  go_enter Tryz.func110, Tryz.ntmps110
  go_wp2_with fail
  with_reducible refine (K1.out _ H.out).mono ?_
  rintro e w1 ⟨rfl, rfl⟩
  go_wp2
  go_ret
  exact ⟨rfl, Bel.refl _⟩
theorem drop_none (B G P L : Nat) (g : Rg) (p : Nat) (w : World) (h : Chn w B G P L g) (hP : P ≤ 1024) (hL : L ≤ 1024) (hp' : p < P) (hi : (g p).li = -1) :
    Calls Tryz.prog 110 #[.pointer (some ⟨B, 0, none⟩), .int .i64 p] w fun e w' => e = .returned (.int .i64 5) ∧ Bel w w' := by
  have K1 := Lib.hid (fun w' (h : Chn w' B G P L g) => hasPlace_any B P p w' h.head.1)
  have K3 := Lib.hid (fun w' (h : Chn w' B G P L g) => isIn_any B G P L g p w' h (by omega) (by omega))
  rw [hp_yes hp'] at K1
  rw [decide_eq_true hi] at K3
  have H := Lib.hid h
  clear h hi
  go_enter Tryz.func110, Tryz.ntmps110
  go_wp2_with fail
  with_reducible refine (K1.out _ H.out).mono ?_
  rintro e w1 ⟨rfl, rfl⟩
  go_wp2_with fail
  with_reducible refine (K3.out _ H.out).mono ?_
  rintro e w2 ⟨rfl, rfl⟩
  go_wp2
  go_ret
  exact ⟨rfl, Bel.refl _⟩
theorem Chn.putZ {w : World} {B G P L : Nat} {g : Rg} (h : Chn w B G P L g) {i : Nat} (hi : i < P + L) :
    Chn (((w.setCell ⟨G, i * 3, none⟩ (.int .i64 (-1))).setCell ⟨G, i * 3 + 1, none⟩ (.int .i64 (-1))).setCell ⟨G, i * 3 + 2, none⟩ (.int .i64 (-1))) B G P L (upZ g i) ∧ Off (Only G) w (((w.setCell ⟨G, i * 3, none⟩ (.int .i64 (-1))).setCell ⟨G, i * 3 + 1, none⟩ (.int .i64 (-1))).setCell ⟨G, i * 3 + 2, none⟩ (.int .i64 (-1))) := by
  obtain ⟨k1, o1⟩ := h.putA hi (-1)
  obtain ⟨k2, o2⟩ := k1.putB hi (-1)
  obtain ⟨k3, o3⟩ := k2.putL hi (-1)
  have e : upL (upB (upA g i (-1)) i (-1)) i (-1) = upZ g i := by
    funext k
    unfold upL upB upA upZ
    by_cases hk : k = i <;> simp [hk]
  rw [e] at k3
  exact ⟨k3, (o1.then o2).then o3⟩
def dropG (g : Rg) (p a b : Nat) : Rg := upZ (joinG g a b) p
set_option maxRecDepth 100000 in
set_option maxHeartbeats 1000000 in
theorem drop_ok (B G P L : Nat) (g : Rg) (p a b : Nat) (w : World) (h : Chn w B G P L g) (hP : P ≤ 1024) (hL : L ≤ 1024) (hp' : p < P) (hi : (g p).li ≠ -1) (ha : a < P + L) (hb : b < P + L) (hpa : (g p).ah = a) (hpb : (g p).bh = b) :
    Calls Tryz.prog 110 #[.pointer (some ⟨B, 0, none⟩), .int .i64 p] w fun e w' => e = .returned (.int .i64 0) ∧ Chn w' B G P L (dropG g p a b) ∧ Off (Only G) w w' := by
  have K1 := Lib.hid (fun w' (h : Chn w' B G P L g) => hasPlace_any B P p w' h.head.1)
  have K3 := Lib.hid (fun w' (h : Chn w' B G P L g) => isIn_any B G P L g p w' h (by omega) (by omega))
  have K4 := Lib.hid (fun w' (h : Chn w' B G P L g) => join_any B G P L g a b w' h ha hb (by omega))
  rw [hp_yes hp'] at K1
  rw [decide_eq_false hi] at K3
  obtain ⟨c0, c1⟩ := h.head
  obtain ⟨p0, p1, _, _⟩ := h.at (show p < P + L by omega)
  rw [hpa] at p0
  rw [hpb] at p1
  have H := Lib.hid h
  have KZ := Lib.hid (fun w' (h : Chn w' B G P L (joinG g a b)) => h.putZ (show p < P + L by omega))
  have KF := Lib.hid (fun w' (h : Chn w' B G P L (joinG g a b)) => h.at (show p < P + L by omega))
  have KH := Lib.hid (fun w' (h : Chn w' B G P L (joinG g a b)) => h.head.2)
  have hpN : p < P + L := by omega
  have hN : P + L ≤ 2048 := by omega
  unfold dropG
  generalize joinG g a b = g1 at *
  generalize (g1 p).ah = y0 at *
  generalize (g1 p).bh = y1 at *
  generalize (g1 p).li = y2 at *
  clear h hi hpa hpb
  generalize P + L = N at *
  go_enter Tryz.func110, Tryz.ntmps110
  go_wp2_with fail
  with_reducible refine (K1.out _ H.out).mono ?_
  rintro e w1 ⟨rfl, rfl⟩
  go_wp2_with fail
  with_reducible refine (K3.out _ H.out).mono ?_
  rintro e w2 ⟨rfl, rfl⟩
  go_wp2
  go_still_tail 19, (by kernel_rfl)
  have H2 := Lib.hid (H.out.bel (Bel.refl w).drew)
  have OF : Hid (Off (Only G) w w.drew) := Lib.hid (Off.refl _ _).drew
  change wpList _ _ _ _ _ w.drew
  generalize w.drew = W at *
  go_wp2_with fail
  with_reducible refine (K4.out _ H2.out).mono ?_
  rintro e w3 ⟨rfl, hc, ho⟩
  have HC := Lib.hid hc
  have HO := Lib.hid (OF.out.then ho)
  clear hc ho c0 c1 p0 p1
  have c1 := KH.out _ HC.out
  go_wp2
  have KX : Hid (∀ w', Bel w3.drew w' → w'.cell? ⟨B, 1, none⟩ = some (.slice (some ⟨G, 0, none⟩) N N) ∧ (w'.cell? ⟨G, p * 3, none⟩ = some (.int .i64 y0) ∧ w'.cell? ⟨G, p * 3 + 1, none⟩ = some (.int .i64 y1) ∧ w'.cell? ⟨G, p * 3 + 2, none⟩ = some (.int .i64 y2)) ∧ (w'.frozen? ⟨G, p * 3, none⟩ = false ∧ w'.frozen? ⟨G, p * 3 + 1, none⟩ = false ∧ w'.frozen? ⟨G, p * 3 + 2, none⟩ = false)) :=
    Lib.hid (fun w' hb => ⟨KH.out _ (HC.out.bel (Bel.trans (Bel.refl _).drew hb)), ⟨(KF.out _ (HC.out.bel (Bel.trans (Bel.refl _).drew hb))).1, (KF.out _ (HC.out.bel (Bel.trans (Bel.refl _).drew hb))).2.1, (KF.out _ (HC.out.bel (Bel.trans (Bel.refl _).drew hb))).2.2.1⟩, (KF.out _ (HC.out.bel (Bel.trans (Bel.refl _).drew hb))).2.2.2 _, (KF.out _ (HC.out.bel (Bel.trans (Bel.refl _).drew hb))).2.2.2 _, (KF.out _ (HC.out.bel (Bel.trans (Bel.refl _).drew hb))).2.2.2 _⟩)
  go_region_with (go_at_call 112; (with_reducible refine (alone_any _).mono ?_); rintro e w9 ⟨rfl, hg1⟩; obtain ⟨c9, ⟨q0, q1, q2⟩, z0, z1, z2⟩ := KX.out _ hg1)
  all_goals
    go_wp2
    go_ret
    exact ⟨rfl, (KZ.out _ (HC.out.bel (Bel.trans (Bel.refl _).drew (by assumption)))).1, Off.then (HO.out.thenB (Bel.trans (Bel.refl _).drew (by assumption))) (KZ.out _ (HC.out.bel (Bel.trans (Bel.refl _).drew (by assumption)))).2⟩
end Go.Proofs.YtdoceldofkaapaaGreatDoor
namespace Go.Proofs.YtdoceldofkaapaaGreatDoor
open Go.RowKit
theorem made94 (N : Nat) : madeCells (Value.agg #[.int .i64 0, .int .i64 0, .int .i64 0]).cells (N * 3) = (encR N (fun _ => ⟨0, 0, 0⟩)).toArray := by
  apply Array.toList_inj.1
  rw [List.toList_toArray]
  refine encR_ext (by unfold madeCells; simp) (fun i j hi hj => ?_)
  have hlt : i * 3 + j < N * 3 := by omega
  have hm : (i * 3 + j) % 3 = j := by omega
  unfold madeCells
  rw [Array.getElem?_toList, Array.getElem?_map, Array.getElem?_range]
  simp only [hlt, if_true, Option.map_some]
  obtain rfl | rfl | rfl : j = 0 ∨ j = 1 ∨ j = 2 := by omega
  all_goals simp [Value.cells, cel]
theorem make94 (N : Nat) (hN : N ≤ 2048) (w : World) : (Instr.makeSlice 146 (.int .i64 (N : Int)) (.int .i64 (N : Int))).run Tryz.prog w = .ok (.slice (some ⟨w.heap.size, 0, none⟩) N N) (w.alloc (.cells (encR N (fun _ => ⟨0, 0, 0⟩)).toArray 145)) := by
  obtain ⟨i, hi, hz, hs, hb⟩ := info_parts info145
  have h := run_make (P := Tryz.prog) w 146 145 i _ Tryz.underlying146 hi hz .i64 .i64 (N : Int) (N : Int) (by omega) (Int.le_refl _) (by rw [hb]; omega) (by omega)
  rw [hs, Int.toNat_natCast, made94] at h
  exact h
theorem new_no (P L : Int) (w : World) (h : ¬ (0 ≤ P ∧ P ≤ 1024 ∧ 0 ≤ L ∧ L ≤ 1024)) :
    Calls Tryz.prog 78 #[.int .i64 P, .int .i64 L] w fun e w' => e = .returned (.tuple #[.pointer none, .int .i64 1]) ∧ w = w' := by
  by_cases a0 : P < 0
  · go_enter Tryz.func78, Tryz.ntmps78
    go_wp2
    go_ret2
    exact ⟨rfl, rfl⟩
  · by_cases a1 : 1024 < P
    · go_enter Tryz.func78, Tryz.ntmps78
      go_wp2
      go_ret2
      exact ⟨rfl, rfl⟩
    · by_cases a2 : L < 0
      · go_enter Tryz.func78, Tryz.ntmps78
        go_wp2
        go_ret2
        exact ⟨rfl, rfl⟩
      · have a3 : 1024 < L := by omega
        clear h
        go_enter Tryz.func78, Tryz.ntmps78
        go_wp2
        go_ret2
        exact ⟨rfl, rfl⟩
/-- Chains with nothing in them. -/
structure NewG (P L : Nat) (g : Rg) : Prop where
  pl : ∀ k, k < P → g k = al0
  le : ∀ t, t < L → g (P + t) = ⟨(P + t : Nat), (P + t : Nat), t⟩
set_option maxHeartbeats 2000000 in
theorem new_yes (P L : Nat) (w : World) (hP : P ≤ 1024) (hL : L ≤ 1024) :
    Calls Tryz.prog 78 #[.int .i64 P, .int .i64 L] w fun e w' => ∃ B G g, e = .returned (.tuple #[.pointer (some ⟨B, 0, none⟩), .int .i64 0]) ∧ Chn w' B G P L g ∧ NewG P L g ∧ Bel w w' ∧ w.heap.size ≤ B ∧ w.heap.size ≤ G := by
  have a0 : ¬ (P : Int) < 0 := by omega
  have a1 : ¬ (1024 : Int) < P := by omega
  have a2 : ¬ (L : Int) < 0 := by omega
  have a3 : ¬ (1024 : Int) < L := by omega
  have hadd : (P : Int) + (L : Int) = ((P + L : Nat) : Int) := by omega
  have hmk := make94 (P + L) (by omega)
  have KC : Hid (Chn ((w.alloc (.cells (encR (P + L) (fun _ => ⟨0, 0, 0⟩)).toArray 145)).alloc (.cells #[.int .i64 P, .slice (some ⟨w.heap.size, 0, none⟩) (P + L) (P + L)] 148)) (w.heap.size + 1) w.heap.size P L (fun _ => ⟨0, 0, 0⟩)) := Lib.hid (by
    refine ⟨?_, ?_, by omega⟩
    · have h1 := heap_alloc_new (w.alloc (.cells (encR (P + L) (fun _ => ⟨0, 0, 0⟩)).toArray 145)) (.cells #[.int .i64 P, .slice (some ⟨w.heap.size, 0, none⟩) (P + L) (P + L)] 148)
      simpa using h1
    · rw [Below.heap_alloc _ _ _ (by simp), heap_alloc_new])
  have KB : Hid (Bel w ((w.alloc (.cells (encR (P + L) (fun _ => ⟨0, 0, 0⟩)).toArray 145)).alloc (.cells #[.int .i64 P, .slice (some ⟨w.heap.size, 0, none⟩) (P + L) (P + L)] 148))) := Lib.hid (((Bel.refl _).alloc _ _).alloc _ _)
  generalize hc : (encR (P + L) (fun _ => ⟨0, 0, 0⟩)).toArray = C0 at *
  clear hc
  obtain ⟨N, hN⟩ : ∃ N, P + L = N := ⟨_, rfl⟩
  rw [hN] at KC KB hmk hadd
  have HN := Lib.hid hN
  clear hN
  go_enter Tryz.func78, Tryz.ntmps78
  go_wp2
  generalize hW : (w.alloc (.cells C0 145)).alloc (.cells #[.int .i64 P, .slice (some ⟨w.heap.size, 0, none⟩) N N] 148) = W at *
  clear hW hmk hadd
  have HS := Lib.hid (show N ≤ 2048 by have := HN.out; omega)
  go_loopw [7, 32] (fun _ v wr => ∃ m g, v = .int .i64 (m : Nat) ∧ m ≤ P ∧ Chn wr (w.heap.size + 1) w.heap.size P L g ∧ (∀ k, k < m → g k = al0) ∧ Bel w wr) (fun _ v _ => P - (intOf v).toNat)
  case atStart => exact ⟨0, _, rfl, by omega, KC.out, fun k hk => by omega, KB.out⟩
  case round =>
    clear KC KB
    obtain ⟨m, g, rfl, hm, hC, hg, hb⟩ := hrel
    have HC := Lib.hid hC
    have HG := Lib.hid hg
    have HB := Lib.hid hb
    clear hC hg hb
    by_cases hlt : m < P
    · have hmN : m < N := by have := HN.out; omega
      have KX : Hid (∀ w', Bel wr w' → w'.cell? ⟨w.heap.size + 1, 1, none⟩ = some (.slice (some ⟨w.heap.size, 0, none⟩) N N) ∧ (w'.cell? ⟨w.heap.size, m * 3, none⟩ = some (.int .i64 (g m).ah) ∧ w'.cell? ⟨w.heap.size, m * 3 + 1, none⟩ = some (.int .i64 (g m).bh) ∧ w'.cell? ⟨w.heap.size, m * 3 + 2, none⟩ = some (.int .i64 (g m).li)) ∧ (w'.frozen? ⟨w.heap.size, m * 3, none⟩ = false ∧ w'.frozen? ⟨w.heap.size, m * 3 + 1, none⟩ = false ∧ w'.frozen? ⟨w.heap.size, m * 3 + 2, none⟩ = false)) :=
        Lib.hid (fun w' hb => by
          have h1 := HC.out.bel hb
          have h2 := h1.at (i := m) (by omega)
          have h3 := h1.head.2
          rw [HN.out] at h3
          exact ⟨h3, ⟨h2.1, h2.2.1, h2.2.2.1⟩, h2.2.2.2 _, h2.2.2.2 _, h2.2.2.2 _⟩)
      have KZ := Lib.hid (fun w' (hb : Bel wr w') => (HC.out.bel hb).putZ (i := m) (by omega))
      have HG2 : Hid (∀ k, k < m + 1 → upZ g m k = al0) := Lib.hid (fun k hk => by
        unfold upZ
        by_cases e : k = m
        · rw [if_pos e]
        · rw [if_neg e]; exact HG.out k (by omega))
      obtain ⟨c9, ⟨q0, q1, q2⟩, z0, z1, z2⟩ := KX.out _ (Bel.refl wr)
      have HD : Hid (Bel wr wr.drew) := Lib.hid (Bel.refl wr).drew
      generalize (g m).ah = y0 at *
      generalize (g m).bh = y1 at *
      generalize (g m).li = y2 at *
      generalize w.heap.size + 1 = B at *
      generalize hGe : w.heap.size = G at *
      have HGe := Lib.hid hGe
      clear hGe
      go_wp2
      go_region_with (go_at_call 112; (with_reducible refine (alone_any _).mono ?_); rintro e w9 ⟨rfl, hg1⟩; obtain ⟨c9, ⟨q0, q1, q2⟩, z0, z1, z2⟩ := KX.out _ (HD.out.trans hg1))
      all_goals
        go_wp2
        go_roundw
        case rel => exact ⟨m + 1, _, by go_num, by omega, (KZ.out _ (HD.out.trans (by assumption))).1, HG2.out, (Off.trans (HB.out.trans (HD.out.trans (by assumption))) (KZ.out _ (HD.out.trans (by assumption))).2 (fun i e => .inr (by have := HGe.out; unfold Only at e; omega)))⟩
        case measure => simp [intOf]; omega
    · obtain rfl : m = P := by omega
      clear hlt
      go_wp2
      go_loopw [8, 9, 44] (fun _ _ v w2 => ∃ t g, v = .int .i64 (t : Nat) ∧ t ≤ L ∧ Chn w2 (w.heap.size + 1) w.heap.size m L g ∧ (∀ k, k < m → g k = al0) ∧ (∀ s, s < t → g (m + s) = ⟨(m + s : Nat), (m + s : Nat), s⟩) ∧ Bel w w2) (fun _ _ v _ => L - (intOf v).toNat)
      case atStart => exact ⟨0, _, rfl, by omega, HC.out, HG.out, fun k hk => by omega, HB.out⟩
      case round =>
        clear HC HG HB
        obtain ⟨t, g, rfl, ht, hC, hg, hl, hb⟩ := hrel
        have HC := Lib.hid hC
        have HG := Lib.hid hg
        have HL := Lib.hid hl
        have HB := Lib.hid hb
        clear hC hg hl hb
        by_cases hlt : t < L
        · have htN : m + t < N := by have := HN.out; omega
          have KE := Lib.hid (end_any (w.heap.size + 1) m t wr HC.out.head.1 hP (by omega))
          have KL := Lib.hid (HC.out.putL (i := m + t) (by omega) t)
          have KJ := Lib.hid (fun w' (h : Chn w' (w.heap.size + 1) w.heap.size m L (upL g (m + t) t)) => join_any (w.heap.size + 1) w.heap.size m L _ (m + t) (m + t) w' h (by omega) (by omega) (by omega))
          have HG2 : Hid (∀ k, k < m → joinG (upL g (m + t) t) (m + t) (m + t) k = al0) := Lib.hid (fun k hk => by
            unfold joinG upA upB upL
            rw [if_neg (by omega), if_neg (by omega), if_neg (by omega)]
            exact HG.out k hk)
          have HL2 : Hid (∀ s, s < t + 1 → joinG (upL g (m + t) t) (m + t) (m + t) (m + s) = ⟨(m + s : Nat), (m + s : Nat), s⟩) := Lib.hid (fun s hs => by
            unfold joinG upA upB upL
            by_cases e : s = t
            · subst e; simp
            · rw [if_neg (by omega), if_neg (by omega), if_neg (by omega)]
              exact HL.out s (by omega))
          have c1 := HC.out.head.2
          rw [HN.out] at c1
          obtain ⟨_, _, q2, fz⟩ := HC.out.at (i := m + t) (by omega)
          have z2 := fz ((m + t) * 3 + 2)
          clear fz
          generalize (g (m + t)).li = y2 at *
          generalize m + t = E at *
          generalize w.heap.size + 1 = B at *
          generalize hGe : w.heap.size = G at *
          have HGe := Lib.hid hGe
          clear hGe
          go_wp2_with fail
          with_reducible refine (KE.out).mono ?_
          rintro e w1 ⟨rfl, rfl⟩
          go_upto_region 14 with (fail)
          generalize hW2 : wr.setCell ⟨G, E * 3 + 2, none⟩ (.int .i64 t) = W2 at *
          clear hW2
          go_wp2_with fail
          with_reducible refine (KJ.out _ KL.out.1).mono ?_
          rintro e w3 ⟨rfl, hc, ho⟩
          have HC3 := Lib.hid hc
          have HB3 : Hid (Bel w w3) := Lib.hid (Off.trans HB.out (KL.out.2.then ho) (fun i e => .inr (by have := HGe.out; unfold Only at e; omega)))
          clear hc ho
          go_wp2
          go_roundw
          case rel => exact ⟨t + 1, _, by go_num, by omega, HC3.out, HG2.out, HL2.out, HB3.out⟩
          case measure => simp [intOf]; omega
        · obtain rfl : t = L := by omega
          go_wp2
          go_ret2
          exact ⟨_, _, g, rfl, HC.out, ⟨HG.out, HL.out⟩, HB.out, by omega, Nat.le_refl _⟩
end Go.Proofs.YtdoceldofkaapaaGreatDoor
