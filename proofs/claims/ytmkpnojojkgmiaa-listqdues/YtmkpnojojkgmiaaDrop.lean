/-
  Contracts of chain's Drop and New.
-/
import Derived.Test.YtmkpnojojkgmiaaMove
namespace Go.Proofs.Ytmkpnojojkgmiaa
open Go.RowKit
theorem drop_arg (B G P L : Nat) (g : Rg) (p : Int) (w : World) (h : Chn w B G P L g) (hn : hp P p = false) :
    Calls Try.prog 35 #[.pointer (some ⟨B, 0, none⟩), .int .i64 p] w fun e w' => e = .returned (.int .i64 1) ∧ Bel w w' := by
  have K1 := Lib.hid (fun w' (h : Chn w' B G P L g) => hasPlace_any B P p w' h.head.1)
  rw [hn] at K1
  have H := Lib.hid h
  clear h hn
  go_enter Try.func35, Try.ntmps35
  go_wp2_with fail
  with_reducible refine (K1.out _ H.out).mono ?_
  rintro e w1 ⟨rfl, rfl⟩
  go_wp2
  go_ret
  exact ⟨rfl, Bel.refl _⟩
theorem drop_none (B G P L : Nat) (g : Rg) (p : Nat) (w : World) (h : Chn w B G P L g) (hP : P ≤ 1024) (hL : L ≤ 1024) (hp' : p < P) (hi : (g p).li = -1) :
    Calls Try.prog 35 #[.pointer (some ⟨B, 0, none⟩), .int .i64 p] w fun e w' => e = .returned (.int .i64 5) ∧ Bel w w' := by
  have K1 := Lib.hid (fun w' (h : Chn w' B G P L g) => hasPlace_any B P p w' h.head.1)
  have K3 := Lib.hid (fun w' (h : Chn w' B G P L g) => isIn_any B G P L g p w' h (by omega) (by omega))
  rw [hp_yes hp'] at K1
  rw [decide_eq_true hi] at K3
  have H := Lib.hid h
  clear h hi
  go_enter Try.func35, Try.ntmps35
  go_wp2_with fail
  with_reducible refine (K1.out _ H.out).mono ?_
  rintro e w1 ⟨rfl, rfl⟩
  go_wp2_with fail
  with_reducible refine (K3.out _ H.out).mono ?_
  rintro e w2 ⟨rfl, rfl⟩
  go_wp2
  go_ret
  exact ⟨rfl, Bel.refl _⟩
theorem Chn.putZ {w : World} {B G P L : Nat} {g : Rg} (h : Chn w B G P L g) {i : Nat} (hi : i < P + L) :
    Chn (((w.setCell ⟨G, i * 3, none⟩ (.int .i64 (-1))).setCell ⟨G, i * 3 + 1, none⟩ (.int .i64 (-1))).setCell ⟨G, i * 3 + 2, none⟩ (.int .i64 (-1))) B G P L (upZ g i) ∧ Off (Only G) w (((w.setCell ⟨G, i * 3, none⟩ (.int .i64 (-1))).setCell ⟨G, i * 3 + 1, none⟩ (.int .i64 (-1))).setCell ⟨G, i * 3 + 2, none⟩ (.int .i64 (-1))) := by
  obtain ⟨k1, o1⟩ := h.putA hi (-1)
  obtain ⟨k2, o2⟩ := k1.putB hi (-1)
  obtain ⟨k3, o3⟩ := k2.putL hi (-1)
  have e : upL (upB (upA g i (-1)) i (-1)) i (-1) = upZ g i := by
    funext k
    unfold upL upB upA upZ
    by_cases hk : k = i <;> simp [hk]
  rw [e] at k3
  exact ⟨k3, (o1.then o2).then o3⟩
def dropG (g : Rg) (p a b : Nat) : Rg := upZ (joinG g a b) p
set_option maxRecDepth 100000 in
set_option maxHeartbeats 1000000 in
theorem drop_ok (B G P L : Nat) (g : Rg) (p a b : Nat) (w : World) (h : Chn w B G P L g) (hP : P ≤ 1024) (hL : L ≤ 1024) (hp' : p < P) (hi : (g p).li ≠ -1) (ha : a < P + L) (hb : b < P + L) (hpa : (g p).ah = a) (hpb : (g p).bh = b) :
    Calls Try.prog 35 #[.pointer (some ⟨B, 0, none⟩), .int .i64 p] w fun e w' => e = .returned (.int .i64 0) ∧ Chn w' B G P L (dropG g p a b) ∧ Off (Only G) w w' := by
  have K1 := Lib.hid (fun w' (h : Chn w' B G P L g) => hasPlace_any B P p w' h.head.1)
  have K3 := Lib.hid (fun w' (h : Chn w' B G P L g) => isIn_any B G P L g p w' h (by omega) (by omega))
  have K4 := Lib.hid (fun w' (h : Chn w' B G P L g) => join_any B G P L g a b w' h ha hb (by omega))
  rw [hp_yes hp'] at K1
  rw [decide_eq_false hi] at K3
  obtain ⟨c0, c1⟩ := h.head
  obtain ⟨p0, p1, _, _⟩ := h.at (show p < P + L by omega)
  rw [hpa] at p0
  rw [hpb] at p1
  have H := Lib.hid h
  have KZ := Lib.hid (fun w' (h : Chn w' B G P L (joinG g a b)) => h.putZ (show p < P + L by omega))
  have KF := Lib.hid (fun w' (h : Chn w' B G P L (joinG g a b)) => h.at (show p < P + L by omega))
  have KH := Lib.hid (fun w' (h : Chn w' B G P L (joinG g a b)) => h.head.2)
  have hpN : p < P + L := by omega
  have hN : P + L ≤ 2048 := by omega
  unfold dropG
  generalize joinG g a b = g1 at *
  generalize (g1 p).ah = y0 at *
  generalize (g1 p).bh = y1 at *
  generalize (g1 p).li = y2 at *
  clear h hi hpa hpb
  generalize P + L = N at *
  go_enter Try.func35, Try.ntmps35
  go_wp2_with fail
  with_reducible refine (K1.out _ H.out).mono ?_
  rintro e w1 ⟨rfl, rfl⟩
  go_wp2_with fail
  with_reducible refine (K3.out _ H.out).mono ?_
  rintro e w2 ⟨rfl, rfl⟩
  go_wp2
  go_still_tail 19, (by kernel_rfl)
  have H2 := Lib.hid (H.out.bel (Bel.refl w).drew)
  have OF : Hid (Off (Only G) w w.drew) := Lib.hid (Off.refl _ _).drew
  change wpList _ _ _ _ _ w.drew
  generalize w.drew = W at *
  go_wp2_with fail
  with_reducible refine (K4.out _ H2.out).mono ?_
  rintro e w3 ⟨rfl, hc, ho⟩
  have HC := Lib.hid hc
  have HO := Lib.hid (OF.out.then ho)
  clear hc ho c0 c1 p0 p1
  have c1 := KH.out _ HC.out
  go_wp2
  have KX : Hid (∀ w', Bel w3.drew w' → w'.cell? ⟨B, 1, none⟩ = some (.slice (some ⟨G, 0, none⟩) N N) ∧ (w'.cell? ⟨G, p * 3, none⟩ = some (.int .i64 y0) ∧ w'.cell? ⟨G, p * 3 + 1, none⟩ = some (.int .i64 y1) ∧ w'.cell? ⟨G, p * 3 + 2, none⟩ = some (.int .i64 y2)) ∧ (w'.frozen? ⟨G, p * 3, none⟩ = false ∧ w'.frozen? ⟨G, p * 3 + 1, none⟩ = false ∧ w'.frozen? ⟨G, p * 3 + 2, none⟩ = false)) :=
    Lib.hid (fun w' hb => ⟨KH.out _ (HC.out.bel (Bel.trans (Bel.refl _).drew hb)), ⟨(KF.out _ (HC.out.bel (Bel.trans (Bel.refl _).drew hb))).1, (KF.out _ (HC.out.bel (Bel.trans (Bel.refl _).drew hb))).2.1, (KF.out _ (HC.out.bel (Bel.trans (Bel.refl _).drew hb))).2.2.1⟩, (KF.out _ (HC.out.bel (Bel.trans (Bel.refl _).drew hb))).2.2.2 _, (KF.out _ (HC.out.bel (Bel.trans (Bel.refl _).drew hb))).2.2.2 _, (KF.out _ (HC.out.bel (Bel.trans (Bel.refl _).drew hb))).2.2.2 _⟩)
  go_region_with (go_at_call 50; (with_reducible refine (alone_any _).mono ?_); rintro e w9 ⟨rfl, hg1⟩; obtain ⟨c9, ⟨q0, q1, q2⟩, z0, z1, z2⟩ := KX.out _ hg1)
  all_goals
    go_wp2
    go_ret
    exact ⟨rfl, (KZ.out _ (HC.out.bel (Bel.trans (Bel.refl _).drew (by assumption)))).1, Off.then (HO.out.thenB (Bel.trans (Bel.refl _).drew (by assumption))) (KZ.out _ (HC.out.bel (Bel.trans (Bel.refl _).drew (by assumption)))).2⟩
end Go.Proofs.Ytmkpnojojkgmiaa
