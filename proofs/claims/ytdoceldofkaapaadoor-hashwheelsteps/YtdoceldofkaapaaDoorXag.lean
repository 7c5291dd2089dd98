/-
  The library's table, as the program's text lays it.
  Contracts of chain's put, Append, Insert and Drop.
  Contracts of chain's Drop and New.
-/
import Derived.Test.YtdoceldofkaapaaDoorRows
import Derived.Test.YtdoceldofkaapaaDoorXaf
import Derived.LaidMore
import Derived.Stop.Joined
import Derived.Lib.LaidTab
import Derived.Test.YtdoceldofkaapaaDoorXaa
import Derived.BigRegion
set_option linter.unusedVariables false
set_option linter.unusedSimpArgs false
namespace Go.Proofs.YtdoceldofkaapaaDoor
open Go.ChangeShapes Go.WideShapes Go.ChangeAt Go.RowKit
theorem cellsU8 : Tryd.prog.cellsOf 5 = 1 := by kernel_rfl
theorem cellsTab : Tryd.prog.cellsOf 126 = 64 := by kernel_rfl
theorem gTab : Tryd.prog.globalNamed "math/bits.deBruijn64tab" = some 0 := by kernel_rfl
theorem tTab : (Tryd.prog.globals[0]?).map (·.type) = some 126 := by kernel_rfl
/-- The one variable that is listed, and what it holds. -/
abbrev laid1 : List (String × DataW Unit) := [("math/bits.deBruijn64tab", Rows.laid_math_bits_deBruijn64tab)]
/-- The door's own heap meets the condition. -/
theorem door_met (os : Os) (args : Array Value) : laidMetH Tryd.prog laid1 ((World.doorLaid Tryd.prog 14 os).forCall (fun _ _ => 0) ⟨#[], args, []⟩).memory :=
  laidMetH_of_parts3 (fuel := 8) (laidMet_of_run' 8 (by kernel_rfl) (by kernel_rfl)) (by kernel_rfl) (by kernel_rfl)
/-- What the condition gives: the table. -/
theorem tab_of_laid {W : World} (h : laidMetH Tryd.prog laid1 W) : Bm.Tab W := by
  rw [MakeChecks.laidMetH_plain _ _ _ (by kernel_rfl)] at h
  have h' : laidMet Tryd.prog (("math/bits.deBruijn64tab", Lib.tabData .u8 (Lib.deBruijn64tab.map fun n : Nat => (n : Int))) :: []) W := h
  have hT := Lib.tabIs_of_head gTab tTab Tryd.underlying126 Tryd.underlying5 cellsU8 cellsTab h'
  intro j hj
  have hc := hT.cell gTab j (by simpa [Lib.deBruijn64tab] using hj)
  rw [hc]
  have hl : j < Lib.deBruijn64tab.length := by simpa [Lib.deBruijn64tab] using hj
  simp [List.getD, hl]
end Go.Proofs.YtdoceldofkaapaaDoor
namespace Go.Proofs.YtdoceldofkaapaaDoor
open Go.RowKit
/-- The ring behind put. -/
def putG (g : Rg) (p a b : Nat) : Rg := joinG (joinG (upL g p (g b).li) a p) p b
theorem put_any (B G P L : Nat) (g : Rg) (p a b : Nat) (w : World) (h : Chn w B G P L g) (hp : p < P + L) (hb : b < P + L) (ha : a < P + L) (hab : (g b).ah = a) (hs : P + L ≤ 2048) :
    Calls Tryd.prog 66 #[.pointer (some ⟨B, 0, none⟩), .int .i64 p, .int .i64 b] w fun e w' => e = .returned (.tuple #[]) ∧ Chn w' B G P L (putG g p a b) ∧ Off (Only G) w w' := by
  obtain ⟨c0, c1⟩ := h.head
  obtain ⟨_, _, p2, fz⟩ := h.at hp
  obtain ⟨_, _, b2, _⟩ := h.at hb
  obtain ⟨k1, o1⟩ := h.putL hp (g b).li
  have hab1 : (upL g p (g b).li b).ah = a := by unfold upL; split <;> simp [hab]
  have z := fz (p * 3 + 2)
  unfold putG
  generalize upL g p (g b).li = g1 at *
  generalize (g b).li = v at *
  generalize (g p).li = v2 at *
  have HK : Hid (Chn ((w.setCell ⟨G, p * 3 + 2, none⟩ (.int .i64 v)).drew) B G P L g1 ∧ Off (Only G) w ((w.setCell ⟨G, p * 3 + 2, none⟩ (.int .i64 v)).drew)) := Lib.hid ⟨k1.bel (Bel.refl _).drew, o1.drew⟩
  have J1 := Lib.hid (fun w' (h : Chn w' B G P L g1) => join_any B G P L g1 a p w' h ha hp hs)
  have J2 := Lib.hid (fun w' (h : Chn w' B G P L (joinG g1 a p)) => join_any B G P L (joinG g1 a p) p b w' h hp hb hs)
  have AT := Lib.hid (fun w' (h : Chn w' B G P L g1) => (show w'.cell? ⟨G, b * 3, none⟩ = some (.int .i64 a) by rw [(h.at hb).1, hab1]))
  clear k1 o1 h fz hab hab1
  have hB1 := Lib.hid (fun w' (h : Chn w' B G P L g1) => h.head.2)
  generalize P + L = N at *
  go_enter Tryd.func66, Tryd.ntmps66
  go_wp2
  go_region
  generalize (w.setCell ⟨G, p * 3 + 2, none⟩ (.int .i64 v)).drew = W at *
  have d1 := hB1.out _ HK.out.1
  have x1 := AT.out _ HK.out.1
  go_wp2_with fail
  with_reducible refine (J1.out _ HK.out.1).mono ?_
  rintro e w1 ⟨rfl, hc, ho⟩
  have HK2 := Lib.hid (And.intro hc (HK.out.2.then ho))
  clear hc ho d1 x1
  go_wp2_with fail
  with_reducible refine (J2.out _ HK2.out.1).mono ?_
  rintro e w2 ⟨rfl, hc, ho⟩
  have HK3 := Lib.hid (And.intro hc (HK2.out.2.then ho))
  clear hc ho
  go_wp2
  go_end0
  exact ⟨rfl, HK3.out⟩
theorem append_arg (B G P L : Nat) (g : Rg) (t p : Int) (w : World) (h : Chn w B G P L g) (hP : P ≤ 1024) (hL : L ≤ 1024) (hn : (hp L t && hp P p) = false) :
    Calls Tryd.prog 46 #[.pointer (some ⟨B, 0, none⟩), .int .i64 t, .int .i64 p] w fun e w' => e = .returned (.int .i64 1) ∧ Bel w w' := by
  have K1 := Lib.hid (fun w' (h : Chn w' B G P L g) => hasList_any B P L _ t w' h.head.1 h.head.2 hP hL)
  have K2 := Lib.hid (fun w' (h : Chn w' B G P L g) => hasPlace_any B P p w' h.head.1)
  have H := Lib.hid h
  clear h
  cases h1 : hp L t with
  | false =>
    rw [h1] at K1
    clear h1
    go_enter Tryd.func46, Tryd.ntmps46
    go_wp2_with fail
    with_reducible refine (K1.out _ H.out).mono ?_
    rintro e w1 ⟨rfl, k, rfl⟩
    go_wp2
    go_ret
    exact ⟨rfl, (Bel.refl _).drewN k⟩
  | true =>
    rw [h1, Bool.true_and] at hn
    rw [h1] at K1
    rw [hn] at K2
    clear h1 hn
    go_enter Tryd.func46, Tryd.ntmps46
    go_wp2_with fail
    with_reducible refine (K1.out _ H.out).mono ?_
    rintro e w1 ⟨rfl, k, rfl⟩
    go_wp2_with fail
    with_reducible refine (K2.out _ (H.out.bel ((Bel.refl _).drewN k))).mono ?_
    rintro e w2 ⟨rfl, rfl⟩
    go_wp2
    go_ret
    exact ⟨rfl, (Bel.refl _).drewN k⟩
theorem append_in (B G P L : Nat) (g : Rg) (t p : Nat) (w : World) (h : Chn w B G P L g) (hP : P ≤ 1024) (hL : L ≤ 1024) (ht : t < L) (hp' : p < P) (hi : (g p).li ≠ -1) :
    Calls Tryd.prog 46 #[.pointer (some ⟨B, 0, none⟩), .int .i64 t, .int .i64 p] w fun e w' => e = .returned (.int .i64 4) ∧ Bel w w' := by
  have K1 := Lib.hid (fun w' (h : Chn w' B G P L g) => hasList_any B P L _ t w' h.head.1 h.head.2 hP hL)
  have K2 := Lib.hid (fun w' (h : Chn w' B G P L g) => hasPlace_any B P p w' h.head.1)
  have K3 := Lib.hid (fun w' (h : Chn w' B G P L g) => isIn_any B G P L g p w' h (by omega) (by omega))
  rw [hp_yes ht] at K1
  rw [hp_yes hp'] at K2
  rw [decide_eq_false hi] at K3
  have H := Lib.hid h
  clear h hi
  go_enter Tryd.func46, Tryd.ntmps46
  go_wp2_with fail
  with_reducible refine (K1.out _ H.out).mono ?_
  rintro e w1 ⟨rfl, k, rfl⟩
  have H2 := Lib.hid (H.out.bel ((Bel.refl _).drewN k))
  go_wp2_with fail
  with_reducible refine (K2.out _ H2.out).mono ?_
  rintro e w2 ⟨rfl, rfl⟩
  go_wp2_with fail
  with_reducible refine (K3.out _ H2.out).mono ?_
  rintro e w2 ⟨rfl, rfl⟩
  go_wp2
  go_ret
  exact ⟨rfl, (Bel.refl _).drewN k⟩
theorem append_ok (B G P L : Nat) (g : Rg) (t p a : Nat) (w : World) (h : Chn w B G P L g) (hP : P ≤ 1024) (hL : L ≤ 1024) (ht : t < L) (hp' : p < P) (hi : (g p).li = -1) (ha : a < P + L) (hab : (g (P + t)).ah = a) :
    Calls Tryd.prog 46 #[.pointer (some ⟨B, 0, none⟩), .int .i64 t, .int .i64 p] w fun e w' => e = .returned (.int .i64 0) ∧ Chn w' B G P L (putG g p a (P + t)) ∧ Off (Only G) w w' := by
  have K1 := Lib.hid (fun w' (h : Chn w' B G P L g) => hasList_any B P L _ t w' h.head.1 h.head.2 hP hL)
  have K2 := Lib.hid (fun w' (h : Chn w' B G P L g) => hasPlace_any B P p w' h.head.1)
  have K3 := Lib.hid (fun w' (h : Chn w' B G P L g) => isIn_any B G P L g p w' h (by omega) (by omega))
  have K4 := Lib.hid (fun w' (h : Chn w' B G P L g) => end_any B P t w' h.head.1 hP (by omega))
  have K5 := Lib.hid (fun w' (h : Chn w' B G P L g) => put_any B G P L g p a (P + t) w' h (by omega) (by omega) ha hab (by omega))
  rw [hp_yes ht] at K1
  rw [hp_yes hp'] at K2
  rw [decide_eq_true hi] at K3
  have H := Lib.hid h
  clear h hi hab
  generalize P + t = E at *
  go_enter Tryd.func46, Tryd.ntmps46
  go_wp2_with fail
  with_reducible refine (K1.out _ H.out).mono ?_
  rintro e w1 ⟨rfl, k, rfl⟩
  have H2 := Lib.hid (H.out.bel ((Bel.refl _).drewN k))
  go_wp2_with fail
  with_reducible refine (K2.out _ H2.out).mono ?_
  rintro e w2 ⟨rfl, rfl⟩
  go_wp2_with fail
  with_reducible refine (K3.out _ H2.out).mono ?_
  rintro e w2 ⟨rfl, rfl⟩
  go_wp2_with fail
  with_reducible refine (K4.out _ H2.out).mono ?_
  rintro e w2 ⟨rfl, rfl⟩
  go_wp2_with fail
  with_reducible refine (K5.out _ H2.out).mono ?_
  rintro e w3 ⟨rfl, hc, ho⟩
  have HC := Lib.hid hc
  have HO := Lib.hid (((Off.refl (Only G) w).drewN k).then ho)
  clear hc ho
  go_wp2
  go_ret
  exact ⟨rfl, HC.out, HO.out⟩
end Go.Proofs.YtdoceldofkaapaaDoor
namespace Go.Proofs.YtdoceldofkaapaaDoor
open Go.RowKit
theorem drop_arg (B G P L : Nat) (g : Rg) (p : Int) (w : World) (h : Chn w B G P L g) (hn : hp P p = false) :
    Calls Tryd.prog 54 #[.pointer (some ⟨B, 0, none⟩), .int .i64 p] w fun e w' => e = .returned (.int .i64 1) ∧ Bel w w' := by
  have K1 := Lib.hid (fun w' (h : Chn w' B G P L g) => hasPlace_any B P p w' h.head.1)
  rw [hn] at K1
  have H := Lib.hid h
  clear h hn
  go_enter Tryd.func54, Tryd.ntmps54
  go_wp2_with fail
  with_reducible refine (K1.out _ H.out).mono ?_
  rintro e w1 ⟨rfl, rfl⟩
  go_wp2
  go_ret
  exact ⟨rfl, Bel.refl _⟩
theorem drop_none (B G P L : Nat) (g : Rg) (p : Nat) (w : World) (h : Chn w B G P L g) (hP : P ≤ 1024) (hL : L ≤ 1024) (hp' : p < P) (hi : (g p).li = -1) :
    Calls Tryd.prog 54 #[.pointer (some ⟨B, 0, none⟩), .int .i64 p] w fun e w' => e = .returned (.int .i64 5) ∧ Bel w w' := by
  have K1 := Lib.hid (fun w' (h : Chn w' B G P L g) => hasPlace_any B P p w' h.head.1)
  have K3 := Lib.hid (fun w' (h : Chn w' B G P L g) => isIn_any B G P L g p w' h (by omega) (by omega))
  rw [hp_yes hp'] at K1
  rw [decide_eq_true hi] at K3
  have H := Lib.hid h
  clear h hi
  go_enter Tryd.func54, Tryd.ntmps54
  go_wp2_with fail
  with_reducible refine (K1.out _ H.out).mono ?_
  rintro e w1 ⟨rfl, rfl⟩
  go_wp2_with fail
  with_reducible refine (K3.out _ H.out).mono ?_
  rintro e w2 ⟨rfl, rfl⟩
  go_wp2
  go_ret
  exact ⟨rfl, Bel.refl _⟩
theorem Chn.putZ {w : World} {B G P L : Nat} {g : Rg} (h : Chn w B G P L g) {i : Nat} (hi : i < P + L) :
    Chn (((w.setCell ⟨G, i * 3, none⟩ (.int .i64 (-1))).setCell ⟨G, i * 3 + 1, none⟩ (.int .i64 (-1))).setCell ⟨G, i * 3 + 2, none⟩ (.int .i64 (-1))) B G P L (upZ g i) ∧ Off (Only G) w (((w.setCell ⟨G, i * 3, none⟩ (.int .i64 (-1))).setCell ⟨G, i * 3 + 1, none⟩ (.int .i64 (-1))).setCell ⟨G, i * 3 + 2, none⟩ (.int .i64 (-1))) := by
  obtain ⟨k1, o1⟩ := h.putA hi (-1)
  obtain ⟨k2, o2⟩ := k1.putB hi (-1)
  obtain ⟨k3, o3⟩ := k2.putL hi (-1)
  have e : upL (upB (upA g i (-1)) i (-1)) i (-1) = upZ g i := by
    funext k
    unfold upL upB upA upZ
    by_cases hk : k = i <;> simp [hk]
  rw [e] at k3
  exact ⟨k3, (o1.then o2).then o3⟩
def dropG (g : Rg) (p a b : Nat) : Rg := upZ (joinG g a b) p
set_option maxRecDepth 100000 in
set_option maxHeartbeats 1000000 in
theorem drop_ok (B G P L : Nat) (g : Rg) (p a b : Nat) (w : World) (h : Chn w B G P L g) (hP : P ≤ 1024) (hL : L ≤ 1024) (hp' : p < P) (hi : (g p).li ≠ -1) (ha : a < P + L) (hb : b < P + L) (hpa : (g p).ah = a) (hpb : (g p).bh = b) :
    Calls Tryd.prog 54 #[.pointer (some ⟨B, 0, none⟩), .int .i64 p] w fun e w' => e = .returned (.int .i64 0) ∧ Chn w' B G P L (dropG g p a b) ∧ Off (Only G) w w' := by
  have K1 := Lib.hid (fun w' (h : Chn w' B G P L g) => hasPlace_any B P p w' h.head.1)
  have K3 := Lib.hid (fun w' (h : Chn w' B G P L g) => isIn_any B G P L g p w' h (by omega) (by omega))
  have K4 := Lib.hid (fun w' (h : Chn w' B G P L g) => join_any B G P L g a b w' h ha hb (by omega))
  rw [hp_yes hp'] at K1
  rw [decide_eq_false hi] at K3
  obtain ⟨c0, c1⟩ := h.head
  obtain ⟨p0, p1, _, _⟩ := h.at (show p < P + L by omega)
  rw [hpa] at p0
  rw [hpb] at p1
  have H := Lib.hid h
  have KZ := Lib.hid (fun w' (h : Chn w' B G P L (joinG g a b)) => h.putZ (show p < P + L by omega))
  have KF := Lib.hid (fun w' (h : Chn w' B G P L (joinG g a b)) => h.at (show p < P + L by omega))
  have KH := Lib.hid (fun w' (h : Chn w' B G P L (joinG g a b)) => h.head.2)
  have hpN : p < P + L := by omega
  have hN : P + L ≤ 2048 := by omega
  unfold dropG
  generalize joinG g a b = g1 at *
  generalize (g1 p).ah = y0 at *
  generalize (g1 p).bh = y1 at *
  generalize (g1 p).li = y2 at *
  clear h hi hpa hpb
  generalize P + L = N at *
  go_enter Tryd.func54, Tryd.ntmps54
  go_wp2_with fail
  with_reducible refine (K1.out _ H.out).mono ?_
  rintro e w1 ⟨rfl, rfl⟩
  go_wp2_with fail
  with_reducible refine (K3.out _ H.out).mono ?_
  rintro e w2 ⟨rfl, rfl⟩
  go_wp2
  go_still_tail 19, (by kernel_rfl)
  have H2 := Lib.hid (H.out.bel (Bel.refl w).drew)
  have OF : Hid (Off (Only G) w w.drew) := Lib.hid (Off.refl _ _).drew
  change wpList _ _ _ _ _ w.drew
  generalize w.drew = W at *
  go_wp2_with fail
  with_reducible refine (K4.out _ H2.out).mono ?_
  rintro e w3 ⟨rfl, hc, ho⟩
  have HC := Lib.hid hc
  have HO := Lib.hid (OF.out.then ho)
  clear hc ho c0 c1 p0 p1
  have c1 := KH.out _ HC.out
  go_wp2
  have KX : Hid (∀ w', Bel w3.drew w' → w'.cell? ⟨B, 1, none⟩ = some (.slice (some ⟨G, 0, none⟩) N N) ∧ (w'.cell? ⟨G, p * 3, none⟩ = some (.int .i64 y0) ∧ w'.cell? ⟨G, p * 3 + 1, none⟩ = some (.int .i64 y1) ∧ w'.cell? ⟨G, p * 3 + 2, none⟩ = some (.int .i64 y2)) ∧ (w'.frozen? ⟨G, p * 3, none⟩ = false ∧ w'.frozen? ⟨G, p * 3 + 1, none⟩ = false ∧ w'.frozen? ⟨G, p * 3 + 2, none⟩ = false)) :=
    Lib.hid (fun w' hb => ⟨KH.out _ (HC.out.bel (Bel.trans (Bel.refl _).drew hb)), ⟨(KF.out _ (HC.out.bel (Bel.trans (Bel.refl _).drew hb))).1, (KF.out _ (HC.out.bel (Bel.trans (Bel.refl _).drew hb))).2.1, (KF.out _ (HC.out.bel (Bel.trans (Bel.refl _).drew hb))).2.2.1⟩, (KF.out _ (HC.out.bel (Bel.trans (Bel.refl _).drew hb))).2.2.2 _, (KF.out _ (HC.out.bel (Bel.trans (Bel.refl _).drew hb))).2.2.2 _, (KF.out _ (HC.out.bel (Bel.trans (Bel.refl _).drew hb))).2.2.2 _⟩)
  go_region_with (go_at_call 62; (with_reducible refine (alone_any _).mono ?_); rintro e w9 ⟨rfl, hg1⟩; obtain ⟨c9, ⟨q0, q1, q2⟩, z0, z1, z2⟩ := KX.out _ hg1)
  all_goals
    go_wp2
    go_ret
    exact ⟨rfl, (KZ.out _ (HC.out.bel (Bel.trans (Bel.refl _).drew (by assumption)))).1, Off.then (HO.out.thenB (Bel.trans (Bel.refl _).drew (by assumption))) (KZ.out _ (HC.out.bel (Bel.trans (Bel.refl _).drew (by assumption)))).2⟩
end Go.Proofs.YtdoceldofkaapaaDoor
