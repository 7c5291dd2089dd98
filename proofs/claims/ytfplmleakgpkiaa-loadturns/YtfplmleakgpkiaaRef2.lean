/-
  Contracts of the document's own Open, Last and Tally.
-/
import Derived.Test.YtfplmleakgpkiaaRef
set_option linter.unusedVariables false
set_option linter.unusedSimpArgs false
namespace Go.Proofs.Ytfplmleakgpkiaa
open Go.RowKit
theorem Bel.set5 {a w : World} (h : Bel a w) {b : Nat} (hb : a.heap.size ≤ b) (v0 v1 v2 v3 v4 : Value) : Bel a (((((w.setCell ⟨b, 0, none⟩ v0).setCell ⟨b, 1, none⟩ v1).setCell ⟨b, 2, none⟩ v2).setCell ⟨b, 3, none⟩ v3).setCell ⟨b, 4, none⟩ v4) :=
  ((((h.setCell (p := ⟨b, 0, none⟩) hb _).setCell (p := ⟨b, 1, none⟩) hb _).setCell (p := ⟨b, 2, none⟩) hb _).setCell (p := ⟨b, 3, none⟩) hb _).setCell (p := ⟨b, 4, none⟩) hb _
theorem rtally_any (p : Option Addr) (n cap : Nat) (l : List T) (w : World) (hn : l.length = n) (hm : n ≤ 1000) (hl : Has nof w p l) (hok : AllOk l) :
    Calls Try.prog 17 #[.slice p n cap] w fun e w' => e = .returned (talV l) ∧ Bel w w' := by
  have HL := Lib.hid hl
  have HN := Lib.hid hn
  have HK := Lib.hid hok
  have KT : Hid (∀ (k : Int) w', Bel w w' → Calls Try.prog 15 #[.slice p n cap, .int .i64 k] w' fun e w'' => e = .returned (.int .i64 (tot k l)) ∧ w'' = w') := Lib.hid fun k w' hb => rtotal_any p n cap l k w' hn hm (hl.bel hb) hok
  clear hl hn hok
  have K0 := Lib.hid (KT.out 0)
  have K1 := Lib.hid (KT.out 1)
  have K2 := Lib.hid (KT.out 2)
  have K3 := Lib.hid (KT.out 3)
  obtain ⟨x4, e4⟩ : ∃ x, mx l = x := ⟨_, rfl⟩
  have E4 := Lib.hid e4
  unfold talV
  rw [e4]
  clear KT e4
  generalize tot 0 l = x0 at *
  generalize tot 1 l = x1 at *
  generalize tot 2 l = x2 at *
  generalize tot 3 l = x3 at *
  go_enter Try.func17, Try.ntmps17
  go_wp2
  obtain ⟨W, hW⟩ : ∃ W, w.alloc (.cells #[.int .i64 0, .int .i64 0, .int .i64 0, .int .i64 0, .int .i64 0] 33) = W := ⟨_, rfl⟩
  have HB : Hid (Bel w W) := Lib.hid (by rw [← hW]; exact (Bel.refl w).alloc _ _)
  have HX : Hid (∀ w1, Bel W w1 → (w1.cell? ⟨w.heap.size, 0, none⟩ = some (.int .i64 0) ∧ w1.cell? ⟨w.heap.size, 1, none⟩ = some (.int .i64 0) ∧ w1.cell? ⟨w.heap.size, 2, none⟩ = some (.int .i64 0) ∧ w1.cell? ⟨w.heap.size, 3, none⟩ = some (.int .i64 0) ∧ w1.cell? ⟨w.heap.size, 4, none⟩ = some (.int .i64 0)) ∧
    (w1.frozen? ⟨w.heap.size, 0, none⟩ = false ∧ w1.frozen? ⟨w.heap.size, 1, none⟩ = false ∧ w1.frozen? ⟨w.heap.size, 2, none⟩ = false ∧ w1.frozen? ⟨w.heap.size, 3, none⟩ = false ∧ w1.frozen? ⟨w.heap.size, 4, none⟩ = false) ∧ w.heap.size < w1.heap.size) := Lib.hid fun w1 hb => by
    subst hW; exact box5 hb
  rw [hW]
  clear hW
  go_loopw [3, 4] (fun o v wr => ∃ m : Nat, v = .int .i64 m ∧ m ≤ n ∧ o = .int .i64 (mx (l.take m)) ∧ wr = W) (fun _ v _ => n - (intOf v).toNat)
  case atStart => exact ⟨0, rfl, by omega, rfl, rfl⟩
  case round =>
    obtain ⟨m, rfl, hi, rfl, rfl⟩ := hrel
    by_cases h : m < n
    · obtain ⟨b, off, rfl, _, hr⟩ := HL.out.row (by have := HN.out; omega)
      obtain ⟨x, hx⟩ : ∃ x, l.getD m default = x := ⟨_, rfl⟩
      have cx := (hr.off (fun e => e) HB.out) m (by have := HN.out; omega)
      have HG := take_step l (k := m) (by have := HN.out; omega)
      rw [hx] at cx HG
      obtain ⟨x0, x1, x2⟩ := cx
      have hs : mx (l.take (m + 1)) = max (mx (l.take m)) x.c := by rw [HG, mx_snoc]
      have HS := Lib.hid hs
      clear hs hx hr HG
      generalize mx (l.take m) = y at *
      by_cases hlt : y < x.c
      · have HS : Hid (mx (l.take (m + 1)) = x.c) := Lib.hid (by rw [HS.out]; omega)
        go_wp2
        go_roundw
        case rel => exact ⟨m + 1, by go_num, by omega, by rw [HS.out], by trivial⟩
        case measure => simp [intOf]; omega
      · have HS : Hid (mx (l.take (m + 1)) = y) := Lib.hid (by rw [HS.out]; omega)
        have hle : x.c ≤ y := by omega
        have hlf : (y < x.c) = False := eq_false hlt
        go_wp2
        go_roundw
        case rel => exact ⟨m + 1, by go_num, by omega, by rw [HS.out], by trivial⟩
        case measure => simp [intOf]; omega
    · obtain rfl : m = n := by omega
      have HE : Hid (mx (l.take m) = x4) := Lib.hid (by rw [List.take_of_length_le (by have := HN.out; omega), E4.out])
      rw [HE.out]
      clear HE
      go_wp2_with fail
      with_reducible refine (K0.out _ HB.out).mono ?_
      rintro e w1 ⟨rfl, rfl⟩
      go_wp2_with fail
      with_reducible refine (K1.out _ HB.out).mono ?_
      rintro e w1 ⟨rfl, rfl⟩
      go_wp2_with fail
      with_reducible refine (K2.out _ HB.out).mono ?_
      rintro e w1 ⟨rfl, rfl⟩
      go_wp2_with fail
      with_reducible refine (K3.out _ HB.out).mono ?_
      rintro e w1 ⟨rfl, rfl⟩
      obtain ⟨⟨c0, c1, c2, c3, c4⟩, ⟨z0, z1, z2, z3, z4⟩, HSz⟩ := HX.out _ (Bel.refl _)
      go_wp2
      exact bodyPost_ret (v := .agg #[.int .i64 x0, .int .i64 x1, .int .i64 x2, .int .i64 x3, .int .i64 x4]) (by simp [results, Try.results17, go_sem, c0, c1, c2, c3, c4]) rfl ⟨rfl, HB.out.set5 (Nat.le_refl _) _ _ _ _ _⟩
/-- What a call hands back: a slice that is this list. -/
def OutS (w : World) (e : Ending) (n : Nat) (l : List T) : Prop := ∃ q c, e = .returned (.slice q n c) ∧ Has nof w q l
theorem ropen_any (p : Option Addr) (n cap : Nat) (l : List T) (w : World) (hn : l.length = n) (hm : n ≤ 1000) (hcap : n ≤ cap) (hl : Has nof w p l) :
    Calls Try.prog 12 #[.slice p n cap] w fun e w' => OutS w e (n % 32) (opn l) ∧ w' = w := by
  obtain ⟨q, hq⟩ : ∃ q, n / 32 = q := ⟨_, rfl⟩
  obtain ⟨c, hc⟩ : ∃ c, q * 32 = c := ⟨_, rfl⟩
  have e1 : (n : Int).tdiv 32 = (q : Int) := by rw [Int.tdiv_eq_ediv_of_nonneg (by omega)]; omega
  have e2 : (q : Int) * 32 = (c : Int) := by omega
  have eo : opn l = l.drop c := by unfold opn; rw [hn, hq, hc]
  have e3 : n % 32 = n - c := by omega
  have hcn : c ≤ n := by omega
  have H := Lib.hid (hl.cut hn hcap c)
  rw [eo, e3]
  have q0 : q ≤ 1000 := by omega
  clear hl hn e3 eo hq hc
  go_enter Try.func12, Try.ntmps12
  go_wp2
  all_goals
    go_ret
    refine ⟨⟨_, _, rfl, ?_⟩, rfl⟩
    have k := H.out
    simpa [*] using k
theorem rlast_no (p : Option Addr) (n cap : Nat) (l : List T) (w : World) (hn : l.length = n) (hm : n < 32) :
    Calls Try.prog 14 #[.slice p n cap] w fun e w' => e = .returned (.tuple #[talV (lst l), .bool (decide (32 ≤ n))]) ∧ Bel w w' := by
  have e1 : (n : Int).tdiv 32 = 0 := by rw [Int.tdiv_eq_ediv_of_nonneg (by omega)]; omega
  rw [lst_nil (by omega), decide_eq_false (by omega)]
  go_enter Try.func14, Try.ntmps14
  go_wp2
  exact bodyPost_ret (v := .tuple #[.agg #[.int .i64 0, .int .i64 0, .int .i64 0, .int .i64 0, .int .i64 0], .bool false]) (by simp [results, Try.results14, go_sem]) rfl ⟨rfl, by repeat (first | exact Bel.refl _ | refine Bel.setCell ?_ (by simp) _ | refine Bel.alloc ?_ _ _)⟩
theorem rlast_yes (p : Option Addr) (n cap : Nat) (l : List T) (w : World) (hn : l.length = n) (hm : n ≤ 1000) (h32 : 32 ≤ n) (hcap : n ≤ cap) (hl : Has nof w p l) (hok : AllOk l) :
    Calls Try.prog 14 #[.slice p n cap] w fun e w' => e = .returned (.tuple #[talV (lst l), .bool (decide (32 ≤ n))]) ∧ Bel w w' := by
  obtain ⟨q, hq⟩ : ∃ q, n / 32 = q := ⟨_, rfl⟩
  obtain ⟨c, hc⟩ : ∃ c, q * 32 = c := ⟨_, rfl⟩
  obtain ⟨d, hd⟩ : ∃ d, c - 32 = d := ⟨_, rfl⟩
  have e1 : (n : Int).tdiv 32 = (q : Int) := by rw [Int.tdiv_eq_ediv_of_nonneg (by omega)]; omega
  have e2 : (q : Int) * 32 = (c : Int) := by omega
  have e3 : (c : Int) - 32 = (d : Int) := by omega
  have e4 : ¬ (c : Int) = 0 := by omega
  have eo : lst l = (l.take c).drop d := by unfold lst clo; rw [hn, hq, hc, hd]
  have hcn : c ≤ n := by omega
  have hdc : d ≤ c := by omega
  have hlen : ((l.take c).drop d).length = c - d := by rw [List.length_drop, List.length_take]; omega
  have hok2 : AllOk ((l.take c).drop d) := (hok.take c).drop d
  rw [eo, decide_eq_true h32]
  have H : Hid (Has nof w (if cap = d then p else p.map (·.add (d * 3))) ((l.take c).drop d)) := Lib.hid (by
    by_cases e : cap = d
    · omega
    · rw [if_neg e]; exact (hl.take c).drop d)
  have KT : Hid (∀ (a : Option Addr) (k : Nat) w', Bel w w' → Has nof w a ((l.take c).drop d) → Calls Try.prog 17 #[.slice a (c - d) k] w' fun e w'' => e = .returned (talV ((l.take c).drop d)) ∧ Bel w' w'') := Lib.hid fun a k w' hb ha => rtally_any a (c - d) k _ w' hlen (by omega) (ha.bel hb) hok2
  have q0 : q ≤ 1000 := by omega
  have hne : ¬ cap = d := by omega
  clear hl hn eo hq hc hd hlen hok hok2
  unfold talV at *
  generalize tot 0 ((l.take c).drop d) = x0 at *
  generalize tot 1 ((l.take c).drop d) = x1 at *
  generalize tot 2 ((l.take c).drop d) = x2 at *
  generalize tot 3 ((l.take c).drop d) = x3 at *
  generalize mx ((l.take c).drop d) = x4 at *
  have H2 := H.out
  rw [if_neg hne] at H2
  have H2 := Lib.hid H2
  clear H
  go_enter Try.func14, Try.ntmps14
  go_wp2_with fail
  with_reducible refine (KT.out _ _ _ ((Bel.refl w).alloc _ _) H2.out).mono ?_
  rintro e w1 ⟨rfl, hb⟩
  have HB1 := Lib.hid (((Bel.refl w).alloc _ _).trans hb)
  obtain ⟨⟨c0, c1, c2, c3, c4⟩, ⟨z0, z1, z2, z3, z4⟩, HS⟩ := box5 hb
  clear hb
  go_wp2
  exact bodyPost_ret (v := .tuple #[.agg #[.int .i64 x0, .int .i64 x1, .int .i64 x2, .int .i64 x3, .int .i64 x4], .bool true]) (by simp [results, Try.results14, go_sem, c0, c1, c2, c3, c4]) rfl ⟨rfl, HB1.out.set5 (Nat.le_refl _) _ _ _ _ _⟩
end Go.Proofs.Ytfplmleakgpkiaa
