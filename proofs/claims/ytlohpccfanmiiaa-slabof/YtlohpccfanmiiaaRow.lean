/-
  Contracts of the five rules and of slab.rules.
-/
import Derived.Test.YtlohpccfanmiiaaRules
import Derived.OwnWalk
namespace Go.Proofs.Ytlohpccfanmiiaa
open Go.RowKit
theorem runs_unit {α : Type} (ok : α → Bool) : ∀ l : List α, (runs (fun (_ : Unit) x => ok x) (fun _ _ => ()) () l).1 = l.all ok
  | [] => rfl
  | x :: r => by
    have ih := runs_unit ok r
    unfold runs
    cases h : ok x <;> simp [h, ih]
theorem rule1 (P : Nat) (pu : Option Addr) (nu cu T5 T7 : Nat) (w : World) (h5 : w.cell? ⟨T5, 0, none⟩ = some (.int .i64 P)) (h7 : w.cell? ⟨T7, 0, none⟩ = some (.slice pu nu cu)) :
    Calls Try.prog 42 #[.pointer (some ⟨T7, 0, none⟩), .pointer (some ⟨T5, 0, none⟩)] w fun e w' => e = .returned (.bool (decide (nu ≤ P))) ∧ w = w' := by
  go_enter Try.func42, Try.ntmps42
  go_wp2
  go_ret
  exact ⟨ret_bool (by simp), rfl⟩
theorem rule2 (G : Int) (ul : List Int) (pu : Option Addr) (nu cu T6 T7 : Nat) (w : World) (h6 : w.cell? ⟨T6, 0, none⟩ = some (.int .i64 G)) (h7 : w.cell? ⟨T7, 0, none⟩ = some (.slice pu nu cu)) (hl : ul.length = nu) (hn : nu ≤ 2000) (hL : Lies nof w pu (encI ul)) :
    Calls Try.prog 43 #[.pointer (some ⟨T7, 0, none⟩), .pointer (some ⟨T6, 0, none⟩)] w fun e w' => e = .returned (.bool (ul.all (tms G))) ∧ Bel w w' := by
  have K := Lib.hid (each44 (fun (_ : Unit) w' => Bel w w') (fun _ x => tms G x) (fun _ _ => ()) 45 #[.pointer (some ⟨T6, 0, none⟩)] pu nu cu ul () w hl hn (Bel.refl w) (fun _ _ _ h k => h.trans k) (fun _ w' h => hL.bel h)
    (fun E _ x w' hE h => (times_wrap G T6 E x w' (h.cell h6) hE).mono (fun e w'' ⟨h1, h2⟩ => by subst h2; exact ⟨h1, h, hE⟩)))
  rw [runs_unit] at K
  clear hL hl
  go_enter Try.func43, Try.ntmps43
  go_wp2_with fail
  with_reducible refine (K.out).mono ?_
  rintro e w1 ⟨rfl, h1⟩
  have H1 := Lib.hid h1
  clear h1
  go_wp2
  go_ret
  exact ⟨rfl, H1.out⟩
theorem nxF_len (G : Int) (ul : List Int) (l : List Bool) (x : Int) : (nxF G ul l x).length = l.length := by unfold nxF; split <;> simp
theorem nxA_len (ul : List Int) (l : List Bool) (x : Hd) : (nxA ul l x).length = l.length := by unfold nxA; split <;> simp
/-- What holds while a list is gone through. -/
def InM (w0 : World) (M pn : Nat) (s : List Bool) (w : World) : Prop := Off (isM M) w0 w ∧ Marks w M s ∧ s.length = pn
theorem InM.bel {w0 : World} {M pn : Nat} {s : List Bool} {w w' : World} (h : InM w0 M pn s w) (k : Bel w w') : InM w0 M pn s w' := ⟨Off.trans h.1 k (fun _ e => e.elim), k.heap h.2.1, h.2.2⟩
theorem rule3 (P G : Int) (ul fl : List Int) (pu pf : Option Addr) (nu cu nf cf pn cp T5 T6 T7 T8 T11 T12 T13 M : Nat) (l : List Bool) (w : World) (hc : Ctx w P G ul pu nu cu pn cp T5 T6 T7 T11 T12 T13 M) (hm : Marks w M l) (hl : l.length = pn) (hp : nu ≤ pn)
    (h8 : w.cell? ⟨T8, 0, none⟩ = some (.slice pf nf cf)) (hfl : fl.length = nf) (hn : nf ≤ 2000) (hL : Lies (isM M) w pf (encI fl)) :
    Calls Try.prog 46 #[.pointer (some ⟨T8, 0, none⟩), .pointer (some ⟨T13, 0, none⟩), .pointer (some ⟨T7, 0, none⟩), .pointer (some ⟨T6, 0, none⟩), .pointer (some ⟨T12, 0, none⟩)] w fun e w' => e = .returned (.bool (runs (okF G ul) (nxF G ul) l fl).1) ∧ InM w M pn (runs (okF G ul) (nxF G ul) l fl).2 w' := by
  have K := Lib.hid (each44 (InM w M pn) (okF G ul) (nxF G ul) 47 #[.pointer (some ⟨T13, 0, none⟩), .pointer (some ⟨T7, 0, none⟩), .pointer (some ⟨T6, 0, none⟩), .pointer (some ⟨T12, 0, none⟩)] pf nf cf fl l w hfl hn ⟨Off.refl _ _, hm, hl⟩ (fun _ _ _ h k => h.bel k) (fun _ w' h => (hL.off h.1).any)
    (fun E s x w' hE h => (free_wrap P G ul pu nu cu pn cp T5 T6 T7 T11 T12 T13 M E s x w' (hc.off h.1) h.2.1 h.2.2 hp hE).mono (fun e w'' ⟨h1, h2, h3⟩ => ⟨h1, ⟨Off.trans h.1 h3 (fun _ e => .inl e), h2, by rw [nxF_len]; exact h.2.2⟩, h3.cell (not_M h.2.1 hE) hE⟩)))
  clear hc hm hL hfl
  obtain ⟨r, hr⟩ : ∃ r, runs (okF G ul) (nxF G ul) l fl = r := ⟨_, rfl⟩
  rw [hr] at K ⊢
  clear hr
  go_enter Try.func46, Try.ntmps46
  go_wp2_with fail
  with_reducible refine (K.out).mono ?_
  rintro e w1 ⟨rfl, h1⟩
  have H1 := Lib.hid h1
  clear h1
  go_wp2
  go_ret
  exact ⟨rfl, H1.out⟩
theorem rule4 (P G : Int) (ul : List Int) (al : List Hd) (pu pf : Option Addr) (nu cu nf cf pn cp T5 T6 T7 T9 T11 T12 T13 M : Nat) (l : List Bool) (w : World) (hc : Ctx w P G ul pu nu cu pn cp T5 T6 T7 T11 T12 T13 M) (hm : Marks w M l) (hl : l.length = pn) (hp : nu ≤ pn)
    (h9 : w.cell? ⟨T9, 0, none⟩ = some (.slice pf nf cf)) (hfl : al.length = nf) (hn : nf ≤ 2000) (hL : Lies (isM M) w pf (encH al)) :
    Calls Try.prog 48 #[.pointer (some ⟨T9, 0, none⟩), .pointer (some ⟨T13, 0, none⟩), .pointer (some ⟨T7, 0, none⟩), .pointer (some ⟨T12, 0, none⟩)] w fun e w' => e = .returned (.bool (runs (okA ul) (nxA ul) l al).1) ∧ InM w M pn (runs (okA ul) (nxA ul) l al).2 w' := by
  have K := Lib.hid (each49 (InM w M pn) (okA ul) (nxA ul) 50 #[.pointer (some ⟨T13, 0, none⟩), .pointer (some ⟨T7, 0, none⟩), .pointer (some ⟨T12, 0, none⟩)] pf nf cf al l w hfl hn ⟨Off.refl _ _, hm, hl⟩ (fun _ _ _ h k => h.bel k) (fun _ w' h => (hL.off h.1).any)
    (fun E s x w' hE h => (alive_wrap P G ul pu nu cu pn cp T5 T6 T7 T11 T12 T13 M E s x w' (hc.off h.1) h.2.1 h.2.2 hp hE).mono (fun e w'' ⟨h1, h2, h3⟩ => ⟨h1, ⟨Off.trans h.1 h3 (fun _ e => .inl e), h2, by rw [nxA_len]; exact h.2.2⟩, h3.cell (not_M h.2.1 hE) hE⟩)))
  clear hc hm hL hfl
  obtain ⟨r, hr⟩ : ∃ r, runs (okA ul) (nxA ul) l al = r := ⟨_, rfl⟩
  rw [hr] at K ⊢
  clear hr
  go_enter Try.func48, Try.ntmps48
  go_wp2_with fail
  with_reducible refine (K.out).mono ?_
  rintro e w1 ⟨rfl, h1⟩
  have H1 := Lib.hid h1
  clear h1
  go_wp2
  go_ret
  exact ⟨rfl, H1.out⟩
/-- Each place is marked, or worn. -/
def Full (G : Int) (ul : List Int) (l : List Bool) : Prop := ∀ (i : Nat) (u : Int) (b : Bool), ul[i]? = some u → l[i]? = some b → b = true ∨ ¬ u < G
def Post5 (G : Int) (ul : List Int) (l : List Bool) (w : World) (e : Ending) (w' : World) : Prop := (∃ r : Bool, e = .returned (.bool r) ∧ (r = true ↔ Full G ul l)) ∧ w = w'
theorem rule5 (P G : Int) (ul : List Int) (pu : Option Addr) (nu cu pn cp T5 T6 T7 T11 T12 T13 M : Nat) (l : List Bool) (w : World) (hc : Ctx w P G ul pu nu cu pn cp T5 T6 T7 T11 T12 T13 M) (hm : Marks w M l) (hl : l.length = pn) (hp : nu ≤ pn) :
    Calls Try.prog 51 #[.pointer (some ⟨T7, 0, none⟩), .pointer (some ⟨T11, 0, none⟩), .pointer (some ⟨T6, 0, none⟩)] w (Post5 G ul l w) := by
  have t6 := hc.t6
  have t7 := hc.t7
  have t11 := hc.t11
  have HL := Lib.hid hc.lu
  have HN := Lib.hid hc.len
  have HM := Lib.hid hm
  have HLn := Lib.hid hl
  have hsm := hc.small
  clear hc hm hl
  go_enter Try.func51, Try.ntmps51
  go_wp2
  go_loopw [8] (fun v wr => ∃ m : Nat, v = .int .i64 m ∧ m ≤ nu ∧ (∀ (i : Nat) (u : Int) (b : Bool), i < m → ul[i]? = some u → l[i]? = some b → b = true ∨ ¬ u < G) ∧ wr = w) (fun v _ => nu - (intOf v).toNat)
  case atStart => exact ⟨0, rfl, by omega, (fun i u b h => absurd h (by omega)), rfl⟩
  case round =>
    obtain ⟨m, rfl, hi, hall, rfl⟩ := hrel
    have HA := Lib.hid hall
    clear hall
    by_cases hlt : m < nu
    · obtain ⟨u, hu⟩ : ∃ u, ul[m]? = some u := ⟨_, List.getElem?_eq_getElem (by have := HN.out; omega)⟩
      obtain ⟨v, hv⟩ : ∃ v, l[m]? = some v := ⟨_, List.getElem?_eq_getElem (by have := HLn.out; omega)⟩
      obtain ⟨b, off, hpu, _, hr⟩ := lies_int HL.out (get_lt hu)
      have x0 := row_int hr hu
      have y0 := (marks_get HM.out hv).1
      rw [hpu] at t7
      have HU := Lib.hid hu
      have HV := Lib.hid hv
      subst hpu
      clear hr hu hv
      have hmp : m < pn := by omega
      cases v with
      | true =>
        have HA2 : Hid (∀ (i : Nat) (u : Int) (b : Bool), i < m + 1 → ul[i]? = some u → l[i]? = some b → b = true ∨ ¬ u < G) := Lib.hid (fun i u' b' h h1 h2 => by
          by_cases e : i = m
          · subst e
            rw [HV.out] at h2
            exact .inl (Option.some.inj h2).symm
          · exact HA.out i u' b' (by omega) h1 h2)
        go_wp2
        go_roundw
        case rel => exact ⟨m + 1, by go_num, by omega, HA2.out, trivial⟩
        case measure => simp [intOf]; omega
      | false =>
        by_cases hug : u < G
        · have HF : Hid (¬ Full G ul l) := Lib.hid (fun h => by
            rcases h m u false HU.out HV.out with e | e
            · cases e
            · exact e hug)
          go_wp2
          go_ret
          exact ⟨⟨false, rfl, by simp; exact HF.out⟩, rfl⟩
        · have hd : decide (u < G) = false := decide_eq_false hug
          have HA2 : Hid (∀ (i : Nat) (u : Int) (b : Bool), i < m + 1 → ul[i]? = some u → l[i]? = some b → b = true ∨ ¬ u < G) := Lib.hid (fun i u' b' h h1 h2 => by
            by_cases e : i = m
            · subst e
              rw [HU.out] at h1
              injection h1 with h1
              exact .inr (by rw [← h1]; exact hug)
            · exact HA.out i u' b' (by omega) h1 h2)
          clear hug
          go_wp2
          go_roundw
          case rel => exact ⟨m + 1, by go_num, by omega, HA2.out, trivial⟩
          case measure => simp [intOf]; omega
    · obtain rfl : m = nu := by omega
      have HF : Hid (Full G ul l) := Lib.hid (fun i u b h1 h2 => HA.out i u b (by have := get_lt h1; have := HN.out; omega) h1 h2)
      go_wp2
      go_ret
      exact ⟨⟨true, rfl, by simp; exact HF.out⟩, rfl⟩
end Go.Proofs.Ytlohpccfanmiiaa
