/-
  Contracts of the closures of slab.rules that look at one element.
-/
import Derived.Test.YtlohpccfanmiiaaModel
import Derived.BigRegion
namespace Go.Proofs.Ytlohpccfanmiiaa
open Go.RowKit
/-- The places that are marked. -/
def encB (l : List Bool) : Array Value := (l.map Value.bool).toArray
def Marks (w : World) (M : Nat) (l : List Bool) : Prop := w.heap[M]? = some (.cells (encB l) 4 (0, 0))
def isM (M : Nat) : Nat → Prop := fun k => k = M
/-- What the closures have captured. -/
structure Ctx (w : World) (P G : Int) (ul : List Int) (pu : Option Addr) (nu cu pn cp : Nat) (T5 T6 T7 T11 T12 T13 M : Nat) : Prop where
  t5 : w.cell? ⟨T5, 0, none⟩ = some (.int .i64 P)
  t6 : w.cell? ⟨T6, 0, none⟩ = some (.int .i64 G)
  t7 : w.cell? ⟨T7, 0, none⟩ = some (.slice pu nu cu)
  t11 : w.cell? ⟨T11, 0, none⟩ = some (.slice (some ⟨M, 0, none⟩) pn cp)
  t12 : w.cell? ⟨T12, 0, none⟩ = some (.func (.func 40) #[] #[.pointer (some ⟨T11, 0, none⟩)])
  t13 : w.cell? ⟨T13, 0, none⟩ = some (.func (.func 41) #[] #[.pointer (some ⟨T7, 0, none⟩)])
  lu : Lies (isM M) w pu (encI ul)
  len : ul.length = nu
  small : nu ≤ 2000
  n5 : T5 ≠ M
  n6 : T6 ≠ M
  n7 : T7 ≠ M
  n11 : T11 ≠ M
  n12 : T12 ≠ M
  n13 : T13 ≠ M
theorem Ctx.off {w w' : World} {P G : Int} {ul : List Int} {pu : Option Addr} {nu cu pn cp T5 T6 T7 T11 T12 T13 M : Nat} (h : Ctx w P G ul pu nu cu pn cp T5 T6 T7 T11 T12 T13 M) (k : Off (isM M) w w') : Ctx w' P G ul pu nu cu pn cp T5 T6 T7 T11 T12 T13 M :=
  ⟨k.cell h.n5 h.t5, k.cell h.n6 h.t6, k.cell h.n7 h.t7, k.cell h.n11 h.t11, k.cell h.n12 h.t12, k.cell h.n13 h.t13, h.lu.off k, h.len, h.small, h.n5, h.n6, h.n7, h.n11, h.n12, h.n13⟩
theorem marks_get {w : World} {M : Nat} {l : List Bool} (h : Marks w M l) {k : Nat} {b : Bool} (hk : l[k]? = some b) : w.cell? ⟨M, k, none⟩ = some (.bool b) ∧ w.frozen? ⟨M, k, none⟩ = false := by
  refine ⟨?_, frozen_of_row w M k _ 4 h⟩
  rw [cell_of_row w M k _ 4 (0, 0) h]
  unfold encB
  simp [hk]
theorem marks_set {w : World} {M : Nat} {l : List Bool} (h : Marks w M l) (k : Nat) : Marks (w.setCell ⟨M, k, none⟩ (.bool true)) M (l.set k true) ∧ Off (isM M) w (w.setCell ⟨M, k, none⟩ (.bool true)) := by
  refine ⟨?_, Off.setCell (Off.refl (isM M) w) (p := ⟨M, k, none⟩) (.inl rfl) _⟩
  unfold Marks
  rw [heap_setCell_same w M k _ 4 _ h]
  congr 2
  unfold encB
  rw [List.map_set]
  simp
/-- mark. -/
theorem mark_any (pn cp T11 M k : Nat) (b : Bool) (l : List Bool) (w : World) (h1 : w.cell? ⟨T11, 0, none⟩ = some (.slice (some ⟨M, 0, none⟩) pn cp)) (hm : Marks w M l) (hk : l[k]? = some b) (hp : k < pn) :
    Calls Try.prog 40 #[.int .i64 k, .pointer (some ⟨T11, 0, none⟩)] w fun e w' => e = .returned (.bool (!b)) ∧ Marks w' M (l.set k true) ∧ Off (isM M) w w' := by
  obtain ⟨c0, f0⟩ := marks_get hm hk
  have HS := Lib.hid (marks_set hm k)
  clear hm hk
  go_enter Try.func40, Try.ntmps40
  go_wp2
  go_ret
  exact ⟨rfl, HS.out.1, HS.out.2⟩
/-- known. -/
def knw (nu : Nat) (x : Int) : Bool := decide (0 ≤ x ∧ x < nu)
theorem known_any (pu : Option Addr) (nu cu T7 : Nat) (x : Int) (w : World) (h : w.cell? ⟨T7, 0, none⟩ = some (.slice pu nu cu)) :
    Calls Try.prog 41 #[.int .i64 x, .pointer (some ⟨T7, 0, none⟩)] w fun e w' => e = .returned (.bool (knw nu x)) ∧ w = w' := by
  by_cases h0 : 0 ≤ x
  · obtain ⟨k, rfl⟩ : ∃ k : Nat, x = k := ⟨x.toNat, by omega⟩
    by_cases h1 : k < nu
    · have hk : knw nu (k : Int) = true := decide_eq_true ⟨by omega, by omega⟩
      rw [hk]
      have hd : decide (k < nu) = true := decide_eq_true h1
      clear hk
      go_enter Try.func41, Try.ntmps41
      go_wp2
      go_ret
      exact ⟨rfl, rfl⟩
    · have hk : knw nu (k : Int) = false := decide_eq_false (by omega)
      rw [hk]
      have hd : decide (k < nu) = false := decide_eq_false h1
      clear hk
      go_enter Try.func41, Try.ntmps41
      go_wp2
      go_ret
      exact ⟨rfl, rfl⟩
  · have hk : knw nu x = false := decide_eq_false (by omega)
    rw [hk]
    have hd : decide (0 ≤ x) = false := decide_eq_false h0
    clear hk
    go_enter Try.func41, Try.ntmps41
    go_wp2
    go_ret
    exact ⟨rfl, rfl⟩
/-- A number of times. -/
def tms (G x : Int) : Bool := decide (1 ≤ x ∧ x ≤ G)
theorem times_any (G : Int) (T6 : Nat) (x : Int) (w : World) (h : w.cell? ⟨T6, 0, none⟩ = some (.int .i64 G)) :
    Calls Try.prog 45 #[.int .i64 x, .pointer (some ⟨T6, 0, none⟩)] w fun e w' => e = .returned (.bool (tms G x)) ∧ w = w' := by
  by_cases h0 : 1 ≤ x
  · by_cases h1 : x ≤ G
    · have hk : tms G x = true := decide_eq_true ⟨h0, h1⟩
      rw [hk]
      clear hk
      go_enter Try.func45, Try.ntmps45
      go_wp2
      go_ret
      exact ⟨rfl, rfl⟩
    · have hk : tms G x = false := decide_eq_false (by omega)
      rw [hk]
      have hd : decide (x ≤ G) = false := decide_eq_false h1
      clear hk
      go_enter Try.func45, Try.ntmps45
      go_wp2
      go_ret
      exact ⟨rfl, rfl⟩
  · have hk : tms G x = false := decide_eq_false (by omega)
    rw [hk]
    have hd : decide (1 ≤ x) = false := decide_eq_false h0
    clear hk
    go_enter Try.func45, Try.ntmps45
    go_wp2
    go_ret
    exact ⟨rfl, rfl⟩
/-- What is asked of one of free, and what is marked then. -/
def okF (G : Int) (ul : List Int) (l : List Bool) (x : Int) : Bool := knw ul.length x && decide (ul.getD x.toNat 0 < G) && !(l.getD x.toNat false)
def nxF (G : Int) (ul : List Int) (l : List Bool) (x : Int) : List Bool := if knw ul.length x && decide (ul.getD x.toNat 0 < G) then l.set x.toNat true else l
theorem free_el (P G : Int) (ul : List Int) (pu : Option Addr) (nu cu pn cp T5 T6 T7 T11 T12 T13 M : Nat) (l : List Bool) (x : Int) (w : World) (hc : Ctx w P G ul pu nu cu pn cp T5 T6 T7 T11 T12 T13 M) (hm : Marks w M l) (hl : l.length = pn) (hp : nu ≤ pn) :
    Calls Try.prog 47 #[.int .i64 x, .pointer (some ⟨T13, 0, none⟩), .pointer (some ⟨T7, 0, none⟩), .pointer (some ⟨T6, 0, none⟩), .pointer (some ⟨T12, 0, none⟩)] w fun e w' => e = .returned (.bool (okF G ul l x)) ∧ Marks w' M (nxF G ul l x) ∧ Off (isM M) w w' := by
  have hlen := hc.len
  by_cases hk : knw nu x = true
  · have hk2 : 0 ≤ x ∧ x < nu := of_decide_eq_true hk
    obtain ⟨k, rfl⟩ : ∃ k : Nat, x = k := ⟨x.toNat, by omega⟩
    have hkl : k < nu := by omega
    obtain ⟨u, hu⟩ : ∃ u, ul[k]? = some u := ⟨_, List.getElem?_eq_getElem (by omega)⟩
    have hgd : ul.getD ((k : Int)).toNat 0 = u := by simp [List.getD_eq_getElem?_getD, hu]
    obtain ⟨b, off, hpu, hbM, hr⟩ := lies_int hc.lu (i := k) (by omega)
    have x0 := row_int hr hu
    have t6 := hc.t6
    have t7 := hc.t7
    have t12 := hc.t12
    have t13 := hc.t13
    rw [hpu] at t7
    by_cases hug : u < G
    · obtain ⟨v, hv⟩ : ∃ v, l[k]? = some v := ⟨_, List.getElem?_eq_getElem (by omega)⟩
      have e1 : okF G ul l (k : Int) = !v := by unfold okF; rw [hlen, hk, hgd, decide_eq_true hug]; simp [List.getD_eq_getElem?_getD, hv]
      have e2 : nxF G ul l (k : Int) = l.set k true := by unfold nxF; rw [hlen, hk, hgd, decide_eq_true hug]; simp
      rw [e1, e2]
      have K1 := Lib.hid (fun w' (h : w'.cell? ⟨T7, 0, none⟩ = some (.slice (some ⟨b, off, none⟩) nu cu)) => known_any (some ⟨b, off, none⟩) nu cu T7 k w' h)
      rw [hk] at K1
      have K2 := Lib.hid (fun w' (ho : Bel w w') => mark_any pn cp T11 M k v l w' (ho.cell hc.t11) (ho.heap hm) hv (by omega))
      have HX : Hid (∀ w', Off (isM M) w w' → w'.cell? ⟨T13, 0, none⟩ = some (.func (.func 41) #[] #[.pointer (some ⟨T7, 0, none⟩)]) ∧ w'.cell? ⟨T7, 0, none⟩ = some (.slice (some ⟨b, off, none⟩) nu cu) ∧ w'.cell? ⟨T6, 0, none⟩ = some (.int .i64 G) ∧ w'.cell? ⟨T12, 0, none⟩ = some (.func (.func 40) #[] #[.pointer (some ⟨T11, 0, none⟩)]) ∧ w'.cell? ⟨b, off + k, none⟩ = some (.int .i64 u)) := Lib.hid (fun w' h => ⟨h.cell hc.n13 t13, h.cell hc.n7 t7, h.cell hc.n6 t6, h.cell hc.n12 t12, h.cell hbM x0⟩)
      have T7d : Hid (w.drew.cell? ⟨T7, 0, none⟩ = some (.slice (some ⟨b, off, none⟩) nu cu)) := Lib.hid t7
      clear e1 e2 hgd hu hv hm hc hr hk hk2 hlen
      go_enter Try.func47, Try.ntmps47
      go_wp2
      go_region_held3 (fun w' => w'.cell? ⟨T13, 0, none⟩ = some (.func (.func 41) #[] #[.pointer (some ⟨T7, 0, none⟩)]) ∧ w'.cell? ⟨T7, 0, none⟩ = some (.slice (some ⟨b, off, none⟩) nu cu) ∧ w'.cell? ⟨T6, 0, none⟩ = some (.int .i64 G) ∧ w'.cell? ⟨T12, 0, none⟩ = some (.func (.func 40) #[] #[.pointer (some ⟨T11, 0, none⟩)]) ∧ w'.cell? ⟨b, off + k, none⟩ = some (.int .i64 u))
        (((with_reducible refine HX.out _ ?_); first | (with_reducible exact (Off.refl _ _).drew) | (with_reducible exact (Off.refl _ _)) | (with_reducible exact hgo)))
        (first | (go_at_call 41; (with_reducible refine (K1.out _ T7d.out).mono ?_); rintro e w9 ⟨rfl, rfl⟩) | (go_at_call 40; (with_reducible refine (K2.out _ (Bel.refl w).drew).mono ?_); rintro e w9 ⟨rfl, hmk, hof⟩; have hgo : Off (isM M) w w9 := Off.trans (Off.refl (isM M) w).drew hof (fun i e => .inl e)))
      all_goals
        have HM := Lib.hid hmk
        have HG := Lib.hid hgo
        clear hmk hof hgo
        go_wp2
        go_ret
        exact ⟨rfl, HM.out, HG.out⟩
    · have e1 : okF G ul l (k : Int) = false := by unfold okF; rw [hgd, decide_eq_false hug]; simp
      have e2 : nxF G ul l (k : Int) = l := by unfold nxF; rw [hgd, decide_eq_false hug]; simp
      rw [e1, e2]
      have K1 := Lib.hid (fun w' (h : w'.cell? ⟨T7, 0, none⟩ = some (.slice (some ⟨b, off, none⟩) nu cu)) => known_any (some ⟨b, off, none⟩) nu cu T7 k w' h)
      rw [hk] at K1
      have hd : decide (u < G) = false := decide_eq_false hug
      have HM := Lib.hid hm
      clear e1 e2 hgd hu hm hc hr hk hk2 hlen
      go_enter Try.func47, Try.ntmps47
      go_wp2
      go_quiet ((go_at_call 41; exact Calls.quiet_of_same ((K1.out _ (by simpa using t7)).mono (fun _ _ h => ⟨h.1, h.2.symm⟩))))
      go_wp2
      go_ret
      exact ⟨rfl, HM.out, (Off.refl _ _).drewN _⟩
  · have hk : knw nu x = false := by simpa using hk
    have e1 : okF G ul l x = false := by unfold okF; rw [hlen, hk]; simp
    have e2 : nxF G ul l x = l := by unfold nxF; rw [hlen, hk]; simp
    rw [e1, e2]
    have t7 := hc.t7
    have t13 := hc.t13
    have K1 := Lib.hid (fun w' (h : w'.cell? ⟨T7, 0, none⟩ = some (.slice pu nu cu)) => known_any pu nu cu T7 x w' h)
    rw [hk] at K1
    have HM := Lib.hid hm
    clear e1 e2 hm hc hk hlen
    go_enter Try.func47, Try.ntmps47
    go_wp2
    go_quiet ((go_at_call 41; exact Calls.quiet_of_same ((K1.out _ (by simpa using t7)).mono (fun _ _ h => ⟨h.1, h.2.symm⟩))))
    go_wp2
    go_ret
    exact ⟨rfl, HM.out, (Off.refl _ _).drewN _⟩
end Go.Proofs.Ytlohpccfanmiiaa
