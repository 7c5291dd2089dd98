/-
  Contracts of the closures that slab.rules tells: what an image must be.
-/
import Derived.Test.YtlohpccfanmiiaaEach
namespace Go.Proofs.Ytlohpccfanmiiaa
open Go.RowKit
theorem times_wrap (G : Int) (T6 E : Nat) (x : Int) (w : World) (h : w.cell? ⟨T6, 0, none⟩ = some (.int .i64 G)) (hE : w.cell? ⟨E, 0, none⟩ = some (.func (.func 45) #[] #[.pointer (some ⟨T6, 0, none⟩)])) :
    Calls Try.prog 53 #[.int .i64 x, .pointer (some ⟨E, 0, none⟩)] w fun e w' => e = .returned (.bool (!tms G x)) ∧ w = w' := by
  have K := Lib.hid (times_any G T6 x w h)
  go_enter Try.func53, Try.ntmps53
  go_wp2_with fail
  with_reducible refine (K.out).mono ?_
  rintro e w1 ⟨rfl, rfl⟩
  go_wp2
  go_ret
  exact ⟨rfl, rfl⟩
theorem not_M {w : World} {M E k : Nat} {l : List Bool} {c : Array Value} (hm : Marks w M l) (hE : w.cell? ⟨E, 0, none⟩ = some (.func (.func k) #[] c)) : E ≠ M := fun e => by
  rw [e, cell_of_row w M 0 _ 4 (0, 0) hm] at hE
  unfold encB at hE
  cases l with
  | nil => simp at hE
  | cons y r => simp at hE
theorem free_wrap (P G : Int) (ul : List Int) (pu : Option Addr) (nu cu pn cp T5 T6 T7 T11 T12 T13 M E : Nat) (l : List Bool) (x : Int) (w : World) (hc : Ctx w P G ul pu nu cu pn cp T5 T6 T7 T11 T12 T13 M) (hm : Marks w M l) (hl : l.length = pn) (hp : nu ≤ pn)
    (hE : w.cell? ⟨E, 0, none⟩ = some (.func (.func 47) #[] #[.pointer (some ⟨T13, 0, none⟩), .pointer (some ⟨T7, 0, none⟩), .pointer (some ⟨T6, 0, none⟩), .pointer (some ⟨T12, 0, none⟩)])) :
    Calls Try.prog 53 #[.int .i64 x, .pointer (some ⟨E, 0, none⟩)] w fun e w' => e = .returned (.bool (!okF G ul l x)) ∧ Marks w' M (nxF G ul l x) ∧ Off (isM M) w w' := by
  have K := Lib.hid (free_el P G ul pu nu cu pn cp T5 T6 T7 T11 T12 T13 M l x w hc hm hl hp)
  clear hc hm
  go_enter Try.func53, Try.ntmps53
  go_wp2_with fail
  with_reducible refine (K.out).mono ?_
  rintro e w1 ⟨rfl, h1, h2⟩
  have H1 := Lib.hid h1
  have H2 := Lib.hid h2
  clear h1 h2
  go_wp2
  go_ret
  exact ⟨rfl, H1.out, H2.out⟩
/-- What is asked of one of alive, and what is marked then. -/
def okA (ul : List Int) (l : List Bool) (h : Hd) : Bool := knw ul.length h.p && decide (ul.getD h.p.toNat 0 = h.g) && !(l.getD h.p.toNat false)
def nxA (ul : List Int) (l : List Bool) (h : Hd) : List Bool := if knw ul.length h.p && decide (ul.getD h.p.toNat 0 = h.g) then l.set h.p.toNat true else l
theorem alive_el (P G : Int) (ul : List Int) (pu : Option Addr) (nu cu pn cp T5 T6 T7 T11 T12 T13 M : Nat) (l : List Bool) (q : Hd) (w : World) (hc : Ctx w P G ul pu nu cu pn cp T5 T6 T7 T11 T12 T13 M) (hm : Marks w M l) (hl : l.length = pn) (hp : nu ≤ pn) :
    Calls Try.prog 50 #[.agg #[.int .i64 q.p, .int .i64 q.g], .pointer (some ⟨T13, 0, none⟩), .pointer (some ⟨T7, 0, none⟩), .pointer (some ⟨T12, 0, none⟩)] w fun e w' => e = .returned (.bool (okA ul l q)) ∧ Marks w' M (nxA ul l q) ∧ Off (isM M) w w' := by
  obtain ⟨x, gg⟩ := q
  have hlen := hc.len
  have hMl : M < w.heap.size := (Array.getElem?_eq_some_iff.1 hm).1
  have hq0 : (w.alloc (.cells #[.int .i64 x, .int .i64 gg] 38)).cell? ⟨w.heap.size, 0, none⟩ = some (.int .i64 x) := by simp [go_sem]
  have hq1 : (w.alloc (.cells #[.int .i64 x, .int .i64 gg] 38)).cell? ⟨w.heap.size, 1, none⟩ = some (.int .i64 gg) := by simp [go_sem]
  have HBw : Hid (Bel w (w.alloc (.cells #[.int .i64 x, .int .i64 gg] 38))) := Lib.hid ((Bel.refl _).alloc _ _)
  by_cases hk : knw nu x = true
  · have hk2 : 0 ≤ x ∧ x < nu := of_decide_eq_true hk
    obtain ⟨k, rfl⟩ : ∃ k : Nat, x = k := ⟨x.toNat, by omega⟩
    have hkl : k < nu := by omega
    obtain ⟨u, hu⟩ : ∃ u, ul[k]? = some u := ⟨_, List.getElem?_eq_getElem (by omega)⟩
    have hgd : ul.getD ((k : Int)).toNat 0 = u := by simp [List.getD_eq_getElem?_getD, hu]
    obtain ⟨b, off, hpu, hbM, hr⟩ := lies_int hc.lu (i := k) (by omega)
    have x0 := HBw.out.cell (row_int hr hu)
    have t7 := HBw.out.cell hc.t7
    have t12 := HBw.out.cell hc.t12
    have t13 := HBw.out.cell hc.t13
    rw [hpu] at t7
    by_cases hug : u = gg
    · obtain ⟨v, hv⟩ : ∃ v, l[k]? = some v := ⟨_, List.getElem?_eq_getElem (by omega)⟩
      have e1 : okA ul l ⟨(k : Int), gg⟩ = !v := by unfold okA; simp only; rw [hlen, hk, hgd, decide_eq_true hug]; simp [List.getD_eq_getElem?_getD, hv]
      have e2 : nxA ul l ⟨(k : Int), gg⟩ = l.set k true := by unfold nxA; simp only; rw [hlen, hk, hgd, decide_eq_true hug]; simp
      rw [e1, e2]
      have K1 := Lib.hid (fun w' (h : w'.cell? ⟨T7, 0, none⟩ = some (.slice (some ⟨b, off, none⟩) nu cu)) => known_any (some ⟨b, off, none⟩) nu cu T7 k w' h)
      rw [hk] at K1
      have K2 := Lib.hid (fun w' (ho : Bel w w') => mark_any pn cp T11 M k v l w' (ho.cell hc.t11) (ho.heap hm) hv (by omega))
      have hd : (u == gg) = true := by simpa using hug
      have hTM : ¬ w.heap.size = M := by omega
      have HX : Hid (∀ w', Off (isM M) (w.alloc (.cells #[.int .i64 k, .int .i64 gg] 38)) w' → w'.cell? ⟨T13, 0, none⟩ = some (.func (.func 41) #[] #[.pointer (some ⟨T7, 0, none⟩)]) ∧ w'.cell? ⟨T7, 0, none⟩ = some (.slice (some ⟨b, off, none⟩) nu cu) ∧ w'.cell? ⟨T12, 0, none⟩ = some (.func (.func 40) #[] #[.pointer (some ⟨T11, 0, none⟩)]) ∧ w'.cell? ⟨b, off + k, none⟩ = some (.int .i64 u) ∧ w'.cell? ⟨w.heap.size, 0, none⟩ = some (.int .i64 k) ∧ w'.cell? ⟨w.heap.size, 1, none⟩ = some (.int .i64 gg)) := Lib.hid (fun w' h => ⟨h.cell hc.n13 t13, h.cell hc.n7 t7, h.cell hc.n12 t12, h.cell hbM x0, h.cell hTM hq0, h.cell hTM hq1⟩)
      have T7d : Hid ((w.alloc (.cells #[.int .i64 k, .int .i64 gg] 38)).drew.cell? ⟨T7, 0, none⟩ = some (.slice (some ⟨b, off, none⟩) nu cu)) := Lib.hid t7
      have HBd : Hid (Bel w (w.alloc (.cells #[.int .i64 k, .int .i64 gg] 38)).drew) := Lib.hid HBw.out.drew
      have HOw : Hid (Off (isM M) w (w.alloc (.cells #[.int .i64 k, .int .i64 gg] 38))) := Lib.hid (HBw.out.off _)
      clear e1 e2 hgd hu hv hm hc hr hk hk2 hlen hug HBw
      go_enter Try.func50, Try.ntmps50
      go_wp2
      go_region_held3 (fun w' => w'.cell? ⟨T13, 0, none⟩ = some (.func (.func 41) #[] #[.pointer (some ⟨T7, 0, none⟩)]) ∧ w'.cell? ⟨T7, 0, none⟩ = some (.slice (some ⟨b, off, none⟩) nu cu) ∧ w'.cell? ⟨T12, 0, none⟩ = some (.func (.func 40) #[] #[.pointer (some ⟨T11, 0, none⟩)]) ∧ w'.cell? ⟨b, off + k, none⟩ = some (.int .i64 u) ∧ w'.cell? ⟨w.heap.size, 0, none⟩ = some (.int .i64 k) ∧ w'.cell? ⟨w.heap.size, 1, none⟩ = some (.int .i64 gg))
        (((with_reducible refine HX.out _ ?_); first | (with_reducible exact (Off.refl _ _).drew) | (with_reducible exact (Off.refl _ _)) | (with_reducible exact hgo)))
        (first | (go_at_call 41; (with_reducible refine (K1.out _ T7d.out).mono ?_); rintro e w9 ⟨rfl, rfl⟩) | (go_at_call 40; (with_reducible refine (K2.out _ HBd.out).mono ?_); rintro e w9 ⟨rfl, hmk, hof⟩; have hgo : Off (isM M) (w.alloc (.cells #[.int .i64 k, .int .i64 gg] 38)) w9 := Off.trans (Off.refl (isM M) _).drew hof (fun i e => .inl e)))
      all_goals
        have HM := Lib.hid hmk
        have HG := Lib.hid (Off.trans HOw.out hgo (fun i e => .inl e))
        clear hmk hof hgo
        go_wp2
        go_ret
        exact ⟨rfl, HM.out, HG.out⟩
    · have e1 : okA ul l ⟨(k : Int), gg⟩ = false := by unfold okA; simp only; rw [hgd, decide_eq_false hug]; simp
      have e2 : nxA ul l ⟨(k : Int), gg⟩ = l := by unfold nxA; simp only; rw [hgd, decide_eq_false hug]; simp
      rw [e1, e2]
      have K1 := Lib.hid (fun w' (h : w'.cell? ⟨T7, 0, none⟩ = some (.slice (some ⟨b, off, none⟩) nu cu)) => known_any (some ⟨b, off, none⟩) nu cu T7 k w' h)
      rw [hk] at K1
      have hd : (u == gg) = false := by simpa using hug
      have HM := Lib.hid (HBw.out.heap hm)
      have HOw : Hid (Off (isM M) w (w.alloc (.cells #[.int .i64 k, .int .i64 gg] 38))) := Lib.hid (HBw.out.off _)
      clear e1 e2 hgd hu hm hc hr hk hk2 hlen hug HBw
      go_enter Try.func50, Try.ntmps50
      go_wp2
      go_quiet ((go_at_call 41; exact Calls.quiet_of_same ((K1.out _ (by simpa using t7)).mono (fun _ _ h => ⟨h.1, h.2.symm⟩))))
      go_wp2
      go_ret
      exact ⟨rfl, HM.out, HOw.out.drewN _⟩
  · have hk : knw nu x = false := by simpa using hk
    have e1 : okA ul l ⟨x, gg⟩ = false := by unfold okA; simp only; rw [hlen, hk]; simp
    have e2 : nxA ul l ⟨x, gg⟩ = l := by unfold nxA; simp only; rw [hlen, hk]; simp
    rw [e1, e2]
    have t7 := HBw.out.cell hc.t7
    have t13 := HBw.out.cell hc.t13
    have K1 := Lib.hid (fun w' (h : w'.cell? ⟨T7, 0, none⟩ = some (.slice pu nu cu)) => known_any pu nu cu T7 x w' h)
    rw [hk] at K1
    have HM := Lib.hid (HBw.out.heap hm)
    have HOw : Hid (Off (isM M) w (w.alloc (.cells #[.int .i64 x, .int .i64 gg] 38))) := Lib.hid (HBw.out.off _)
    clear e1 e2 hm hc hk hlen HBw
    go_enter Try.func50, Try.ntmps50
    go_wp2
    go_quiet ((go_at_call 41; exact Calls.quiet_of_same ((K1.out _ (by simpa using t7)).mono (fun _ _ h => ⟨h.1, h.2.symm⟩))))
    go_wp2
    go_ret
    exact ⟨rfl, HM.out, HOw.out.drewN _⟩
theorem alive_wrap (P G : Int) (ul : List Int) (pu : Option Addr) (nu cu pn cp T5 T6 T7 T11 T12 T13 M E : Nat) (l : List Bool) (q : Hd) (w : World) (hc : Ctx w P G ul pu nu cu pn cp T5 T6 T7 T11 T12 T13 M) (hm : Marks w M l) (hl : l.length = pn) (hp : nu ≤ pn)
    (hE : w.cell? ⟨E, 0, none⟩ = some (.func (.func 50) #[] #[.pointer (some ⟨T13, 0, none⟩), .pointer (some ⟨T7, 0, none⟩), .pointer (some ⟨T12, 0, none⟩)])) :
    Calls Try.prog 55 #[.agg #[.int .i64 q.p, .int .i64 q.g], .pointer (some ⟨E, 0, none⟩)] w fun e w' => e = .returned (.bool (!okA ul l q)) ∧ Marks w' M (nxA ul l q) ∧ Off (isM M) w w' := by
  have hMl : M < w.heap.size := (Array.getElem?_eq_some_iff.1 hm).1
  have hb : Bel w (w.alloc (.cells #[.int .i64 q.p, .int .i64 q.g] 38)) := (Bel.refl _).alloc _ _
  have K := Lib.hid (alive_el P G ul pu nu cu pn cp T5 T6 T7 T11 T12 T13 M l q _ (hc.off (hb.off _)) (hb.heap hm) hl hp)
  have HO := Lib.hid (hb.off (isM M))
  have hE1 := World.block_lt_of_cell? w _ hE
  clear hc hm hb
  go_enter Try.func55, Try.ntmps55
  go_wp2_with fail
  with_reducible refine (K.out).mono ?_
  rintro e w1 ⟨rfl, h1, h2⟩
  have H1 := Lib.hid h1
  have H2 := Lib.hid (Off.trans HO.out h2 (fun i e => .inl e))
  clear h1 h2
  go_wp2
  go_ret
  exact ⟨rfl, H1.out, H2.out⟩
end Go.Proofs.Ytlohpccfanmiiaa
