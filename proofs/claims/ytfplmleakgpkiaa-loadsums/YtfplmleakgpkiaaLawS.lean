/-
  The walk of LoadSums.
-/
import Derived.Test.YtfplmleakgpkiaaLawR
set_option linter.unusedVariables false
set_option linter.unusedSimpArgs false
namespace Go.Proofs.Ytfplmleakgpkiaa
open Go.RowKit
/-- The sums of the windows that were closed. -/
def Sum (w : World) (b : Nat) (l : List T) : Prop :=
  w.cell? ⟨b, 0, none⟩ = some (.int .i64 (tot 0 (clo l))) ∧ w.cell? ⟨b, 1, none⟩ = some (.int .i64 (tot 1 (clo l))) ∧ w.cell? ⟨b, 2, none⟩ = some (.int .i64 (tot 2 (clo l))) ∧ w.cell? ⟨b, 3, none⟩ = some (.int .i64 (tot 3 (clo l))) ∧ w.cell? ⟨b, 4, none⟩ = some (.int .i64 0)
theorem Sum.off {f : Nat → Prop} {w w' : World} {b : Nat} {l : List T} (h : Sum w b l) (k : Off f w w') (hf : ¬ f b) : Sum w' b l := ⟨k.cell hf h.1, k.cell hf h.2.1, k.cell hf h.2.2.1, k.cell hf h.2.2.2.1, k.cell hf h.2.2.2.2⟩
theorem Sum.same {w : World} {b : Nat} {l m : List T} (h : Sum w b l) (e : ∀ k : Int, tot k (clo l) = tot k (clo m)) : Sum w b m := by
  unfold Sum at *
  rw [← e 0, ← e 1, ← e 2, ← e 3]
  exact h
theorem sums_far (a : Option Addr) (n cap : Nat) (w : World) (h : 150 < n) :
    Calls Try.prog 4 #[.slice a n cap] w fun e w' => e = .returned (.bool true) ∧ Bel w w' := by
  have h' : (150 : Int) < n := by omega
  have K : Hid (∀ w', Calls Try.prog 7 #[] w' fun e w'' => e = .returned (.bool true) ∧ Bel w' w'') := Lib.hid works_any
  go_enter Try.func4, Try.ntmps4
  go_wp2_with fail
  with_reducible refine (K.out _).mono ?_
  rintro e w1 ⟨rfl, hb⟩
  have HB := Lib.hid hb
  clear hb
  go_wp2
  go_ret
  exact ⟨rfl, HB.out⟩
theorem froz_off {f : Nat → Prop} {w w' : World} {b : Nat} {l : List T} (h : Sum w b l) (z : w.frozen? ⟨b, 0, none⟩ = false ∧ w.frozen? ⟨b, 1, none⟩ = false ∧ w.frozen? ⟨b, 2, none⟩ = false ∧ w.frozen? ⟨b, 3, none⟩ = false ∧ w.frozen? ⟨b, 4, none⟩ = false) (k : Off f w w') (hf : ¬ f b) :
    w'.frozen? ⟨b, 0, none⟩ = false ∧ w'.frozen? ⟨b, 1, none⟩ = false ∧ w'.frozen? ⟨b, 2, none⟩ = false ∧ w'.frozen? ⟨b, 3, none⟩ = false ∧ w'.frozen? ⟨b, 4, none⟩ = false :=
  ⟨k.froz hf h.1 z.1, k.froz hf h.2.1 z.2.1, k.froz hf h.2.2.1 z.2.2.1, k.froz hf h.2.2.2.1 z.2.2.2.1, k.froz hf h.2.2.2.2 z.2.2.2.2⟩
/-- What the law keeps: the load (of m), the sums (of l's closed windows), frozen marks of the sums' block. -/
structure Si (w1 w : World) (p b : Nat) (l m : List T) : Prop where
  ld : Ld w p m
  sm : Sum w b l
  fz : w.frozen? ⟨b, 0, none⟩ = false ∧ w.frozen? ⟨b, 1, none⟩ = false ∧ w.frozen? ⟨b, 2, none⟩ = false ∧ w.frozen? ⟨b, 3, none⟩ = false ∧ w.frozen? ⟨b, 4, none⟩ = false
  bel : Bel w1 w
  bp : ¬ b = p
  b1 : w1.heap.size ≤ b
  p1 : w1.heap.size ≤ p
  few : m.length ≤ 150
  lfew : l.length ≤ 150
  lok : AllOk l
theorem Si.go {w1 w w' : World} {p b : Nat} {l m : List T} (h : Si w1 w p b l m) (k : Bel w w') : Si w1 w' p b l m := ⟨h.ld.bel k, h.sm.off k (fun e => e), froz_off h.sm h.fz k (fun e => e), h.bel.trans k, h.bp, h.b1, h.p1, h.few, h.lfew, h.lok⟩
/-- Behind a note. -/
theorem Si.note {w1 w w' : World} {p b : Nat} {l m m' : List T} (h : Si w1 w p b l m) (k : Off (only p) w w') (hq : Ld w' p m') (hm : m'.length ≤ 150) : Si w1 w' p b l m' :=
  ⟨hq, h.sm.off k h.bp, froz_off h.sm h.fz k h.bp, k.belp h.bel h.p1, h.bp, h.b1, h.p1, hm, h.lfew, h.lok⟩
/-- No window was closed. -/
theorem Si.stay {w1 w : World} {p b : Nat} {l m : List T} (h : Si w1 w p b l m) (e : ∀ k : Int, tot k (clo l) = tot k (clo m)) : Si w1 w p b m m :=
  ⟨h.ld, h.sm.same e, h.fz, h.bel, h.bp, h.b1, h.p1, h.few, h.few, h.ld.ok⟩
theorem Si.cells {w1 w : World} {p b : Nat} {l m : List T} (h : Si w1 w p b l m) : w.cell? ⟨b, 0, none⟩ = some (.int .i64 (tot 0 (clo l))) ∧ w.cell? ⟨b, 1, none⟩ = some (.int .i64 (tot 1 (clo l))) ∧ w.cell? ⟨b, 2, none⟩ = some (.int .i64 (tot 2 (clo l))) ∧ w.cell? ⟨b, 3, none⟩ = some (.int .i64 (tot 3 (clo l))) ∧ w.cell? ⟨b, 4, none⟩ = some (.int .i64 0) := h.sm
/-- What one more note does to the closed windows. -/
theorem clo_next (g : List T) (x : T) : ((g ++ good [x]).length / 32 = g.length / 32 ∧ ∀ k : Int, tot k (clo g) = tot k (clo (g ++ good [x]))) ∨
    ((g ++ good [x]).length / 32 = g.length / 32 + 1 ∧ (g ++ good [x]).length % 32 = 0 ∧ ∀ k : Int, tot k (clo (g ++ good [x])) = tot k (clo g) + tot k (lst (g ++ good [x]))) := by
  rw [good_one]
  by_cases hx : x.ok = true
  · rw [if_pos hx]
    by_cases hz : (g.length + 1) % 32 = 0
    · refine .inr ⟨?_, ?_, fun k => clo_grow x k hz⟩
      · rw [List.length_append, List.length_singleton]; omega
      · rw [List.length_append, List.length_singleton]; omega
    · refine .inl ⟨?_, fun k => by rw [clo_stay x hz]⟩
      rw [List.length_append, List.length_singleton]; omega
  · rw [if_neg hx, List.append_nil]
    exact .inl ⟨rfl, fun _ => rfl⟩
/-- The sums behind a window that was closed. -/
theorem Si.grow {w1 w : World} {p b : Nat} {g m : List T} (h : Si w1 w p b g m) (e : ∀ k : Int, tot k (clo m) = tot k (clo g) + tot k (lst m)) :
    Si w1 (((((w.setCell ⟨b, 0, none⟩ (.int .i64 (tot 0 (clo g) + tot 0 (lst m)))).setCell ⟨b, 1, none⟩ (.int .i64 (tot 1 (clo g) + tot 1 (lst m)))).setCell ⟨b, 2, none⟩ (.int .i64 (tot 2 (clo g) + tot 2 (lst m)))).setCell ⟨b, 3, none⟩ (.int .i64 (tot 3 (clo g) + tot 3 (lst m)))).setCell ⟨b, 4, none⟩ (.int .i64 0)) p b m m := by
  have ob : Off (only b) w (((((w.setCell ⟨b, 0, none⟩ (.int .i64 (tot 0 (clo g) + tot 0 (lst m)))).setCell ⟨b, 1, none⟩ (.int .i64 (tot 1 (clo g) + tot 1 (lst m)))).setCell ⟨b, 2, none⟩ (.int .i64 (tot 2 (clo g) + tot 2 (lst m)))).setCell ⟨b, 3, none⟩ (.int .i64 (tot 3 (clo g) + tot 3 (lst m)))).setCell ⟨b, 4, none⟩ (.int .i64 0)) :=
    (((((Off.refl (only b) w).setCell (p := ⟨b, 0, none⟩) (.inl rfl) _).setCell (p := ⟨b, 1, none⟩) (.inl rfl) _).setCell (p := ⟨b, 2, none⟩) (.inl rfl) _).setCell (p := ⟨b, 3, none⟩) (.inl rfl) _).setCell (p := ⟨b, 4, none⟩) (.inl rfl) _
  obtain ⟨c0, c1, c2, c3, c4⟩ := h.sm
  obtain ⟨z0, z1, z2, z3, z4⟩ := h.fz
  refine ⟨h.ld.off ob (fun k => h.bp k.symm), ?_, ?_, h.bel.set5 h.b1 _ _ _ _ _, h.bp, h.b1, h.p1, h.few, h.few, h.ld.ok⟩
  · unfold Sum
    rw [e 0, e 1, e 2, e 3]
    refine ⟨?_, ?_, ?_, ?_, ?_⟩ <;> simp [go_sem, c0, c1, c2, c3, c4]
  · refine ⟨?_, ?_, ?_, ?_, ?_⟩ <;> simp [go_sem, z0, z1, z2, z3, z4]
set_option maxHeartbeats 4000000 in
set_option maxRecDepth 20000 in
theorem sums_main (a : Option Addr) (n cap : Nat) (l : List T) (w : World) (h : n ≤ 150) (hn : l.length = n) (hl : Has nof w a l) :
    Calls Try.prog 4 #[.slice a n cap] w fun e w' => e = .returned (.bool true) ∧ Bel w w' := by
  have h' : ¬ (150 : Int) < n := by omega
  have K : Hid (∀ w', Calls Try.prog 7 #[] w' fun e w'' => e = .returned (.bool true) ∧ Bel w' w'') := Lib.hid works_any
  have HN := Lib.hid hn
  have HL := Lib.hid hl
  clear hn hl
  go_enter Try.func4, Try.ntmps4
  go_wp2_with fail
  with_reducible refine (K.out _).mono ?_
  rintro e w1 ⟨rfl, hb⟩
  have HB := Lib.hid hb
  clear hb K
  go_wp2_with fail
  with_reducible refine (new_any _).mono ?_
  rintro e w2 ⟨p, rfl, hp, hq, hb⟩
  have lp : p < w2.heap.size := hq.lt
  obtain ⟨b, eb⟩ : ∃ b, w2.heap.size = b := ⟨_, rfl⟩
  obtain ⟨W, eW⟩ : ∃ W, w2.alloc (.cells #[.int .i64 0, .int .i64 0, .int .i64 0, .int .i64 0, .int .i64 0] 33) = W := ⟨_, rfl⟩
  have HS0 : Hid (Si w1 W p b [] []) := Lib.hid (by
    obtain ⟨c, z, _⟩ := box5 (w := w2) (Bel.refl _)
    rw [eW, eb] at c z
    have hbW : Bel w2 W := by rw [← eW]; exact (Bel.refl _).alloc _ _
    exact ⟨hq.bel hbW, c, z, hb.trans hbW, by omega, by have := Bel.size hb; omega, hp, by simp, by simp, AllOk.nil⟩)
  clear hp hq hb lp
  go_wp2
  go_loopw [6, 7] (fun o i wr => ∃ k : Nat, k ≤ n ∧ i = .int .i64 k ∧ ∃ q : Nat, o = .int .i64 q ∧ (good (l.take k)).length / 32 = q ∧ Si w1 wr p b (good (l.take k)) (good (l.take k))) (fun _ i _ => n - (intOf i).toNat)
  case atStart => exact ⟨0, by omega, rfl, 0, rfl, by simp [good], by rw [show good (List.take 0 l) = [] by simp [good]]; simpa [*] using HS0.out⟩
  case round =>
    obtain ⟨k, hk, rfl, q, rfl, hq, hs⟩ := hrel
    have HQ := Lib.hid hq
    have HS := Lib.hid hs
    clear hq hs HS0 eW eb
    by_cases hlt : k < n
    · obtain ⟨br, off, rfl, _, hr⟩ := HL.out.row (by have := HN.out; omega)
      obtain ⟨x, hx⟩ : ∃ x, l.getD k default = x := ⟨_, rfl⟩
      have cx := hr k (by have := HN.out; omega)
      have hgt := good_take l (k := k) (by have := HN.out; omega)
      rw [hx] at cx hgt
      have hgl : (good (l.take (k + 1))).length ≤ 150 := Nat.le_trans (good_len _) (by rw [List.length_take]; omega)
      obtain ⟨g, eg⟩ : ∃ g, good (l.take k) = g := ⟨_, rfl⟩
      obtain ⟨m, em⟩ : ∃ m, good (l.take (k + 1)) = m := ⟨_, rfl⟩
      rw [eg] at HQ HS hgt
      rw [em] at hgt hgl
      have hnx := clo_next g x
      rw [← hgt] at hnx
      have EM := Lib.hid em
      have HGL := Lib.hid hgl
      have HX : Hid (∀ w', Bel w1 w' → w'.cell? ⟨br, off + k * 3, none⟩ = some (.int .i64 x.a) ∧ w'.cell? ⟨br, off + k * 3 + 1, none⟩ = some (.int .i64 x.b) ∧ w'.cell? ⟨br, off + k * 3 + 2, none⟩ = some (.int .i64 x.c)) := Lib.hid fun w' hb =>
        ⟨(HB.out.trans hb).cell cx.1, (HB.out.trans hb).cell cx.2.1, (HB.out.trans hb).cell cx.2.2⟩
      have KN : Hid (∀ w', Bel wr w' → Calls Try.prog 9 #[.pointer (some ⟨p, 0, none⟩), .int .i64 x.a, .int .i64 x.b, .int .i64 x.c] w' fun e w'' => e = .returned (.int .i64 x.bad) ∧ Ld w'' p m ∧ Off (only p) wr w'') := Lib.hid fun w' hb => by
        have K := note_any p g x w' (HS.out.ld.bel hb) (by have := HS.out.few; omega)
        rw [← hgt] at K
        exact K.mono fun e w'' ⟨h1, h2, h3⟩ => ⟨h1, h2, Off.trans (Bel.off hb _) h3 (fun _ e => .inl e)⟩
      have HB0 := Lib.hid HS.out.bel
      clear hx hr cx eg em hgt hgl
      generalize x.bad = y at *
      generalize x.a = xa at *
      generalize x.b = xb at *
      generalize x.c = xc at *
      have HNX := Lib.hid hnx
      clear hnx
      have b0 : (0 : Int) ≤ (k : Int) := by omega
      have b1 : (k : Int) < (n : Int) := by omega
      go_wp2
      go_region_held3 (fun w' => w'.cell? ⟨br, off + k * 3, none⟩ = some (.int .i64 xa) ∧ w'.cell? ⟨br, off + k * 3 + 1, none⟩ = some (.int .i64 xb) ∧ w'.cell? ⟨br, off + k * 3 + 2, none⟩ = some (.int .i64 xc))
        (first | exact HX.out _ HB0.out.drew | exact HX.out _ HB0.out | exact HX.out _ (ho3.belp HB0.out HS.out.p1))
        (first | (go_at_call 9; (with_reducible refine (KN.out _ (by repeat (first | exact Bel.refl _ | refine Bel.drew ?_))).mono ?_); rintro e w3 ⟨rfl, hq3, ho3⟩))
      have HQ3 := Lib.hid hq3
      have HO3 := Lib.hid ho3
      clear hq3 ho3 HX KN HB0
      have HSN := Lib.hid (HS.out.note HO3.out HQ3.out HGL.out)
      clear HS HO3 HQ3
      rcases HNX.out with ⟨he, hc⟩ | ⟨he, hz, hc⟩
      · have HS3 := Lib.hid (HSN.out.stay hc)
        have HE := Lib.hid he
        clear he hc HNX HSN
        have KW0 := lwindows_any p m w3 HS3.out.ld (by have := HGL.out; omega)
        rw [HE.out, HQ.out] at KW0
        have KW := Lib.hid KW0
        clear KW0
        go_wp2_with fail
        with_reducible refine KW.out.mono ?_
        rintro e w4 ⟨rfl, rfl⟩
        go_wp2
        go_roundw
        case rel => exact ⟨k + 1, by omega, by go_num, q, rfl, by rw [EM.out, HE.out, HQ.out], by rw [EM.out]; exact HS3.out⟩
        case measure => simp [intOf]; omega
      · have HE := Lib.hid he
        have HZ := Lib.hid hz
        have HC := Lib.hid hc
        clear he hz hc HNX
        have HQ4 : Hid (m.length / 32 = q + 1) := Lib.hid (by rw [HE.out, HQ.out])
        have H32 : Hid (32 ≤ m.length) := Lib.hid (by have := HQ4.out; omega)
        have hq10 : q ≤ 10 := by have := HQ4.out; have := HGL.out; omega
        have KW : Hid (∀ w', Bel w3 w' → Calls Try.prog 19 #[.pointer (some ⟨p, 0, none⟩)] w' fun e w'' => e = .returned (.int .i64 ((q : Int) + 1)) ∧ w'' = w') := Lib.hid fun w' hb => by
          have K := lwindows_any p m w' (HSN.out.ld.bel hb) (by have := HGL.out; omega)
          rw [HQ4.out] at K
          exact K
        have KZ : Hid (∀ w', Bel w3 w' → Calls Try.prog 18 #[.pointer (some ⟨p, 0, none⟩)] w' fun e w'' => e = .returned (.int .i64 0) ∧ w'' = w') := Lib.hid fun w' hb => by
          have K := lnotes_any p m w' (HSN.out.ld.bel hb) (by have := HGL.out; omega)
          rw [HZ.out] at K
          exact K
        have KL : Hid (Calls Try.prog 13 #[.pointer (some ⟨p, 0, none⟩)] w3 fun e w'' => e = .returned (.tuple #[talV (lst m), .bool true]) ∧ Bel w3 w'') := Lib.hid (by
          have K := llast_any p m w3 HSN.out.ld (by have := HGL.out; omega)
          rw [decide_eq_true H32.out] at K
          exact K)
        unfold talV at KL
        have ga0 := tot_few HSN.out.lok.clo (by have := HSN.out.lfew; unfold clo; rw [List.length_take]; omega) 0
        have ga1 := tot_few HSN.out.lok.clo (by have := HSN.out.lfew; unfold clo; rw [List.length_take]; omega) 1
        have ga2 := tot_few HSN.out.lok.clo (by have := HSN.out.lfew; unfold clo; rw [List.length_take]; omega) 2
        have ga3 := tot_few HSN.out.lok.clo (by have := HSN.out.lfew; unfold clo; rw [List.length_take]; omega) 3
        have gt0 := tot_few HSN.out.ld.ok.lst (Nat.le_trans (lst_len m) (by omega)) 0
        have gt1 := tot_few HSN.out.ld.ok.lst (Nat.le_trans (lst_len m) (by omega)) 1
        have gt2 := tot_few HSN.out.ld.ok.lst (Nat.le_trans (lst_len m) (by omega)) 2
        have gt3 := tot_few HSN.out.ld.ok.lst (Nat.le_trans (lst_len m) (by omega)) 3
        have GB := Lib.hid (And.intro ga0 (And.intro ga1 (And.intro ga2 (And.intro ga3 (And.intro gt0 (And.intro gt1 (And.intro gt2 gt3)))))))
        clear ga0 ga1 ga2 ga3 gt0 gt1 gt2 gt3
        go_wp2_with fail
        with_reducible refine (KW.out _ (Bel.refl _)).mono ?_
        rintro e w4 ⟨rfl, rfl⟩
        go_wp2_with fail
        with_reducible refine KL.out.mono ?_
        rintro e w5 ⟨rfl, hb5⟩
        have HS5 := Lib.hid (HSN.out.go hb5)
        have L1 := Lib.hid (tal_new w5 (lst m))
        obtain ⟨b8, e8⟩ : ∃ b, w5.heap.size = b := ⟨_, rfl⟩
        obtain ⟨W5, eW⟩ : ∃ W, w5.alloc (.cells #[.int .i64 (tot 0 (lst m)), .int .i64 (tot 1 (lst m)), .int .i64 (tot 2 (lst m)), .int .i64 (tot 3 (lst m)), .int .i64 (mx (lst m))] 33) = W := ⟨_, rfl⟩
        have HB5 : Hid (Bel w4 W5) := Lib.hid (by rw [← eW]; exact hb5.alloc _ _)
        have HS6 : Hid (Si w1 W5 p b g m) := Lib.hid (by rw [← eW]; exact HS5.out.go ((Bel.refl _).alloc _ _))
        rw [eW, e8] at L1
        clear hb5
        go_wp2_with fail
        with_reducible refine (KW.out _ HB5.out).mono ?_
        rintro e w6 ⟨rfl, rfl⟩
        go_wp2_with fail
        with_reducible refine (KZ.out _ HB5.out).mono ?_
        rintro e w6 ⟨rfl, rfl⟩
        have HGR := Lib.hid (HS6.out.grow HC.out)
        obtain ⟨c0, c1, c2, c3, c4⟩ := HS6.out.cells
        obtain ⟨z0, z1, z2, z3, z4⟩ := HS6.out.fz
        obtain ⟨d0, d1, d2, d3, d4⟩ := L1.out
        obtain ⟨⟨ga0, ga0'⟩, ⟨ga1, ga1'⟩, ⟨ga2, ga2'⟩, ⟨ga3, ga3'⟩, ⟨gt0, gt0'⟩, ⟨gt1, gt1'⟩, ⟨gt2, gt2'⟩, ⟨gt3, gt3'⟩⟩ := GB.out
        clear GB L1 HS5 HS6 KL KW KZ HSN eW e8 HC
        generalize tot 0 (clo g) = a0 at *
        generalize tot 1 (clo g) = a1 at *
        generalize tot 2 (clo g) = a2 at *
        generalize tot 3 (clo g) = a3 at *
        generalize tot 0 (lst m) = x0 at *
        generalize tot 1 (lst m) = x1 at *
        generalize tot 2 (lst m) = x2 at *
        generalize tot 3 (lst m) = x3 at *
        generalize mx (lst m) = x4 at *
        go_wp2
        go_roundw
        case rel => exact ⟨k + 1, by omega, by go_num, q + 1, by go_num, by rw [EM.out, HQ4.out], by rw [EM.out]; exact HGR.out⟩
        case measure => simp [intOf]; omega
    · obtain rfl : k = n := by omega
      have hs := HS.out
      have hgl : (good l).length ≤ 150 := Nat.le_trans (good_len l) (by have := HN.out; omega)
      rw [List.take_of_length_le (by have := HN.out; omega)] at hs
      generalize good l = g at *
      have HS := Lib.hid hs
      have HG := Lib.hid hgl
      have r32 : g.length % 32 < 32 := Nat.mod_lt _ (by omega)
      clear hs hgl
      have KO := Lib.hid (lopen_any p g wr HS.out.ld)
      unfold talV at KO
      go_wp2_with fail
      with_reducible refine KO.out.mono ?_
      rintro e w4 ⟨rfl, hb⟩
      have HS4 := Lib.hid (HS.out.go hb)
      clear hb KO HS
      have L1 := Lib.hid (tal_new w4 (opn g))
      obtain ⟨b10, e10⟩ : ∃ b, w4.heap.size = b := ⟨_, rfl⟩
      obtain ⟨W4, eW⟩ : ∃ W, w4.alloc (.cells #[.int .i64 (tot 0 (opn g)), .int .i64 (tot 1 (opn g)), .int .i64 (tot 2 (opn g)), .int .i64 (tot 3 (opn g)), .int .i64 (mx (opn g))] 33) = W := ⟨_, rfl⟩
      have HS5 : Hid (Si w1 W4 p b g g) := Lib.hid (by rw [← eW]; exact HS4.out.go ((Bel.refl _).alloc _ _))
      rw [eW, e10] at L1
      have KT : Hid (∀ (k : Nat) w', k ≤ 3 → Bel W4 w' → Calls Try.prog 20 #[.pointer (some ⟨p, 0, none⟩), .int .i64 k] w' fun e w'' => e = .returned (.int .i64 (tot k (clo g) + tot k (opn g))) ∧ w'' = w') := Lib.hid fun k w' hk hb => by
        have K := ltotal_yes p g k w' (HS5.out.ld.bel hb) hk
        rw [← tot_clo] at K
        exact K
      have K0 : Hid (∀ w', Bel W4 w' → Calls Try.prog 20 #[.pointer (some ⟨p, 0, none⟩), .int .i64 0] w' fun e w'' => e = .returned (.int .i64 (tot 0 (clo g) + tot 0 (opn g))) ∧ w'' = w') := Lib.hid fun w' hb => KT.out 0 w' (by omega) hb
      have K1 : Hid (∀ w', Bel W4 w' → Calls Try.prog 20 #[.pointer (some ⟨p, 0, none⟩), .int .i64 1] w' fun e w'' => e = .returned (.int .i64 (tot 1 (clo g) + tot 1 (opn g))) ∧ w'' = w') := Lib.hid fun w' hb => KT.out 1 w' (by omega) hb
      have K2 : Hid (∀ w', Bel W4 w' → Calls Try.prog 20 #[.pointer (some ⟨p, 0, none⟩), .int .i64 2] w' fun e w'' => e = .returned (.int .i64 (tot 2 (clo g) + tot 2 (opn g))) ∧ w'' = w') := Lib.hid fun w' hb => KT.out 2 w' (by omega) hb
      have K3 : Hid (∀ w', Bel W4 w' → Calls Try.prog 20 #[.pointer (some ⟨p, 0, none⟩), .int .i64 3] w' fun e w'' => e = .returned (.int .i64 (tot 3 (clo g) + tot 3 (opn g))) ∧ w'' = w') := Lib.hid fun w' hb => KT.out 3 w' (by omega) hb
      obtain ⟨r, er⟩ : ∃ r, g.length % 32 = r := ⟨_, rfl⟩
      have K8 : Hid (∀ w', Bel W4 w' → Calls Try.prog 18 #[.pointer (some ⟨p, 0, none⟩)] w' fun e w'' => e = .returned (.int .i64 r) ∧ w'' = w') := Lib.hid fun w' hb => by
        have K := lnotes_any p g w' (HS5.out.ld.bel hb) (by have := HG.out; omega)
        rw [er] at K
        exact K
      have hr32 : (r : Int) < 32 := by omega
      obtain ⟨ga0, ga0'⟩ := tot_few HS5.out.lok.clo (by have := HS5.out.lfew; unfold clo; rw [List.length_take]; omega) 0
      obtain ⟨ga1, ga1'⟩ := tot_few HS5.out.lok.clo (by have := HS5.out.lfew; unfold clo; rw [List.length_take]; omega) 1
      obtain ⟨ga2, ga2'⟩ := tot_few HS5.out.lok.clo (by have := HS5.out.lfew; unfold clo; rw [List.length_take]; omega) 2
      obtain ⟨ga3, ga3'⟩ := tot_few HS5.out.lok.clo (by have := HS5.out.lfew; unfold clo; rw [List.length_take]; omega) 3
      obtain ⟨gt0, gt0'⟩ := tot_few HS5.out.lok.opn (by rw [opn_len]; omega) 0
      obtain ⟨gt1, gt1'⟩ := tot_few HS5.out.lok.opn (by rw [opn_len]; omega) 1
      obtain ⟨gt2, gt2'⟩ := tot_few HS5.out.lok.opn (by rw [opn_len]; omega) 2
      obtain ⟨gt3, gt3'⟩ := tot_few HS5.out.lok.opn (by rw [opn_len]; omega) 3
      have HX : Hid (∀ w', Bel W4 w' → (w'.cell? ⟨b, 0, none⟩ = some (.int .i64 (tot 0 (clo g))) ∧ w'.cell? ⟨b, 1, none⟩ = some (.int .i64 (tot 1 (clo g))) ∧ w'.cell? ⟨b, 2, none⟩ = some (.int .i64 (tot 2 (clo g))) ∧ w'.cell? ⟨b, 3, none⟩ = some (.int .i64 (tot 3 (clo g))) ∧ w'.cell? ⟨b, 4, none⟩ = some (.int .i64 0)) ∧
          (w'.cell? ⟨b10, 0, none⟩ = some (.int .i64 (tot 0 (opn g))) ∧ w'.cell? ⟨b10, 1, none⟩ = some (.int .i64 (tot 1 (opn g))) ∧ w'.cell? ⟨b10, 2, none⟩ = some (.int .i64 (tot 2 (opn g))) ∧ w'.cell? ⟨b10, 3, none⟩ = some (.int .i64 (tot 3 (opn g))) ∧ w'.cell? ⟨b10, 4, none⟩ = some (.int .i64 (mx (opn g))))) :=
        Lib.hid fun w' hb => ⟨(HS5.out.go hb).cells, L1.out.bel hb⟩
      have HE : Hid (∀ w', Bel W4 w' → Bel w w') := Lib.hid fun w' hb => (HB.out.trans HS5.out.bel).trans hb
      go_wp2_with fail
      clear eW e10 er HS4 HS5 L1 KT
      generalize tot 0 (clo g) = a0 at *
      generalize tot 1 (clo g) = a1 at *
      generalize tot 2 (clo g) = a2 at *
      generalize tot 3 (clo g) = a3 at *
      generalize tot 0 (opn g) = x0 at *
      generalize tot 1 (opn g) = x1 at *
      generalize tot 2 (opn g) = x2 at *
      generalize tot 3 (opn g) = x3 at *
      generalize mx (opn g) = x4 at *
      have v0 : IntKind.i64.wrap (a0 + x0) = a0 + x0 := i64_in _ (by omega) (by omega)
      have v1 : IntKind.i64.wrap (a1 + x1) = a1 + x1 := i64_in _ (by omega) (by omega)
      have v2 : IntKind.i64.wrap (a2 + x2) = a2 + x2 := i64_in _ (by omega) (by omega)
      have v3 : IntKind.i64.wrap (a3 + x3) = a3 + x3 := i64_in _ (by omega) (by omega)
      clear ga0 ga1 ga2 ga3 gt0 gt1 gt2 gt3 ga0' ga1' ga2' ga3' gt0' gt1' gt2' gt3'
      go_region_held3 (fun w' => (w'.cell? ⟨b, 0, none⟩ = some (.int .i64 a0) ∧ w'.cell? ⟨b, 1, none⟩ = some (.int .i64 a1) ∧ w'.cell? ⟨b, 2, none⟩ = some (.int .i64 a2) ∧ w'.cell? ⟨b, 3, none⟩ = some (.int .i64 a3) ∧ w'.cell? ⟨b, 4, none⟩ = some (.int .i64 0)) ∧
          (w'.cell? ⟨b10, 0, none⟩ = some (.int .i64 x0) ∧ w'.cell? ⟨b10, 1, none⟩ = some (.int .i64 x1) ∧ w'.cell? ⟨b10, 2, none⟩ = some (.int .i64 x2) ∧ w'.cell? ⟨b10, 3, none⟩ = some (.int .i64 x3) ∧ w'.cell? ⟨b10, 4, none⟩ = some (.int .i64 x4)))
        (first | (with_reducible exact HX.out _ (Bel.refl _).drew) | (with_reducible exact HX.out _ (Bel.refl _)))
        (first | (go_at_call 20; (first | (with_reducible refine (K0.out _ (by first | exact (Bel.refl _).drew | exact Bel.refl _)).mono ?_) | (with_reducible refine (K1.out _ (by first | exact (Bel.refl _).drew | exact Bel.refl _)).mono ?_) | (with_reducible refine (K2.out _ (by first | exact (Bel.refl _).drew | exact Bel.refl _)).mono ?_) | (with_reducible refine (K3.out _ (by first | exact (Bel.refl _).drew | exact Bel.refl _)).mono ?_)); rintro e w10 ⟨rfl, rfl⟩) | (go_at_call 18; (with_reducible refine (K8.out _ (by first | exact (Bel.refl _).drew | exact Bel.refl _)).mono ?_); rintro e w10 ⟨rfl, rfl⟩))
      go_wp2
      go_ret
      exact ⟨rfl, HE.out _ (by first | exact (Bel.refl _).drew | exact Bel.refl _)⟩
theorem sums_any (a : Option Addr) (n cap : Nat) (l : List T) (w : World) (hn : l.length = n) (hl : Has nof w a l) :
    Calls Try.prog 4 #[.slice a n cap] w fun e w' => e = .returned (.bool true) ∧ Bel w w' := by
  by_cases h : 150 < n
  · exact sums_far a n cap w h
  · exact sums_main a n cap l w (by omega) hn hl
end Go.Proofs.Ytfplmleakgpkiaa
