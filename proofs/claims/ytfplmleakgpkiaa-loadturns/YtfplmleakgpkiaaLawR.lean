/-
  The walk of LoadRefuses.
-/
import Derived.Test.YtfplmleakgpkiaaWorks
set_option linter.unusedVariables false
set_option linter.unusedSimpArgs false
namespace Go.Proofs.Ytfplmleakgpkiaa
open Go.RowKit
/-- A tally lies in a block. -/
def Tal (w : World) (b : Nat) (l : List T) : Prop :=
  w.cell? ⟨b, 0, none⟩ = some (.int .i64 (tot 0 l)) ∧ w.cell? ⟨b, 1, none⟩ = some (.int .i64 (tot 1 l)) ∧ w.cell? ⟨b, 2, none⟩ = some (.int .i64 (tot 2 l)) ∧ w.cell? ⟨b, 3, none⟩ = some (.int .i64 (tot 3 l)) ∧ w.cell? ⟨b, 4, none⟩ = some (.int .i64 (mx l))
theorem Tal.bel {w w' : World} {b : Nat} {l : List T} (h : Tal w b l) (k : Bel w w') : Tal w' b l := ⟨k.cell h.1, k.cell h.2.1, k.cell h.2.2.1, k.cell h.2.2.2.1, k.cell h.2.2.2.2⟩
theorem Tal.off {f : Nat → Prop} {w w' : World} {b : Nat} {l : List T} (h : Tal w b l) (k : Off f w w') (hf : ¬ f b) : Tal w' b l := ⟨k.cell hf h.1, k.cell hf h.2.1, k.cell hf h.2.2.1, k.cell hf h.2.2.2.1, k.cell hf h.2.2.2.2⟩
theorem tal_new (w : World) (l : List T) : Tal (w.alloc (.cells #[.int .i64 (tot 0 l), .int .i64 (tot 1 l), .int .i64 (tot 2 l), .int .i64 (tot 3 l), .int .i64 (mx l)] 33)) w.heap.size l :=
  ⟨by simp [go_sem], by simp [go_sem], by simp [go_sem], by simp [go_sem], by simp [go_sem]⟩
theorem Tal.lt {w : World} {b : Nat} {l : List T} (h : Tal w b l) : b < w.heap.size := World.block_lt_of_cell? w ⟨b, 0, none⟩ h.1
theorem refuses_far (a : Option Addr) (n cap : Nat) (t : T) (w : World) (h : 150 < n) :
    Calls Try.prog 6 #[.slice a n cap, .agg #[.int .i64 t.a, .int .i64 t.b, .int .i64 t.c]] w fun e w' => e = .returned (.bool true) ∧ Bel w w' := by
  have h' : (150 : Int) < n := by omega
  have K : Hid (∀ w', Calls Try.prog 7 #[] w' fun e w'' => e = .returned (.bool true) ∧ Bel w' w'') := Lib.hid works_any
  go_enter Try.func6, Try.ntmps6
  go_wp2_with fail
  with_reducible refine (K.out _).mono ?_
  rintro e w1 ⟨rfl, hb⟩
  have HB := Lib.hid (((Bel.refl w).alloc _ _).trans hb)
  clear hb
  go_wp2
  go_ret
  exact ⟨rfl, HB.out⟩
set_option maxHeartbeats 2000000 in
theorem refuses_main (a : Option Addr) (n cap : Nat) (l : List T) (t : T) (w : World) (h : n ≤ 150) (hn : l.length = n) (hl : Has nof w a l) :
    Calls Try.prog 6 #[.slice a n cap, .agg #[.int .i64 t.a, .int .i64 t.b, .int .i64 t.c]] w fun e w' => e = .returned (.bool true) ∧ Bel w w' := by
  have h' : ¬ (150 : Int) < n := by omega
  have K : Hid (∀ w', Calls Try.prog 7 #[] w' fun e w'' => e = .returned (.bool true) ∧ Bel w' w'') := Lib.hid works_any
  have HN := Lib.hid hn
  have HL := Lib.hid hl
  clear hn hl
  go_enter Try.func6, Try.ntmps6
  go_wp2_with fail
  with_reducible refine (K.out _).mono ?_
  rintro e w1 ⟨rfl, hb⟩
  obtain ⟨B, eB⟩ : ∃ B, w.heap.size = B := ⟨_, rfl⟩
  have HT : Hid (w1.cell? ⟨B, 0, none⟩ = some (.int .i64 t.a) ∧ w1.cell? ⟨B, 1, none⟩ = some (.int .i64 t.b) ∧ w1.cell? ⟨B, 2, none⟩ = some (.int .i64 t.c)) := Lib.hid (by
    subst eB
    exact ⟨hb.cell (by simp [go_sem]), hb.cell (by simp [go_sem]), hb.cell (by simp [go_sem])⟩)
  have HB := Lib.hid (((Bel.refl w).alloc _ _).trans hb)
  rw [eB] at *
  clear hb K eB
  go_wp2_with fail
  with_reducible refine (new_any _).mono ?_
  rintro e w2 ⟨p, rfl, hp, hq, hb⟩
  have HP : Hid (w1.heap.size ≤ p) := Lib.hid hp
  have HQ := Lib.hid hq
  have HB2 := Lib.hid hb
  clear hp hq hb
  go_wp2
  go_loopw [7] (fun i wr => ∃ k : Nat, k ≤ n ∧ i = .int .i64 k ∧ Ld wr p (good (l.take k)) ∧ Bel w1 wr) (fun i _ => n - (intOf i).toNat)
  case atStart => exact ⟨0, by omega, rfl, HQ.out, HB2.out⟩
  case round =>
    obtain ⟨k, hk, rfl, hq, hb⟩ := hrel
    have HQk := Lib.hid hq
    have HBk := Lib.hid hb
    clear hq hb HQ HB2
    by_cases hlt : k < n
    · obtain ⟨b, off, rfl, _, hr⟩ := HL.out.row (by have := HN.out; omega)
      obtain ⟨x, hx⟩ : ∃ x, l.getD k default = x := ⟨_, rfl⟩
      have cx := hr k (by have := HN.out; omega)
      have HG := good_take l (k := k) (by have := HN.out; omega)
      rw [hx] at cx HG
      have HG := Lib.hid HG
      have HX : Hid (∀ w', Bel w1 w' → w'.cell? ⟨b, off + k * 3, none⟩ = some (.int .i64 x.a) ∧ w'.cell? ⟨b, off + k * 3 + 1, none⟩ = some (.int .i64 x.b) ∧ w'.cell? ⟨b, off + k * 3 + 2, none⟩ = some (.int .i64 x.c)) := Lib.hid fun w' hb =>
        ⟨(HB.out.trans hb).cell cx.1, (HB.out.trans hb).cell cx.2.1, (HB.out.trans hb).cell cx.2.2⟩
      have KN : Hid (∀ w', Bel wr w' → Calls Try.prog 9 #[.pointer (some ⟨p, 0, none⟩), .int .i64 x.a, .int .i64 x.b, .int .i64 x.c] w' fun e w'' => e = .returned (.int .i64 x.bad) ∧ Ld w'' p (good (l.take (k + 1))) ∧ Bel w1 w'') := Lib.hid fun w' hb => by
        have K := note_any p (good (l.take k)) x w' (HQk.out.bel hb) (by have := good_len (l.take k); rw [List.length_take] at this; omega)
        rw [← HG.out] at K
        exact K.mono fun e w'' ⟨h1, h2, h3⟩ => ⟨h1, h2, h3.belp (HBk.out.trans hb) HP.out⟩
      clear hx hr cx
      generalize x.bad = y at *
      generalize x.a = xa at *
      generalize x.b = xb at *
      generalize x.c = xc at *
      have b0 : (0 : Int) ≤ (k : Int) := by omega
      have b1 : (k : Int) < (n : Int) := by omega
      go_wp2
      go_region_held3 (fun w' => w'.cell? ⟨b, off + k * 3, none⟩ = some (.int .i64 xa) ∧ w'.cell? ⟨b, off + k * 3 + 1, none⟩ = some (.int .i64 xb) ∧ w'.cell? ⟨b, off + k * 3 + 2, none⟩ = some (.int .i64 xc))
        (first | exact HX.out _ HBk.out.drew | exact HX.out _ HBk.out | exact HX.out _ hb3)
        (first | (go_at_call 9; (with_reducible refine (KN.out _ (by repeat (first | exact Bel.refl _ | refine Bel.drew ?_))).mono ?_); rintro e w3 ⟨rfl, hq3, hb3⟩))
      have HQ3 := Lib.hid hq3
      have HB3 := Lib.hid hb3
      clear hq3 hb3
      go_wp2
      go_roundw
      case rel => exact ⟨k + 1, by omega, by go_num, HQ3.out, HB3.out⟩
      case measure => simp [intOf]; omega
    · obtain rfl : k = n := by omega
      have hq := HQk.out
      rw [List.take_of_length_le (by have := HN.out; omega)] at hq
      have hgl : (good l).length ≤ 150 := Nat.le_trans (good_len l) (by have := HN.out; omega)
      generalize good l = g at *
      have HQ := Lib.hid hq
      have HG := Lib.hid hgl
      clear hq hgl HQk
      have HT : Hid (∀ w', Bel w1 w' → w'.cell? ⟨B, 0, none⟩ = some (.int .i64 t.a) ∧ w'.cell? ⟨B, 1, none⟩ = some (.int .i64 t.b) ∧ w'.cell? ⟨B, 2, none⟩ = some (.int .i64 t.c)) := Lib.hid fun w' hb => ⟨hb.cell HT.out.1, hb.cell HT.out.2.1, hb.cell HT.out.2.2⟩
      have KO := Lib.hid (lopen_any p g wr HQ.out)
      unfold talV at KO
      go_wp2_with fail
      with_reducible refine KO.out.mono ?_
      rintro e w4 ⟨rfl, hb⟩
      have HQ4 := Lib.hid (HQ.out.bel hb)
      have HB4 := Lib.hid (HBk.out.trans hb)
      clear hb HQ HBk KO
      have KN := lnotes_any p g w4 HQ4.out (by have := HG.out; omega)
      have KW := lwindows_any p g w4 HQ4.out (by have := HG.out; omega)
      obtain ⟨r, er⟩ : ∃ r, g.length % 32 = r := ⟨_, rfl⟩
      obtain ⟨q, eq⟩ : ∃ q, g.length / 32 = q := ⟨_, rfl⟩
      rw [er] at KN
      rw [eq] at KW
      have ER : Hid (g.length % 32 = r ∧ g.length / 32 = q) := Lib.hid ⟨er, eq⟩
      have KN := Lib.hid KN
      have KW := Lib.hid KW
      clear er eq
      go_wp2_with fail
      with_reducible refine KN.out.mono ?_
      rintro e w5 ⟨rfl, rfl⟩
      go_wp2_with fail
      with_reducible refine KW.out.mono ?_
      rintro e w5 ⟨rfl, rfl⟩
      clear KN KW
      have lp : p < w5.heap.size := HQ4.out.lt
      have T1 := Lib.hid (tal_new w5 (opn g))
      obtain ⟨b8, e8⟩ : ∃ b, w5.heap.size = b := ⟨_, rfl⟩
      obtain ⟨W5, eW⟩ : ∃ W, w5.alloc (.cells #[.int .i64 (tot 0 (opn g)), .int .i64 (tot 1 (opn g)), .int .i64 (tot 2 (opn g)), .int .i64 (tot 3 (opn g)), .int .i64 (mx (opn g))] 33) = W := ⟨_, rfl⟩
      have HQ5 : Hid (Ld W5 p g) := Lib.hid (by rw [← eW]; exact HQ4.out.bel ((Bel.refl _).alloc _ _))
      have HB5 : Hid (Bel w1 W5) := Lib.hid (by rw [← eW]; exact HB4.out.alloc _ _)
      rw [eW, e8] at T1
      have N8 : Hid (¬ b8 = p) := Lib.hid (by omega)
      clear lp
      have KL := Lib.hid (llast_any p g W5 HQ5.out (by have := HG.out; omega))
      unfold talV at KL
      go_wp2_with fail
      with_reducible refine KL.out.mono ?_
      rintro e w6 ⟨rfl, hb⟩
      clear eW e8 HQ4 HB4
      have T2 := Lib.hid (T1.out.bel hb)
      have HQ6 := Lib.hid (HQ5.out.bel hb)
      have HB6 := Lib.hid (HB5.out.trans hb)
      clear hb HQ5 HB5 T1 KL
      have lp : p < w6.heap.size := HQ6.out.lt
      have L1 := Lib.hid (tal_new w6 (lst g))
      obtain ⟨b11, e11⟩ : ∃ b, w6.heap.size = b := ⟨_, rfl⟩
      obtain ⟨W6, eW⟩ : ∃ W, w6.alloc (.cells #[.int .i64 (tot 0 (lst g)), .int .i64 (tot 1 (lst g)), .int .i64 (tot 2 (lst g)), .int .i64 (tot 3 (lst g)), .int .i64 (mx (lst g))] 33) = W := ⟨_, rfl⟩
      have HQ7 : Hid (Ld W6 p g) := Lib.hid (by rw [← eW]; exact HQ6.out.bel ((Bel.refl _).alloc _ _))
      have HB7 : Hid (Bel w1 W6) := Lib.hid (by rw [← eW]; exact HB6.out.alloc _ _)
      have T3 : Hid (Tal W6 b8 (opn g)) := Lib.hid (by rw [← eW]; exact T2.out.bel ((Bel.refl _).alloc _ _))
      have N11 : Hid (¬ b11 = p) := Lib.hid (by omega)
      rw [eW, e11] at L1
      clear lp
      obtain ⟨t0, t1, t2⟩ := HT.out _ HB7.out
      have KN := Lib.hid (note_any p g t W6 HQ7.out (by have := HG.out; omega))
      go_wp2_with fail
      with_reducible refine KN.out.mono ?_
      rintro e w7 ⟨rfl, hq, ho⟩
      clear eW e11 HQ6 HB6 T2 t0 t1 t2 KN HT
      have HQ8 := Lib.hid hq
      have HB8 := Lib.hid (ho.belp HB7.out HP.out)
      have T4 := Lib.hid (T3.out.off ho N8.out)
      have L2 := Lib.hid (L1.out.off ho N11.out)
      clear hq ho HQ7 HB7 T3 L1
      by_cases hok : t.ok = true
      · have hbad := T.bad_of_ok hok
        have hq := HQ8.out
        rw [good_one, if_pos hok] at hq
        obtain ⟨r2, er2⟩ : ∃ r, (g.length + 1) % 32 = r := ⟨_, rfl⟩
        obtain ⟨q2, eq2⟩ : ∃ q, (g.length + 1) / 32 = q := ⟨_, rfl⟩
        have KN := lnotes_any p _ w7 hq (by have := HG.out; simp; omega)
        have KW := lwindows_any p _ w7 hq (by have := HG.out; simp; omega)
        rw [List.length_append, List.length_singleton] at KN KW
        rw [er2] at KN
        rw [eq2] at KW
        have KN := Lib.hid KN
        have KW := Lib.hid KW
        obtain ⟨d, ed⟩ : ∃ d, (r + 1) / 32 = d := ⟨_, rfl⟩
        have hr : r < 32 := by have := ER.out; omega
        have e1 : ((r : Int) + 1).tmod 32 = (r2 : Int) := by have := ER.out; rw [Int.tmod_eq_emod_of_nonneg (by omega)]; omega
        have e2 : ((r : Int) + 1).tdiv 32 = (d : Int) := by rw [Int.tdiv_eq_ediv_of_nonneg (by omega)]; omega
        have e3 : (q : Int) + (d : Int) = (q2 : Int) := by have := ER.out; omega
        have hq10 : q ≤ 10 := by have := ER.out; have := HG.out; omega
        have hd1 : d ≤ 1 := by omega
        clear er2 eq2 ed hq
        rw [hbad]
        go_wp2_with fail
        with_reducible refine KN.out.mono ?_
        rintro e w8 ⟨rfl, rfl⟩
        go_wp2_with fail
        with_reducible refine KW.out.mono ?_
        rintro e w8 ⟨rfl, rfl⟩
        go_wp2
        go_ret
        exact ⟨rfl, HB.out.trans HB8.out⟩
      · have hbad := T.ok_no hok
        have hq := HQ8.out
        rw [good_one, if_neg hok, List.append_nil] at hq
        have HQ9 := Lib.hid hq
        generalize t.bad = y at *
        clear hq HQ8 hok
        have KL := Lib.hid (llast_any p g w7 HQ9.out (by have := HG.out; omega))
        unfold talV at KL
        go_wp2_with fail
        with_reducible refine KL.out.mono ?_
        rintro e w8 ⟨rfl, hb⟩
        have T5 := Lib.hid (T4.out.bel hb)
        have L3 := Lib.hid (L2.out.bel hb)
        have HQ10 := Lib.hid (HQ9.out.bel hb)
        have HB10 := Lib.hid (HB8.out.trans hb)
        clear hb HQ9 HB8 T4 L2 KL
        have M1 := Lib.hid (tal_new w8 (lst g))
        obtain ⟨b14, e14⟩ : ∃ b, w8.heap.size = b := ⟨_, rfl⟩
        obtain ⟨W8, eW⟩ : ∃ W, w8.alloc (.cells #[.int .i64 (tot 0 (lst g)), .int .i64 (tot 1 (lst g)), .int .i64 (tot 2 (lst g)), .int .i64 (tot 3 (lst g)), .int .i64 (mx (lst g))] 33) = W := ⟨_, rfl⟩
        have HQ11 : Hid (Ld W8 p g) := Lib.hid (by rw [← eW]; exact HQ10.out.bel ((Bel.refl _).alloc _ _))
        have HB11 : Hid (Bel w1 W8) := Lib.hid (by rw [← eW]; exact HB10.out.alloc _ _)
        have T6 : Hid (Tal W8 b8 (opn g)) := Lib.hid (by rw [← eW]; exact T5.out.bel ((Bel.refl _).alloc _ _))
        have L4 : Hid (Tal W8 b11 (lst g)) := Lib.hid (by rw [← eW]; exact L3.out.bel ((Bel.refl _).alloc _ _))
        rw [eW, e14] at M1
        have KO : Hid (∀ w', Bel W8 w' → Calls Try.prog 16 #[.pointer (some ⟨p, 0, none⟩)] w' fun e w'' => e = .returned (talV (opn g)) ∧ Bel W8 w'') := Lib.hid fun w' hb => (lopen_any p g w' (HQ11.out.bel hb)).mono fun e w'' ⟨h1, h2⟩ => ⟨h1, hb.trans h2⟩
        have KN : Hid (∀ w', Bel W8 w' → Calls Try.prog 18 #[.pointer (some ⟨p, 0, none⟩)] w' fun e w'' => e = .returned (.int .i64 r) ∧ w'' = w') := Lib.hid fun w' hb => by
          have K := lnotes_any p g w' (HQ11.out.bel hb) (by have := HG.out; omega)
          rw [ER.out.1] at K
          exact K
        have KW : Hid (∀ w', Bel W8 w' → Calls Try.prog 19 #[.pointer (some ⟨p, 0, none⟩)] w' fun e w'' => e = .returned (.int .i64 q) ∧ w'' = w') := Lib.hid fun w' hb => by
          have K := lwindows_any p g w' (HQ11.out.bel hb) (by have := HG.out; omega)
          rw [ER.out.2] at K
          exact K
        have HX : Hid (∀ w', Bel W8 w' → (w'.cell? ⟨b8, 0, none⟩ = some (.int .i64 (tot 0 (opn g))) ∧ w'.cell? ⟨b8, 1, none⟩ = some (.int .i64 (tot 1 (opn g))) ∧ w'.cell? ⟨b8, 2, none⟩ = some (.int .i64 (tot 2 (opn g))) ∧ w'.cell? ⟨b8, 3, none⟩ = some (.int .i64 (tot 3 (opn g))) ∧ w'.cell? ⟨b8, 4, none⟩ = some (.int .i64 (mx (opn g)))) ∧
            (w'.cell? ⟨b11, 0, none⟩ = some (.int .i64 (tot 0 (lst g))) ∧ w'.cell? ⟨b11, 1, none⟩ = some (.int .i64 (tot 1 (lst g))) ∧ w'.cell? ⟨b11, 2, none⟩ = some (.int .i64 (tot 2 (lst g))) ∧ w'.cell? ⟨b11, 3, none⟩ = some (.int .i64 (tot 3 (lst g))) ∧ w'.cell? ⟨b11, 4, none⟩ = some (.int .i64 (mx (lst g)))) ∧
            (w'.cell? ⟨b14, 0, none⟩ = some (.int .i64 (tot 0 (lst g))) ∧ w'.cell? ⟨b14, 1, none⟩ = some (.int .i64 (tot 1 (lst g))) ∧ w'.cell? ⟨b14, 2, none⟩ = some (.int .i64 (tot 2 (lst g))) ∧ w'.cell? ⟨b14, 3, none⟩ = some (.int .i64 (tot 3 (lst g))) ∧ w'.cell? ⟨b14, 4, none⟩ = some (.int .i64 (mx (lst g))))) :=
          Lib.hid fun w' hb => ⟨T6.out.bel hb, L4.out.bel hb, M1.out.bel hb⟩
        have HE : Hid (∀ w', Bel W8 w' → Bel w w') := Lib.hid fun w' hb => (HB.out.trans HB11.out).trans hb
        unfold talV at KO
        go_wp2_with fail
        clear eW e14 T6 L4 M1 HQ10 HQ11 HB10 HB11 T5 L3
        generalize tot 0 (opn g) = x0 at *
        generalize tot 1 (opn g) = x1 at *
        generalize tot 2 (opn g) = x2 at *
        generalize tot 3 (opn g) = x3 at *
        generalize mx (opn g) = x4 at *
        generalize tot 0 (lst g) = y0 at *
        generalize tot 1 (lst g) = y1 at *
        generalize tot 2 (lst g) = y2 at *
        generalize tot 3 (lst g) = y3 at *
        generalize mx (lst g) = y4 at *
        go_region_held3 (fun w' => (w'.cell? ⟨b8, 0, none⟩ = some (.int .i64 x0) ∧ w'.cell? ⟨b8, 1, none⟩ = some (.int .i64 x1) ∧ w'.cell? ⟨b8, 2, none⟩ = some (.int .i64 x2) ∧ w'.cell? ⟨b8, 3, none⟩ = some (.int .i64 x3) ∧ w'.cell? ⟨b8, 4, none⟩ = some (.int .i64 x4)) ∧
            (w'.cell? ⟨b11, 0, none⟩ = some (.int .i64 y0) ∧ w'.cell? ⟨b11, 1, none⟩ = some (.int .i64 y1) ∧ w'.cell? ⟨b11, 2, none⟩ = some (.int .i64 y2) ∧ w'.cell? ⟨b11, 3, none⟩ = some (.int .i64 y3) ∧ w'.cell? ⟨b11, 4, none⟩ = some (.int .i64 y4)) ∧
            (w'.cell? ⟨b14, 0, none⟩ = some (.int .i64 y0) ∧ w'.cell? ⟨b14, 1, none⟩ = some (.int .i64 y1) ∧ w'.cell? ⟨b14, 2, none⟩ = some (.int .i64 y2) ∧ w'.cell? ⟨b14, 3, none⟩ = some (.int .i64 y3) ∧ w'.cell? ⟨b14, 4, none⟩ = some (.int .i64 y4)))
          (first | (with_reducible exact HX.out _ hb9) | (with_reducible exact HX.out _ (Bel.refl _).drew) | (with_reducible exact HX.out _ (Bel.refl _)))
          (first | (go_at_call 16; (with_reducible refine (KO.out _ (by first | exact (Bel.refl _).drew | exact Bel.refl _)).mono ?_); rintro e w9 ⟨rfl, hb9⟩) | (go_at_call 18; (with_reducible refine (KN.out _ (by first | exact hb9 | exact (Bel.refl _).drew | exact Bel.refl _)).mono ?_); rintro e w10 ⟨rfl, rfl⟩) | (go_at_call 19; (with_reducible refine (KW.out _ (by first | exact hb9 | exact (Bel.refl _).drew | exact Bel.refl _)).mono ?_); rintro e w10 ⟨rfl, rfl⟩))
        go_wp2
        go_ret
        exact ⟨rfl, HE.out _ hb9⟩
theorem refuses_any (a : Option Addr) (n cap : Nat) (l : List T) (t : T) (w : World) (hn : l.length = n) (hl : Has nof w a l) :
    Calls Try.prog 6 #[.slice a n cap, .agg #[.int .i64 t.a, .int .i64 t.b, .int .i64 t.c]] w fun e w' => e = .returned (.bool true) ∧ Bel w w' := by
  by_cases h : 150 < n
  · exact refuses_far a n cap t w h
  · exact refuses_main a n cap l t w (by omega) hn hl
end Go.Proofs.Ytfplmleakgpkiaa
