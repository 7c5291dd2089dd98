/-
  Contract of chain's Splice, where all of a list go to another one.
-/
import Derived.Test.YtdeiknfaehpheaaSplice
import Derived.RegionIn
namespace Go.Proofs.Ytdeiknfaehpheaa
open Go.RowKit Go.Shelf
attribute [local go_sem] Oper.semAt_some
/-- Some are in another list. -/
def setL (g : Rg) (ys : List Nat) (t : Int) : Rg := fun k => if k ∈ ys then { g k with li := t } else g k
theorem setL_nil (g : Rg) (t : Int) : setL g [] t = g := by funext k; simp [setL]
theorem setL_snoc (g : Rg) (ys : List Nat) (y : Nat) (t : Int) : setL g (ys ++ [y]) t = upL (setL g ys t) y t := by
  funext k
  unfold setL upL
  by_cases h1 : k = y
  · subst h1; by_cases h2 : k ∈ ys <;> simp [h2]
  · by_cases h2 : k ∈ ys <;> simp [h1, h2]
theorem setL_ah (g : Rg) (ys : List Nat) (t : Int) (k : Nat) : (setL g ys t k).ah = (g k).ah := by unfold setL; split <;> rfl
theorem setL_bh (g : Rg) (ys : List Nat) (t : Int) (k : Nat) : (setL g ys t k).bh = (g k).bh := by unfold setL; split <;> rfl
theorem Chn.own {B G P L : Nat} {g : List Nat → Rg} (hBG : ¬ B = G) : Own (fun (pre : List Nat) W => Chn W B G P L (g pre)) := fun s W W' row h hg hr =>
  ⟨(grownBy_keeps_cells hg hr h.hB rfl).trans h.hB, (grownBy_keeps_cells hg hr h.hG rfl).trans h.hG, hBG⟩
/-- What the ring is behind Splice. -/
def spliceG (g : Rg) (ys : List Nat) (t E1 E2 a f la : Nat) : Rg := joinG (joinG (joinG (setL g ys t) a f) la E1) E2 E2
set_option maxRecDepth 100000 in
set_option maxHeartbeats 4000000 in
theorem splice_ok (B G P L : Nat) (g : Rg) (t f : Nat) (ys : List Nat) (y0 a la : Nat) (w : World) (h : Chn w B G P L g) (hP : P ≤ 1024) (hL : L ≤ 1024) (ht : t < L) (hf : f < L) (htf : ¬ t = f) (hnd : ys.Nodup) (hys : ∀ y ∈ ys, y < P) (hm : Met (fun i => (g i).bh) P (P + f) ys) (hh : ys.head? = some y0)
    (ha : a < P + L) (hla : la < P + L) (hga : (g (P + t)).ah = a) (hgl : (g (P + f)).ah = la) :
    Calls Try.prog 21 #[.pointer (some ⟨B, 0, none⟩), .int .i64 t, .int .i64 f] w fun e w' => e = .returned (.int .i64 0) ∧ Chn w' B G P L (spliceG g ys t (P + t) (P + f) a y0 la) ∧ Off (Only G) w w' := by
  have hlen : ys.length ≤ 1024 := Nat.le_trans (nodup_len P ys hnd hys) hP
  have hy0 : y0 < P := hys y0 (List.mem_of_mem_head? (by rw [hh]; rfl))
  have K1 := Lib.hid (fun w' (h : Chn w' B G P L g) => hasList_any B P L _ t w' h.head.1 h.head.2 hP hL)
  have K2 := Lib.hid (fun w' (h : Chn w' B G P L g) => hasList_any B P L _ f w' h.head.1 h.head.2 hP hL)
  have K3 := Lib.hid (fun w' (h : Chn w' B G P L g) => first_yes B G P L g f ys w' h hP hL hf hnd hys hm)
  rw [hh] at K3
  rw [hp_yes ht] at K1
  rw [hp_yes hf] at K2
  have KEt := Lib.hid (fun g w' (h : Chn w' B G P L g) => end_any B P t w' h.head.1 hP (by omega))
  have KEf := Lib.hid (fun g w' (h : Chn w' B G P L g) => end_any B P f w' h.head.1 hP (by omega))
  have KW := Lib.hid (fun w' (h : Chn w' B G P L g) => walk_new B G P L g (P + f) 34 w' h)
  have hK := fun Wb Cb Sb w' (h : Src Wb Cb Sb B G P (P + L) (P + f) 34 (fun i => (g i).ah) (fun i => (g i).bh) w') => walk_stopsP 3 (by omega) Wb Cb Sb B G P (P + L) (P + f) 34 (fun i => (g i).ah) (fun i => (g i).bh) (fun _ b => b) way_f (by omega) (by omega) (by omega) ys hnd hys hm hlen w' h
  have HB : Hid (Bel w ((w.alloc (.cells #[.pointer (some ⟨B, 0, none⟩)] 24)).alloc (.cells #[.int .i64 t] 3))) := Lib.hid (((Bel.refl _).alloc _ _).alloc _ _)
  have H := Lib.hid (h.bel HB.out)
  have C0 : Hid (((w.alloc (.cells #[.pointer (some ⟨B, 0, none⟩)] 24)).alloc (.cells #[.int .i64 t] 3)).cell? ⟨w.heap.size, 0, none⟩ = some (.pointer (some ⟨B, 0, none⟩))) := Lib.hid (by simp [go_sem])
  have C1 : Hid (((w.alloc (.cells #[.pointer (some ⟨B, 0, none⟩)] 24)).alloc (.cells #[.int .i64 t] 3)).cell? ⟨w.heap.size + 1, 0, none⟩ = some (.int .i64 t)) := Lib.hid (by simp [go_sem])
  have hBG := h.ne
  have lB := h.ltB
  have lG := h.ltG
  have HK := Lib.hid hK
  have hd : ((t : Int) == f) = false := by simp; omega
  have HYS := Lib.hid hys
  have lE1 : P + t < P + L := by omega
  have lE2 : P + f < P + L := by omega
  have hy0N : y0 < P + L := by omega
  have hNN : P + L ≤ 2048 := by omega
  clear h hnd hys hm hK hh
  have lEP : P ≤ P + t := by omega
  generalize P + t = E1 at *
  generalize P + f = E2 at *
  refine (callsIn_wide (n := 4)).1 ?_
  have hro : Fence.wide.round = none := rfl
  refine callsIn_of_wp_marks Try.func21 rfl trivial ?_ hro
  simp only [Try.ntmps21, List.size_toArray, List.length_cons, List.length_nil, Nat.reduceAdd, Nat.reduceSub, Array.replicate_succ, Array.replicate_zero, List.push_toArray, List.append_toArray, List.nil_append, List.cons_append]
  refine wpIn_wide.2 ?_
  go_wp2_with fail
  with_reducible refine (K1.out _ H.out).mono ?_
  rintro e w1 ⟨rfl, k, rfl⟩
  go_wp2_with fail
  with_reducible refine (K2.out _ (H.out.bel ((Bel.refl _).drewN k))).mono ?_
  rintro e w2 ⟨rfl, k2, rfl⟩
  have HB2 : Hid (Bel w ((((w.alloc (.cells #[.pointer (some ⟨B, 0, none⟩)] 24)).alloc (.cells #[.int .i64 t] 3)).drewN k).drewN k2)) := Lib.hid ((HB.out.drewN k).drewN k2)
  have H2 : Hid (Chn ((((w.alloc (.cells #[.pointer (some ⟨B, 0, none⟩)] 24)).alloc (.cells #[.int .i64 t] 3)).drewN k).drewN k2) B G P L g) := Lib.hid (H.out.bel (((Bel.refl _).drewN k).drewN k2))
  have c0 : ((((w.alloc (.cells #[.pointer (some ⟨B, 0, none⟩)] 24)).alloc (.cells #[.int .i64 t] 3)).drewN k).drewN k2).cell? ⟨w.heap.size, 0, none⟩ = some (.pointer (some ⟨B, 0, none⟩)) := C0.out
  have c1 : ((((w.alloc (.cells #[.pointer (some ⟨B, 0, none⟩)] 24)).alloc (.cells #[.int .i64 t] 3)).drewN k).drewN k2).cell? ⟨w.heap.size + 1, 0, none⟩ = some (.int .i64 t) := C1.out
  generalize (((w.alloc (.cells #[.pointer (some ⟨B, 0, none⟩)] 24)).alloc (.cells #[.int .i64 t] 3)).drewN k).drewN k2 = W at *
  clear H C0 C1 HB
  go_wp2_with fail
  with_reducible refine (K3.out _ H2.out).mono ?_
  rintro e w3 ⟨rfl, hb⟩
  have HB3 := Lib.hid (HB2.out.trans hb)
  have c1 := hb.cell c1
  have c0 := hb.cell c0
  have H3 := Lib.hid (H2.out.bel hb)
  clear hb
  unfold ans
  go_wp2
  have H4 : Hid (Chn w3.drew B G P L g) := Lib.hid (H3.out.bel (Bel.refl w3).drew)
  have HB4 : Hid (Bel w w3.drew) := Lib.hid HB3.out.drew
  have d1 : w3.drew.cell? ⟨w.heap.size + 1, 0, none⟩ = some (.int .i64 t) := c1
  have d0 : w3.drew.cell? ⟨w.heap.size, 0, none⟩ = some (.pointer (some ⟨B, 0, none⟩)) := c0
  have D0 := Lib.hid d0
  have D1 := Lib.hid d1
  clear c0 c1 d0 d1
  go_region_held3 (fun w' => w'.cell? ⟨w.heap.size, 0, none⟩ = some (.pointer (some ⟨B, 0, none⟩)))
    (first | (with_reducible exact D0.out) | (with_reducible exact Bel.cell hb D0.out))
    (first | (go_at_call 33; (with_reducible refine (KEf.out _ _ H4.out).mono ?_); rintro e w5 ⟨rfl, rfl⟩) | (go_at_call 32; (with_reducible refine (KW.out _ H4.out).mono ?_); rintro e w5 ⟨Wb, Cb, Sb, rfl, hS, hb, nW, nC, nS⟩))
  have hB5 := HB4.out.trans hb
  have e1 := hb.cell D1.out
  have e0 := hb.cell D0.out
  have hC5 := H4.out.bel hb
  clear hb D0 D1
  go_wp2
  have hsz : w.heap.size ≤ w3.drew.heap.size := HB4.out.size
  have hz5 : w.heap.size ≤ w5.heap.size := hB5.size
  have hbs : w.heap.size < w5.heap.size := World.block_lt_of_cell? w5 _ e0
  have hbs1 : w.heap.size + 1 < w5.heap.size := World.block_lt_of_cell? w5 _ e1
  have hstep : ∀ (W W' : World) g', Off (Only G) W W' → Chn W' B G P L g' → (∀ i, (g' i).ah = (g i).ah ∧ (g' i).bh = (g i).bh) → Kp Wb Cb Sb B G P (P + L) E2 34 (fun i => (g i).ah) (fun i => (g i).bh) W W' := fun W W' g' k h e s =>
    ⟨k.cell (show ¬ Wb = G by omega) s.cw, k.cell (show ¬ Cb = G by omega) s.cc, k.cell (show ¬ Sb = G by omega) s.cs, k.cell (show ¬ B = G from hBG) s.cp, k.cell (show ¬ B = G from hBG) s.cr, fun i hi => ⟨by rw [(h.at hi).1, (e i).1], by rw [(h.at hi).2.1, (e i).2]⟩⟩
  refine (wpIn_wide (n := 4)).1 ?_
  refine wpIn_rangeFunc_ownG hro (by omega) (gf := 49) (lb := #[.pointer (some ⟨Wb, 0, none⟩), .pointer (some ⟨Cb, 0, none⟩), .pointer (some ⟨Sb, 0, none⟩)]) rfl trivial (enters_of Try.func49 (by kernel_rfl) rfl)
    (HK.out Wb Cb Sb w5 hS) kp_t (kp_b w5.heap.size) (Below.refl _ _) (fun _ => rfl)
    (fun pre W => Chn W B G P L (setL g (pre.map (·.1)) t) ∧ (W.cell? ⟨w.heap.size, 0, none⟩ = some (.pointer (some ⟨B, 0, none⟩)) ∧ W.cell? ⟨w.heap.size + 1, 0, none⟩ = some (.int .i64 t)) ∧ Off (Only G) w W)
    (fun _ _ _ => False)
    (OwnFrom.and (Own.from (fun s W W' row h hg hr => ⟨(grownBy_keeps_cells hg hr h.hB rfl).trans h.hB, (grownBy_keeps_cells hg hr h.hG rfl).trans h.hG, hBG⟩) _) (OwnFrom.and (Own.from (fun s W W' row h hg hr => ⟨cell_kept h.1 hg hr, cell_kept h.2 hg hr⟩) _) (fun s W W' row h hg hr => Off.grown h hg (fun k e => .inr (Nat.le_trans hz5 (hr k e).1)))))
    (fun _ _ _ _ _ hs _ _ => hs)
    ⟨by simpa [setL_nil] using hC5, ⟨e0, e1⟩, hB5.off (Only G)⟩
    ?a1 ?assign ?body ?done ?stop
  case assign =>
    intro l x W K hK
    gi_wp2
    exact hK
  case body =>
    rintro l pre x W ⟨hC, ⟨d0, d1⟩, hO⟩ hlt
    have hx := x.2
    have hxN : x.1 < P + L := by omega
    obtain ⟨hC2, hO2⟩ := hC.putL hxN t
    obtain ⟨_, x1, x2, fz⟩ := hC.at hxN
    have fz := fz (x.1 * 3 + 2)
    have hd1 := hC.head.2
    have FIN : Hid (KeepsFrom w5.heap.size W ((W.setCell ⟨G, x.1 * 3 + 2, none⟩ (.int .i64 t)).drew) ∧ Kp Wb Cb Sb B G P (P + L) E2 34 (fun i => (g i).ah) (fun i => (g i).bh) W ((W.setCell ⟨G, x.1 * 3 + 2, none⟩ (.int .i64 t)).drew) ∧ Chn ((W.setCell ⟨G, x.1 * 3 + 2, none⟩ (.int .i64 t)).drew) B G P L (setL g ((pre ++ [x]).map (·.1)) t) ∧ (((W.setCell ⟨G, x.1 * 3 + 2, none⟩ (.int .i64 t)).drew).cell? ⟨w.heap.size, 0, none⟩ = some (.pointer (some ⟨B, 0, none⟩)) ∧ ((W.setCell ⟨G, x.1 * 3 + 2, none⟩ (.int .i64 t)).drew).cell? ⟨w.heap.size + 1, 0, none⟩ = some (.int .i64 t)) ∧ Off (Only G) w ((W.setCell ⟨G, x.1 * 3 + 2, none⟩ (.int .i64 t)).drew)) := Lib.hid (by
      have e : setL g ((pre ++ [x]).map (·.1)) t = upL (setL g (pre.map (·.1)) t) x.1 t := by rw [List.map_append]; exact setL_snoc _ _ _ _
      rw [← e] at hC2
      have hO3 : Off (Only G) W ((W.setCell ⟨G, x.1 * 3 + 2, none⟩ (.int .i64 t)).drew) := hO2.drew
      have hC2 := hC2.bel (Bel.refl _).drew
      refine ⟨⟨hO3.size, fun k o hk ho hc => ?_⟩, hstep _ _ _ hO3 hC2 (fun i => ⟨setL_ah _ _ _ _, setL_bh _ _ _ _⟩), hC2, ⟨hO3.cell (show ¬ w.heap.size = G by omega) d0, hO3.cell (show ¬ w.heap.size + 1 = G by omega) d1⟩, hO.then hO3⟩
      exact (hO3.block k (Array.getElem?_eq_some_iff.1 ho).1 (show ¬ k = G by omega)).trans ho)
    clear hC2 hO2 hC hO hlt
    generalize (setL g (pre.map (·.1)) t x.1).li = y2 at *
    generalize x.1 = X at *
    generalize P + L = N at *
    gi_wp2
    gi_region
    all_goals exact FIN.out
  case done =>
    rintro D zs W hD hzs ⟨hC, ⟨d0, d1⟩, hO⟩ hK
    rw [hzs] at hC
    have hg1 : ∀ k, (setL g ys t k).ah = (g k).ah := fun k => setL_ah _ _ _ _
    have HC := Lib.hid hC
    have HO := Lib.hid hO
    have KD := Lib.hid hK
    have lD : G < D := by omega
    have lD2 : w.heap.size ≤ D := by omega
    have KEf1 := Lib.hid (fun w' (h : Chn w' B G P L (setL g ys t)) => KEf.out _ w' h)
    have KEt1 := Lib.hid (fun w' (h : Chn w' B G P L (setL g ys t)) => KEt.out _ w' h)
    have x1 : W.cell? ⟨G, E2 * 3, none⟩ = some (.int .i64 la) := by rw [(hC.at lE2).1, hg1, hgl]
    have x2 : W.cell? ⟨G, E1 * 3, none⟩ = some (.int .i64 a) := by rw [(hC.at lE1).1, hg1, hga]
    have d2 := hC.head.2
    have J1 := Lib.hid (fun w' (h : Chn w' B G P L (setL g ys t)) => join_any B G P L _ a y0 w' h ha hy0N hNN)
    have J2 := Lib.hid (fun w' (h : Chn w' B G P L (joinG (setL g ys t) a y0)) => join_any B G P L _ la E1 w' h hla lE1 hNN)
    have J3 := Lib.hid (fun w' (h : Chn w' B G P L (joinG (joinG (setL g ys t) a y0) la E1)) => join_any B G P L _ E2 E2 w' h lE2 lE2 hNN)
    have hyE : ¬ E1 = y0 := by omega
    have HA1 : Hid (∀ w', Chn w' B G P L (joinG (setL g ys t) a y0) → w'.cell? ⟨G, E1 * 3, none⟩ = some (.int .i64 a)) := Lib.hid (fun w' h => by
      rw [(h.at lE1).1]
      have e : (joinG (setL g ys t) a y0 E1).ah = a := by
        unfold joinG upA
        rw [if_neg hyE]
        unfold upB
        split <;> simp [hg1, hga]
      rw [e])
    clear hC hO hK hstep hS hC5 hB5 e0 e1 HK K1 K2 K3 KW HYS H2 H3 H4 HB2 HB3 HB4 hga hgl hg1 hzs
    generalize hNe : P + L = N at *
    clear hNe
    go_wp2
    go_quiet ((go_at_call 33; exact Calls.quiet_of_same ((KEf1.out _ (HC.out.bel ((Bel.refl W).drewN _))).mono (fun _ _ h => ⟨h.1, h.2.symm⟩))))
    have HC2 : Hid (Chn (W.drewN nq) B G P L (setL g ys t)) := Lib.hid (HC.out.bel ((Bel.refl W).drewN nq))
    have HO2 : Hid (Off (Only G) w (W.drewN nq)) := Lib.hid (HO.out.drewN nq)
    have KD2 : Hid ((W.drewN nq).heap[D]? = some (.deferred (some []))) := Lib.hid KD.out
    have x2 : (W.drewN nq).cell? ⟨G, E1 * 3, none⟩ = some (.int .i64 a) := x2
    have d2 : (W.drewN nq).cell? ⟨B, 1, none⟩ = some (.slice (some ⟨G, 0, none⟩) N N) := d2
    have d0 : (W.drewN nq).cell? ⟨w.heap.size, 0, none⟩ = some (.pointer (some ⟨B, 0, none⟩)) := d0
    have d1 : (W.drewN nq).cell? ⟨w.heap.size + 1, 0, none⟩ = some (.int .i64 t) := d1
    generalize W.drewN nq = W2 at *
    clear HC HO KD x1
    go_wp2
    have HC3 : Hid (Chn W2.drew B G P L (setL g ys t)) := Lib.hid (HC2.out.bel (Bel.refl W2).drew)
    have x3 : W2.drew.cell? ⟨G, E1 * 3, none⟩ = some (.int .i64 a) := x2
    have HX : Hid (∀ w', Off (Only G) W2 w' → w'.cell? ⟨G, E1 * 3, none⟩ = some (.int .i64 a) → w'.cell? ⟨w.heap.size, 0, none⟩ = some (.pointer (some ⟨B, 0, none⟩)) ∧ w'.cell? ⟨w.heap.size + 1, 0, none⟩ = some (.int .i64 t) ∧ w'.cell? ⟨B, 1, none⟩ = some (.slice (some ⟨G, 0, none⟩) N N) ∧ w'.cell? ⟨G, E1 * 3, none⟩ = some (.int .i64 a)) :=
      Lib.hid (fun w' ho hx => ⟨ho.cell (show ¬ w.heap.size = G by omega) d0, ho.cell (show ¬ w.heap.size + 1 = G by omega) d1, ho.cell (show ¬ B = G from hBG) d2, hx⟩)
    have HD : Hid (Off (Only G) W2 W2.drew) := Lib.hid (Off.refl _ W2).drew
    have X3 := Lib.hid x3
    have KDo : Hid (∀ w', Off (Only G) W2 w' → w'.heap[D]? = some (.deferred (some []))) := Lib.hid (fun w' ho => (ho.block D (Array.getElem?_eq_some_iff.1 KD2.out).1 (show ¬ D = G by omega)).trans KD2.out)
    clear d0 d1 d2 x2 x3
    go_region_held3 (fun w' => w'.cell? ⟨w.heap.size, 0, none⟩ = some (.pointer (some ⟨B, 0, none⟩)) ∧ w'.cell? ⟨w.heap.size + 1, 0, none⟩ = some (.int .i64 t) ∧ w'.cell? ⟨B, 1, none⟩ = some (.slice (some ⟨G, 0, none⟩) N N) ∧ w'.cell? ⟨G, E1 * 3, none⟩ = some (.int .i64 a))
      (first | (with_reducible exact HX.out _ HD.out X3.out) | exact HX.out _ (HD.out.then ho6) (HA1.out _ hc6))
      (first | (go_at_call 33; (with_reducible refine (KEt1.out _ HC3.out).mono ?_); rintro e w5 ⟨rfl, rfl⟩) | (go_at_call 40; (with_reducible refine (J1.out _ HC3.out).mono ?_); rintro e w6 ⟨rfl, hc6, ho6⟩))
    have HC6 := Lib.hid hc6
    have HO6 := Lib.hid (HD.out.then ho6)
    have HY2 : Hid (∀ w', Off (Only G) W2 w' → w'.cell? ⟨w.heap.size, 0, none⟩ = some (.pointer (some ⟨B, 0, none⟩)) ∧ w'.cell? ⟨w.heap.size + 1, 0, none⟩ = some (.int .i64 t)) := Lib.hid (fun w' ho => ⟨ho.cell (show ¬ w.heap.size = G by omega) (HX.out W2 (Off.refl _ _) X3.out).1, ho.cell (show ¬ w.heap.size + 1 = G by omega) (HX.out W2 (Off.refl _ _) X3.out).2.1⟩)
    clear hc6 ho6 HX X3 HD HC3 HC2 KD2
    go_wp2
    have HC7 : Hid (Chn w6.drew B G P L (joinG (setL g ys t) a y0)) := Lib.hid (HC6.out.bel (Bel.refl w6).drew)
    have HO7 : Hid (Off (Only G) W2 w6.drew) := Lib.hid HO6.out.drew
    have KEt2 := Lib.hid (KEt.out _ _ HC7.out)
    go_region_held3 (fun w' => w'.cell? ⟨w.heap.size, 0, none⟩ = some (.pointer (some ⟨B, 0, none⟩)) ∧ w'.cell? ⟨w.heap.size + 1, 0, none⟩ = some (.int .i64 t))
      (first | (with_reducible exact HY2.out _ HO7.out) | exact HY2.out _ (HO7.out.then ho8))
      (first | (go_at_call 33; (with_reducible refine KEt2.out.mono ?_); rintro e w5 ⟨rfl, rfl⟩) | (go_at_call 40; (with_reducible refine (J2.out _ HC7.out).mono ?_); rintro e w8 ⟨rfl, hc8, ho8⟩))
    have HC8 := Lib.hid hc8
    have HO8 := Lib.hid (HO7.out.then ho8)
    clear hc8 ho8 HC7 HO7 HC6 HO6 KEt2
    go_wp2
    have HC9 : Hid (Chn w8.drew B G P L (joinG (joinG (setL g ys t) a y0) la E1)) := Lib.hid (HC8.out.bel (Bel.refl w8).drew)
    have HO9 : Hid (Off (Only G) W2 w8.drew) := Lib.hid HO8.out.drew
    have KEf2 := Lib.hid (KEf.out _ _ HC9.out)
    go_region_held3 (fun w' => w'.cell? ⟨w.heap.size, 0, none⟩ = some (.pointer (some ⟨B, 0, none⟩)) ∧ w'.cell? ⟨w.heap.size + 1, 0, none⟩ = some (.int .i64 t))
      (first | (with_reducible exact HY2.out _ HO9.out) | exact HY2.out _ (HO9.out.then ho10))
      (first | (go_at_call 33; (with_reducible refine KEf2.out.mono ?_); rintro e w5 ⟨rfl, rfl⟩) | (go_at_call 40; (with_reducible refine (J3.out _ HC9.out).mono ?_); rintro e w10 ⟨rfl, hc10, ho10⟩))
    have HC10 := Lib.hid hc10
    have HO10 := Lib.hid (HO9.out.then ho10)
    clear hc10 ho10 HC9 HO9 HC8 HO8 KEf2
    go_wp2
    have hK := KDo.out _ HO10.out
    refine ⟨by simp, .inl ⟨_, _, rfl, run_takeDeferred hK, ?_⟩⟩
    refine ⟨_, results_tmp rfl _ _ _, rfl, ⟨?_, ?_, hBG⟩, ?_⟩
    · exact (World.putObj_heap_other (show B ≠ D by omega)).trans HC10.out.hB
    · exact (World.putObj_heap_other (show G ≠ D by omega)).trans HC10.out.hG
    · exact Off.grown (HO2.out.then HO10.out) (grownBy_putObj' _ D _) (fun k e => by cases e; exact .inr lD2)
  case stop =>
    rintro D c pre W _ _ h _
    exact h.elim
end Go.Proofs.Ytdeiknfaehpheaa
