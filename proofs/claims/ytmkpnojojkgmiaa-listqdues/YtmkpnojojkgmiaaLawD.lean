/-
  The walk of ListqDues.
-/
import Derived.Test.YtmkpnojojkgmiaaMadeOk
import Derived.Test.YtmkpnojojkgmiaaWorks
import Derived.Test.YtmkpnojojkgmiaaRref
import Derived.StillTailTactics
namespace Go.Proofs.Ytmkpnojojkgmiaa
open Go.RowKit
attribute [local irreducible] wpStill
theorem dues_long (P : Int) (pa : Option Addr) (N ca : Nat) (k : Int) (w : World) (h : 60 < N) :
    Calls Try.prog 4 #[.int .i64 P, .slice pa N ca, .int .u64 k] w fun e w' => e = .returned (.bool true) ∧ Bel w w' := by
  have h' : (60 : Int) < N := by omega
  go_enter Try.func4, Try.ntmps4
  go_wp2_with fail
  with_reducible refine (works_any _).mono ?_
  rintro e w1 ⟨rfl, hb⟩
  go_wp2
  go_ret
  exact ⟨rfl, hb⟩
theorem dues_no (P : Int) (pa : Option Addr) (N ca : Nat) (k : Int) (w : World) (h : N ≤ 60) (hP : ¬ (0 ≤ P ∧ P ≤ 1024)) :
    Calls Try.prog 4 #[.int .i64 P, .slice pa N ca, .int .u64 k] w fun e w' => e = .returned (.bool true) ∧ Bel w w' := by
  have h' : ¬ (60 : Int) < N := by omega
  have K := Lib.hid (fun w => made_no P pa N ca w hP)
  clear hP
  go_enter Try.func4, Try.ntmps4
  go_wp2_with fail
  with_reducible refine (works_any _).mono ?_
  rintro e w1 ⟨rfl, hb⟩
  have HB := Lib.hid hb
  clear hb
  go_wp2_with fail
  with_reducible refine (K.out _).mono ?_
  rintro e w2 ⟨rfl, hb⟩
  have HB2 := Lib.hid (HB.out.trans (hb.alloc #[.int .i64 0, .slice none 0 0] 27))
  clear hb
  go_wp2
  go_ret
  exact ⟨rfl, HB2.out⟩
/-- What is due, and the rest. -/
structure Parts (l d r : List T) (now : Int) : Prop where
  both : d ++ r = l
  ripe : ∀ x ∈ d, x.a ≤ now
  late : ∀ x ∈ r, ¬ x.a ≤ now
  empt : due r now true = []
  gone : ∀ x ∈ d, fnd r x.p = none
theorem parts_of {w : World} {Q B G R P : Nat} {l : List T} (h : Qu w Q B G R P l) (now : Int) : Parts l (due l now true) (due l now false) now := by
  obtain ⟨⟨g, rr, _, hi⟩, _⟩ := h
  have h1 := hi.so.due now
  have e : due l now true ++ due l now false = l := by rw [← h1.1, ← h1.2, List.take_append_drop]
  have hd : ∀ x ∈ due l now true, x.a ≤ now := fun x hx => by
    have := (List.mem_filter.1 hx).2
    simpa using this
  have hr : ∀ x ∈ due l now false, ¬ x.a ≤ now := fun x hx => by
    have := (List.mem_filter.1 hx).2
    simpa using this
  refine ⟨e, hd, hr, ?_, fun x hx => ?_⟩
  · unfold due
    rw [List.filter_eq_nil_iff]
    intro x hx
    have := hr x hx
    simpa using this
  · cases hf : fnd (due l now false) x.p with
    | none => rfl
    | some y =>
      exfalso
      obtain ⟨h2, h3⟩ := fnd_some hf
      have hn := hi.nodup
      rw [← e] at hn
      unfold pls at hn
      rw [List.map_append] at hn
      have := (List.nodup_append.1 hn).2.2 (pl x) (List.mem_map.2 ⟨x, hx, rfl⟩) (pl y) (List.mem_map.2 ⟨y, h2, rfl⟩)
      exact this (by unfold pl; rw [h3])
theorem Lies.foot {w w' : World} {G R : Nat} {p : Option Addr} {cs : List Value} (h : Lies (old w) w' p cs) (hG : G < w.heap.size) (hR : R < w.heap.size) : Lies (Foot G R) w' p cs :=
  h.mono (fun b _ e => by unfold old; rcases e with e | e <;> omega)
set_option maxHeartbeats 8000000 in
set_option maxRecDepth 100000 in
theorem dues_yes (P : Nat) (pa : Option Addr) (N ca : Nat) (al : List Ak) (now : Int) (w : World) (h : N ≤ 60) (hl : al.length = N) (hA : Lies nof w pa (encK al)) (hP : P ≤ 1024) :
    Calls Try.prog 4 #[.int .i64 P, .slice pa N ca, .int .u64 now] w fun e w' => e = .returned (.bool true) ∧ Bel w w' := by
  have h' : ¬ (60 : Int) < N := by omega
  have K := Lib.hid (fun w' (hb : Bel w w') => made_yes P pa N ca al w' hP hl h (hA.bel hb))
  clear hl hA
  generalize pla P al = l at *
  go_enter Try.func4, Try.ntmps4
  go_wp2_with fail
  with_reducible refine (works_any _).mono ?_
  rintro e w1 ⟨rfl, hb⟩
  have HB := Lib.hid hb
  clear hb
  go_wp2_with fail
  with_reducible refine (K.out _ HB.out).mono ?_
  rintro e w2 ⟨Q, B, G, R, p, c, rfl, hF, _, _⟩
  have HBA : Hid (Bel w2 (w2.alloc (.cells #[.int .i64 P, .slice p l.length c] 27))) := Lib.hid ((Bel.refl _).alloc _ _)
  have HQ := Lib.hid (hF.qu.bel HBA.out)
  have HB2 := Lib.hid ((HB.out.trans hF.bel).trans HBA.out)
  have geG : w.heap.size ≤ G := Nat.le_trans HB.out.size hF.geG
  have geR : w.heap.size ≤ R := Nat.le_trans HB.out.size hF.geR
  clear hF HBA K
  go_upto_region 7 with (fail)
  generalize w2.alloc (.cells #[.int .i64 P, .slice p l.length c] 27) = W2 at *
  have hPt := parts_of HQ.out now
  have HPt := Lib.hid hPt
  have hlen : l.length ≤ 1024 := HQ.out.len
  have hdl : (due l now true).length ≤ 1024 := Nat.le_trans (due_len _ _ _) hlen
  have hrl : (due l now false).length ≤ 1024 := Nat.le_trans (due_len _ _ _) hlen
  have HSo : Hid (so l = true) := Lib.hid ((so_iff l).2 HQ.out.so)
  obtain ⟨⟨lQ, lB⟩, lG, lR⟩ := HQ.out.lts
  have KA := Lib.hid (all_any Q B G R P l W2 HQ.out)
  have KD := Lib.hid (fun w' (h : Qu w' Q B G R P l) => due_any Q B G R P l now w' h)
  have KD2 := Lib.hid (fun w' (h : Qu w' Q B G R P (due l now false)) => due_any Q B G R P (due l now false) now w' h)
  rw [hPt.empt] at KD2
  clear hPt
  generalize due l now true = d at *
  generalize due l now false = r at *
  go_wp2_with fail
  with_reducible refine KA.out.mono ?_
  rintro e w3 ⟨⟨qa, ca', rfl, hca, hla⟩, hb3⟩
  have HLA := Lib.hid (hla.foot lG lR)
  have HB3 := Lib.hid (HB2.out.trans hb3)
  have KD' := Lib.hid (KD.out w3 (HQ.out.bel hb3))
  have z3 := hb3.size
  clear hla hb3 KA KD hca
  go_wp2_with fail
  with_reducible refine KD'.out.mono ?_
  rintro e w4 ⟨⟨qd, cd, rfl, hcd, hld⟩, hq4, ho4⟩
  have HB4 : Hid (Bel w w4) := Lib.hid (Off.trans HB3.out ho4 (fun i e => .inr (by rcases e with e | e <;> omega)))
  have HLA4 := Lib.hid (HLA.out.off ho4 (fun i e => e)).has
  have HLD4 := Lib.hid hld.has
  have HQ4 := Lib.hid hq4
  have z4 := ho4.size
  clear hld hq4 ho4 KD' HLA HB3 HQ hcd
  have KR := Lib.hid (all_any Q B G R P r w4 HQ4.out)
  go_wp2_with fail
  with_reducible refine KR.out.mono ?_
  rintro e w5 ⟨⟨qr, cr, rfl, hcr, hlr⟩, hb5⟩
  have HLR5 := Lib.hid (hlr.foot (Nat.lt_of_lt_of_le lG (by omega)) (Nat.lt_of_lt_of_le lR (by omega)) : Lies (Foot G R) w5 qr (encs r))
  have HB5 := Lib.hid (HB4.out.trans hb5)
  have HLA5 := Lib.hid (HLA4.out.bel hb5)
  have HLD5 := Lib.hid (HLD4.out.bel hb5)
  have HQ5 := Lib.hid (HQ4.out.bel hb5)
  clear hlr hb5 KR hcr HB4 HLA4 HLD4 HQ4
  go_wp2_with (at_builtin; refine wpList_append_any rfl (.tmp 51) (.tmp 52) rfl w5.heap.size _ [] rfl (OwnT.empty _ _ (Nat.le_refl _)) _ _ _ d rfl rfl (HLD5.out.bel ((Bel.refl _).alloc _ _)) (by simp; omega) (by simp) ?_)
  intro v6 w6 hown hgrow _
  have HO6 : Hid (OwnT w6 w5.heap.size v6 d) := Lib.hid (by simpa using hown)
  have HB6 : Hid (Bel w5 w6) := Lib.hid (OwnT.grown ((Bel.refl w5).alloc #[] 38) (OwnT.empty w5 w5.heap.size (Nat.le_refl _)) (by simp) hgrow)
  clear hown hgrow
  go_wp2_with (at_builtin; refine wpList_append_any rfl (.tmp 53) (.tmp 54) rfl w5.heap.size v6 d rfl HO6.out _ _ _ r rfl rfl (HLR5.out.has.bel HB6.out) (by omega) HB6.out.size ?_)
  intro v7 w7 hown hgrow _
  have HB7 : Hid (Bel w5 w7) := Lib.hid (OwnT.grown HB6.out HO6.out HB6.out.size hgrow)
  obtain ⟨q7, c7, rfl, _, _, hh7⟩ := hown.slice
  have e7 : d ++ r = l := HPt.out.both
  rw [e7] at hh7 ⊢
  have KS := Lib.hid (same_yes q7 qa c7 ca' l w7 (by omega) hh7 (HLA5.out.bel HB7.out))
  clear hown hgrow hh7 HO6 HB6 e7
  go_wp2_with fail
  with_reducible refine KS.out.mono ?_
  rintro e w8 ⟨rfl, hb8⟩
  have HB8 := Lib.hid (HB7.out.trans hb8)
  clear hb8 KS HB7
  have KO := Lib.hid (rsorted_any qa l.length ca' l w8 rfl (by omega) (HLA5.out.bel HB8.out))
  rw [HSo.out] at KO
  go_wp2_with fail
  with_reducible refine KO.out.mono ?_
  rintro e w9 ⟨rfl, hb9⟩
  have HB9 := Lib.hid (HB8.out.trans hb9)
  clear hb9 KO HB8 HLA5 HSo
  have HLD9 := Lib.hid (HLD5.out.bel HB9.out)
  have HQ9 := Lib.hid (HQ5.out.bel HB9.out)
  have HLR9 := Lib.hid (HLR5.out.bel HB9.out)
  have HBw := Lib.hid (HB5.out.trans HB9.out)
  clear HB5 HB9 HLD5 HQ5 HLR5
  obtain ⟨n, hn⟩ : ∃ n, d.length = n := ⟨_, rfl⟩
  rw [hn] at hdl ⊢
  have HN := Lib.hid hn
  clear hn
  go_wp2
  go_loopw [15, 16, 17] (fun v _ _ wr => ∃ m : Nat, v = .int .i64 m ∧ m ≤ n ∧ Bel w9 wr) (fun v _ _ _ => n - (intOf v).toNat)
  case atStart => exact ⟨0, rfl, by omega, Bel.refl _⟩
  case round =>
    obtain ⟨m, rfl, hm, hb⟩ := hrel
    have HBr := Lib.hid hb
    clear hb
    by_cases hlt : m < n
    · obtain ⟨b, off, rfl, hr⟩ := HLD9.out.row (by have := HN.out; omega)
      obtain ⟨x, hx⟩ : ∃ x, d.getD m default = x := ⟨_, rfl⟩
      have cx := (hr.bel HBr.out) m (by have := HN.out; omega)
      rw [hx] at cx
      obtain ⟨x0, x1, x2⟩ := cx
      have hxm : x ∈ d := by
        rw [← hx]
        have : m < d.length := by have := HN.out; omega
        simp [List.getD_eq_getElem?_getD, List.getElem?_eq_getElem this]
      have hxa := HPt.out.ripe x hxm
      have KG := Lib.hid (get_any Q B G R P r x.p wr (HQ9.out.bel HBr.out))
      rw [HPt.out.gone x hxm] at KG
      unfold ansT at KG
      have hmn : (m : Int) < n := by omega
      have hxa2 : ¬ now < x.a := by omega
      clear hr hx hxm
      go_wp2_with fail
      with_reducible refine KG.out.mono ?_
      rintro e w10 ⟨rfl, hb10⟩
      have HB10 := Lib.hid (HBr.out.trans (hb10.alloc #[.int .u64 0, .int .u64 0, .int .i64 0] 38))
      have x0 := (hb10.alloc #[.int .u64 0, .int .u64 0, .int .i64 0] 38).cell x0
      have x1 := (hb10.alloc #[.int .u64 0, .int .u64 0, .int .i64 0] 38).cell x1
      have x2 := (hb10.alloc #[.int .u64 0, .int .u64 0, .int .i64 0] 38).cell x2
      clear hb10 KG
      go_upto_region 19 with (fail)
      generalize w10.alloc (.cells #[.int .u64 0, .int .u64 0, .int .i64 0] 38) = W10 at *
      go_wp2
      go_roundw
      case rel => exact ⟨m + 1, by go_num, by omega, HB10.out⟩
      case measure => simp [intOf]; omega
    · obtain rfl : m = n := by omega
      have KM := Lib.hid (min_any Q B G R P r wr (HQ9.out.bel HBr.out))
      have HQr := Lib.hid (HQ9.out.bel HBr.out)
      have HLr := Lib.hid (HLR9.out.bel HBr.out)
      have HBwr := Lib.hid (HBw.out.trans HBr.out)
      have zr := HBr.out.size
      clear HLD9 HQ9 HLR9 HBw HBr hlt
      cases r with
      | nil =>
        unfold ansT at KM
        simp only [List.head?_nil] at KM
        go_wp2_with fail
        with_reducible refine KM.out.mono ?_
        rintro e w11 ⟨rfl, hb11⟩
        have hbA := hb11.alloc #[.int .u64 0, .int .u64 0, .int .i64 0] 38
        have KZ := Lib.hid (KD2.out _ ((HQr.out.bel hbA).bel (Bel.refl _).drew))
        have HBE := Lib.hid (HBwr.out.trans hbA).drew
        have M18 := Lib.hid (heap_alloc_new w11 (.cells #[.int .u64 0, .int .u64 0, .int .i64 0] 38))
        have z11 := hb11.size
        clear hb11 hbA KM KD2
        go_upto_region 22 with (fail)
        generalize w11.alloc (.cells #[.int .u64 0, .int .u64 0, .int .i64 0] 38) = W11 at *
        have hlts := HQr.out.lts
        clear HPt HLr HQr HBwr M18 z11
        go_still_tail 28, (by kernel_rfl)
        change wpList _ _ _ _ _ W11.drew
        generalize W11.drew = W12 at *
        go_wp2_with fail
        with_reducible refine (KZ.out).mono ?_
        rintro e w12 ⟨⟨q12, c12, rfl, hc12, hl12⟩, hq12, ho12⟩
        have HF : Hid (Bel w w12) := Lib.hid (Off.trans HBE.out ho12 (fun i e => .inr (by rcases e with e | e <;> omega)))
        clear hl12 hq12 ho12
        go_wp2
        go_ret
        exact ⟨rfl, HF.out⟩
      | cons y r =>
        unfold ansT at KM
        simp only [List.head?_cons] at KM
        have hya := HPt.out.late y (by simp)
        obtain ⟨b, off, rfl, nfb, hr⟩ := HLr.out.row (fun e => by have := encs_len (y :: r); rw [e] at this; simp at this)
        have cy := rowG_row hr 0 (by simp)
        have hlts := HQr.out.lts
        simp only [Nat.zero_mul, Nat.add_zero] at cy
        obtain ⟨y0, y1, y2⟩ := cy
        have y0 : wr.cell? ⟨b, off, none⟩ = some (.int .u64 y.a) := y0
        have y1 : wr.cell? ⟨b, off + 1, none⟩ = some (.int .u64 y.s) := y1
        have y2 : wr.cell? ⟨b, off + 2, none⟩ = some (.int .i64 y.p) := y2
        have hE := eql_yes y y rfl
        have hya2 : now < y.a := by omega
        have hl0 : (0 : Int) < ((r.length + 1 : Nat) : Int) := by omega
        have el : (y :: r).length = r.length + 1 := rfl
        clear hr
        go_wp2_with fail
        with_reducible refine KM.out.mono ?_
        rintro e w11 ⟨rfl, hb11⟩
        have hbA := hb11.alloc #[.int .u64 y.a, .int .u64 y.s, .int .i64 y.p] 38
        have KZ := Lib.hid (KD2.out _ ((HQr.out.bel hbA).bel (Bel.refl _).drew))
        have HBE := Lib.hid (HBwr.out.trans hbA).drew
        have nf18 : ¬ Foot G R w11.heap.size := fun e => by have := hb11.size; rcases e with e | e <;> omega
        have M18 := Lib.hid (heap_alloc_new w11 (.cells #[.int .u64 y.a, .int .u64 y.s, .int .i64 y.p] 38))
        have y0 := hbA.cell y0
        have y1 := hbA.cell y1
        have y2 := hbA.cell y2
        clear hb11 hbA KM KD2
        try rw [el]
        go_upto_region 22 with (fail)
        generalize w11.alloc (.cells #[.int .u64 y.a, .int .u64 y.s, .int .i64 y.p] 38) = W11 at *
        generalize w11.heap.size = b18 at *
        obtain ⟨⟨x0, x1, x2⟩, _⟩ := box3 M18.out
        generalize r.length + 1 = rn at *
        have hn0 : 0 < rn := by omega
        have hd1 : decide (0 < rn) = true := decide_eq_true hn0
        have hd2 : decide ((0 : Int) < (rn : Int)) = true := decide_eq_true hl0
        have hd3 : (true == decide (0 < rn)) = true := by rw [hd1]; rfl
        have hd4 : (true == decide ((0 : Int) < (rn : Int))) = true := by rw [hd2]; rfl
        have HS : Hid (∀ w', Off (Foot G R) W11.drew w' → (w'.cell? ⟨b18, 0, none⟩ = some (.int .u64 y.a) ∧ w'.cell? ⟨b18, 1, none⟩ = some (.int .u64 y.s) ∧ w'.cell? ⟨b18, 2, none⟩ = some (.int .i64 y.p)) ∧ (w'.cell? ⟨b, off, none⟩ = some (.int .u64 y.a) ∧ w'.cell? ⟨b, off + 1, none⟩ = some (.int .u64 y.s) ∧ w'.cell? ⟨b, off + 2, none⟩ = some (.int .i64 y.p))) := Lib.hid (fun w' ho => ⟨⟨ho.cell (p := ⟨b18, 0, none⟩) nf18 x0, ho.cell (p := ⟨b18, 1, none⟩) nf18 x1, ho.cell (p := ⟨b18, 2, none⟩) nf18 x2⟩, ho.cell (p := ⟨b, off, none⟩) nfb y0, ho.cell (p := ⟨b, off + 1, none⟩) nfb y1, ho.cell (p := ⟨b, off + 2, none⟩) nfb y2⟩)
        have HR0 : Hid (Off (Foot G R) W11.drew W11.drew) := Lib.hid (Off.refl _ _)
        clear nf18 nfb
        go_region_held3 (fun w' => (w'.cell? ⟨b18, 0, none⟩ = some (.int .u64 y.a) ∧ w'.cell? ⟨b18, 1, none⟩ = some (.int .u64 y.s) ∧ w'.cell? ⟨b18, 2, none⟩ = some (.int .i64 y.p)) ∧ (w'.cell? ⟨b, off, none⟩ = some (.int .u64 y.a) ∧ w'.cell? ⟨b, off + 1, none⟩ = some (.int .u64 y.s) ∧ w'.cell? ⟨b, off + 2, none⟩ = some (.int .i64 y.p))) (first | (with_reducible exact HS.out _ HR0.out) | exact HS.out _ ho12)
          (first | (go_at_call 11; (with_reducible refine (KZ.out).mono ?_); rintro e w12 ⟨⟨q12, c12, rfl, hc12, hl12⟩, hq12, ho12⟩))
        have HF : Hid (Bel w w12) := Lib.hid (Off.trans HBE.out ho12 (fun i e => .inr (by rcases e with e | e <;> omega)))
        clear hl12 hq12 ho12
        go_wp2
        go_ret
        exact ⟨rfl, HF.out⟩
end Go.Proofs.Ytmkpnojojkgmiaa
