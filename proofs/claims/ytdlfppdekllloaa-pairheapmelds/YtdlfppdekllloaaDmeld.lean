/-
  Contract of the document's Meld.
-/
import Derived.Test.YtdlfppdekllloaaDocm
import Derived.Test.YtdlfppdekllloaaAlike
import Derived.Deep.CutRange
set_option linter.unusedVariables false
set_option linter.unusedSimpArgs false
namespace Go.Proofs.Ytdlfppdekllloaa
open Go.RowKit
theorem fold_take (l m : List T) (i : Nat) (h : i < m.length) : (m.take (i + 1)).foldl put l = put ((m.take i).foldl put l) (m.getD i default) := by
  rw [List.take_succ_eq_append_getElem h, List.foldl_append]
  have e : m.getD i default = m[i] := by simp [List.getD_eq_getElem?_getD, List.getElem?_eq_getElem h]
  rw [e]
  rfl
theorem fold_len (l : List T) : ∀ m : List T, (m.foldl put l).length = l.length + m.length := by
  intro m
  induction m generalizing l with
  | nil => rfl
  | cons x r ih => rw [List.foldl_cons, ih, (put_perm l x).length_eq, List.length_cons, List.length_cons]; omega
theorem fold_srt {l : List T} (h : So l) (m : List T) : m.foldl put l = srt (l ++ m) := by
  unfold srt
  rw [List.foldl_append]
  have : l.foldl put [] = l := srt_self h
  rw [this]
theorem any_at {l m : List T} {i : Nat} (h : i < m.length) (e : (fnd l (m.getD i default).p).isSome = true) : (m.any fun x => (fnd l x.p).isSome) = true := by
  rw [List.any_eq_true]
  refine ⟨m[i], List.getElem_mem h, ?_⟩
  have e2 : m.getD i default = m[i] := by simp [List.getD_eq_getElem?_getD, List.getElem?_eq_getElem h]
  rw [e2] at e
  exact e
theorem any_no {l m : List T} (h : ∀ i, i < m.length → fnd l (m.getD i default).p = none) : (m.any fun x => (fnd l x.p).isSome) = false := by
  rw [List.any_eq_false]
  intro x hx
  obtain ⟨i, hi, rfl⟩ := List.getElem_of_mem hx
  have := h i hi
  have e2 : m.getD i default = m[i] := by simp [List.getD_eq_getElem?_getD, List.getElem?_eq_getElem hi]
  rw [e2] at this
  rw [this]
  simp
/-- What the document's Meld tells. -/
def DMeld (w : World) (P R : Nat) (l m : List T) (e : Ending) (w' : World) : Prop :=
  ∃ p' c', e = .returned (.tuple #[.agg #[.int .i64 P, .slice p' (melL P R l m).length c'], .int .i64 (melE P R l m)]) ∧ Has w' p' (melL P R l m) ∧ Bel w w'
set_option maxHeartbeats 8000000 in
set_option maxRecDepth 100000 in
theorem dmeld_any (P R : Nat) (p q : Option Addr) (c d : Nat) (l m : List T) (w : World) (hs : So l) (hlm : l.length ≤ 1024) (hmm : m.length ≤ 1024) (hc : l.length ≤ c) (hl : Has w p l) (hq : Has w q m) :
    Calls Try.prog 18 #[.agg #[.int .i64 P, .slice p l.length c], .agg #[.int .i64 R, .slice q m.length d]] w fun e w' => DMeld w P R l m e w' := by
  have H3 := Lib.hid (three_new w #[.int .i64 P, .slice p l.length c] #[.int .i64 R, .slice q m.length d] #[.int .i64 0, .slice none 0 0] 30 30 30)
  have HL := Lib.hid hl
  have HM := Lib.hid hq
  have HSo := Lib.hid hs
  clear hl hq hs
  obtain ⟨nl, el⟩ : ∃ n, l.length = n := ⟨_, rfl⟩
  obtain ⟨nm, em⟩ : ∃ n, m.length = n := ⟨_, rfl⟩
  rw [el] at H3 hlm hc ⊢
  rw [em] at H3 hmm ⊢
  have HNL := Lib.hid el
  have HNM := Lib.hid em
  clear el em
  by_cases hPR : P = R
  · subst hPR
    have hne : ((P : Int) != P) = false := by simp
    go_enter Try.func18, Try.ntmps18
    go_upto_region 1 with (fail)
    obtain ⟨W, eW, hB, hz, n0, n1, n2⟩ := H3.out
    rw [eW]
    clear H3 eW
    obtain ⟨b1, e1⟩ : ∃ b, w.heap.size + 1 = b := ⟨_, rfl⟩
    rw [e1] at n1 n2 hz ⊢
    obtain ⟨b2, e2⟩ : ∃ b, b1 + 1 = b := ⟨_, rfl⟩
    rw [e2] at n2 hz ⊢
    have hb2 : w.heap.size ≤ b2 := by omega
    have hb2W : b2 < W.heap.size := by omega
    obtain ⟨b0, e0⟩ : ∃ b, w.heap.size = b := ⟨_, rfl⟩
    rw [e0] at n0 ⊢
    have HB := Lib.hid hB
    have HN0 := Lib.hid n0
    have HN1 := Lib.hid n1
    have HN2 := Lib.hid n2
    have HLW := Lib.hid (HL.out.bel hB)
    have HMW := Lib.hid (HM.out.bel hB)
    obtain ⟨⟨y0, y1⟩, _⟩ := box2 n0
    obtain ⟨⟨z0, z1⟩, _⟩ := box2 n1
    clear hB n0 n1 n2 e1 e2 hz HM
    have yA := ((Bel.refl W).alloc #[] 35).cell y1
    go_wp2_with (at_builtin; refine wpList_append_any rfl (.tmp 16) (.tmp 18) rfl W.heap.size _ [] rfl (OwnT.empty _ _ (Nat.le_refl _)) _ _ _ l rfl HNL.out (HLW.out.bel ((Bel.refl _).alloc _ _)) (by simp; omega) (by simp) ?_)
    intro v1 w1 hown hgrow hnil
    have HB1 : Hid (Bel W w1) := Lib.hid (OwnT.grown ((Bel.refl _).alloc _ _) (OwnT.empty _ _ (Nat.le_refl _)) (by simp) hgrow)
    obtain ⟨p1, c1, rfl, hc1, hl1⟩ := hown.lies (w := W) (Nat.le_refl _)
    have HP1 : Hid (Has w1 p1 ((m.take 0).foldl put l)) := Lib.hid hl1.has
    clear hown hgrow hnil hl1 y0 y1 z0 z1 yA
    rw [HNL.out] at hc1 ⊢
    go_wp2
    go_loopw [6, 7, 8, 9] (fun s v _ _ wr => ∃ (i : Nat) (p' : Option Addr) (c' : Nat), s = .slice p' (nl + i) c' ∧ v = .int .i64 i ∧ i ≤ nm ∧ nl + i ≤ c' ∧ (∀ j, j < i → fnd l (m.getD j default).p = none) ∧ Has wr p' ((m.take i).foldl put l) ∧ Bel W wr) (fun _ v _ _ _ => nm - (intOf v).toNat)
    case atStart => exact ⟨0, p1, c1, rfl, rfl, Nat.zero_le _, hc1, fun j hj => by omega, HP1.out, HB1.out⟩
    case round =>
      clear HB1 HP1 hc1
      obtain ⟨i, p', c', rfl, rfl, hi, hc', hno, hh, hb⟩ := hrel
      have HH := Lib.hid hh
      have HBr := Lib.hid hb
      have HNO := Lib.hid hno
      obtain ⟨⟨y0, y1⟩, _⟩ := box2 (hb.heap HN0.out)
      obtain ⟨⟨z0, z1⟩, _⟩ := box2 (hb.heap HN1.out)
      obtain ⟨⟨u0, u1⟩, f0, f1⟩ := box2 (hb.heap HN2.out)
      clear hh hb hno
      by_cases h : i < nm
      · obtain ⟨x, hx⟩ : ∃ x, m.getD i default = x := ⟨_, rfl⟩
        obtain ⟨b, off, rfl, hr⟩ := HMW.out.row (by have := HNM.out; omega)
        have cx := (hr.bel HBr.out) i (by have := HNM.out; omega)
        rw [hx] at cx
        obtain ⟨x0, x1, x2⟩ := cx
        have HF := Lib.hid (fold_take l m i (by rw [HNM.out]; exact h))
        have HAny : Hid ((fnd l x.p).isSome = true → (m.any fun y => (fnd l y.p).isSome) = true) := Lib.hid (fun e => any_at (by rw [HNM.out]; exact h) (by rw [hx]; exact e))
        have HXX : Hid (∀ w', Bel wr w' → (w'.cell? ⟨b, off + i * 3, none⟩ = some (.int .u64 x.a) ∧ w'.cell? ⟨b, off + i * 3 + 1, none⟩ = some (.int .u64 x.s) ∧ w'.cell? ⟨b, off + i * 3 + 2, none⟩ = some (.int .i64 x.p)) ∧ (w'.cell? ⟨b0, 0, none⟩ = some (.int .i64 P) ∧ w'.cell? ⟨b0, 1, none⟩ = some (.slice p nl c)) ∧ w'.cell? ⟨b1, 1, none⟩ = some (.slice (some ⟨b, off, none⟩) nm d)) := Lib.hid (fun w' hb => ⟨⟨hb.cell x0, hb.cell x1, hb.cell x2⟩, (box2 ((HBr.out.trans hb).heap HN0.out)).1, (box2 ((HBr.out.trans hb).heap HN1.out)).1.2⟩)
        have HXp := Lib.hid hx
        have b3 : (i : Int) < (nm : Int) := by omega
        have KG := Lib.hid (fun w' (hb : Bel W w') => dget_any P p nl c l x.p w' HNL.out (by omega) (HLW.out.bel hb))
        simp only [ansT_eq] at KG
        have BD : Hid (Bel wr wr.drew) := Lib.hid (Bel.refl wr).drew
        have BA : Hid (Bel wr (wr.alloc (.cells #[.int .u64 0, .int .u64 0, .int .i64 0] 35)).drew) := Lib.hid ((Bel.refl wr).alloc _ _).drew
        have C3 : Hid (∀ Wc w' b, Wc.heap[b]? = some (.cells #[.int .u64 0, .int .u64 0, .int .i64 0] 35 (0, 0)) → Bel Wc w' → ((w'.cell? ⟨b, 0, none⟩ = some (.int .u64 0) ∧ w'.cell? ⟨b, 1, none⟩ = some (.int .u64 0) ∧ w'.cell? ⟨b, 2, none⟩ = some (.int .i64 0)) ∧ (w'.frozen? ⟨b, 0, none⟩ = false ∧ w'.frozen? ⟨b, 1, none⟩ = false ∧ w'.frozen? ⟨b, 2, none⟩ = false)) ∧ b < w'.heap.size) := Lib.hid (fun Wc w' b hb ho =>
          ⟨box3 (ho.heap hb), (Array.getElem?_eq_some_iff.1 (ho.heap hb)).1⟩)
        have NA : Hid ((wr.alloc (.cells #[.int .u64 0, .int .u64 0, .int .i64 0] 35)).drew.heap[wr.heap.size]? = some (.cells #[.int .u64 0, .int .u64 0, .int .i64 0] 35 (0, 0))) := Lib.hid (heap_alloc_new wr _)
        have HOS : Hid (∃ o, (fnd l x.p).isSome = o) := Lib.hid ⟨_, rfl⟩
        obtain ⟨os, eos⟩ := HOS.out
        have HEO := Lib.hid eos
        rw [eos] at KG
        clear hr hx HOS eos
        generalize ((fnd l x.p).getD default).a = g0 at *
        generalize ((fnd l x.p).getD default).s = g1 at *
        generalize ((fnd l x.p).getD default).p = g2 at *
        go_upto_region 7 with (fail)
        go_cut [8, 9] from 20 to 46 (fun _ s9 wx => s9 = .bool os ∧ Bel wr wx)
        case first =>
          have HKG := Lib.hid (fun w' (hb : Bel wr w') => KG.out w' (HBr.out.trans hb))
          have HSX : Hid (∀ w', Bel wr w' → Bel wr w' ∧ (w'.cell? ⟨b, off + i * 3, none⟩ = some (.int .u64 x.a) ∧ w'.cell? ⟨b, off + i * 3 + 1, none⟩ = some (.int .u64 x.s) ∧ w'.cell? ⟨b, off + i * 3 + 2, none⟩ = some (.int .i64 x.p)) ∧ (w'.cell? ⟨b0, 0, none⟩ = some (.int .i64 P) ∧ w'.cell? ⟨b0, 1, none⟩ = some (.slice p nl c)) ∧ w'.cell? ⟨b1, 1, none⟩ = some (.slice (some ⟨b, off, none⟩) nm d)) := Lib.hid (fun w' hb => ⟨hb, HXX.out w' hb⟩)
          clear KG HXX HF HAny HH HNO HBr HNL HNM HLW HMW HN0 HN1 HN2 HB HEO HXp u0 u1 f0 f1
          go_wp2
          go_region_held3 (fun w' => Bel wr w' ∧ (w'.cell? ⟨b, off + i * 3, none⟩ = some (.int .u64 x.a) ∧ w'.cell? ⟨b, off + i * 3 + 1, none⟩ = some (.int .u64 x.s) ∧ w'.cell? ⟨b, off + i * 3 + 2, none⟩ = some (.int .i64 x.p)) ∧ (w'.cell? ⟨b0, 0, none⟩ = some (.int .i64 P) ∧ w'.cell? ⟨b0, 1, none⟩ = some (.slice p nl c)) ∧ w'.cell? ⟨b1, 1, none⟩ = some (.slice (some ⟨b, off, none⟩) nm d)) (first | (with_reducible exact HSX.out _ BD.out) | (with_reducible exact HSX.out _ BA.out) | (refine HSX.out _ ?_; repeat' (first | (with_reducible exact hw5) | (with_reducible refine Bel.alloc ?_ _ _) | (with_reducible refine Bel.setCell ?_ (Nat.le_refl _) _) | (with_reducible refine Bel.setCell ?_ (Nat.le_succ _) _)))) (first | (go_at_call 34; ((with_reducible refine (HKG.out _ BD.out).mono ?_); rintro e w5 ⟨rfl, hd5⟩; have hw5 := BD.out.trans hd5)) | (go_at_call 34; ((with_reducible refine (HKG.out _ BA.out).mono ?_); rintro e w5 ⟨rfl, hd5⟩; have hw5 := BA.out.trans hd5; have hca := C3.out _ _ _ NA.out hd5; obtain ⟨⟨⟨v0, v1, v2⟩, i0, i1, i2⟩, hz5⟩ := hca)))
          all_goals
            go_wp2_with fail
            go_meet
            case rel =>
              refine ⟨rfl, ?_⟩
              repeat' (first | (with_reducible exact hw5) | (with_reducible refine Bel.alloc ?_ _ _) | (with_reducible refine Bel.setCell ?_ (Nat.le_refl _) _) | (with_reducible refine Bel.setCell ?_ (Nat.le_succ _) _))
        case rest =>
          obtain ⟨rfl, hbc⟩ := hcut
          have HBc := Lib.hid hbc
          clear KG BD BA C3 NA hbc x0 x1 x2 y0 y1 z0 z1 u0 u1 f0 f1
          obtain ⟨⟨x0, x1, x2⟩, ⟨y0, y1⟩, z1⟩ := HXX.out _ HBc.out
          obtain ⟨⟨u0, u1⟩, f0, f1⟩ := box2 ((HBr.out.trans HBc.out).heap HN2.out)
          cases os with
          | true =>
            have e4 : melE P P l m = 4 := by unfold melE; rw [if_pos rfl, if_pos (HAny.out HEO.out)]
            have eL : melL P P l m = l := by unfold melL; rw [if_neg (by rw [e4]; decide)]
            have HEnd : Hid (DMeld w P P l m (.returned (.tuple #[.agg #[.int .i64 P, .slice p nl c], .int .i64 4])) ((wc.setCell ⟨b2, 0, none⟩ (.int .i64 P)).setCell ⟨b2, 1, none⟩ (.slice p nl c))) := Lib.hid (by
              have o2 := off2 wc b2 (.int .i64 P) (.slice p nl c)
              have hbw := HBr.out.trans HBc.out
              refine ⟨p, c, by rw [eL, e4, HNL.out], ?_, Off.trans (HB.out.trans hbw) o2 (fun k e => .inr (by have : k = b2 := e; omega))⟩
              rw [eL]
              exact HL.out.bel (Off.trans (HB.out.trans hbw) o2 (fun k e => .inr (by have : k = b2 := e; omega))))
            clear e4 eL
            go_wp2
            exact bodyPost_ret (v := .tuple #[.agg #[.int .i64 P, .slice p nl c], .int .i64 4]) (by simp [results, Try.results18, go_sem, u0, u1]) rfl HEnd.out
          | false =>
            have HNone : Hid (fnd l x.p = none) := Lib.hid (by
              have := HEO.out
              cases e : fnd l x.p with
              | none => rfl
              | some y => rw [e] at this; cases this)
            have KP := Lib.hid (rput_any p' (nl + i) c' ((m.take i).foldl put l) x wc (by rw [fold_len, HNL.out, List.length_take, HNM.out]; omega) (by omega) hc' (HH.out.bel HBc.out))
            have HPL : Hid ((put ((m.take i).foldl put l) x).length = nl + (i + 1)) := Lib.hid (by rw [(put_perm _ x).length_eq, List.length_cons, fold_len, HNL.out, List.length_take, HNM.out]; omega)
            have HFx : Hid ((m.take (i + 1)).foldl put l = put ((m.take i).foldl put l) x) := Lib.hid (by rw [HF.out, HXp.out])
            go_wp2_with fail
            with_reducible refine KP.out.mono ?_
            rintro e w5 ⟨⟨p5, c5, rfl, hc5, hl5⟩, hb5⟩
            have HH5 : Hid (Has w5 p5 ((m.take (i + 1)).foldl put l)) := Lib.hid (by rw [HFx.out]; exact hl5.has)
            have HB5 : Hid (Bel W w5) := Lib.hid ((HBr.out.trans HBc.out).trans hb5)
            rw [HPL.out] at hc5 ⊢
            clear hl5 hb5 KP
            go_wp2
            go_roundw
            case rel =>
              refine ⟨i + 1, p5, c5, rfl, by go_num, by omega, hc5, fun j hj => ?_, HH5.out, HB5.out⟩
              by_cases hji : j < i
              · exact HNO.out j hji
              · obtain rfl : j = i := by omega
                rw [HXp.out]; exact HNone.out
            case measure => simp [intOf]; omega
      · obtain rfl : i = nm := by omega
        have b3 : ¬ (i : Int) < (i : Int) := by omega
        have HT : Hid ((m.take i).foldl put l = srt (l ++ m)) := Lib.hid (by rw [List.take_of_length_le (by rw [HNM.out]; exact Nat.le_refl _), fold_srt HSo.out])
        have HEnd : Hid (DMeld w P P l m (.returned (.tuple #[.agg #[.int .i64 P, .slice p' (nl + i) c'], .int .i64 0])) ((wr.setCell ⟨b2, 0, none⟩ (.int .i64 P)).setCell ⟨b2, 1, none⟩ (.slice p' (nl + i) c'))) := Lib.hid (by
          have e4 : melE P P l m = 0 := by unfold melE; rw [if_pos rfl, if_neg (by rw [any_no (fun j hj => HNO.out j (by rw [← HNM.out]; exact hj))]; simp)]
          have eL : melL P P l m = srt (l ++ m) := by unfold melL; rw [if_pos e4]
          have o2 := off2 wr b2 (.int .i64 P) (.slice p' (nl + i) c')
          refine ⟨p', c', by rw [eL, e4, srt_len, List.length_append, HNL.out, HNM.out], ?_, Off.trans (HB.out.trans HBr.out) o2 (fun k e => .inr (by have : k = b2 := e; omega))⟩
          rw [eL, ← HT.out]
          exact ((HH.out.lies).apart (HBr.out.heap HN2.out) o2).has)
        go_wp2
        exact bodyPost_ret (v := .tuple #[.agg #[.int .i64 P, .slice p' (nl + i) c'], .int .i64 0]) (by simp [results, Try.results18, go_sem, u0, u1]) rfl HEnd.out
  · have hne : ((P : Int) != R) = true := by simp; omega
    have e4 : melE P R l m = 1 := by unfold melE; rw [if_neg hPR]
    have eL : melL P R l m = l := by unfold melL; rw [if_neg (by rw [e4]; decide)]
    have HE4 := Lib.hid e4
    have HEL := Lib.hid eL
    clear e4 eL hPR
    go_enter Try.func18, Try.ntmps18
    go_upto_region 1 with (fail)
    obtain ⟨W, eW, hB, hz, n0, n1, n2⟩ := H3.out
    rw [eW]
    clear H3 eW
    obtain ⟨b1, e1⟩ : ∃ b, w.heap.size + 1 = b := ⟨_, rfl⟩
    rw [e1] at n1 n2 hz ⊢
    obtain ⟨b2, e2⟩ : ∃ b, b1 + 1 = b := ⟨_, rfl⟩
    rw [e2] at n2 hz ⊢
    have hb2 : w.heap.size ≤ b2 := by omega
    obtain ⟨⟨y0, y1⟩, _⟩ := box2 n0
    obtain ⟨⟨z0, z1⟩, _⟩ := box2 n1
    obtain ⟨⟨u0, u1⟩, f0, f1⟩ := box2 n2
    have HEnd : Hid (DMeld w P R l m (.returned (.tuple #[.agg #[.int .i64 P, .slice p nl c], .int .i64 1])) ((W.setCell ⟨b2, 0, none⟩ (.int .i64 P)).setCell ⟨b2, 1, none⟩ (.slice p nl c))) := Lib.hid (by
      have o2 := off2 W b2 (.int .i64 P) (.slice p nl c)
      have hbz : Bel w ((W.setCell ⟨b2, 0, none⟩ (.int .i64 P)).setCell ⟨b2, 1, none⟩ (.slice p nl c)) := Off.trans hB o2 (fun k e => .inr (by have : k = b2 := e; omega))
      exact ⟨p, c, by rw [HEL.out, HE4.out, HNL.out], by rw [HEL.out]; exact HL.out.bel hbz, hbz⟩)
    clear hB n0 n1 n2 e1 e2 hz
    go_wp2
    exact bodyPost_ret (v := .tuple #[.agg #[.int .i64 P, .slice p nl c], .int .i64 1]) (by simp [results, Try.results18, go_sem, u0, u1]) rfl HEnd.out
end Go.Proofs.Ytdlfppdekllloaa
