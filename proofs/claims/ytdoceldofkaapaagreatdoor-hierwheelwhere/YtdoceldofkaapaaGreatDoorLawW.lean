/-
  The walk of HierwheelWhere.
-/
import Derived.Test.YtdoceldofkaapaaGreatDoorXaz
import Derived.Test.YtdoceldofkaapaaGreatDoorXar
set_option linter.unusedVariables false
set_option linter.unusedSimpArgs false
namespace Go.Proofs.YtdoceldofkaapaaGreatDoor
open Go.RowKit
theorem dlevel_any (s a : Int) (b : Nat) (hb : 1 ≤ b ∧ b ≤ 6) (hs : Tk s) (ha : Tk a) (w : World) :
    Calls Tryz.prog 35 #[.int .u64 s, .int .u64 a, .int .i64 b] w fun e w' => e = .returned (.int .i64 (lv b s a)) ∧ Bel w w' := by
  unfold Tk at hs ha
  exact (D3.dLevel s a b hs.1 (by omega) ha.1 (by omega) b (by unfold wi; omega) w).mono fun e w' h => ⟨h.1, bel_of h.2.2⟩
theorem dslot_any (s a : Int) (b : Nat) (hb : 1 ≤ b ∧ b ≤ 6) (hs : Tk s) (ha : Tk a) (w : World) :
    Calls Tryz.prog 36 #[.int .u64 s, .int .u64 a, .int .i64 b] w fun e w' => e = .returned (.int .i64 (sv b s a)) ∧ Bel w w' := by
  unfold Tk at hs ha
  exact (D3.dSlot s a b hs.1 (by omega) ha.1 (by omega) b (by unfold wi; omega) w).mono fun e w' h => ⟨h.1, bel_of h.2.2⟩
theorem fnd_mem {l : List T} (hn : (l.map T.p).Nodup) {x : T} (hx : x ∈ l) : fnd l x.p = some x := by
  induction l with
  | nil => cases hx
  | cons y r ih =>
    rw [List.map_cons, List.nodup_cons] at hn
    unfold fnd
    rw [List.find?_cons]
    rcases List.mem_cons.1 hx with rfl | hx
    · simp
    · have hne : ¬ y.p = x.p := fun e => hn.1 (by rw [e]; exact List.mem_map_of_mem hx)
      rw [decide_eq_false hne]
      exact ih hn.2 hx
theorem where_long {Qu : QT} (C : Con Qu) (P bits s : Int) (pa : Option Addr) (N ca : Nat) (w : World) (hT : Bm.Tab w) (h : 60 < N) :
    Calls Tryz.prog 5 #[.int .i64 P, .int .i64 bits, .int .u64 s, .slice pa N ca] w fun e w' => e = .returned (.bool true) ∧ Bel w w' := by
  have K := Lib.hid (works_any C w hT)
  have h1 : (60 : Int) < (N : Int) := by omega
  go_enter Tryz.func5, Tryz.ntmps5
  go_wp2_with fail
  with_reducible refine K.out.mono ?_
  rintro e w1 ⟨rfl, hb⟩
  have HB1 := Lib.hid hb
  clear hb
  go_wp2
  go_ret
  exact ⟨rfl, HB1.out⟩
theorem where_no {Qu : QT} (C : Con Qu) (P bits s : Int) (pa : Option Addr) (N ca : Nat) (w : World) (hT : Bm.Tab w) (hN : N ≤ 60) (h : ¬ ((0 ≤ P ∧ P ≤ 1024) ∧ 1 ≤ bits ∧ bits ≤ 6)) :
    Calls Tryz.prog 5 #[.int .i64 P, .int .i64 bits, .int .u64 s, .slice pa N ca] w fun e w' => e = .returned (.bool true) ∧ Bel w w' := by
  have K := Lib.hid (works_any C w hT)
  have KN := Lib.hid (fun w' => C.qnew_no P bits s w' h)
  have h1 : ¬ (60 : Int) < (N : Int) := by omega
  clear h
  go_enter Tryz.func5, Tryz.ntmps5
  go_wp2_with fail
  with_reducible refine K.out.mono ?_
  rintro e w1 ⟨rfl, hb⟩
  have HB1 := Lib.hid hb
  clear hb
  go_wp2_with fail
  with_reducible refine (KN.out _).mono ?_
  rintro e w2 ⟨rfl, hb⟩
  have HB2 := Lib.hid (HB1.out.trans hb)
  clear hb
  go_wp2
  go_ret
  exact ⟨rfl, HB2.out⟩
set_option maxHeartbeats 4000000 in
set_option maxRecDepth 100000 in
theorem where_yes {Qu : QT} (C : Con Qu) (P b : Nat) (s : Int) (pa : Option Addr) (N ca : Nat) (al : List Ak) (w : World) (hT : Bm.Tab w) (hP : P ≤ 1024) (hb6 : 1 ≤ b ∧ b ≤ 6) (hs : Tk s) (hl : al.length = N) (hN : N ≤ 60) (hK : Aks al) (hA : Lies nof w pa (encK al)) :
    Calls Tryz.prog 5 #[.int .i64 P, .int .i64 b, .int .u64 s, .slice pa N ca] w fun e w' => e = .returned (.bool true) ∧ Bel w w' := by
  have K := Lib.hid (works_any C w hT)
  have KN := Lib.hid (fun w' (hb : Bel w w') => C.qnew_yes P b s w' hP hb6 hs (tab_bel hT hb))
  have h1 : ¬ (60 : Int) < (N : Int) := by omega
  have HA := Lib.hid hA
  have HL := Lib.hid hl
  have HK := Lib.hid hK
  have HB6 := Lib.hid hb6
  clear hA hl hK hP hb6 hs
  go_enter Tryz.func5, Tryz.ntmps5
  go_wp2_with fail
  with_reducible refine K.out.mono ?_
  rintro e w1 ⟨rfl, hb⟩
  have HB1 := Lib.hid hb
  clear hb
  go_wp2_with fail
  with_reducible refine (KN.out _ HB1.out).mono ?_
  rintro e w2 ⟨Q, f, rfl, hq, hf, hb⟩
  have B0 : Hid (Bu Qu w1 w2 Q P b s []) := Lib.hid ⟨⟨f, 0, hq, hf⟩, hb⟩
  clear hq hf hb K KN
  go_wp2
  go_loopw [12] (fun v wr => ∃ (i : Nat) (sx : Int) (l : List T), v = .int .i64 i ∧ i ≤ N ∧ Bu Qu w1 wr Q P b sx l) (fun v _ => N - (intOf v).toNat)
  case atStart => exact ⟨0, s, [], rfl, by omega, B0.out⟩
  case round =>
    obtain ⟨i, sx, l, rfl, hi, hbu⟩ := hrel
    have HBU := Lib.hid hbu
    clear hbu B0
    by_cases h : i < N
    · obtain ⟨b1, off, rfl, _, hr⟩ := lies_ak HA.out (i := i) (by rw [HL.out]; exact h)
      obtain ⟨a, ha⟩ : ∃ a, al[i]? = some a := ⟨al[i]'(by rw [HL.out]; exact h), List.getElem?_eq_getElem _⟩
      obtain ⟨x0, x1, x2, x3, x4⟩ := row_ak (hr.off (f := nof) (fun e => e) (HB1.out.trans HBU.out.bel)) ha
      have KD := Lib.hid (bu_do C HBU.out a (HK.out.at_ ha).1 (HK.out.at_ ha).2)
      unfold akV at KD
      have b2 : (i : Int) < (N : Int) := by omega
      generalize stB sx a = sy at *
      generalize stL P l a = ly at *
      clear hr ha
      generalize a.k = ak at *
      generalize a.t.a = aa at *
      generalize a.t.s = asq at *
      generalize a.t.p = ap at *
      generalize a.now = an at *
      go_wp2_with fail
      with_reducible refine (KD.out).mono ?_
      rintro e w3 ⟨v, rfl, hbu⟩
      have HBU2 := Lib.hid hbu
      clear hbu x0 x1 x2 x3 x4 KD
      go_wp2
      go_roundw
      case rel => exact ⟨i + 1, sy, ly, by go_num, by omega, HBU2.out⟩
      case measure => simp [intOf]; omega
    · have b2 : ¬ (i : Int) < (N : Int) := by omega
      obtain ⟨n, en⟩ : ∃ n, l.length = n := ⟨_, rfl⟩
      have hn : n ≤ 1024 := by rw [← en]; exact bu_len C HBU.out
      obtain ⟨Za, hza⟩ := bu_zp C HBU.out
      have KA := Lib.hid (bu_all C hza HBU.out en)
      go_wp2_with fail
      with_reducible refine (KA.out).mono ?_
      rintro e w4 ⟨p4, c4, rfl, hh, hb⟩
      have HU4 := Lib.hid (bu_le C HBU.out hb)
      have HH4 := Lib.hid hh
      have HEN := Lib.hid en
      clear hh hb KA HBU en hza
      go_wp2
      go_loopw [14, 15, 16, 17] (fun v _ _ _ wr => ∃ j : Nat, v = .int .i64 j ∧ j ≤ n ∧ Bel w4 wr) (fun v _ _ _ _ => n - (intOf v).toNat)
      case atStart => exact ⟨0, rfl, by omega, Bel.refl _⟩
      case round =>
        obtain ⟨j, rfl, hj, hbj⟩ := hrel
        have HBJ := Lib.hid hbj
        clear hbj
        by_cases hjn : j < n
        · obtain ⟨bb, off, rfl, hrow⟩ := HH4.out.row (by rw [HEN.out]; omega)
          obtain ⟨y0, y1, y2⟩ := (hrow.bel HBJ.out) j (by rw [HEN.out]; exact hjn)
          obtain ⟨x, hx⟩ : ∃ x, l.getD j default = x := ⟨_, rfl⟩
          have hxm : x ∈ l := by
            rw [← hx, List.getD_eq_getElem?_getD, List.getElem?_eq_getElem (by rw [HEN.out]; exact hjn)]
            exact List.getElem_mem _
          rw [hx] at y0 y1 y2
          have HWH : Hid (∀ w', Bel wr w' → Calls Tryz.prog 30 #[.pointer (some ⟨Q, 0, none⟩), .int .i64 x.p] w' fun e w2 => e = .returned (.tuple #[.int .i64 (lv b sx x.a), .int .i64 (sv b sx x.a), .bool true]) ∧ Bel w' w2) := Lib.hid (fun w' hb => by
            obtain ⟨⟨f', kk, q1, q2⟩, q3⟩ := HU4.out
            have k := C.where_ x.p w' (C.bel (C.bel q1 HBJ.out) hb)
            rw [fnd_mem (C.places q1).1 hxm] at k
            exact k)
          have HTX : Hid (Tk sx ∧ Tk x.a) := Lib.hid (by
            obtain ⟨⟨f', kk, q1, q2⟩, q3⟩ := HU4.out
            exact ⟨C.base q1, C.ticks q1 x hxm⟩)
          have KB : Hid (∀ w', Bel wr w' → Calls Tryz.prog 32 #[.pointer (some ⟨Q, 0, none⟩)] w' fun e w2 => e = .returned (.int .u64 sx) ∧ Bel w' w2) := Lib.hid (fun w' hb => bu_based C (bu_le C (bu_le C HU4.out HBJ.out) hb))
          have KLv := Lib.hid (fun w' => dlevel_any sx x.a b HB6.out HTX.out.1 HTX.out.2 w')
          have KSv := Lib.hid (fun w' => dslot_any sx x.a b HB6.out HTX.out.1 HTX.out.2 w')
          have b3 : (j : Int) < (n : Int) := by omega
          clear hrow hx hxm
          generalize lv b sx x.a = v1 at *
          generalize sv b sx x.a = v2 at *
          generalize x.a = xa at *
          generalize x.s = xs at *
          generalize x.p = xp at *
          go_wp2_with fail
          with_reducible refine (HWH.out _ (Bel.refl _)).mono ?_
          rintro e w5 ⟨rfl, hb5⟩
          have c0 := hb5.cell y0
          have HS : Hid (∀ w', Bel w5 w' → w'.cell? ⟨bb, off + j * 3, none⟩ = some (.int .u64 xa)) := Lib.hid (fun w' hb => hb.cell c0)
          have HD : Hid (Bel w5 w5.drew) := Lib.hid (Bel.refl w5).drew
          have H5 := Lib.hid hb5
          have q1 : (v1 != v1) = false := by simp
          have q2 : (v2 != v2) = false := by simp
          clear hb5 y0 y1 y2 HWH
          go_wp2
          go_region_held3 (fun w' => w'.cell? ⟨bb, off + j * 3, none⟩ = some (.int .u64 xa))
            (first | (with_reducible exact HS.out _ HD.out) | (with_reducible exact HS.out _ (HD.out.trans hg1)) | (with_reducible exact HS.out _ ((HD.out.trans hg1).trans hg2)) | (with_reducible exact HS.out _ (((HD.out.trans hg1).trans hg2).trans hg3)) | exact HS.out _ ((((HD.out.trans hg1).trans hg2).trans hg3).trans hg4))
            (first | (go_at_call 32; (with_reducible refine (KB.out _ (H5.out.trans HD.out)).mono ?_); rintro e w6 ⟨rfl, hg1⟩) | (go_at_call 35; (with_reducible refine (KLv.out _).mono ?_); rintro e w7 ⟨rfl, hg2⟩) | (go_at_call 32; (with_reducible refine (KB.out _ (((H5.out.trans HD.out).trans hg1).trans hg2)).mono ?_); rintro e w8 ⟨rfl, hg3⟩) | (go_at_call 36; (with_reducible refine (KSv.out _).mono ?_); rintro e w9 ⟨rfl, hg4⟩))
          have HB9 := Lib.hid (HBJ.out.trans (((((H5.out.trans HD.out).trans hg1).trans hg2).trans hg3).trans hg4))
          clear hg1 hg2 hg3 hg4 c0 KB KLv KSv
          go_wp2
          go_roundw
          case rel => exact ⟨j + 1, by go_num, by omega, HB9.out⟩
          case measure => simp [intOf]; omega
        · obtain rfl : j = n := by omega
          have b3 : ¬ (j : Int) < (j : Int) := by omega
          obtain ⟨Zc, hzc⟩ := bu_zp C (bu_le C HU4.out HBJ.out)
          have KC := Lib.hid (bu_count C hzc (bu_le C HU4.out HBJ.out) HEN.out)
          go_wp2_with fail
          with_reducible refine (KC.out).mono ?_
          rintro e w5 ⟨rfl, hb⟩
          have HE := Lib.hid (HB1.out.trans ((HU4.out.bel.trans HBJ.out).trans hb))
          clear hb
          go_wp2
          go_ret
          exact ⟨rfl, HE.out⟩
end Go.Proofs.YtdoceldofkaapaaGreatDoor
