/-
  The walk of HierwheelFew.
-/
import Derived.Test.YtdoceldofkaapaaGreatDoorXaz
set_option linter.unusedVariables false
set_option linter.unusedSimpArgs false
namespace Go.Proofs.YtdoceldofkaapaaGreatDoor
open Go.RowKit
theorem stK_pots (P b : Nat) (s kk : Int) (l : List T) (a : Ak) : stKh b s kk l a + (pots b (stB s a) (stL P l a) : Int) ≤ kk + (pots b s l : Int) + (if stE P l a = 0 ∧ (a.k = 0 ∨ a.k = 2) then 3 else 0) := by
  obtain ⟨k, t, now⟩ := a
  have hw : pots b s (wo l t.p) ≤ pots b s l := by unfold wo; exact pots_filter b s _ l
  have hp1 := pots_put b s l t
  have hp2 := pots_put b s (wo l t.p) t
  have hc := csc_pots b s now l
  by_cases h0 : k = 0
  · subst h0
    have e1 : stKh b s kk l ⟨0, t, now⟩ = kk := rfl
    have e2 : stB s ⟨0, t, now⟩ = s := rfl
    have e3 : stL P l ⟨0, t, now⟩ = insL P l t := rfl
    have e4 : stE P l ⟨0, t, now⟩ = insE P l t := rfl
    rw [e1, e2, e3, e4]
    unfold insL
    by_cases e : insE P l t = 0
    · rw [if_pos e, if_pos ⟨e, .inl rfl⟩]; omega
    · rw [if_neg e, if_neg (fun h => e h.1)]; omega
  · by_cases h1 : k = 1
    · subst h1
      have e1 : stKh b s kk l ⟨1, t, now⟩ = kk := rfl
      have e2 : stB s ⟨1, t, now⟩ = s := rfl
      have e3 : stL P l ⟨1, t, now⟩ = wo l t.p := rfl
      rw [e1, e2, e3]
      split <;> omega
    · by_cases h2 : k = 2
      · subst h2
        have e1 : stKh b s kk l ⟨2, t, now⟩ = kk := rfl
        have e2 : stB s ⟨2, t, now⟩ = s := rfl
        have e3 : stL P l ⟨2, t, now⟩ = movL P l t := rfl
        have e4 : stE P l ⟨2, t, now⟩ = canE P l t.p := rfl
        rw [e1, e2, e3, e4]
        unfold movL
        by_cases e : canE P l t.p = 0
        · rw [if_pos e, if_pos ⟨e, .inr rfl⟩]; omega
        · rw [if_neg e, if_neg (fun h => e h.1)]; omega
      · by_cases h3 : k = 3
        · subst h3
          have e1 : stKh b s kk l ⟨3, t, now⟩ = kk + (csc b s now l : Int) := rfl
          have e2 : stB s ⟨3, t, now⟩ = max s now := rfl
          have e3 : stL P l ⟨3, t, now⟩ = due l now false := rfl
          rw [e1, e2, e3]
          split <;> omega
        · have e1 : stKh b s kk l ⟨k, t, now⟩ = kk := by unfold stKh; simp [h3]
          have e2 : stB s ⟨k, t, now⟩ = s := by unfold stB; simp [h3]
          have e3 : stL P l ⟨k, t, now⟩ = l := by unfold stL; simp [h0, h1, h2, h3]
          rw [e1, e2, e3]
          split <;> omega
theorem stK_in (b : Nat) (s kk : Int) (l : List T) (a : Ak) (h : 0 ≤ kk) : 0 ≤ stKh b s kk l a := by
  unfold stKh
  split <;> omega
/-- A queue of new blocks, and how many were put in or moved. -/
structure Fw (Qu : QT) (w w' : World) (Q P b n : Nat) : Prop where
  ex : ∃ f s kk l, Qu f w' Q P b s kk l ∧ (∀ k, f k → w.heap.size ≤ k) ∧ kk + (pots b s l : Int) ≤ 3 * (n : Int) ∧ 0 ≤ kk
  bel : Bel w w'
theorem Fw.le {Qu : QT} (C : Con Qu) {w wr : World} {Q P b n : Nat} (h : Fw Qu w wr Q P b n) {w2 : World} (k : Bel wr w2) : Fw Qu w w2 Q P b n := by
  obtain ⟨⟨f, s, kk, l, h1, h2, h3⟩, h4⟩ := h
  exact ⟨⟨f, s, kk, l, C.bel h1 k, h2, h3⟩, h4.trans k⟩
theorem fw_do {Qu : QT} (C : Con Qu) {w wr : World} {Q P b n : Nat} (h : Fw Qu w wr Q P b n) (a : Ak) (ht : Tk a.t.a) (hn : Tk a.now) :
    Calls Tryz.prog 29 #[.pointer (some ⟨Q, 0, none⟩), akV a.k a.t a.now] wr fun e w' => ∃ (er : Int) (tt : T) (p : Option Addr) (m c : Nat), e = .returned (tdV er tt p m c) ∧ Fw Qu w w' Q P b (if er = 0 ∧ (a.k = 0 ∨ a.k = 2) then n + 1 else n) := by
  obtain ⟨⟨f, s, kk, l, h1, h2, h3, h4⟩, h5⟩ := h
  refine (do_any C f Q P b s kk l a wr h1 ht hn).mono fun e w' ⟨p, c, he, ⟨f', hf', hq', _⟩, ho⟩ => ⟨_, _, p, _, c, he, ⟨f', _, _, _, hq', fun k e => ?_, ?_, stK_in b s kk l a h4⟩, Off.trans h5 ho (fun i e => .inr (h2 i e))⟩
  · rcases hf' k e with e | e
    · exact h2 k e
    · exact Nat.le_trans h5.size e.1
  · have := stK_pots P b s kk l a
    split
    · rename_i hh
      rw [if_pos hh] at this
      push_cast
      omega
    · rename_i hh
      rw [if_neg hh] at this
      omega
theorem fw_casc {Qu : QT} (C : Con Qu) {w wr : World} {Q P b n : Nat} (hn6 : n ≤ 100000) (h : Fw Qu w wr Q P b n) :
    Calls Tryz.prog 33 #[.pointer (some ⟨Q, 0, none⟩)] wr fun e w' => ∃ kk : Int, e = .returned (.int .i64 kk) ∧ 0 ≤ kk ∧ kk ≤ 3 * (n : Int) ∧ Bel wr w' := by
  obtain ⟨⟨f, s, kk, l, h1, h2, h3, h4⟩, h5⟩ := h
  exact (C.cascades wr h1 h4 (by omega)).mono fun e w' ⟨he, hb⟩ => ⟨kk, he, h4, by omega, hb⟩
theorem few_long {Qu : QT} (C : Con Qu) (P bits s : Int) (pa : Option Addr) (N ca : Nat) (w : World) (hT : Bm.Tab w) (h : 60 < N) :
    Calls Tryz.prog 7 #[.int .i64 P, .int .i64 bits, .int .u64 s, .slice pa N ca] w fun e w' => e = .returned (.bool true) ∧ Bel w w' := by
  have K := Lib.hid (works_any C w hT)
  have h1 : (60 : Int) < (N : Int) := by omega
  go_enter Tryz.func7, Tryz.ntmps7
  go_wp2_with fail
  with_reducible refine K.out.mono ?_
  rintro e w1 ⟨rfl, hb⟩
  have HB1 := Lib.hid hb
  clear hb
  go_wp2
  go_ret
  exact ⟨rfl, HB1.out⟩
theorem few_no {Qu : QT} (C : Con Qu) (P bits s : Int) (pa : Option Addr) (N ca : Nat) (w : World) (hT : Bm.Tab w) (hN : N ≤ 60) (h : ¬ ((0 ≤ P ∧ P ≤ 1024) ∧ 1 ≤ bits ∧ bits ≤ 6)) :
    Calls Tryz.prog 7 #[.int .i64 P, .int .i64 bits, .int .u64 s, .slice pa N ca] w fun e w' => e = .returned (.bool true) ∧ Bel w w' := by
  have K := Lib.hid (works_any C w hT)
  have KN := Lib.hid (fun w' => C.qnew_no P bits s w' h)
  have h1 : ¬ (60 : Int) < (N : Int) := by omega
  clear h
  go_enter Tryz.func7, Tryz.ntmps7
  go_wp2_with fail
  with_reducible refine K.out.mono ?_
  rintro e w1 ⟨rfl, hb⟩
  have HB1 := Lib.hid hb
  clear hb
  go_wp2_with fail
  with_reducible refine (KN.out _).mono ?_
  rintro e w2 ⟨rfl, hb⟩
  have HB2 := Lib.hid (HB1.out.trans hb)
  clear hb
  go_wp2
  go_ret
  exact ⟨rfl, HB2.out⟩
set_option maxHeartbeats 4000000 in
set_option maxRecDepth 100000 in
theorem few_yes {Qu : QT} (C : Con Qu) (P b : Nat) (s : Int) (pa : Option Addr) (N ca : Nat) (al : List Ak) (w : World) (hT : Bm.Tab w) (hP : P ≤ 1024) (hb6 : 1 ≤ b ∧ b ≤ 6) (hs : Tk s) (hl : al.length = N) (hN : N ≤ 60) (hK : Aks al) (hA : Lies nof w pa (encK al)) :
    Calls Tryz.prog 7 #[.int .i64 P, .int .i64 b, .int .u64 s, .slice pa N ca] w fun e w' => e = .returned (.bool true) ∧ Bel w w' := by
  have K := Lib.hid (works_any C w hT)
  have KN := Lib.hid (fun w' (hb : Bel w w') => C.qnew_yes P b s w' hP hb6 hs (tab_bel hT hb))
  have h1 : ¬ (60 : Int) < (N : Int) := by omega
  have HA := Lib.hid hA
  have HL := Lib.hid hl
  have HK := Lib.hid hK
  clear hA hl hK hP hb6 hs
  go_enter Tryz.func7, Tryz.ntmps7
  go_wp2_with fail
  with_reducible refine K.out.mono ?_
  rintro e w1 ⟨rfl, hb⟩
  have HB1 := Lib.hid hb
  clear hb
  go_wp2_with fail
  with_reducible refine (KN.out _ HB1.out).mono ?_
  rintro e w2 ⟨Q, f, rfl, hq, hf, hb⟩
  have F0 : Hid (Fw Qu w w2 Q P b 0) := Lib.hid ⟨⟨f, s, 0, [], hq, fun k e => Nat.le_trans HB1.out.size (hf k e), by simp [pots], Int.le_refl _⟩, HB1.out.trans hb⟩
  clear hq hf hb K KN HB1
  go_wp2
  go_loopw [12, 13, 14] (fun n v _ wr => ∃ (m i : Nat), n = .int .i64 m ∧ v = .int .i64 i ∧ i ≤ N ∧ m ≤ i ∧ Fw Qu w wr Q P b m) (fun _ v _ _ => N - (intOf v).toNat)
  case atStart => exact ⟨0, 0, rfl, rfl, by omega, by omega, F0.out⟩
  case round =>
    obtain ⟨n, i, rfl, rfl, hi, hni, hfw⟩ := hrel
    have HF := Lib.hid hfw
    clear hfw F0
    by_cases h : i < N
    · obtain ⟨b1, off, rfl, _, hr⟩ := lies_ak HA.out (i := i) (by rw [HL.out]; exact h)
      obtain ⟨a, ha⟩ : ∃ a, al[i]? = some a := ⟨al[i]'(by rw [HL.out]; exact h), List.getElem?_eq_getElem _⟩
      have HC : Hid (∀ w', Bel w w' → w'.cell? ⟨b1, off + i * 5, none⟩ = some (.int .i64 a.k) ∧ w'.cell? ⟨b1, off + i * 5 + 1, none⟩ = some (.int .u64 a.t.a) ∧ w'.cell? ⟨b1, off + i * 5 + 2, none⟩ = some (.int .u64 a.t.s) ∧ w'.cell? ⟨b1, off + i * 5 + 3, none⟩ = some (.int .i64 a.t.p) ∧ w'.cell? ⟨b1, off + i * 5 + 4, none⟩ = some (.int .u64 a.now)) := Lib.hid (fun w' hb => row_ak (hr.off (f := nof) (fun e => e) hb) ha)
      obtain ⟨x0, x1, x2, x3, x4⟩ := HC.out _ HF.out.bel
      have KD := Lib.hid (fw_do C HF.out a (HK.out.at_ ha).1 (HK.out.at_ ha).2)
      unfold akV at KD
      have b2 : (i : Int) < (N : Int) := by omega
      clear hr ha HF
      generalize a.k = ak at *
      generalize a.t.a = aa at *
      generalize a.t.s = asq at *
      generalize a.t.p = ap at *
      generalize a.now = an at *
      go_wp2_with fail
      with_reducible refine (KD.out).mono ?_
      rintro e w3 ⟨er, tt, p3, n3, c3, rfl, hfw⟩
      have HB3 : Hid (Bel w3 (w3.alloc (.cells #[.int .i64 er, .int .u64 tt.a, .int .u64 tt.s, .int .i64 tt.p, .slice p3 n3 c3] 39))) := Lib.hid ((Bel.refl _).alloc _ _)
      have M3 := Lib.hid (heap_alloc_new w3 (.cells #[.int .i64 er, .int .u64 tt.a, .int .u64 tt.s, .int .i64 tt.p, .slice p3 n3 c3] 39))
      have HF3 := Lib.hid (hfw.le C HB3.out)
      clear hfw x0 x1 x2 x3 x4 KD HB3
      go_upto_region 14 with (fail)
      generalize w3.alloc (.cells #[.int .i64 er, .int .u64 tt.a, .int .u64 tt.s, .int .i64 tt.p, .slice p3 n3 c3] 39) = W3 at *
      generalize w3.heap.size = b14 at *
      obtain ⟨⟨y0, y1, y2, y3, y4⟩, _⟩ := box5 M3.out
      obtain ⟨x0, x1, x2, x3, x4⟩ := HC.out _ HF3.out.bel
      have DONE : ∀ (m : Nat), m ≤ i + 1 → Hid (Fw Qu w W3 Q P b m) → Hid (∃ kk : Int, True) := fun _ _ _ => Lib.hid ⟨0, trivial⟩
      clear DONE
      by_cases he : er = 0
      · have q0 : (er == 0) = true := by simpa using he
        by_cases k0 : ak = 0
        · have q1 : (ak == 0) = true := by simpa using k0
          have HF4 : Hid (Fw Qu w W3 Q P b (n + 1)) := Lib.hid (by have := HF3.out; rw [if_pos ⟨he, .inl k0⟩] at this; exact this)
          have KC := Lib.hid (fw_casc C (by omega) HF4.out)
          clear HF3 he k0
          go_wp2_with fail
          with_reducible refine (KC.out).mono ?_
          rintro e w5 ⟨kk, rfl, hk0, hk1, hb⟩
          have HF5 := Lib.hid (HF4.out.le C hb)
          have g3 : IntKind.i64.wrap (3 * ((n : Int) + 1)) = 3 * ((n : Int) + 1) := by rw [IntKind.wrap_i64]; omega
          have g4 : ¬ (3 * ((n : Int) + 1) < kk) := by push_cast at hk1; omega
          clear hb hk1 KC HF4
          go_wp2
          go_roundw
          case rel => exact ⟨n + 1, i + 1, by go_num, by go_num, by omega, by omega, HF5.out⟩
          case measure => simp [intOf]; omega
        · have q1 : (ak == 0) = false := by simpa using k0
          by_cases k2 : ak = 2
          · have q2 : (ak == 2) = true := by simpa using k2
            have HF4 : Hid (Fw Qu w W3 Q P b (n + 1)) := Lib.hid (by have := HF3.out; rw [if_pos ⟨he, .inr k2⟩] at this; exact this)
            have KC := Lib.hid (fw_casc C (by omega) HF4.out)
            clear HF3 he k0 k2
            go_wp2_with fail
            with_reducible refine (KC.out).mono ?_
            rintro e w5 ⟨kk, rfl, hk0, hk1, hb⟩
            have HF5 := Lib.hid (HF4.out.le C hb)
            have g3 : IntKind.i64.wrap (3 * ((n : Int) + 1)) = 3 * ((n : Int) + 1) := by rw [IntKind.wrap_i64]; omega
            have g4 : ¬ (3 * ((n : Int) + 1) < kk) := by push_cast at hk1; omega
            clear hb hk1 KC HF4
            go_wp2
            go_roundw
            case rel => exact ⟨n + 1, i + 1, by go_num, by go_num, by omega, by omega, HF5.out⟩
            case measure => simp [intOf]; omega
          · have q2 : (ak == 2) = false := by simpa using k2
            have HF4 : Hid (Fw Qu w W3 Q P b n) := Lib.hid (by have := HF3.out; rw [if_neg (by omega)] at this; exact this)
            have KC := Lib.hid (fw_casc C (by omega) HF4.out)
            clear HF3 he k0 k2
            go_wp2_with fail
            with_reducible refine (KC.out).mono ?_
            rintro e w5 ⟨kk, rfl, hk0, hk1, hb⟩
            have HF5 := Lib.hid (HF4.out.le C hb)
            have g3 : IntKind.i64.wrap (3 * (n : Int)) = 3 * (n : Int) := by rw [IntKind.wrap_i64]; omega
            have g4 : ¬ (3 * (n : Int) < kk) := by omega
            clear hb hk1 KC HF4
            go_wp2
            go_roundw
            case rel => exact ⟨n, i + 1, rfl, by go_num, by omega, by omega, HF5.out⟩
            case measure => simp [intOf]; omega
      · have q0 : (er == 0) = false := by simpa using he
        have HF4 : Hid (Fw Qu w W3 Q P b n) := Lib.hid (by have := HF3.out; rw [if_neg (fun h => he h.1)] at this; exact this)
        have KC := Lib.hid (fw_casc C (by omega) HF4.out)
        clear HF3 he
        go_wp2_with fail
        with_reducible refine (KC.out).mono ?_
        rintro e w5 ⟨kk, rfl, hk0, hk1, hb⟩
        have HF5 := Lib.hid (HF4.out.le C hb)
        have g3 : IntKind.i64.wrap (3 * (n : Int)) = 3 * (n : Int) := by rw [IntKind.wrap_i64]; omega
        have g4 : ¬ (3 * (n : Int) < kk) := by omega
        clear hb hk1 KC HF4
        go_wp2
        go_roundw
        case rel => exact ⟨n, i + 1, rfl, by go_num, by omega, by omega, HF5.out⟩
        case measure => simp [intOf]; omega
    · have b2 : ¬ (i : Int) < (N : Int) := by omega
      have KC := Lib.hid (fw_casc C (by omega) HF.out)
      go_wp2_with fail
      with_reducible refine (KC.out).mono ?_
      rintro e w5 ⟨kk, rfl, hk0, hk1, hb⟩
      have HE := Lib.hid (HF.out.bel.trans hb)
      clear hb hk1 KC HF
      go_wp2
      go_ret
      exact ⟨rfl, HE.out⟩
end Go.Proofs.YtdoceldofkaapaaGreatDoor
