/-
  Contract of the law's built: a queue behind acts.
  Contracts of the document's wheel: New and Do.
  Contract of the document's looked.
  Contract of the document's wheel's Do.
-/
import Derived.Test.YtdoceldofkaapaaGreatDoorAdo
import Derived.Test.YtdoceldofkaapaaGreatDoorXag
import Derived.Test.YtdoceldofkaapaaGreatDoorXbd
import Derived.BigQuiet
import Derived.OwnWalk
set_option linter.unusedVariables false
set_option linter.unusedSimpArgs false
set_option linter.unusedSectionVars false
namespace Go.Proofs.YtdoceldofkaapaaGreatDoor.Ha
open Go.RowKit
/-- The list and the base behind acts. -/
def pla (P : Nat) (al : List Ak) : List T := al.foldl (fun l a => stL P l a) []
def pba (s : Int) (al : List Ak) : Int := al.foldl (fun s a => stB s a) s
theorem pla_next (P : Nat) (al : List Ak) (m : Nat) (a : Ak) (h : al[m]? = some a) : pla P (al.take (m + 1)) = stL P (pla P (al.take m)) a := by
  obtain ⟨h1, h2⟩ := List.getElem?_eq_some_iff.1 h
  unfold pla
  rw [List.take_succ_eq_append_getElem h1, List.foldl_append, h2]
  rfl
theorem pba_next (s : Int) (al : List Ak) (m : Nat) (a : Ak) (h : al[m]? = some a) : pba s (al.take (m + 1)) = stB (pba s (al.take m)) a := by
  obtain ⟨h1, h2⟩ := List.getElem?_eq_some_iff.1 h
  unfold pba
  rw [List.take_succ_eq_append_getElem h1, List.foldl_append, h2]
  rfl
/-- Acts whose ticks are ticks. -/
def Aks (al : List Ak) : Prop := ∀ a ∈ al, Tk a.t.a ∧ Tk a.now
theorem Aks.at_ {al : List Ak} (h : Aks al) {m : Nat} {a : Ak} (ha : al[m]? = some a) : Tk a.t.a ∧ Tk a.now := h a (List.mem_of_getElem? ha)
/-- A queue of new blocks. -/
structure Bu (Qu : QT) (w w' : World) (Q P b : Nat) (s : Int) (l : List T) : Prop where
  ex : ∃ f kk, Qu f w' Q P b s kk l ∧ ∀ k, f k → w.heap.size ≤ k
  bel : Bel w w'
theorem bu_do {Qu : QT} (C : Con Qu) {w wr : World} {Q P b : Nat} {s : Int} {l : List T} (h : Bu Qu w wr Q P b s l) (a : Ak) (ht : Tk a.t.a) (hn : Tk a.now) :
    Calls Tryz.prog 15 #[.pointer (some ⟨Q, 0, none⟩), akV a.k a.t a.now] wr fun e w' => ∃ v, e = .returned v ∧ Bu Qu w w' Q P b (stB s a) (stL P l a) := by
  obtain ⟨⟨f, kk, h1, h2⟩, h3⟩ := h
  refine (do_any C f Q P b s kk l a wr h1 ht hn).mono fun e w' ⟨p, c, he, ⟨f', hf', hq', _⟩, ho⟩ => ⟨_, he, ⟨f', _, hq', fun k e => ?_⟩, Off.trans h3 ho (fun i e => .inr (h2 i e))⟩
  rcases hf' k e with e | e
  · exact h2 k e
  · exact Nat.le_trans h3.size e.1
section
variable {Qu : QT} (C : Con Qu) {w wr : World} {Q P b : Nat} {s : Int} {l : List T}
include C
theorem bu_le (h : Bu Qu w wr Q P b s l) {w2 : World} (k : Bel wr w2) : Bu Qu w w2 Q P b s l := by
  obtain ⟨⟨f, kk, h1, h2⟩, h3⟩ := h
  exact ⟨⟨f, kk, C.bel h1 k, h2⟩, h3.trans k⟩
theorem bu_len (h : Bu Qu w wr Q P b s l) : l.length ≤ 1024 := by
  obtain ⟨⟨f, kk, h1, h2⟩, h3⟩ := h
  exact Nat.le_trans (C.len h1) (C.hP h1)
theorem bu_so (h : Bu Qu w wr Q P b s l) : So l := by
  obtain ⟨⟨f, kk, h1, h2⟩, h3⟩ := h
  exact C.so h1
theorem bu_tk (h : Bu Qu w wr Q P b s l) : Tk s := by
  obtain ⟨⟨f, kk, h1, h2⟩, h3⟩ := h
  exact C.base h1
theorem bu_zp (h : Bu Qu w wr Q P b s l) : ∃ Z, wr.cell? ⟨Q, 0, none⟩ = some (.pointer (some ⟨Z, 0, none⟩)) := by
  obtain ⟨⟨f, kk, h1, h2⟩, h3⟩ := h
  exact C.zp h1
theorem bu_count {Z : Nat} (hz : wr.cell? ⟨Q, 0, none⟩ = some (.pointer (some ⟨Z, 0, none⟩))) (h : Bu Qu w wr Q P b s l) {n : Nat} (e : l.length = n) : Calls Tryz.prog 18 #[.pointer (some ⟨Z, 0, none⟩)] wr fun e w2 => e = .returned (.int .i64 n) ∧ Bel wr w2 := by
  subst e
  obtain ⟨⟨f, kk, h1, h2⟩, h3⟩ := h
  exact C.count wr h1 hz
theorem bu_based (h : Bu Qu w wr Q P b s l) : Calls Tryz.prog 16 #[.pointer (some ⟨Q, 0, none⟩)] wr fun e w2 => e = .returned (.int .u64 s) ∧ Bel wr w2 := by
  obtain ⟨⟨f, kk, h1, h2⟩, h3⟩ := h
  exact C.based wr h1
theorem bu_all {Z : Nat} (hz : wr.cell? ⟨Q, 0, none⟩ = some (.pointer (some ⟨Z, 0, none⟩))) (h : Bu Qu w wr Q P b s l) {n : Nat} (e : l.length = n) : Calls Tryz.prog 24 #[.pointer (some ⟨Z, 0, none⟩)] wr fun e w2 => ∃ p c, e = .returned (.slice p n c) ∧ Has w2 p l ∧ Bel wr w2 := by
  subst e
  obtain ⟨⟨f, kk, h1, h2⟩, h3⟩ := h
  exact (C.all wr h1 hz).mono fun e w2 ⟨p, c, he, hc, hl, hb⟩ => ⟨p, c, he, hl.has, hb⟩
end
end Go.Proofs.YtdoceldofkaapaaGreatDoor.Ha
namespace Go.Proofs.YtdoceldofkaapaaGreatDoor.Ha
open Go.RowKit
/-- A wheel, as a value. -/
abbrev whV (P : Int) (p : Option Addr) (n c : Nat) (b s lk : Int) : Value := .agg #[.int .i64 P, .slice p n c, .int .i64 b, .int .u64 s, .int .i64 lk]
theorem wnew_no (P bits base : Int) (w : World) (h : ¬ ((0 ≤ P ∧ P ≤ 1024) ∧ 1 ≤ bits ∧ bits ≤ 6)) :
    Calls Tryz.prog 12 #[.int .i64 P, .int .i64 bits, .int .u64 base] w fun e w' => e = .returned (.tuple #[whV 0 none 0 0 0 0 0, .int .i64 1]) ∧ Bel w w' := by
  have HB0 : Hid (Bel w (w.alloc (.cells #[.int .i64 0, .slice none 0 0, .int .i64 0, .int .u64 0, .int .i64 0] 33))) := Lib.hid ((Bel.refl _).alloc _ _)
  have HN0 : Hid ((w.alloc (.cells #[.int .i64 0, .slice none 0 0, .int .i64 0, .int .u64 0, .int .i64 0] 33)).heap[w.heap.size]? = some (.cells #[.int .i64 0, .slice none 0 0, .int .i64 0, .int .u64 0, .int .i64 0] 33 (0, 0))) := Lib.hid (heap_alloc_new _ _)
  have KY := Lib.hid (fun w' (h : 0 ≤ P ∧ P ≤ 1024) => dnew_yes P w' h)
  have KN := Lib.hid (fun w' (h : ¬ (0 ≤ P ∧ P ≤ 1024)) => dnew_no P w' h)
  have key : ∀ (wz W : World) (hb : Bel W wz) (hB : Bel w W) (b : Nat) (hbz : w.heap.size ≤ b), Bel w (sto5 wz b (.int .i64 0) (.slice none 0 0) (.int .i64 0) (.int .u64 0) (.int .i64 0)) := fun wz W hb hB b hbz => Off.trans (hB.trans hb) (offs5 wz b _ _ _ _ _) (fun i e => .inr (by have : i = b := e; omega))
  by_cases hP : 0 ≤ P ∧ P ≤ 1024
  · have hbits : bits < 1 ∨ ¬ bits < 1 ∧ 6 < bits := by omega
    clear h
    rcases hbits with h1 | ⟨h1, h2⟩
    all_goals
      go_enter Tryz.func12, Tryz.ntmps12
      go_upto_region 1 with (fail)
      obtain ⟨b6, e6⟩ : ∃ b, w.heap.size = b := ⟨_, rfl⟩
      have KEY := Lib.hid key
      rw [e6] at HN0 KEY ⊢
      clear e6 key
      generalize w.alloc (.cells #[.int .i64 0, .slice none 0 0, .int .i64 0, .int .u64 0, .int .i64 0] 33) = W at *
      go_wp2_with fail
      with_reducible refine (KY.out _ hP).mono ?_
      rintro e w1 ⟨rfl, hb⟩
      have HB1 := Lib.hid (hb.alloc #[.int .i64 P, .slice none 0 0] 31)
      clear hb
      go_upto_region 2 with (fail)
      generalize w1.alloc (.cells #[.int .i64 P, .slice none 0 0] 31) = W1 at *
      obtain ⟨⟨y0, y1, y2, y3, y4⟩, f0, f1, f2, f3, f4⟩ := box5 (HB1.out.heap HN0.out)
      have HE := Lib.hid (KEY.out W1 W HB1.out HB0.out b6 (Nat.le_refl _))
      go_wp2
      exact bodyPost_ret (v := .tuple #[whV 0 none 0 0 0 0 0, .int .i64 1]) (by simp [results, Tryz.results12, go_sem, y0, y1, y2, y3, y4]) rfl ⟨rfl, HE.out⟩
  · clear h
    go_enter Tryz.func12, Tryz.ntmps12
    go_upto_region 1 with (fail)
    obtain ⟨b6, e6⟩ : ∃ b, w.heap.size = b := ⟨_, rfl⟩
    have KEY := Lib.hid key
    rw [e6] at HN0 KEY ⊢
    clear e6 key
    generalize w.alloc (.cells #[.int .i64 0, .slice none 0 0, .int .i64 0, .int .u64 0, .int .i64 0] 33) = W at *
    go_wp2_with fail
    with_reducible refine (KN.out _ hP).mono ?_
    rintro e w1 ⟨rfl, hb⟩
    have HB1 := Lib.hid (hb.alloc #[.int .i64 0, .slice none 0 0] 31)
    clear hb
    go_upto_region 2 with (fail)
    generalize w1.alloc (.cells #[.int .i64 0, .slice none 0 0] 31) = W1 at *
    obtain ⟨⟨y0, y1, y2, y3, y4⟩, f0, f1, f2, f3, f4⟩ := box5 (HB1.out.heap HN0.out)
    have HE := Lib.hid (KEY.out W1 W HB1.out HB0.out b6 (Nat.le_refl _))
    go_wp2
    exact bodyPost_ret (v := .tuple #[whV 0 none 0 0 0 0 0, .int .i64 1]) (by simp [results, Tryz.results12, go_sem, y0, y1, y2, y3, y4]) rfl ⟨rfl, HE.out⟩
theorem wnew_yes (P bits base : Int) (w : World) (h : (0 ≤ P ∧ P ≤ 1024) ∧ 1 ≤ bits ∧ bits ≤ 6) :
    Calls Tryz.prog 12 #[.int .i64 P, .int .i64 bits, .int .u64 base] w fun e w' => e = .returned (.tuple #[whV P none 0 0 bits base 0, .int .i64 0]) ∧ Bel w w' := by
  have HB0 : Hid (Bel w (w.alloc (.cells #[.int .i64 0, .slice none 0 0, .int .i64 0, .int .u64 0, .int .i64 0] 33))) := Lib.hid ((Bel.refl _).alloc _ _)
  have HN0 : Hid ((w.alloc (.cells #[.int .i64 0, .slice none 0 0, .int .i64 0, .int .u64 0, .int .i64 0] 33)).heap[w.heap.size]? = some (.cells #[.int .i64 0, .slice none 0 0, .int .i64 0, .int .u64 0, .int .i64 0] 33 (0, 0))) := Lib.hid (heap_alloc_new _ _)
  have KY := Lib.hid (fun w' => dnew_yes P w' h.1)
  have h1 : ¬ bits < 1 := by omega
  have h2 : ¬ 6 < bits := by omega
  have key : ∀ (wz W : World) (hb : Bel W wz) (hB : Bel w W) (b : Nat) (hbz : w.heap.size ≤ b), Bel w (sto5 wz b (.int .i64 P) (.slice none 0 0) (.int .i64 bits) (.int .u64 base) (.int .i64 0)) := fun wz W hb hB b hbz => Off.trans (hB.trans hb) (offs5 wz b _ _ _ _ _) (fun i e => .inr (by have : i = b := e; omega))
  clear h
  go_enter Tryz.func12, Tryz.ntmps12
  go_upto_region 1 with (fail)
  obtain ⟨b6, e6⟩ : ∃ b, w.heap.size = b := ⟨_, rfl⟩
  have KEY := Lib.hid key
  rw [e6] at HN0 KEY ⊢
  clear e6 key
  generalize w.alloc (.cells #[.int .i64 0, .slice none 0 0, .int .i64 0, .int .u64 0, .int .i64 0] 33) = W at *
  go_wp2_with fail
  with_reducible refine (KY.out _).mono ?_
  rintro e w1 ⟨rfl, hb⟩
  have HB1 := Lib.hid (hb.alloc #[.int .i64 P, .slice none 0 0] 31)
  have HM := Lib.hid (heap_alloc_new w1 (.cells #[.int .i64 P, .slice none 0 0] 31))
  clear hb
  go_upto_region 2 with (fail)
  generalize w1.alloc (.cells #[.int .i64 P, .slice none 0 0] 31) = W1 at *
  obtain ⟨⟨m0, m1⟩, _⟩ := box2 HM.out
  obtain ⟨⟨y0, y1, y2, y3, y4⟩, f0, f1, f2, f3, f4⟩ := box5 (HB1.out.heap HN0.out)
  have HE := Lib.hid (KEY.out W1 W HB1.out HB0.out b6 (Nat.le_refl _))
  go_wp2
  exact bodyPost_ret (v := .tuple #[whV P none 0 0 bits base 0, .int .i64 0]) (by simp [results, Tryz.results12, go_sem, y0, y1, y2, y3, y4]) rfl ⟨rfl, HE.out⟩
end Go.Proofs.YtdoceldofkaapaaGreatDoor.Ha
namespace Go.Proofs.YtdoceldofkaapaaGreatDoor.Ha
open Go.RowKit
set_option maxHeartbeats 2000000 in
set_option maxRecDepth 100000 in
theorem rlooked_any (P : Int) (b : Nat) (s lk now : Int) (p : Option Addr) (n c : Nat) (l : List T) (w : World) (hb : b ≤ 6) (hs : Tk s) (hw : Tk now) (hn : l.length = n) (hm : n ≤ 5000) (ht : ∀ t ∈ l, Tk t.a) (hl : Has w p l) :
    Calls Tryz.prog 46 #[.agg #[.int .i64 P, .slice p n c, .int .i64 b, .int .u64 s, .int .i64 lk], .int .u64 now] w fun e w' => e = .returned (.int .i64 (lks (slo b) s now l)) ∧ Bel w w' := by
  have HB0 : Hid (Bel w (w.alloc (.cells #[.int .i64 P, .slice p n c, .int .i64 b, .int .u64 s, .int .i64 lk] 33))) := Lib.hid ((Bel.refl _).alloc _ _)
  have HN0 : Hid ((w.alloc (.cells #[.int .i64 P, .slice p n c, .int .i64 b, .int .u64 s, .int .i64 lk] 33)).heap[w.heap.size]? = some (.cells #[.int .i64 P, .slice p n c, .int .i64 b, .int .u64 s, .int .i64 lk] 33 (0, 0))) := Lib.hid (heap_alloc_new _ _)
  have HL : Hid (Has (w.alloc (.cells #[.int .i64 P, .slice p n c, .int .i64 b, .int .u64 s, .int .i64 lk] 33)) p l) := Lib.hid (hl.bel HB0.out)
  have HN := Lib.hid hn
  have HT := Lib.hid ht
  have K := Lib.hid (fun w' => slots_any b hb w')
  obtain ⟨i4, hi4, hz0, hz1, hz2⟩ := info_parts info4
  have HI4 := Lib.hid hi4
  have HZ0 := Lib.hid hz0
  have HZ1 := Lib.hid hz1
  have HZ2 := Lib.hid hz2
  have hS := slo_le hb
  clear hi4 hz0 hz1 hz2 hl hn ht hb
  by_cases h0 : now ≤ s
  · rw [lks_past h0]
    go_enter Tryz.func46, Tryz.ntmps46
    go_upto_region 1 with (fail)
    generalize w.alloc (.cells #[.int .i64 P, .slice p n c, .int .i64 b, .int .u64 s, .int .i64 lk] 33) = W at *
    obtain ⟨⟨y0, y1, y2, y3, y4⟩, _⟩ := box5 HN0.out
    go_wp2
    go_ret
    exact ⟨rfl, HB0.out⟩
  · have HE : Hid (lks (slo b) s now l = (mks (slo b) s now l).countP fun b => b) := Lib.hid (by unfold lks; rw [if_neg h0])
    unfold Tk at hs hw
    obtain ⟨mo, emo⟩ : ∃ m, now - s = m := ⟨_, rfl⟩
    have hmo : IntKind.u64.wrap (now - s) = mo := by rw [emo, IntKind.wrap_u64]; omega
    generalize slo b = S at *
    have hwS : IntKind.i64.wrap (S : Int) = (S : Int) := i64_in _ (by omega) (by omega)
    go_enter Tryz.func46, Tryz.ntmps46
    go_upto_region 1 with (fail)
    generalize w.alloc (.cells #[.int .i64 P, .slice p n c, .int .i64 b, .int .u64 s, .int .i64 lk] 33) = W at *
    generalize w.heap.size = b2 at *
    obtain ⟨⟨y0, y1, y2, y3, y4⟩, _⟩ := box5 HN0.out
    go_wp2
    go_quiet ((go_at_call 83; exact Calls.quiet_of_same ((K.out _).mono (fun _ _ h => ⟨h.1, h.2.symm⟩))))
    have HBq : Hid (Bel W (W.drewN nq)) := Lib.hid ((Bel.refl W).drewN nq)
    generalize W.drewN nq = V at *
    have hMW : W.heap.size ≤ V.heap.size := HBq.out.size
    go_wp2_with (refine wpList_make_full _ rfl (.tmp 24) (.tmp 24) 140 rfl 0 4 i4 (.bool false) 1 Tryz.underlying140 HI4.out HZ0.out HZ1.out .i64 .i64 (S : Int) (S : Int) S rfl rfl rfl rfl (by rw [HZ2.out]; omega) (by unfold maxLen; omega) (Nat.zero_le _) ?_)
    intro w1 hown hgrow
    have HM0 := Lib.hid (made_marks hown)
    have HB1 : Hid (Bel V w1) := Lib.hid (Off.grown (Off.refl nof _) hgrow (fun _ e => by cases e))
    generalize V.heap.size = M at *
    have HBw : Hid (Bel W w1) := Lib.hid (HBq.out.trans HB1.out)
    rw [← mks_nil S s now] at HM0
    clear hown hgrow HB1 HBq y0 y1 y2 y3 y4
    go_wp2
    go_loopw [8, 9] (fun v _ wr => ∃ m : Nat, v = .int .i64 m ∧ m ≤ n ∧ Marks wr M (mks S s now (l.take m)) ∧ Bel W wr) (fun v _ _ => n - (intOf v).toNat)
    case atStart => exact ⟨0, rfl, Nat.zero_le _, HM0.out, HBw.out⟩
    case round =>
      clear HM0 HBw
      obtain ⟨m, rfl, hmn, hmk, hb⟩ := hrel
      have HMK := Lib.hid hmk
      have HBr := Lib.hid hb
      obtain ⟨⟨y0, y1, y2, y3, y4⟩, _⟩ := box5 (hb.heap HN0.out)
      clear hmk hb
      by_cases h : m < n
      · obtain ⟨x, hx⟩ : ∃ x, l.getD m default = x := ⟨_, rfl⟩
        have hxm : x ∈ l := by
          rw [← hx, List.getD_eq_getElem?_getD, List.getElem?_eq_getElem (by rw [HN.out]; exact h)]
          exact List.getElem_mem _
        have hxt := HT.out x hxm
        unfold Tk at hxt
        obtain ⟨b1, off, rfl, hr⟩ := HL.out.row (by have := HN.out; omega)
        have cx := (hr.bel HBr.out) m (by have := HN.out; omega)
        rw [hx] at cx
        obtain ⟨x0, _, _⟩ := cx
        have HSN := Lib.hid (take_snoc l m (by rw [HN.out]; exact h))
        rw [hx] at HSN
        have HMS := Lib.hid (mks_snoc S s now (l.take m) x)
        have b3 : (m : Int) < (n : Int) := by omega
        have hS0 : ¬ (S : Int) = 0 := by omega
        clear hr hx hxm
        by_cases hx1 : s < x.a
        · obtain ⟨d1, e1⟩ : ∃ d, x.a - s = d := ⟨_, rfl⟩
          have hw1 : IntKind.u64.wrap (x.a - s) = d1 := by rw [e1, IntKind.wrap_u64]; omega
          obtain ⟨d2, e2⟩ : ∃ d, d1 - 1 = d := ⟨_, rfl⟩
          have hw2 : IntKind.u64.wrap (d1 - 1) = d2 := by rw [e2, IntKind.wrap_u64]; omega
          obtain ⟨r, er⟩ : ∃ r, d2.tmod (S : Int) = r := ⟨_, rfl⟩
          have HH : Hid (hit S s now x = decide (r < mo)) := Lib.hid (by
            unfold hit
            rw [decide_eq_true hx1, Bool.true_and, emo, show x.a - s - 1 = d2 from by omega, ← er, Int.tmod_eq_emod_of_nonneg (by omega)])
          obtain ⟨k, ek⟩ : ∃ k : Nat, x.a.tmod (S : Int) = k := ⟨slt S x, by
            unfold slt
            rw [Int.tmod_eq_emod_of_nonneg hxt.1, Int.toNat_of_nonneg (Int.emod_nonneg _ (by omega))]⟩
          have hk : slt S x = k := by
            unfold slt
            rw [← Int.tmod_eq_emod_of_nonneg hxt.1, ek]
            exact Int.toNat_natCast k
          have hkS : k < S := by rw [← hk]; exact slt_lt (by omega) x
          have hwk : IntKind.i64.wrap (k : Int) = (k : Int) := i64_in _ (by omega) (by omega)
          have hkI : (k : Int) < (S : Int) := by omega
          rw [hk] at HMS
          have HKl : Hid (k < (mks S s now (l.take m)).length) := Lib.hid (by rw [mks_len]; exact hkS)
          obtain ⟨bb, hbb⟩ : ∃ bb, (mks S s now (l.take m))[k]? = some bb := ⟨_, List.getElem?_eq_getElem HKl.out⟩
          obtain ⟨mg, mf⟩ := marks_get HMK.out hbb
          have HSet := Lib.hid (marks_set HMK.out k)
          clear hbb HKl
          generalize x.a = xa at *
          by_cases hlt : r < mo
          · have HM2 : Hid (Marks (wr.setCell ⟨M, k, none⟩ (.bool true)) M (mks S s now (l.take (m + 1)))) := Lib.hid (by
              rw [HSN.out, HMS.out, HH.out, decide_eq_true hlt, if_pos rfl]
              exact HSet.out.1)
            have HB2 : Hid (Bel W (wr.setCell ⟨M, k, none⟩ (.bool true))) := Lib.hid (Off.trans HBr.out HSet.out.2 (fun i e => .inr (by have : i = M := e; omega)))
            clear HH HMS HSN HSet hk
            go_wp2
            go_roundw
            case rel => exact ⟨m + 1, by go_num, by omega, HM2.out, HB2.out⟩
            case measure => simp [intOf]; omega
          · have HM2 : Hid (Marks wr M (mks S s now (l.take (m + 1)))) := Lib.hid (by
              rw [HSN.out, HMS.out, HH.out, decide_eq_false hlt, if_neg (by simp)]
              exact HMK.out)
            clear HH HMS HSN HSet hk
            go_wp2
            go_roundw
            case rel => exact ⟨m + 1, by go_num, by omega, HM2.out, HBr.out⟩
            case measure => simp [intOf]; omega
        · have HM2 : Hid (Marks wr M (mks S s now (l.take (m + 1)))) := Lib.hid (by
            rw [HSN.out, HMS.out, if_neg (by unfold hit; rw [decide_eq_false hx1]; simp)]
            exact HMK.out)
          clear HMS HSN
          generalize x.a = xa at *
          go_wp2
          go_roundw
          case rel => exact ⟨m + 1, by go_num, by omega, HM2.out, HBr.out⟩
          case measure => simp [intOf]; omega
      · obtain rfl : m = n := by omega
        rw [List.take_of_length_le (by rw [HN.out]; exact Nat.le_refl _)] at HMK
        have HBE : Hid (Bel w wr) := Lib.hid (HB0.out.trans HBr.out)
        have HLen := Lib.hid (mks_len S s now l)
        generalize mks S s now l = bs at *
        have b3 : ¬ (m : Int) < (m : Int) := by omega
        clear HN hmn h
        go_wp2
        go_loopw [10, 11] (fun v i wz => ∃ j : Nat, v = .int .i64 ((bs.take j).countP fun b => b : Nat) ∧ i = .int .i64 j ∧ j ≤ S ∧ wz = wr) (fun _ i _ => S - (intOf i).toNat)
        case atStart => exact ⟨0, rfl, rfl, Nat.zero_le _, by trivial⟩
        case round =>
          obtain ⟨j, rfl, rfl, hj, rfl⟩ := hrel
          by_cases h2 : j < S
          · obtain ⟨bb, hbb⟩ : ∃ bb, bs[j]? = some bb := ⟨_, List.getElem?_eq_getElem (by rw [HLen.out]; exact h2)⟩
            obtain ⟨mg, mf⟩ := marks_get HMK.out hbb
            have b4 : (j : Int) < (S : Int) := by omega
            have hcl : (bs.take j).countP (fun b => b) ≤ j := Nat.le_trans List.countP_le_length (by simp; omega)
            have HC : Hid ((bs.take (j + 1)).countP (fun b => b) = (bs.take j).countP (fun b => b) + (if bb = true then 1 else 0)) := Lib.hid (by
              obtain ⟨g1, g2⟩ := List.getElem?_eq_some_iff.1 hbb
              rw [List.take_succ_eq_append_getElem g1, List.countP_append, g2]
              simp [List.countP_cons])
            clear hbb
            generalize (bs.take j).countP (fun b => b) = cc at *
            cases bb with
            | true =>
              have HC2 : Hid ((bs.take (j + 1)).countP (fun b => b) = cc + 1) := Lib.hid (by rw [HC.out, if_pos rfl])
              go_wp2
              go_roundw
              case rel => exact ⟨j + 1, by rw [HC2.out]; go_num, by go_num, by omega, by trivial⟩
              case measure => simp [intOf]; omega
            | false =>
              have HC2 : Hid ((bs.take (j + 1)).countP (fun b => b) = cc) := Lib.hid (by rw [HC.out]; simp)
              go_wp2
              go_roundw
              case rel => exact ⟨j + 1, by rw [HC2.out], by go_num, by omega, by trivial⟩
              case measure => simp [intOf]; omega
          · obtain rfl : j = S := by omega
            have hE : (bs.take j).countP (fun b => b) = lks j s now l := by rw [HE.out, List.take_of_length_le (by rw [HLen.out]; exact Nat.le_refl _)]
            rw [hE]
            have b4 : ¬ (j : Int) < (j : Int) := by omega
            go_wp2
            go_ret
            exact ⟨rfl, HBE.out⟩
end Go.Proofs.YtdoceldofkaapaaGreatDoor.Ha
namespace Go.Proofs.YtdoceldofkaapaaGreatDoor.Ha
open Go.RowKit
theorem off10 (w : World) (S U : Nat) (a b c d e x y z u v : Value) : Off (fun k => k = S ∨ k = U) w (sto5 (sto5 w S a b c d e) U x y z u v) :=
  Off.then ((offs5 w S a b c d e).mono (fun _ _ e => .inl e)) ((offs5 _ U x y z u v).mono (fun _ _ e => .inr e))
set_option maxHeartbeats 4000000 in
set_option maxRecDepth 100000 in
theorem wdo_any (f : Nat → Prop) (P b : Nat) (s lk : Int) (p : Option Addr) (c : Nat) (l : List T) (a : Ak) (w : World) (hb6 : b ≤ 6) (hs : Tk s) (hnw : Tk a.now) (ht : ∀ t ∈ l, Tk t.a) (hm : l.length ≤ 5000) (hf : ∀ j, f j → j < w.heap.size) (hc : l.length ≤ c) (hl : Lies f w p (encs l)) (hin : ∀ t ∈ l, hp P t.p = true) :
    Calls Tryz.prog 13 #[whV P p l.length c b s lk, akV a.k a.t a.now] w fun e w' => ∃ p' c' q k', e = .returned (.tuple #[whV P p' (stL P l a).length c' b (stB s a) (stK b s lk l a), tdV (stE P l a) (stT l a) q (stD l a).length k']) ∧ DidD f w w' p' c' (stL P l a) q (stD l a) := by
  have H4 := Lib.hid (four_new w #[.int .i64 P, .slice p l.length c, .int .i64 b, .int .u64 s, .int .i64 lk] #[.int .i64 a.k, .int .u64 a.t.a, .int .u64 a.t.s, .int .i64 a.t.p, .int .u64 a.now] #[.int .i64 0, .slice none 0 0, .int .i64 0, .int .u64 0, .int .i64 0] #[.int .i64 0, .int .u64 0, .int .u64 0, .int .i64 0, .slice none 0 0] 33 43 33 39)
  have HL := Lib.hid hl
  have HF := Lib.hid hf
  have K := Lib.hid (fun (F : Nat → Prop) w' (hf : ∀ j, F j → j < w'.heap.size) (hl : Lies F w' p (encs l)) => ddo_any F P p c l a w' hm hf hc hl hin)
  have KL := Lib.hid (fun w' (h : Has w' p l) => rlooked_any P b s lk a.now p l.length c l w' hb6 hs hnw rfl hm ht h)
  unfold stB stK
  generalize stE P l a = er at *
  generalize stT l a = tt at *
  generalize stD l a = D at *
  generalize stL P l a = L at *
  obtain ⟨n, en⟩ : ∃ n, l.length = n := ⟨_, rfl⟩
  rw [en] at H4 KL K ⊢
  obtain ⟨ky, eky⟩ : ∃ k, lks (slo b) s a.now l = k := ⟨_, rfl⟩
  rw [eky] at KL ⊢
  clear hl hf hc hin hm ht hnw hs en eky hb6
  unfold akV tdV at *
  generalize a.k = ak at *
  generalize a.t.a = aa at *
  generalize a.t.s = asq at *
  generalize a.t.p = ap at *
  generalize a.now = an at *
  go_enter Tryz.func13, Tryz.ntmps13
  go_upto_region 1 with (fail)
  obtain ⟨W, eW, hB, hz, n0, n1, n2, n3⟩ := H4.out
  rw [eW]
  clear H4 eW
  obtain ⟨b0, e0⟩ : ∃ b, w.heap.size = b := ⟨_, rfl⟩
  obtain ⟨b1, e1⟩ : ∃ b, w.heap.size + 1 = b := ⟨_, rfl⟩
  rw [e1] at n1 n2 n3 hz ⊢
  obtain ⟨b2, e2⟩ : ∃ b, b1 + 1 = b := ⟨_, rfl⟩
  rw [e2] at n2 n3 hz ⊢
  obtain ⟨b3, e3⟩ : ∃ b, b2 + 1 = b := ⟨_, rfl⟩
  rw [e3] at n3 hz ⊢
  have hS : w.heap.size ≤ b2 ∧ b2 < W.heap.size := by omega
  have hU : w.heap.size ≤ b3 ∧ b3 < W.heap.size := by omega
  have l01 : b0 < W.heap.size ∧ b1 < W.heap.size := by omega
  have n23 : ¬ b2 = b3 := by omega
  have n32 : ¬ b3 = b2 := by omega
  rw [e0] at n0 ⊢
  obtain ⟨⟨q0, q1, q2, q3, q4⟩, _⟩ := box5 n0
  obtain ⟨⟨x0, x1, x2, x3, x4⟩, _⟩ := box5 n1
  have HB := Lib.hid hB
  have HN0 := Lib.hid n0
  have HN1 := Lib.hid n1
  have HN2 := Lib.hid n2
  have HN3 := Lib.hid n3
  have HW := Lib.hid (HL.out.wide hB)
  have HG : Hid (∀ j, (f j ∨ w.heap.size ≤ j ∧ j < W.heap.size) → j < W.heap.size) := Lib.hid (fun j e => by rcases e with e | e; exact Nat.lt_of_lt_of_le (HF.out j e) hB.size; exact e.2)
  clear hB n0 n1 n2 n3 e1 e2 e3 hz e0
  go_wp2_with fail
  with_reducible refine (K.out _ _ HG.out HW.out).mono ?_
  rintro e w1 ⟨p1, c1, q1', k1, rfl, hd, hh⟩
  have H2 := Lib.hid (two_new w1 #[.int .i64 P, .slice p1 L.length c1] #[.int .i64 er, .int .u64 tt.a, .int .u64 tt.s, .int .i64 tt.p, .slice q1' D.length k1] 31 39)
  have HD1 := Lib.hid hd
  have HH1 := Lib.hid hh
  clear hd hh q0 q1 q2 q3 q4 x0 x1 x2 x3 x4 K
  go_upto_region 2 with (fail)
  obtain ⟨W3, eW3, hB3, hz3, m6, m7⟩ := H2.out
  rw [eW3]
  clear H2 eW3
  obtain ⟨b7, e7⟩ : ∃ b, w1.heap.size + 1 = b := ⟨_, rfl⟩
  rw [e7] at m7 hz3 ⊢
  obtain ⟨b6, e6⟩ : ∃ b, w1.heap.size = b := ⟨_, rfl⟩
  rw [e6] at m6 ⊢
  have hz1 := HD1.out.bel.size
  have hBW3 : Bel W W3 := HD1.out.bel.trans hB3
  obtain ⟨⟨r0, r1⟩, _⟩ := box2 m6
  obtain ⟨⟨q0, q1, q2, q3, q4⟩, _⟩ := box5 (hBW3.heap HN0.out)
  have HB4 : Hid (Bel W3 (W3.alloc (.cells #[.int .i64 P, .slice p1 L.length c1, .int .i64 b, .int .u64 s, .int .i64 lk] 33))) := Lib.hid ((Bel.refl _).alloc _ _)
  have M8 := Lib.hid (heap_alloc_new W3 (.cells #[.int .i64 P, .slice p1 L.length c1, .int .i64 b, .int .u64 s, .int .i64 lk] 33))
  have M7 := Lib.hid (HB4.out.heap m7)
  have HBW4 := Lib.hid (hBW3.trans HB4.out)
  have HB14 := Lib.hid (hB3.trans HB4.out)
  have l7 : b7 < W3.heap.size := by omega
  have l8 : w1.heap.size ≤ W3.heap.size := by omega
  clear m6 m7 hBW3 hB3
  go_upto_region 3 with (fail)
  obtain ⟨b8, e8⟩ : ∃ b, b7 + 1 = b := ⟨_, rfl⟩
  rw [hz3, e8] at M8 l7 l8
  rw [e8]
  generalize W3.alloc (.cells #[.int .i64 P, .slice p1 L.length c1, .int .i64 b, .int .u64 s, .int .i64 lk] 33) = W4 at *
  have n28 : ¬ b2 = b8 := by omega
  have n82 : ¬ b8 = b2 := by omega
  have n38 : ¬ b3 = b8 := by omega
  have n83 : ¬ b8 = b3 := by omega
  have n27 : ¬ b2 = b7 := by omega
  have n72 : ¬ b7 = b2 := by omega
  have n37 : ¬ b3 = b7 := by omega
  have n73 : ¬ b7 = b3 := by omega
  have n08 : ¬ b0 = b8 := by omega
  have n18 : ¬ b1 = b8 := by omega
  have n78 : ¬ b7 = b8 := by omega
  have HFin : Hid (∀ Wz wz, Bel w1 Wz → Off (fun k => k = b2 ∨ k = b3) Wz wz → DidD f w wz p1 c1 L q1' D) := Lib.hid (fun Wz wz hb ho => by
    have hd : DocOut (fun j => f j ∨ w.heap.size ≤ j ∧ j < W.heap.size) W Wz p1 c1 L := ⟨HD1.out.hc, HD1.out.lies.bel hb, HD1.out.bel.trans hb⟩
    refine ⟨DidD.mk2 HB.out hd ho hS hU, ?_⟩
    exact ((HH1.out.bel hb).off (ho.mono (g := old W) (fun i _ e => by unfold old; rcases e with e | e <;> omega)) (fun i e => e)).mono (fun b _ e => Nat.lt_of_lt_of_le e HB.out.size))
  obtain ⟨⟨x0, x1, x2, x3, x4⟩, _⟩ := box5 (HBW4.out.heap HN1.out)
  clear HD1 HH1 hS hU l01 q0 q1 q2 q3 q4 r0 r1
  by_cases h3 : ak = 3
  · have k3 : (ak == 3) = true := by simpa using h3
    have H3 := Lib.hid h3
    obtain ⟨⟨q0, q1, q2, q3, q4⟩, _⟩ := box5 (HBW4.out.heap HN0.out)
    have KL4 := Lib.hid (KL.out W4 (HL.out.has.bel (HB.out.trans HBW4.out)))
    clear h3 KL
    go_wp2_with fail
    with_reducible refine KL4.out.mono ?_
    rintro e w5 ⟨rfl, hb5⟩
    have h8 := hb5.heap M8.out
    have o8 : Off (fun k => k = b8) w5 (w5.setCell ⟨b8, 4, none⟩ (.int .i64 ky)) := Off.setCell (Off.refl (fun k => k = b8) w5) (p := ⟨b8, 4, none⟩) (.inl rfl) _
    have M8 : Hid ((w5.setCell ⟨b8, 4, none⟩ (.int .i64 ky)).heap[b8]? = some (.cells #[.int .i64 P, .slice p1 L.length c1, .int .i64 b, .int .u64 s, .int .i64 ky] 33 (0, 0))) := Lib.hid (heap_setCell_same w5 b8 4 _ 33 (.int .i64 ky) h8)
    have keep : ∀ j, j < W4.heap.size → ¬ j = b8 → (w5.setCell ⟨b8, 4, none⟩ (.int .i64 ky)).heap[j]? = W4.heap[j]? := fun j hj hn => (o8.block j (Nat.lt_of_lt_of_le hj hb5.size) hn).trans (hb5.block j hj (fun e => e))
    have lt4 : ∀ {j o}, W4.heap[j]? = some o → j < W4.heap.size := fun h => (Array.getElem?_eq_some_iff.1 h).1
    have N0 := HBW4.out.heap HN0.out
    have N1 := HBW4.out.heap HN1.out
    have N2 := HBW4.out.heap HN2.out
    have N3 := HBW4.out.heap HN3.out
    have P0 := Lib.hid ((keep b0 (lt4 N0) n08).trans N0)
    have P1 := Lib.hid ((keep b1 (lt4 N1) n18).trans N1)
    have P2 := Lib.hid ((keep b2 (lt4 N2) n28).trans N2)
    have P3 := Lib.hid ((keep b3 (lt4 N3) n38).trans N3)
    have P7 := Lib.hid ((keep b7 (lt4 M7.out) n78).trans M7.out)
    have HB6 : Hid (Bel w1 (w5.setCell ⟨b8, 4, none⟩ (.int .i64 ky))) := Lib.hid (Off.trans (HB14.out.trans hb5) o8 (fun i e => .inr (by have : i = b8 := e; omega)))
    obtain ⟨⟨u0, u1, u2, u3, u4⟩, _, _, _, _, f4⟩ := box5 h8
    clear keep lt4 N0 N1 N2 N3 h8 o8 hb5 KL4 q0 q1 q2 q3 q4 x0 x1 x2 x3 x4
    go_upto_region 5 with (fail)
    generalize w5.setCell ⟨b8, 4, none⟩ (.int .i64 ky) = W6 at *
    clear u0 u1 u2 u3 u4 f4
    obtain ⟨⟨q0, q1, q2, q3, q4⟩, _⟩ := box5 P0.out
    obtain ⟨⟨x0, x1, x2, x3, x4⟩, _⟩ := box5 P1.out
    obtain ⟨⟨u0, u1, u2, u3, u4⟩, _, _, _, f3, _⟩ := box5 M8.out
    obtain ⟨mx, emx⟩ : ∃ m, max s an = m := ⟨_, rfl⟩
    have HMX := Lib.hid emx
    have o8 : Off (fun k => k = b8) W6 (W6.setCell ⟨b8, 3, none⟩ (.int .u64 mx)) := Off.setCell (Off.refl (fun k => k = b8) W6) (p := ⟨b8, 3, none⟩) (.inl rfl) _
    have M9 : Hid ((W6.setCell ⟨b8, 3, none⟩ (.int .u64 mx)).heap[b8]? = some (.cells #[.int .i64 P, .slice p1 L.length c1, .int .i64 b, .int .u64 mx, .int .i64 ky] 33 (0, 0))) := Lib.hid (heap_setCell_same W6 b8 3 _ 33 (.int .u64 mx) M8.out)
    have lt6 : ∀ {j o}, W6.heap[j]? = some o → j < W6.heap.size := fun h => (Array.getElem?_eq_some_iff.1 h).1
    have R2 := Lib.hid ((o8.block b2 (lt6 P2.out) n28).trans P2.out)
    have R3 := Lib.hid ((o8.block b3 (lt6 P3.out) n38).trans P3.out)
    have R7 := Lib.hid ((o8.block b7 (lt6 P7.out) n78).trans P7.out)
    have HB7 : Hid (Bel w1 (W6.setCell ⟨b8, 3, none⟩ (.int .u64 mx))) := Lib.hid (Off.trans HB6.out o8 (fun i e => .inr (by have : i = b8 := e; omega)))
    clear o8 lt6
    by_cases hsn : s < an
    · obtain rfl : mx = an := by omega
      have hns : ¬ mx < s := by omega
      clear emx
      go_upto_region 6 with (fail)
      try rw [HMX.out]
      generalize W6.setCell ⟨b8, 3, none⟩ (.int .u64 mx) = W7 at *
      clear q0 q1 q2 q3 q4 x0 x1 x2 x3 x4 u0 u1 u2 u3 u4 f3
      obtain ⟨⟨z0, z1, z2, z3, z4⟩, g0, g1, g2, g3, g4⟩ := box5 R2.out
      obtain ⟨⟨y0, y1, y2, y3, y4⟩, i0, i1, i2, i3, i4⟩ := box5 R3.out
      obtain ⟨⟨u0, u1, u2, u3, u4⟩, _⟩ := box5 M9.out
      obtain ⟨⟨v0, v1, v2, v3, v4⟩, _⟩ := box5 R7.out
      have HZ := Lib.hid (fun wz ho => HFin.out W7 wz HB7.out ho)
      clear HFin
      go_wp2
      go_region
      all_goals
        go_wp2
        refine bodyPost_ret (v := .tuple #[whV P p1 L.length c1 b mx ky, .agg #[.int .i64 er, .int .u64 tt.a, .int .u64 tt.s, .int .i64 tt.p, .slice q1' D.length k1]]) (by simp [results, Tryz.results13, go_sem, z0, z1, z2, z3, z4, y0, y1, y2, y3, y4, n23, n32]) rfl ?_
        first | refine ⟨p1, c1, q1', ⟨k1, ?_⟩, HZ.out _ ?_⟩ | refine ⟨p1, c1, q1', k1, ?_, HZ.out _ ?_⟩
        · first | rfl | rw [HMX.out] | rw [if_pos H3.out, if_pos H3.out, HMX.out] | rw [if_neg H3.out, if_neg H3.out]
        · first | exact (off10 _ _ _ _ _ _ _ _ _ _ _ _ _).drew | exact ((off10 _ _ _ _ _ _ _ _ _ _ _ _ _).mono (fun _ _ e => e.symm)).drew | exact (off10 _ _ _ _ _ _ _ _ _ _ _ _ _) | exact (off10 _ _ _ _ _ _ _ _ _ _ _ _ _).mono (fun _ _ e => e.symm)
    · obtain rfl : mx = s := by omega
      clear emx
      go_upto_region 6 with (fail)
      try rw [HMX.out]
      generalize W6.setCell ⟨b8, 3, none⟩ (.int .u64 mx) = W7 at *
      clear q0 q1 q2 q3 q4 x0 x1 x2 x3 x4 u0 u1 u2 u3 u4 f3
      obtain ⟨⟨z0, z1, z2, z3, z4⟩, g0, g1, g2, g3, g4⟩ := box5 R2.out
      obtain ⟨⟨y0, y1, y2, y3, y4⟩, i0, i1, i2, i3, i4⟩ := box5 R3.out
      obtain ⟨⟨u0, u1, u2, u3, u4⟩, _⟩ := box5 M9.out
      obtain ⟨⟨v0, v1, v2, v3, v4⟩, _⟩ := box5 R7.out
      have HZ := Lib.hid (fun wz ho => HFin.out W7 wz HB7.out ho)
      clear HFin
      go_wp2
      go_region
      all_goals
        go_wp2
        refine bodyPost_ret (v := .tuple #[whV P p1 L.length c1 b mx ky, .agg #[.int .i64 er, .int .u64 tt.a, .int .u64 tt.s, .int .i64 tt.p, .slice q1' D.length k1]]) (by simp [results, Tryz.results13, go_sem, z0, z1, z2, z3, z4, y0, y1, y2, y3, y4, n23, n32]) rfl ?_
        first | refine ⟨p1, c1, q1', ⟨k1, ?_⟩, HZ.out _ ?_⟩ | refine ⟨p1, c1, q1', k1, ?_, HZ.out _ ?_⟩
        · first | rfl | rw [HMX.out] | rw [if_pos H3.out, if_pos H3.out, HMX.out] | rw [if_neg H3.out, if_neg H3.out]
        · first | exact (off10 _ _ _ _ _ _ _ _ _ _ _ _ _).drew | exact ((off10 _ _ _ _ _ _ _ _ _ _ _ _ _).mono (fun _ _ e => e.symm)).drew | exact (off10 _ _ _ _ _ _ _ _ _ _ _ _ _) | exact (off10 _ _ _ _ _ _ _ _ _ _ _ _ _).mono (fun _ _ e => e.symm)
  · have k3 : (ak == 3) = false := by simpa using h3
    have H3 := Lib.hid h3
    obtain ⟨⟨z0, z1, z2, z3, z4⟩, g0, g1, g2, g3, g4⟩ := box5 (HBW4.out.heap HN2.out)
    obtain ⟨⟨y0, y1, y2, y3, y4⟩, i0, i1, i2, i3, i4⟩ := box5 (HBW4.out.heap HN3.out)
    obtain ⟨⟨u0, u1, u2, u3, u4⟩, _⟩ := box5 M8.out
    obtain ⟨⟨v0, v1, v2, v3, v4⟩, _⟩ := box5 M7.out
    have HZ := Lib.hid (fun wz ho => HFin.out W4 wz HB14.out ho)
    clear HFin h3 KL
    go_wp2
    go_region
    all_goals
      go_wp2
      refine bodyPost_ret (v := .tuple #[whV P p1 L.length c1 b s lk, .agg #[.int .i64 er, .int .u64 tt.a, .int .u64 tt.s, .int .i64 tt.p, .slice q1' D.length k1]]) (by simp [results, Tryz.results13, go_sem, z0, z1, z2, z3, z4, y0, y1, y2, y3, y4, n23, n32]) rfl ?_
      first | refine ⟨p1, c1, q1', ⟨k1, ?_⟩, HZ.out _ ?_⟩ | refine ⟨p1, c1, q1', k1, ?_, HZ.out _ ?_⟩
      · first | rfl | rw [HMX.out] | rw [if_pos H3.out, if_pos H3.out, HMX.out] | rw [if_neg H3.out, if_neg H3.out]
      · first | exact (off10 _ _ _ _ _ _ _ _ _ _ _ _ _).drew | exact ((off10 _ _ _ _ _ _ _ _ _ _ _ _ _).mono (fun _ _ e => e.symm)).drew | exact (off10 _ _ _ _ _ _ _ _ _ _ _ _ _) | exact (off10 _ _ _ _ _ _ _ _ _ _ _ _ _).mono (fun _ _ e => e.symm)
end Go.Proofs.YtdoceldofkaapaaGreatDoor.Ha
