/-
  The walk of BinheapAgain.
-/
import Derived.Test.YtaabalkfpjeheaaBuilt
import Derived.Test.YtaabalkfpjeheaaWorks
namespace Go.Proofs.Ytaabalkfpjeheaa
open Go.RowKit
theorem stL_mem {P : Nat} {l : List T} {a : Ak} {t : T} (h : t ∈ stL P l a) : t ∈ l ∨ t = a.t := by
  have hput : ∀ (m : List T), (∀ x ∈ m, x ∈ l) → t ∈ put m a.t → t ∈ l ∨ t = a.t := fun m hm h => by
    rcases List.mem_cons.1 ((put_perm m a.t).subset h) with e | e
    · exact .inr e
    · exact .inl (hm t e)
  unfold stL at h
  split at h
  · unfold insL at h
    split at h
    · exact hput l (fun _ e => e) h
    · exact .inl h
  · split at h
    · exact .inl (List.mem_filter.1 h).1
    · split at h
      · unfold movL at h
        split at h
        · exact hput _ (fun x e => (List.mem_filter.1 e).1) h
        · exact .inl h
      · split at h
        · exact .inl (List.mem_filter.1 h).1
        · exact .inl h
theorem pla_mem (P : Nat) (Pr : T → Prop) : ∀ (al : List Ak) (l : List T), (∀ t ∈ l, Pr t) → (∀ a ∈ al, Pr a.t) → ∀ t ∈ al.foldl (fun l a => stL P l a) l, Pr t
  | [], l, hl, _ => hl
  | a :: r, l, hl, ha => pla_mem P Pr r (stL P l a) (fun t ht => by
      rcases stL_mem ht with e | e
      · exact hl t e
      · rw [e]; exact ha a (by simp)) (fun x hx => ha x (by simp [hx]))
theorem due_all {l : List T} {M : Int} (h : ∀ t ∈ l, t.a ≤ M) : due l M true = l ∧ due l M false = [] := by
  unfold due
  refine ⟨List.filter_eq_self.2 fun t ht => ?_, List.filter_eq_nil_iff.2 fun t ht => ?_⟩
  · rw [decide_eq_true (h t ht)]; rfl
  · rw [decide_eq_true (h t ht)]; simp
/-- Put in from the last one on. -/
theorem back_in {P : Nat} {l : List T} {m : Nat} {t : T} (hs : So l) (hnd : (l.map T.p).Nodup) (hin : ∀ t ∈ l, hp P t.p = true) (hm : l[m]? = some t) : insE P (l.drop (m + 1)) t = 0 ∧ insL P (l.drop (m + 1)) t = l.drop m := by
  obtain ⟨h1, h2⟩ := List.getElem?_eq_some_iff.1 hm
  have hd : l.drop m = t :: l.drop (m + 1) := by rw [List.drop_eq_getElem_cons h1, h2]
  have hmem : t ∈ l := by rw [← h2]; exact List.getElem_mem h1
  have nd : ((l.drop m).map T.p).Nodup := by rw [List.map_drop]; exact hnd.sublist (List.drop_sublist _ _)
  rw [hd, List.map_cons, List.nodup_cons] at nd
  have hf : fnd (l.drop (m + 1)) t.p = none := by
    cases e : fnd (l.drop (m + 1)) t.p with
    | none => rfl
    | some x =>
      obtain ⟨x1, x2⟩ := fnd_some e
      exact absurd (by rw [← x2]; exact List.mem_map.2 ⟨x, x1, rfl⟩) nd.1
  have e0 : insE P (l.drop (m + 1)) t = 0 := by
    unfold insE
    rw [if_pos (hin t hmem), hf]
    rfl
  refine ⟨e0, ?_⟩
  unfold insL
  rw [if_pos e0]
  have s1 : So (l.drop m) := hs.sublist (List.drop_sublist _ _)
  have s2 : So (l.drop (m + 1)) := hs.sublist (List.drop_sublist _ _)
  exact (put_so s2 t).unique s1 ((put_perm _ t).trans (by rw [hd]))
theorem again_long (P : Int) (pa : Option Addr) (N ca : Nat) (w : World) (h : 60 < N) :
    Calls Try.prog 7 #[.int .i64 P, .slice pa N ca] w fun e w' => e = .returned (.bool true) ∧ Bel w w' := by
  have K := Lib.hid (works_any w)
  have h0 : (60 : Int) < N := by omega
  go_enter Try.func7, Try.ntmps7
  go_wp2_with fail
  with_reducible refine K.out.mono ?_
  rintro e w1 ⟨rfl, hb⟩
  go_wp2
  go_ret
  exact ⟨rfl, hb⟩
theorem again_no (P : Int) (pa : Option Addr) (N ca : Nat) (w : World) (hN : N ≤ 60) (h : ¬ (0 ≤ P ∧ P ≤ 1024)) :
    Calls Try.prog 7 #[.int .i64 P, .slice pa N ca] w fun e w' => e = .returned (.bool true) ∧ Bel w w' := by
  have K := Lib.hid (works_any w)
  have KB := Lib.hid (fun w' => built_no P pa N ca w' h)
  have h0 : ¬ (60 : Int) < N := by omega
  clear h hN
  go_enter Try.func7, Try.ntmps7
  go_wp2_with fail
  with_reducible refine K.out.mono ?_
  rintro e w1 ⟨rfl, hb⟩
  have HB := Lib.hid hb
  clear hb
  go_wp2_with fail
  with_reducible refine (KB.out _).mono ?_
  rintro e w2 ⟨rfl, rfl⟩
  go_wp2
  go_ret
  exact ⟨rfl, HB.out⟩
/-- A queue, and a list of the call's own outside it. -/
structure Ag (w wr : World) (Q P : Nat) (p : Option Addr) (l m : List T) : Prop where
  ex : ∃ f, Qu f wr Q P m ∧ Lies f wr p (encs l) ∧ ∀ k, f k → w.heap.size ≤ k
  bel : Bel w wr
theorem Lies.step {f f' : Nat → Prop} {w w' : World} {p : Option Addr} {cs : List Value} (h : Lies f w p cs) (k : Off f w w') (hf : ∀ j, f' j → f j ∨ (w.heap.size ≤ j ∧ j < w'.heap.size)) : Lies f' w' p cs := by
  rcases h with h | ⟨b, off, e, hb, h⟩
  · exact .inl h
  · by_cases h0 : cs = []
    · exact .inl h0
    · refine .inr ⟨b, off, e, fun e2 => ?_, h.off hb k⟩
      rcases hf b e2 with e3 | e3
      · exact hb e3
      · have := h.lt h0; omega
theorem Ag.le {w wr wy : World} {Q P : Nat} {p : Option Addr} {l m : List T} (h : Ag w wr Q P p l m) (k : Bel wr wy) : Ag w wy Q P p l m := by
  obtain ⟨⟨f, h1, h2, h3⟩, h4⟩ := h
  exact ⟨⟨f, h1.bel k, h2.bel k, h3⟩, h4.trans k⟩
theorem Ag.insert {w wr : World} {Q P : Nat} {p : Option Addr} {l m m' : List T} {t : T} (h : Ag w wr Q P p l m) (e1 : insE P m t = 0) (e2 : insL P m t = m') :
    Calls Try.prog 22 #[.pointer (some ⟨Q, 0, none⟩), .agg #[.int .u64 t.a, .int .u64 t.s, .int .i64 t.p]] wr fun e w2 => e = .returned (.int .i64 0) ∧ Ag w w2 Q P p l m' := by
  obtain ⟨⟨f, h1, h2, h3⟩, h4⟩ := h
  refine (insert_any f Q P m t wr h1).mono fun e w2 ⟨he, f', hf, hq, ho⟩ => ⟨by rw [he, e1], ⟨f', by rw [← e2]; exact hq, h2.step ho hf, fun k e => ?_⟩, Off.trans h4 ho (fun i e => .inr (h3 i e))⟩
  rcases hf k e with e | e
  · exact h3 k e
  · exact Nat.le_trans h4.size e.1
theorem Ag.has {w wr : World} {Q P : Nat} {p : Option Addr} {l m : List T} (h : Ag w wr Q P p l m) : Has wr p l := by
  obtain ⟨⟨f, _, h2, _⟩, _⟩ := h
  exact h2.has
theorem Ag.all {w wr : World} {Q P : Nat} {p : Option Addr} {l m : List T} (h : Ag w wr Q P p l m) :
    Calls Try.prog 19 #[.pointer (some ⟨Q, 0, none⟩)] wr fun e w2 => ∃ q c, e = .returned (.slice q m.length c) ∧ Has w2 q m ∧ Ag w w2 Q P p l m := by
  obtain ⟨f, h1, _⟩ := h.ex
  exact (all_any f Q P m wr h1).mono fun e w2 ⟨⟨q, c, he, _, hl⟩, hb⟩ => ⟨q, c, he, hl.has, h.le hb⟩
theorem Ag.allB {w wr : World} {Q P : Nat} {p : Option Addr} {l m : List T} (h : Ag w wr Q P p l m) :
    Calls Try.prog 19 #[.pointer (some ⟨Q, 0, none⟩)] wr fun e w2 => ∃ q c, e = .returned (.slice q m.length c) ∧ Has w2 q m ∧ Ag w w2 Q P p l m ∧ Bel wr w2 := by
  obtain ⟨f, h1, _⟩ := h.ex
  exact (all_any f Q P m wr h1).mono fun e w2 ⟨⟨q, c, he, _, hl⟩, hb⟩ => ⟨q, c, he, hl.has, h.le hb, hb⟩
theorem Ag.len {w wr : World} {Q P : Nat} {p : Option Addr} {l m : List T} (h : Ag w wr Q P p l m) {n : Nat} (e : m.length = n) :
    Calls Try.prog 20 #[.pointer (some ⟨Q, 0, none⟩)] wr fun e w2 => e = .returned (.int .i64 n) ∧ wr = w2 := by
  obtain ⟨f, h1, _⟩ := h.ex
  have k := len_any f Q P m wr h1
  rw [e] at k
  exact k
set_option maxHeartbeats 4000000 in
set_option maxRecDepth 100000 in
theorem again_yes (P : Nat) (pa : Option Addr) (N ca : Nat) (al : List Ak) (w : World) (hN : N ≤ 60) (hl : al.length = N) (hu : ∀ a ∈ al, a.t.a ≤ 18446744073709551615) (hA : Lies nof w pa (encK al)) (hP : P ≤ 1024) :
    Calls Try.prog 7 #[.int .i64 P, .slice pa N ca] w fun e w' => e = .returned (.bool true) ∧ Bel w w' := by
  have K := Lib.hid (works_any w)
  have KB := Lib.hid (fun w' (h : Bel w w') => built_yes P pa N ca al w' hP hl hN (hA.bel h))
  have h0 : ¬ (60 : Int) < N := by omega
  have HD : Hid (due (pla P al) 18446744073709551615 true = pla P al ∧ due (pla P al) 18446744073709551615 false = []) := Lib.hid (due_all (pla_mem P (fun t => t.a ≤ 18446744073709551615) al [] (fun t ht => by simp at ht) hu))
  have HP := Lib.hid hP
  clear hN hA hl hP hu
  generalize pla P al = l at *
  go_enter Try.func7, Try.ntmps7
  go_wp2_with fail
  with_reducible refine K.out.mono ?_
  rintro e w1 ⟨rfl, hb⟩
  have HB := Lib.hid hb
  clear hb K
  go_wp2_with fail
  with_reducible refine (KB.out _ HB.out).mono ?_
  rintro e w2 ⟨Q, rfl, ⟨f, hq, hf⟩, hb2⟩
  have hso := hq.so
  have hpl := hq.places
  have hlen : l.length ≤ 1024 := Nat.le_trans hq.len HP.out
  have HSo := Lib.hid hso
  have HPl := Lib.hid hpl
  have HQ := Lib.hid hq
  have HF : Hid (∀ k, f k → w.heap.size ≤ k) := Lib.hid (fun k e => Nat.le_trans HB.out.size (hf k e))
  have HB2 := Lib.hid (HB.out.trans hb2)
  have A1 := Lib.hid (all_any f Q P l w2 hq)
  clear hq hf hb2 KB hso hpl
  go_wp2_with fail
  with_reducible refine (A1.out).mono ?_
  rintro e w3 ⟨⟨p, c, rfl, hc, hl3⟩, hb3⟩
  have HL3 : Hid (Lies f w3 p (encs l)) := Lib.hid (hl3.fresh HQ.out.lt_)
  have D1 := Lib.hid (due_any f Q P l 18446744073709551615 w3 (HQ.out.bel hb3))
  rw [HD.out.1, HD.out.2] at D1
  have HB3 := Lib.hid (HB2.out.trans hb3)
  clear hl3 hb3 A1 HQ hc
  go_wp2_with fail
  with_reducible refine (D1.out).mono ?_
  rintro e w4 ⟨⟨p1, c1, rfl, hc1, hl1⟩, hq4, ho4⟩
  have G4 : Hid (Ag w w4 Q P p l []) := Lib.hid ⟨⟨f, hq4, HL3.out.off ho4 (fun i e => e), HF.out⟩, Off.trans HB3.out ho4 (fun i e => .inr (HF.out i e))⟩
  have KS := Lib.hid (same_yes p1 p c1 c l w4 (by omega) hl1.has G4.out.has)
  clear hl1 hq4 ho4 D1 hc1 HB3 HB2 HL3
  go_wp2_with fail
  with_reducible refine (KS.out).mono ?_
  rintro e w5 ⟨rfl, hb5⟩
  have G5 := Lib.hid (G4.out.le hb5)
  have KL := Lib.hid (G5.out.len (n := 0) rfl)
  clear hb5 KS G4
  go_wp2_with fail
  with_reducible refine (KL.out).mono ?_
  rintro e w6 ⟨rfl, rfl⟩
  have KA := Lib.hid G5.out.all
  clear KL
  go_wp2_with fail
  with_reducible refine (KA.out).mono ?_
  rintro e w7 ⟨q7, c7, rfl, hh7, hg7⟩
  obtain ⟨n, en⟩ : ∃ n, l.length = n := ⟨_, rfl⟩
  have HN := Lib.hid en
  rw [en] at hlen ⊢
  have G7 : Hid (Ag w w7 Q P p l (l.drop ((n : Int) - 1 + 1).toNat)) := Lib.hid (by
    rw [List.drop_eq_nil_of_le (by omega)]
    exact hg7)
  clear hh7 hg7 KA G5 en
  have hw1 : IntKind.i64.wrap ((n : Int) - 1) = (n : Int) - 1 := i64_in _ (by omega) (by omega)
  go_wp2
  go_loopw [10] (fun v wr => ∃ i : Int, v = .int .i64 i ∧ -1 ≤ i ∧ i < n ∧ Ag w wr Q P p l (l.drop (i + 1).toNat)) (fun v _ => (intOf v + 1).toNat)
  case atStart => exact ⟨(n : Int) - 1, rfl, by omega, by omega, G7.out⟩
  case round =>
    obtain ⟨i, rfl, hi0, hi1, hag⟩ := hrel
    have HG := Lib.hid hag
    clear hag G7
    by_cases h : 0 ≤ i
    · obtain ⟨m, rfl⟩ : ∃ m : Nat, i = m := ⟨i.toNat, by omega⟩
      obtain ⟨t, ht⟩ : ∃ t, l[m]? = some t := ⟨l[m]'(by rw [HN.out]; omega), List.getElem?_eq_getElem _⟩
      have hin := back_in (P := P) HSo.out HPl.out.1 HPl.out.2 ht
      have KI : Hid (Calls Try.prog 22 #[.pointer (some ⟨Q, 0, none⟩), .agg #[.int .u64 t.a, .int .u64 t.s, .int .i64 t.p]] wr fun e w2 => e = .returned (.int .i64 0) ∧ Ag w w2 Q P p l (l.drop m)) := Lib.hid (by
        have h1 := HG.out
        rw [show ((m : Int) + 1).toNat = m + 1 by omega] at h1
        exact h1.insert hin.1 hin.2)
      obtain ⟨b, off, rfl, hr⟩ := HG.out.has.row (by rw [HN.out]; omega)
      have cx := hr m (by rw [HN.out]; omega)
      have hgt : l.getD m default = t := by rw [List.getD_eq_getElem?_getD, ht]; rfl
      rw [hgt] at cx
      obtain ⟨x0, x1, x2⟩ := cx
      have b1 : (m : Int) < (n : Int) := by omega
      have hw2 : IntKind.i64.wrap ((m : Int) - 1) = (m : Int) - 1 := i64_in _ (by omega) (by omega)
      clear hr hgt ht hin
      go_wp2_with fail
      with_reducible refine (KI.out).mono ?_
      rintro e w8 ⟨rfl, hag⟩
      have HG8 : Hid (Ag w w8 Q P (some ⟨b, off, none⟩) l (l.drop ((m : Int) - 1 + 1).toNat)) := Lib.hid (by
        rw [show ((m : Int) - 1 + 1).toNat = m by omega]
        exact hag)
      clear hag KI x0 x1 x2
      go_wp2
      go_roundw
      case rel => exact ⟨(m : Int) - 1, rfl, by omega, by omega, HG8.out⟩
      case measure => simp [intOf]
    · have HG8 : Hid (Ag w wr Q P p l l) := Lib.hid (by
        have h1 := HG.out
        rw [show (i + 1).toNat = 0 by omega, List.drop_zero] at h1
        exact h1)
      have KA := Lib.hid HG8.out.all
      rw [HN.out] at KA
      clear HG
      go_wp2_with fail
      with_reducible refine (KA.out).mono ?_
      rintro e w9 ⟨q9, c9, rfl, hh9, hg9⟩
      have KS := Lib.hid (same_yes q9 p c9 c l w9 (by rw [HN.out]; omega) hh9 hg9.has)
      rw [HN.out] at KS
      have HG9 := Lib.hid hg9
      clear hh9 hg9 KA HG8
      go_wp2_with fail
      with_reducible refine (KS.out).mono ?_
      rintro e w10 ⟨rfl, hb10⟩
      have HG10 := Lib.hid (HG9.out.le hb10)
      have KL := Lib.hid (HG10.out.len (n := n) HN.out)
      clear hb10 KS HG9
      go_wp2_with fail
      with_reducible refine (KL.out).mono ?_
      rintro e w11 ⟨rfl, rfl⟩
      go_wp2
      go_ret
      exact ⟨rfl, HG10.out.bel⟩
end Go.Proofs.Ytaabalkfpjeheaa
