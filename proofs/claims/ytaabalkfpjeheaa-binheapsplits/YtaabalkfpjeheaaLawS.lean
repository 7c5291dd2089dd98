/-
  The walk of BinheapSplits.
-/
import Derived.Test.YtaabalkfpjeheaaBuilt
import Derived.Test.YtaabalkfpjeheaaWorks
namespace Go.Proofs.Ytaabalkfpjeheaa
open Go.RowKit
theorem due_cat {l : List T} (h : So l) (a : Int) : due l a true ++ due l a false = l := by
  rw [← (h.due a).1, ← (h.due a).2, List.take_append_drop]
theorem due_head {l : List T} (a : Int) : ∀ x ∈ (due l a false).head?, ¬ x.a ≤ a := fun x hx => by
  have hm : x ∈ due l a false := by
    cases e : due l a false with
    | nil => rw [e] at hx; simp at hx
    | cons y r => rw [e] at hx; simp at hx; subst hx; simp
  have := (List.mem_filter.1 hm).2
  intro e
  rw [decide_eq_true e] at this
  cases this
theorem due_is {l : List T} (a : Int) : ∀ x ∈ due l a true, x.a ≤ a := fun x hx => by
  have := (List.mem_filter.1 hx).2
  simpa using this
/-- What is due in two steps is what is due at once. -/
theorem due_two {l : List T} (h : So l) {a b : Int} (hab : a ≤ b) : due l a true ++ due (due l a false) b true = due l b true ∧ due (due l a false) b false = due l b false := by
  have s2 := so_due h a false
  have e : l = (due l a true ++ due (due l a false) b true) ++ due (due l a false) b false := by rw [List.append_assoc, due_cat s2 b, due_cat h a]
  have k := due_split (d := due l a true ++ due (due l a false) b true) (m := due (due l a false) b false) (now := b) (by rw [← e]; exact h) (fun x hx => by
    rcases List.mem_append.1 hx with hx | hx
    · have := due_is a x hx; omega
    · exact due_is b x hx) (due_head b)
  rw [← e] at k
  exact ⟨k.1.symm, k.2.symm⟩
theorem splits_long (P : Int) (pa : Option Addr) (N ca : Nat) (a b : Int) (w : World) (h : 60 < N ∨ b < a) :
    Calls Try.prog 6 #[.int .i64 P, .slice pa N ca, .int .u64 a, .int .u64 b] w fun e w' => e = .returned (.bool true) ∧ Bel w w' := by
  have K := Lib.hid (works_any w)
  by_cases h0 : (60 : Int) < N
  · go_enter Try.func6, Try.ntmps6
    go_wp2_with fail
    with_reducible refine K.out.mono ?_
    rintro e w1 ⟨rfl, hb⟩
    go_wp2
    go_ret
    exact ⟨rfl, hb⟩
  · have h1 : b < a := by omega
    clear h
    go_enter Try.func6, Try.ntmps6
    go_wp2_with fail
    with_reducible refine K.out.mono ?_
    rintro e w1 ⟨rfl, hb⟩
    go_wp2
    go_ret
    exact ⟨rfl, hb⟩
theorem splits_no (P : Int) (pa : Option Addr) (N ca : Nat) (a b : Int) (w : World) (hN : N ≤ 60) (hab : a ≤ b) (h : ¬ (0 ≤ P ∧ P ≤ 1024)) :
    Calls Try.prog 6 #[.int .i64 P, .slice pa N ca, .int .u64 a, .int .u64 b] w fun e w' => e = .returned (.bool true) ∧ Bel w w' := by
  have K := Lib.hid (works_any w)
  have KB := Lib.hid (fun w' => built_no P pa N ca w' h)
  have h0 : ¬ (60 : Int) < N := by omega
  have h1 : ¬ b < a := by omega
  clear h hN
  go_enter Try.func6, Try.ntmps6
  go_wp2_with fail
  with_reducible refine K.out.mono ?_
  rintro e w1 ⟨rfl, hb⟩
  have HB := Lib.hid hb
  clear hb
  go_wp2_with fail
  with_reducible refine (KB.out _).mono ?_
  rintro e w2 ⟨rfl, rfl⟩
  go_wp2_with fail
  with_reducible refine (KB.out _).mono ?_
  rintro e w3 ⟨rfl, rfl⟩
  go_wp2
  go_ret
  exact ⟨rfl, HB.out⟩
/-- Two queues side by side, and what was handed in. -/
structure Tw (w wx : World) (f g : Nat → Prop) (Q O P : Nat) (l m : List T) : Prop where
  q : Qu f wx Q P l
  o : Qu g wx O P m
  ap : ∀ i, f i → ¬ g i
  fw : ∀ i, f i → w.heap.size ≤ i
  gw : ∀ i, g i → w.heap.size ≤ i
  bel : Bel w wx
theorem Tw.le {w wx wy : World} {f g : Nat → Prop} {Q O P : Nat} {l m : List T} (h : Tw w wx f g Q O P l m) (k : Bel wx wy) : Tw w wy f g Q O P l m :=
  ⟨h.q.bel k, h.o.bel k, h.ap, h.fw, h.gw, h.bel.trans k⟩
theorem Tw.stepQ {w wx wy : World} {f g : Nat → Prop} {Q O P : Nat} {l l' m : List T} (h : Tw w wx f g Q O P l m) (hq : Qu f wy Q P l') (k : Off f wx wy) : Tw w wy f g Q O P l' m :=
  ⟨hq, h.o.off k (fun i e e2 => h.ap i e2 e), h.ap, h.fw, h.gw, Off.trans h.bel k (fun i e => .inr (h.fw i e))⟩
theorem Tw.stepO {w wx wy : World} {f g : Nat → Prop} {Q O P : Nat} {l m m' : List T} (h : Tw w wx f g Q O P l m) (hq : Qu g wy O P m') (k : Off g wx wy) : Tw w wy f g Q O P l m' :=
  ⟨h.q.off k h.ap, hq, h.ap, h.fw, h.gw, Off.trans h.bel k (fun i e => .inr (h.gw i e))⟩
set_option maxHeartbeats 4000000 in
set_option maxRecDepth 100000 in
theorem splits_yes (P : Nat) (pa : Option Addr) (N ca : Nat) (al : List Ak) (a b : Int) (w : World) (hN : N ≤ 60) (hab : a ≤ b) (hl : al.length = N) (hA : Lies nof w pa (encK al)) (hP : P ≤ 1024) :
    Calls Try.prog 6 #[.int .i64 P, .slice pa N ca, .int .u64 a, .int .u64 b] w fun e w' => e = .returned (.bool true) ∧ Bel w w' := by
  have K := Lib.hid (works_any w)
  have KB := Lib.hid (fun w' (h : Bel w w') => built_yes P pa N ca al w' hP hl hN (hA.bel h))
  have h0 : ¬ (60 : Int) < N := by omega
  have h1 : ¬ b < a := by omega
  have HAB := Lib.hid hab
  have HP := Lib.hid hP
  clear hN hA hl hab hP
  generalize pla P al = l at *
  go_enter Try.func6, Try.ntmps6
  go_wp2_with fail
  with_reducible refine K.out.mono ?_
  rintro e w1 ⟨rfl, hb⟩
  have HB := Lib.hid hb
  clear hb K
  go_wp2_with fail
  with_reducible refine (KB.out _ HB.out).mono ?_
  rintro e w2 ⟨Q, rfl, ⟨f, hq, hf⟩, hb2⟩
  have K2 := Lib.hid (KB.out w2 (HB.out.trans hb2))
  have HQ := Lib.hid hq
  have HF := Lib.hid hf
  have HB2 := Lib.hid hb2
  clear hq hf hb2 KB
  go_wp2_with fail
  with_reducible refine (K2.out).mono ?_
  rintro e w3 ⟨O, rfl, ⟨g, hq, hg⟩, hb3⟩
  have T0 : Hid (Tw w w3 f g Q O P l l) := Lib.hid ⟨HQ.out.bel hb3, hq, fun i e e2 => by have h1 := HQ.out.lt_ i e; have h2 := hg i e2; omega, fun i e => Nat.le_trans HB.out.size (HF.out i e), fun i e => Nat.le_trans (HB.out.trans HB2.out).size (hg i e), (HB.out.trans HB2.out).trans hb3⟩
  have HSo := Lib.hid hq.so
  have hlen : Hid (l.length ≤ 1024) := Lib.hid (Nat.le_trans hq.len HP.out)
  have D1 := Lib.hid (due_any f Q P l a w3 T0.out.q)
  have E2 := Lib.hid (due_two HSo.out HAB.out)
  clear hq hg hb3 K2 HQ HF HB2
  go_wp2_with fail
  with_reducible refine (D1.out).mono ?_
  rintro e w4 ⟨⟨p1, c1, rfl, hc1, hl1⟩, hq4, ho4⟩
  have T1 := Lib.hid (T0.out.stepQ hq4 ho4)
  have HL1 := Lib.hid hl1.has
  have hlen1 : Hid ((due l a true).length ≤ 1024) := Lib.hid (Nat.le_trans (due_len l a true) hlen.out)
  generalize due l a false = m at *
  obtain ⟨d1, ed1⟩ : ∃ d, due l a true = d := ⟨_, rfl⟩
  rw [ed1] at E2 HL1 hlen1 ⊢
  have OE : Hid (OwnT (w4.alloc (.cells #[] 25)) w4.heap.size (.slice (some ⟨w4.heap.size, 0, none⟩) 0 0) []) := Lib.hid (OwnT.empty w4 w4.heap.size (Nat.le_refl _))
  have HB4 : Hid (Bel w4 (w4.alloc (.cells #[] 25))) := Lib.hid ((Bel.refl _).alloc _ _)
  clear hl1 hq4 ho4 T0 D1 hc1 ed1
  go_wp2_with (at_builtin; refine wpList_append_any rfl (.tmp 72) (.tmp 73) rfl w4.heap.size _ [] rfl OE.out _ _ _ d1 rfl rfl (HL1.out.bel HB4.out) (by have := hlen1.out; simp; omega) HB4.out.size ?_)
  intro v5 w5 hown5 hgrow5 hnil5
  have HO5 := Lib.hid hown5
  have hb5 : Bel w4 w5 := OwnT.grown HB4.out OE.out HB4.out.size hgrow5
  have T2 := Lib.hid (T1.out.le hb5)
  have HS5 := Lib.hid hb5.size
  have D2 := Lib.hid (due_any f Q P m b w5 T2.out.q)
  have HSw : Hid (w.heap.size ≤ w4.heap.size) := Lib.hid T1.out.bel.size
  have HFl := Lib.hid T1.out.q.lt_
  have HGl := Lib.hid T1.out.o.lt_
  clear hown5 hgrow5 hnil5 hb5 OE HB4 HL1 T1
  go_wp2_with fail
  with_reducible refine (D2.out).mono ?_
  rintro e w6 ⟨⟨p2, c2, rfl, hc2, hl2⟩, hq6, ho6⟩
  have T3 := Lib.hid (T2.out.stepQ hq6 ho6)
  have HO6 : Hid (OwnT w6 w4.heap.size v5 d1) := Lib.hid (own_off0 HO5.out ho6 (own_ge HO5.out HFl.out (Nat.le_refl _)))
  have HL2 := Lib.hid hl2.has
  have hm : Hid ((due m b true).length ≤ 1024) := Lib.hid (by
    have h1 := congrArg List.length E2.out.1
    rw [List.length_append] at h1
    have h2 := due_len l b true
    have := hlen.out
    omega)
  have HS6 : Hid (w4.heap.size ≤ w6.heap.size) := Lib.hid (Nat.le_trans HS5.out ho6.size)
  obtain ⟨d2, ed2⟩ : ∃ d, due m b true = d := ⟨_, rfl⟩
  rw [ed2] at E2 HL2 hm ⊢
  clear hl2 hq6 ho6 T2 D2 hc2 HO5 ed2
  go_wp2_with (at_builtin; refine wpList_append_any rfl (.tmp 74) (.tmp 77) rfl w4.heap.size _ d1 rfl HO6.out _ _ _ d2 rfl rfl HL2.out (by have := hm.out; have := hlen1.out; omega) HS6.out ?_)
  intro v7 w7 hown7 hgrow7 hnil7
  have HO7 := Lib.hid hown7
  have hne7 : Off (fun k => v5.ownBlock = some k) w6 w7 := Off.grown (Off.refl _ _) hgrow7 (fun k e => .inl e)
  have T4 : Hid (Tw w w7 f g Q O P (due m b false) l) := Lib.hid ⟨T3.out.q.off hne7 (fun i e e2 => own_ge HO6.out HFl.out (Nat.le_refl _) i e2 e), T3.out.o.off hne7 (fun i e e2 => own_ge HO6.out HGl.out (Nat.le_refl _) i e2 e), T3.out.ap, T3.out.fw, T3.out.gw, Off.trans T3.out.bel hne7 (fun i e => .inr (Nat.le_trans HSw.out (HO6.out.lt i e).1))⟩
  have D3 := Lib.hid (due_any g O P l b w7 T4.out.o)
  clear hown7 hgrow7 hnil7 hne7 HO6 T3 HL2
  go_wp2_with fail
  with_reducible refine (D3.out).mono ?_
  rintro e w8 ⟨⟨p3, c3, rfl, hc3, hl3⟩, hq8, ho8⟩
  have hO8 : OwnT w8 w4.heap.size v7 (due l b true) := by
    rw [← E2.out.1]
    exact own_off0 HO7.out ho8 (own_ge HO7.out HGl.out (Nat.le_refl _))
  obtain ⟨p7, c7, rfl, _, _, hH7⟩ := hO8.slice
  have T5 := Lib.hid (T4.out.stepO hq8 ho8)
  have hd : (due l b true).length ≤ 1024 := Nat.le_trans (due_len l b true) hlen.out
  have KS := Lib.hid (same_yes p7 p3 c7 c3 (due l b true) w8 (by omega) hH7 hl3.has)
  rw [E2.out.2] at T5
  have hd2 : Hid ((due l b false).length ≤ 1024) := Lib.hid (Nat.le_trans (due_len l b false) hlen.out)
  clear hq8 ho8 hl3 hH7 hO8 hc3 D3 T4 HO7 hd
  generalize due l b true = d3 at *
  generalize due l b false = r3 at *
  go_wp2_with fail
  with_reducible refine (KS.out).mono ?_
  rintro e w9 ⟨rfl, hb9⟩
  have T6 := Lib.hid (T5.out.le hb9)
  have A1 := Lib.hid (all_any f Q P r3 w9 T6.out.q)
  clear hb9 KS T5
  go_wp2_with fail
  with_reducible refine (A1.out).mono ?_
  rintro e w10 ⟨⟨p4, c4, rfl, _, hl4⟩, hb10⟩
  have T7 := Lib.hid (T6.out.le hb10)
  have HL4 := Lib.hid hl4
  have A2 := Lib.hid (all_any g O P r3 w10 T7.out.o)
  clear hb10 hl4 A1 T6
  go_wp2_with fail
  with_reducible refine (A2.out).mono ?_
  rintro e w11 ⟨⟨p5, c5, rfl, _, hl5⟩, hb11⟩
  have T8 := Lib.hid (T7.out.le hb11)
  have KS2 := Lib.hid (same_yes p4 p5 c4 c5 r3 w11 (by have := hd2.out; omega) (HL4.out.bel hb11).has hl5.has)
  clear hb11 hl5 A2 T7 HL4
  go_wp2_with fail
  with_reducible refine (KS2.out).mono ?_
  rintro e w12 ⟨rfl, hb12⟩
  have HE := Lib.hid (T8.out.bel.trans hb12)
  clear hb12 KS2 T8
  go_wp2
  go_ret
  exact ⟨rfl, HE.out⟩
end Go.Proofs.Ytaabalkfpjeheaa
