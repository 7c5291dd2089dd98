/-
  The walk of PairheapMelds.
-/
import Derived.Test.YtdlfppdekllloaaDmeld
import Derived.Test.YtdlfppdekllloaaAlike
import Derived.Test.YtdlfppdekllloaaBehind
import Derived.Test.YtdlfppdekllloaaWorks
import Derived.Test.YtdlfppdekllloaaDocm
set_option linter.unusedVariables false
set_option linter.unusedSimpArgs false
namespace Go.Proofs.Ytdlfppdekllloaa
open Go.RowKit
theorem melds_long (P : Int) (pa : Option Addr) (N ca : Nat) (R : Int) (pb : Option Addr) (M cb : Nat) (k : Int) (w : World) (h : 60 < N ∨ 60 < M) :
    Calls Try.prog 4 #[.int .i64 P, .slice pa N ca, .int .i64 R, .slice pb M cb, .int .i64 k] w fun e w' => e = .returned (.bool true) ∧ Bel w w' := by
  have K := Lib.hid (works_any w)
  by_cases h0 : (60 : Int) < N
  · clear h
    go_enter Try.func4, Try.ntmps4
    go_wp2_with fail
    with_reducible refine K.out.mono ?_
    rintro e w1 ⟨rfl, hb⟩
    have HB := Lib.hid hb
    clear hb
    go_wp2
    go_ret
    exact ⟨rfl, HB.out⟩
  · have h1 : (60 : Int) < M := by omega
    clear h
    go_enter Try.func4, Try.ntmps4
    go_wp2_with fail
    with_reducible refine K.out.mono ?_
    rintro e w1 ⟨rfl, hb⟩
    have HB := Lib.hid hb
    clear hb
    go_wp2
    go_ret
    exact ⟨rfl, HB.out⟩
theorem melds_no (P : Int) (pa : Option Addr) (N ca : Nat) (al : List Ak) (R : Int) (pb : Option Addr) (M cb : Nat) (bl : List Ak) (k : Int) (w : World) (hN : N ≤ 60) (hM : M ≤ 60) (hl : al.length = N) (hl2 : bl.length = M) (hA : Lies nof w pa (encK al)) (hA2 : Lies nof w pb (encK bl)) (h : ¬ ((0 ≤ P ∧ P ≤ 1024) ∧ 0 ≤ R ∧ R ≤ 1024)) :
    Calls Try.prog 4 #[.int .i64 P, .slice pa N ca, .int .i64 R, .slice pb M cb, .int .i64 k] w fun e w' => e = .returned (.bool true) ∧ Bel w w' := by
  have K := Lib.hid (works_any w)
  have h0 : ¬ (60 : Int) < N := by omega
  have h1 : ¬ (60 : Int) < M := by omega
  by_cases hP : 0 ≤ P ∧ P ≤ 1024
  · have hR : ¬ (0 ≤ R ∧ R ≤ 1024) := fun e => h ⟨hP, e⟩
    obtain ⟨P, rfl⟩ : ∃ n : Nat, P = n := ⟨P.toNat, by omega⟩
    have KB := Lib.hid (fun w' (h : Bel w w') => built_yes P pa N ca al w' (by omega) hl hN (hA.bel h))
    have KC := Lib.hid (fun w' => built_no R pb M cb w' hR)
    clear h hN hM hP hR hA hA2 hl hl2
    go_enter Try.func4, Try.ntmps4
    go_wp2_with fail
    with_reducible refine K.out.mono ?_
    rintro e w1 ⟨rfl, hb⟩
    have HB := Lib.hid hb
    clear hb
    go_wp2_with fail
    with_reducible refine (KB.out _ HB.out).mono ?_
    rintro e w2 ⟨Q, rfl, hbu⟩
    have HB2 := Lib.hid (HB.out.trans hbu.bel)
    clear hbu
    go_wp2_with fail
    with_reducible refine (KC.out _).mono ?_
    rintro e w3 ⟨rfl, rfl⟩
    go_wp2
    go_ret
    exact ⟨rfl, HB2.out⟩
  · by_cases hR : 0 ≤ R ∧ R ≤ 1024
    · obtain ⟨R, rfl⟩ : ∃ n : Nat, R = n := ⟨R.toNat, by omega⟩
      have KB := Lib.hid (fun w' => built_no P pa N ca w' hP)
      have KC := Lib.hid (fun w' (h : Bel w w') => built_yes R pb M cb bl w' (by omega) hl2 hM (hA2.bel h))
      clear h hN hM hP hR hA hA2 hl hl2
      go_enter Try.func4, Try.ntmps4
      go_wp2_with fail
      with_reducible refine K.out.mono ?_
      rintro e w1 ⟨rfl, hb⟩
      have HB := Lib.hid hb
      clear hb
      go_wp2_with fail
      with_reducible refine (KB.out _).mono ?_
      rintro e w2 ⟨rfl, rfl⟩
      go_wp2_with fail
      with_reducible refine (KC.out _ HB.out).mono ?_
      rintro e w3 ⟨O, rfl, hbu⟩
      have HB2 := Lib.hid (HB.out.trans hbu.bel)
      clear hbu
      go_wp2
      go_ret
      exact ⟨rfl, HB2.out⟩
    · have KB := Lib.hid (fun w' => built_no P pa N ca w' hP)
      have KC := Lib.hid (fun w' => built_no R pb M cb w' hR)
      clear h hN hM hP hR hA hA2 hl hl2
      go_enter Try.func4, Try.ntmps4
      go_wp2_with fail
      with_reducible refine K.out.mono ?_
      rintro e w1 ⟨rfl, hb⟩
      have HB := Lib.hid hb
      clear hb
      go_wp2_with fail
      with_reducible refine (KB.out _).mono ?_
      rintro e w2 ⟨rfl, rfl⟩
      go_wp2_with fail
      with_reducible refine (KC.out _).mono ?_
      rintro e w3 ⟨rfl, rfl⟩
      go_wp2
      go_ret
      exact ⟨rfl, HB.out⟩
/-- Two queues side by side. -/
structure Pa (w : World) (U Q O P R : Nat) (l m : List T) (wx : World) : Prop where
  ex : ∃ f g : Nat → Prop, Qu f wx Q P l ∧ Qu g wx O R m ∧ (∀ k, f k → w.heap.size ≤ k) ∧ (∀ k, g k → w.heap.size ≤ k) ∧ (∀ k, f k → ¬ g k) ∧ (∀ k, f k → k < U) ∧ ∀ k, g k → k < U
  bel : Bel w wx
theorem Pa.le {w w1 w2 : World} {U Q O P R : Nat} {l m : List T} (h : Pa w U Q O P R l m w1) (k : Bel w1 w2) : Pa w U Q O P R l m w2 := by
  obtain ⟨⟨f, g, h1, h2, h3, h4, h5, h7, h8⟩, h6⟩ := h
  exact ⟨⟨f, g, h1.bel k, h2.bel k, h3, h4, h5, h7, h8⟩, h6.trans k⟩
theorem pa_new {w w1 w2 : World} {Q O P R : Nat} {l m : List T} (h : Bu w w1 Q P l) (k : Bu w1 w2 O R m) : Pa w w2.heap.size Q O P R l m w2 := by
  obtain ⟨⟨f, h1, h2⟩, h3⟩ := h
  obtain ⟨⟨g, k1, k2⟩, k3⟩ := k
  exact ⟨⟨f, g, h1.bel k3, k1, h2, fun j e => Nat.le_trans h3.size (k2 j e), fun j e e2 => by have := h1.lt_ j e; have := k2 j e2; omega, (h1.bel k3).lt_, k1.lt_⟩, h3.trans k3⟩
theorem Pa.so {w w1 : World} {U Q O P R : Nat} {l m : List T} (h : Pa w U Q O P R l m w1) : So l := by
  obtain ⟨⟨f, g, h1, _⟩, _⟩ := h
  exact h1.so
theorem Pa.lens {w w1 : World} {U Q O P R : Nat} {l m : List T} (h : Pa w U Q O P R l m w1) : l.length ≤ 1024 ∧ m.length ≤ 1024 := by
  obtain ⟨⟨f, g, h1, h2, _⟩, _⟩ := h
  exact ⟨Nat.le_trans h1.len h1.hP, Nat.le_trans h2.len h2.hP⟩
theorem pa_alike {w w1 : World} {U Q O P R : Nat} {l m : List T} (h : Pa w U Q O P R l m w1) {p : Option Addr} {n c : Nat} {k : Int} (hn : l.length = n) (hl : Has w1 p l) :
    Calls Try.prog 14 #[.pointer (some ⟨Q, 0, none⟩), .agg #[.int .i64 P, .slice p n c], .int .i64 k] w1 fun e w' => e = .returned (.bool true) ∧ Bel w1 w' := by
  subst hn
  obtain ⟨⟨f, g, h1, _⟩, _⟩ := h
  exact alike_any f Q P l p c k w1 h1 hl (Nat.le_trans h1.len h1.hP)
theorem Pa.sw {w w1 : World} {U Q O P R : Nat} {l m : List T} (h : Pa w U Q O P R l m w1) : Pa w U O Q R P m l w1 := by
  obtain ⟨⟨f, g, h1, h2, h3, h4, h5, h7, h8⟩, h6⟩ := h
  exact ⟨⟨g, f, h2, h1, h4, h3, fun k a b => h5 k b a, h8, h7⟩, h6⟩
/-- A box beside them is written. -/
theorem Pa.set {w w1 w2 : World} {U Q O P R b : Nat} {l m : List T} (h : Pa w U Q O P R l m w1) (hb : U ≤ b) (hw : w.heap.size ≤ b) (k : Off (fun j => j = b) w1 w2) : Pa w U Q O P R l m w2 := by
  obtain ⟨⟨f, g, h1, h2, h3, h4, h5, h7, h8⟩, h6⟩ := h
  exact ⟨⟨f, g, h1.off k (fun i e e2 => by have := h7 i e; have : i = b := e2; omega), h2.off k (fun i e e2 => by have := h8 i e; have : i = b := e2; omega), h3, h4, h5, h7, h8⟩, Off.trans h6 k (fun i e => .inr (by have : i = b := e; omega))⟩
/-- Meld beside what was made later. -/
theorem pa_meld {w w0 w1 : World} {U Q O P R : Nat} {l m : List T} (h : Pa w U Q O P R l m w0) (hb : Bel w0 w1) :
    Calls Try.prog 17 #[.pointer (some ⟨Q, 0, none⟩), .pointer (some ⟨O, 0, none⟩)] w1 fun e w2 => e = .returned (.int .i64 (melE P R l m)) ∧ Pa w U Q O P R (melL P R l m) (melM P R l m) w2 ∧ (∀ j, w0.heap.size ≤ j → j < w1.heap.size → w2.heap[j]? = w1.heap[j]?) ∧ w1.heap.size ≤ w2.heap.size := by
  obtain ⟨⟨f, g, h1, h2, h3, h4, h5, u1, u2⟩, h6⟩ := h
  have z1 := h1.lt_
  have z2 := h2.lt_
  refine (meld_any f g Q O P R l m w1 (h1.bel hb) (h2.bel hb) h5).mono fun e w2 ⟨he, hc⟩ => ⟨he, ?_⟩
  rcases hc with ⟨hne, hbb⟩ | ⟨h0, _, _, f', g', a1, a2, a3, a4, a5, a6⟩
  · unfold melL melM
    rw [if_neg hne, if_neg hne]
    exact ⟨⟨⟨f, g, (h1.bel hb).bel hbb, (h2.bel hb).bel hbb, h3, h4, h5, u1, u2⟩, (h6.trans hb).trans hbb⟩, fun j _ hj => hbb.block j hj (fun e => e), hbb.size⟩
  · unfold melL melM
    rw [if_pos h0, if_pos h0]
    refine ⟨⟨⟨f', g', a4, a5, fun k e => ?_, fun k e => h4 k (a2 k e), a3, fun k e => ?_, fun k e => u2 k (a2 k e)⟩, Off.trans (h6.trans hb) a6 (fun i e => .inr ?_)⟩, fun j h7 h8 => a6.block j h8 (fun e => ?_), a6.size⟩
    · rcases a1 k e with e | e
      · exact h3 k e
      · exact h4 k e
    · rcases a1 k e with e | e
      · exact u1 k e
      · exact u2 k e
    · rcases e with e | e
      · exact h3 i e
      · exact h4 i e
    · rcases e with e | e
      · have := z1 j e; omega
      · have := z2 j e; omega
theorem row_kept {w0 w1 w2 : World} {p : Option Addr} {l : List T} (hk : ∀ j, w0.heap.size ≤ j → j < w1.heap.size → w2.heap[j]? = w1.heap[j]?) (h : Lies (old w0) w1 p (encs l)) : Has w2 p l := by
  rcases h with h | ⟨b, off, e, hb, h⟩
  · have : l = [] := by
      cases l with
      | nil => rfl
      | cons x r => simp [encs, enc] at h
    exact .inl this
  · by_cases h0 : encs l = []
    · have : l = [] := by
        cases l with
        | nil => rfl
        | cons x r => simp [encs, enc] at h0
      exact .inl this
    · have hlt := h.lt h0
      have hge : w0.heap.size ≤ b := Nat.le_of_not_lt hb
      have hh := hk b hge hlt
      refine Lies.has (f := nof) (.inr ⟨b, off, e, fun e => e, fun j u hu => ?_⟩)
      have := h j u hu
      unfold World.cell? at this ⊢
      simp only [] at this ⊢
      rw [hh]
      exact this
set_option maxRecDepth 100000 in
set_option maxHeartbeats 8000000 in
theorem melds_yes (P : Nat) (pa : Option Addr) (N ca : Nat) (al : List Ak) (R : Nat) (pb : Option Addr) (M cb : Nat) (bl : List Ak) (k : Int) (w : World) (hN : N ≤ 60) (hM : M ≤ 60) (hl : al.length = N) (hl2 : bl.length = M) (hA : Lies nof w pa (encK al)) (hA2 : Lies nof w pb (encK bl)) (hP : P ≤ 1024) (hR : R ≤ 1024) :
    Calls Try.prog 4 #[.int .i64 P, .slice pa N ca, .int .i64 R, .slice pb M cb, .int .i64 k] w fun e w' => e = .returned (.bool true) ∧ Bel w w' := by
  have K := Lib.hid (works_any w)
  have KB := Lib.hid (fun w' (h : Bel w w') => built_yes P pa N ca al w' hP hl hN (hA.bel h))
  have KC := Lib.hid (fun w' (h : Bel w w') => built_yes R pb M cb bl w' hR hl2 hM (hA2.bel h))
  have KH := Lib.hid (fun w' (h : Bel w w') => behind_yes P pa N ca al w' hP hl hN (hA.bel h))
  have KI := Lib.hid (fun w' (h : Bel w w') => behind_yes R pb M cb bl w' hR hl2 hM (hA2.bel h))
  have h0 : ¬ (60 : Int) < N := by omega
  have h1 : ¬ (60 : Int) < M := by omega
  clear hN hM hA hA2 hl hl2 hP hR
  generalize pla P al = A at *
  generalize pla R bl = B at *
  obtain ⟨nA, enA⟩ : ∃ n, A.length = n := ⟨_, rfl⟩
  obtain ⟨nB, enB⟩ : ∃ n, B.length = n := ⟨_, rfl⟩
  rw [enA] at KH
  rw [enB] at KI
  have ENA := Lib.hid enA
  have ENB := Lib.hid enB
  clear enA enB
  go_enter Try.func4, Try.ntmps4
  go_wp2_with fail
  with_reducible refine K.out.mono ?_
  rintro e w1 ⟨rfl, hb⟩
  have HB1 := Lib.hid hb
  clear hb K
  go_wp2_with fail
  with_reducible refine (KB.out _ HB1.out).mono ?_
  rintro e w2 ⟨Q, rfl, hbu⟩
  have KC2 := Lib.hid (KC.out w2 (HB1.out.trans hbu.bel))
  have HBU := Lib.hid hbu
  clear hbu KB KC
  go_wp2_with fail
  with_reducible refine KC2.out.mono ?_
  rintro e w3 ⟨O, rfl, hbu2⟩
  have T3 := Lib.hid (pa_new HBU.out hbu2)
  clear hbu2 KC2 HBU
  have KH3 := Lib.hid (KH.out w3 (HB1.out.trans T3.out.bel))
  go_wp2_with fail
  with_reducible refine KH3.out.mono ?_
  rintro e w4 ⟨p4, c4, rfl, hc4, hl4, hb4⟩
  have HB4 := Lib.hid (hb4.alloc #[.int .i64 P, .slice p4 nA c4] 30)
  have HBa : Hid (Bel w4 (w4.alloc (.cells #[.int .i64 P, .slice p4 nA c4] 30))) := Lib.hid ((Bel.refl _).alloc _ _)
  have HL4 := Lib.hid (hl4.bel HBa.out)
  have HC4 := Lib.hid hc4
  have M16 := Lib.hid (heap_alloc_new w4 (.cells #[.int .i64 P, .slice p4 nA c4] 30))
  have G16 : Hid (w3.heap.size ≤ w4.heap.size) := Lib.hid hb4.size
  clear hb4 hl4 hc4 KH3 KH HBa
  go_upto_region 11 with (fail)
  generalize w4.alloc (.cells #[.int .i64 P, .slice p4 nA c4] 30) = W4 at *
  generalize w4.heap.size = b16 at *
  have KI4 := Lib.hid (KI.out W4 (HB1.out.trans (T3.out.bel.trans HB4.out)))
  go_wp2_with fail
  with_reducible refine KI4.out.mono ?_
  rintro e w5 ⟨p5, c5, rfl, hc5, hl5, hb5⟩
  have HBa : Hid (Bel w5 (w5.alloc (.cells #[.int .i64 R, .slice p5 nB c5] 30))) := Lib.hid ((Bel.refl _).alloc _ _)
  have HB6 : Hid (Bel w3 (w5.alloc (.cells #[.int .i64 R, .slice p5 nB c5] 30))) := Lib.hid ((HB4.out.trans hb5).trans HBa.out)
  have HL6 : Hid (Lies (old w3) (w5.alloc (.cells #[.int .i64 R, .slice p5 nB c5] 30)) p4 (encs A)) := Lib.hid ((HL4.out.bel hb5).bel HBa.out)
  have HM6 : Hid (Lies (old w3) (w5.alloc (.cells #[.int .i64 R, .slice p5 nB c5] 30)) p5 (encs B)) := Lib.hid ((hl5.bel HBa.out).mono (fun b _ e => Nat.lt_of_lt_of_le e HB4.out.size))
  have M16 := Lib.hid (HBa.out.heap (hb5.heap M16.out))
  have M18 := Lib.hid (heap_alloc_new w5 (.cells #[.int .i64 R, .slice p5 nB c5] 30))
  have G18 : Hid (w3.heap.size ≤ w5.heap.size) := Lib.hid (HB4.out.trans hb5).size
  clear hb5 hl5 hc5 KI4 KI HBa HL4 HB4
  go_upto_region 12 with (fail)
  generalize w5.alloc (.cells #[.int .i64 R, .slice p5 nB c5] 30) = W6 at *
  generalize w5.heap.size = b18 at *
  have KE := Lib.hid (pa_meld T3.out HB6.out)
  go_wp2_with fail
  with_reducible refine KE.out.mono ?_
  rintro e w7 ⟨rfl, ht7, hk7, hz7⟩
  have T7 := Lib.hid ht7
  have M16 := Lib.hid ((hk7 b16 G16.out (Array.getElem?_eq_some_iff.1 M16.out).1).trans M16.out)
  have M18 := Lib.hid ((hk7 b18 G18.out (Array.getElem?_eq_some_iff.1 M18.out).1).trans M18.out)
  have HA7 := Lib.hid (row_kept hk7 HL6.out)
  have HB7 := Lib.hid (row_kept hk7 HM6.out)
  have KD := Lib.hid (dmeld_any P R p4 p5 c4 c5 A B w7 T3.out.so T3.out.lens.1 T3.out.lens.2 (by rw [ENA.out]; exact HC4.out) HA7.out HB7.out)
  rw [ENA.out, ENB.out] at KD
  clear ht7 hk7 hz7 KE HL6 HM6 G16 HB6 HC4
  obtain ⟨⟨q0, q1⟩, _⟩ := box2 M16.out
  obtain ⟨⟨r0, r1⟩, _⟩ := box2 M18.out
  go_wp2_with fail
  with_reducible refine KD.out.mono ?_
  rintro e w8 ⟨p8, c8, rfl, hh8, hb8⟩
  have hne0 : ¬ w8.heap.size = b18 := by have := (Array.getElem?_eq_some_iff.1 (hb8.heap M18.out)).1; omega
  obtain ⟨nL, enL⟩ : ∃ n, (melL P R A B).length = n := ⟨_, rfl⟩
  have ENL := Lib.hid enL
  rw [enL]
  clear enL
  have HBa : Hid (Bel w8 (w8.alloc (.cells #[.int .i64 P, .slice p8 nL c8] 30))) := Lib.hid ((Bel.refl _).alloc _ _)
  have T9 := Lib.hid ((T7.out.le hb8).le HBa.out)
  have HH9 := Lib.hid (hh8.bel HBa.out)
  have HB9 := Lib.hid ((HB7.out.bel hb8).bel HBa.out)
  have M18 := Lib.hid (HBa.out.heap (hb8.heap M18.out))
  have M21 := Lib.hid (heap_alloc_new w8 (.cells #[.int .i64 P, .slice p8 nL c8] 30))
  clear hh8 hb8 HA7 HB7 KD T7 M16 HBa q0 q1 r0 r1
  go_upto_region 14 with (fail)
  generalize w8.alloc (.cells #[.int .i64 P, .slice p8 nL c8] 30) = W9 at *
  generalize w8.heap.size = b21 at *
  generalize hLL : melL P R A B = L at *
  obtain ⟨⟨r0, r1⟩, f0, f1⟩ := box2 M18.out
  obtain ⟨⟨q0, q1⟩, _⟩ := box2 M21.out
  by_cases e0 : melE P R A B = 0
  · have eM : melM P R A B = [] := by unfold melM; rw [if_pos e0]
    rw [eM] at T9
    rw [e0]
    have heq : ((0 : Int) != 0) = false := by simp
    have o2 := off2 W9 b18 (.int .i64 R) (.slice none 0 0)
    have HO := Lib.hid o2
    have T10 := Lib.hid (T9.out.set G18.out (Nat.le_trans T3.out.bel.size G18.out) o2)
    have M21b := Lib.hid ((o2.block b21 (Array.getElem?_eq_some_iff.1 M21.out).1 hne0).trans M21.out)
    have M18b := Lib.hid (box2_set (x' := .int .i64 R) (y' := .slice none 0 0) M18.out)
    have HH10 := Lib.hid (((HH9.out.lies).apart M18.out o2).has)
    clear o2 T9 T3 hne0 HH9 HB9 HO q0 q1
    go_upto_region 18 with (fail)
    generalize (W9.setCell ⟨b18, 0, none⟩ (.int .i64 R)).setCell ⟨b18, 1, none⟩ (.slice none 0 0) = W10 at *
    obtain ⟨⟨q0, q1⟩, _⟩ := box2 M21b.out
    clear r0 r1 f0 f1 M18 M21
    have KA := Lib.hid (pa_alike (c := c8) (k := k) T10.out ENL.out HH10.out)
    go_wp2_with fail
    with_reducible refine KA.out.mono ?_
    rintro e w10 ⟨rfl, hb10⟩
    have T11 := Lib.hid (T10.out.le hb10)
    have KA2 := Lib.hid (pa_alike (p := none) (n := 0) (c := 0) (k := k) T11.out.sw rfl (Has.nil _ _))
    obtain ⟨⟨r0, r1⟩, _⟩ := box2 (hb10.heap M18b.out)
    clear hb10 KA
    go_wp2_with fail
    with_reducible refine KA2.out.mono ?_
    rintro e w11 ⟨rfl, hb11⟩
    have HE := Lib.hid (HB1.out.trans (T11.out.bel.trans hb11))
    clear hb11 KA2
    go_wp2
    go_ret
    exact ⟨rfl, HE.out⟩
  · have eM : melM P R A B = B := by unfold melM; rw [if_neg e0]
    have hee : (melE P R A B == 0) = false := by simpa using e0
    have heq : (melE P R A B != melE P R A B) = false := by simp
    rw [eM] at T9
    generalize melE P R A B = er at *
    have KA := Lib.hid (pa_alike (c := c8) (k := k) T9.out ENL.out HH9.out)
    go_wp2_with fail
    with_reducible refine KA.out.mono ?_
    rintro e w10 ⟨rfl, hb10⟩
    have T10 := Lib.hid (T9.out.le hb10)
    have KA2 := Lib.hid (pa_alike (c := c5) (k := k) T10.out.sw ENB.out (HB9.out.bel hb10))
    obtain ⟨⟨r0, r1⟩, _⟩ := box2 (hb10.heap M18.out)
    clear hb10 KA
    go_wp2_with fail
    with_reducible refine KA2.out.mono ?_
    rintro e w11 ⟨rfl, hb11⟩
    have HE := Lib.hid (HB1.out.trans (T10.out.bel.trans hb11))
    clear hb11 KA2
    go_wp2
    go_ret
    exact ⟨rfl, HE.out⟩
end Go.Proofs.Ytdlfppdekllloaa
