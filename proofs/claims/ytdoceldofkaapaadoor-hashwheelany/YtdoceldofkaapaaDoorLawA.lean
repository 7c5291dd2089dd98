/-
  The walk of HashwheelAny.
-/
import Derived.Test.YtdoceldofkaapaaDoorAworks
import Derived.Test.YtdoceldofkaapaaDoorXak
import Derived.Test.YtdoceldofkaapaaDoorSamet
import Derived.Deep.CutRange
set_option linter.unusedVariables false
set_option linter.unusedSimpArgs false
namespace Go.Proofs.YtdoceldofkaapaaDoor.Ha
open Go.RowKit
theorem ansT_eq (o : Option T) : ansT o = .tuple #[.agg #[.int .u64 (o.getD default).a, .int .u64 (o.getD default).s, .int .i64 (o.getD default).p], .bool o.isSome] := by cases o <;> rfl
theorem any_long {Qu : QT} (C : Con Qu) (P bits s : Int) (pa : Option Addr) (N ca : Nat) (bits2 s2 : Int) (w : World) (hT : Bm.Tab w) (h : 60 < N) :
    Calls Tryd.prog 5 #[.int .i64 P, .int .i64 bits, .int .u64 s, .slice pa N ca, .int .i64 bits2, .int .u64 s2] w fun e w' => e = .returned (.bool true) ∧ Bel w w' := by
  have K := Lib.hid (works_any C w hT)
  have h0 : (60 : Int) < N := by omega
  go_enter Tryd.func5, Tryd.ntmps5
  go_wp2_with fail
  with_reducible refine K.out.mono ?_
  rintro e w1 ⟨rfl, hb⟩
  go_wp2
  go_ret
  exact ⟨rfl, hb⟩
theorem any_no {Qu : QT} (C : Con Qu) (P bits s : Int) (pa : Option Addr) (N ca : Nat) (bits2 s2 : Int) (w : World) (hT : Bm.Tab w) (hN : N ≤ 60) (hs : Tk s) (hs2 : Tk s2) (h : ¬ ((0 ≤ P ∧ P ≤ 1024) ∧ (1 ≤ bits ∧ bits ≤ 6) ∧ 1 ≤ bits2 ∧ bits2 ≤ 6)) :
    Calls Tryd.prog 5 #[.int .i64 P, .int .i64 bits, .int .u64 s, .slice pa N ca, .int .i64 bits2, .int .u64 s2] w fun e w' => e = .returned (.bool true) ∧ Bel w w' := by
  have K := Lib.hid (works_any C w hT)
  have h0 : ¬ (60 : Int) < N := by omega
  have KX : Hid (∀ (b x : Int) w', Bel w w' → Tk x → Calls Tryd.prog 14 #[.int .i64 P, .int .i64 b, .int .u64 x] w' fun e w2 => ∃ v er, e = .returned (.tuple #[.pointer v, .int .i64 er]) ∧ ((v = none ∧ er = 1 ∧ ¬ ((0 ≤ P ∧ P ≤ 1024) ∧ 1 ≤ b ∧ b ≤ 6)) ∨ (∃ Q, v = some ⟨Q, 0, none⟩) ∧ er = 0 ∧ (0 ≤ P ∧ P ≤ 1024) ∧ 1 ≤ b ∧ b ≤ 6) ∧ Bel w' w2) := Lib.hid (fun b x w' hbw hx => by
    by_cases hc : (0 ≤ P ∧ P ≤ 1024) ∧ 1 ≤ b ∧ b ≤ 6
    · obtain ⟨Pn, rfl⟩ : ∃ n : Nat, P = n := ⟨P.toNat, by omega⟩
      obtain ⟨bn, rfl⟩ : ∃ n : Nat, b = n := ⟨b.toNat, by omega⟩
      exact (C.qnew_yes Pn bn x w' (by omega) (by omega) hx (tab_bel hT hbw)).mono fun e w2 ⟨Q, f, he, _, _, hb⟩ => ⟨_, _, he, .inr ⟨⟨Q, rfl⟩, rfl, hc⟩, hb⟩
    · exact (C.qnew_no P b x w' hc).mono fun e w2 ⟨he, hb⟩ => ⟨_, _, he, .inl ⟨rfl, rfl, hc⟩, hb⟩)
  have K1 := Lib.hid (fun w' (hb : Bel w w') => KX.out bits s w' hb hs)
  have K2 := Lib.hid (fun w' (hb : Bel w w') => KX.out bits2 s2 w' hb hs2)
  clear KX hN hs hs2
  go_enter Tryd.func5, Tryd.ntmps5
  go_wp2_with fail
  with_reducible refine K.out.mono ?_
  rintro e w1 ⟨rfl, hb⟩
  have HB := Lib.hid hb
  clear hb
  go_wp2_with fail
  with_reducible refine (K1.out _ HB.out).mono ?_
  rintro e w2 ⟨v, er, rfl, hv, hb⟩
  have HB2 := Lib.hid (HB.out.trans hb)
  clear hb
  go_wp2_with fail
  with_reducible refine (K2.out _ HB2.out).mono ?_
  rintro e w3 ⟨v2, er2, rfl, hv2, hb⟩
  have HB3 := Lib.hid (HB2.out.trans hb)
  clear hb
  rcases hv with ⟨rfl, rfl, _⟩ | ⟨⟨Q, rfl⟩, rfl, hc⟩
  · rcases hv2 with ⟨rfl, rfl, _⟩ | ⟨⟨O, rfl⟩, rfl, hc2⟩
    · go_wp2
      go_ret
      exact ⟨rfl, HB3.out⟩
    · go_wp2
      go_ret
      exact ⟨rfl, HB3.out⟩
  · rcases hv2 with ⟨rfl, rfl, _⟩ | ⟨⟨O, rfl⟩, rfl, hc2⟩
    · clear h hc
      go_wp2
      go_ret
      exact ⟨rfl, HB3.out⟩
    · exact absurd ⟨hc.1, hc.2, hc2.2⟩ h
/-- Two queues side by side. -/
structure Pw (Qu : QT) (w : World) (Q O P b1 b2 : Nat) (l m : List T) (wx : World) : Prop where
  ex : ∃ f g s1 k1 s2 k2, Qu f wx Q P b1 s1 k1 l ∧ Qu g wx O P b2 s2 k2 m ∧ (∀ k, f k → w.heap.size ≤ k) ∧ (∀ k, g k → w.heap.size ≤ k) ∧ ∀ k, f k → ¬ g k
  bel : Bel w wx
/-- And a list outside both. -/
structure Pv (Qu : QT) (w : World) (Q O P b1 b2 : Nat) (l m : List T) (p : Option Addr) (d : List T) (wx : World) : Prop where
  ex : ∃ f g s1 k1 s2 k2, Qu f wx Q P b1 s1 k1 l ∧ Qu g wx O P b2 s2 k2 m ∧ (∀ k, f k → w.heap.size ≤ k) ∧ (∀ k, g k → w.heap.size ≤ k) ∧ (∀ k, f k → ¬ g k) ∧ Lies (fun j => f j ∨ g j) wx p (encs d)
  bel : Bel w wx
section
variable {Qu : QT} (C : Con Qu) {w : World} {Q O P b1 b2 : Nat} {l m d : List T} {p : Option Addr}
theorem Pv.pw {w1 : World} (h : Pv Qu w Q O P b1 b2 l m p d w1) : Pw Qu w Q O P b1 b2 l m w1 := by
  obtain ⟨⟨f, g, s1, k1, s2, k2, h1, h2, h3, h4, h5, h6⟩, h7⟩ := h
  exact ⟨⟨f, g, s1, k1, s2, k2, h1, h2, h3, h4, h5⟩, h7⟩
theorem Pv.has {w1 : World} (h : Pv Qu w Q O P b1 b2 l m p d w1) : Has w1 p d := by
  obtain ⟨⟨f, g, s1, k1, s2, k2, h1, h2, h3, h4, h5, h6⟩, h7⟩ := h
  exact h6.has
theorem pw_le (C : Con Qu) {w1 w2 : World} (h : Pw Qu w Q O P b1 b2 l m w1) (k : Bel w1 w2) : Pw Qu w Q O P b1 b2 l m w2 := by
  obtain ⟨⟨f, g, s1, k1, s2, k2, h1, h2, h3, h4, h5⟩, h7⟩ := h
  exact ⟨⟨f, g, s1, k1, s2, k2, C.bel h1 k, C.bel h2 k, h3, h4, h5⟩, h7.trans k⟩
theorem pw_len (C : Con Qu) {w1 : World} (h : Pw Qu w Q O P b1 b2 l m w1) : l.length ≤ 1024 := by
  obtain ⟨⟨f, g, s1, k1, s2, k2, h1, h2, h3, h4, h5⟩, h7⟩ := h
  exact Nat.le_trans (C.len h1) (C.hP h1)
theorem Pw.sw {w1 : World} (h : Pw Qu w Q O P b1 b2 l m w1) : Pw Qu w O Q P b2 b1 m l w1 := by
  obtain ⟨⟨f, g, s1, k1, s2, k2, h1, h2, h3, h4, h5⟩, h7⟩ := h
  exact ⟨⟨g, f, s2, k2, s1, k1, h2, h1, h4, h3, fun k a b => h5 k b a⟩, h7⟩
theorem pw_do1 (C : Con Qu) (a : Ak) (ht : Tk a.t.a) (hn : Tk a.now) {w1 : World} (h : Pw Qu w Q O P b1 b2 l m w1) :
    Calls Tryd.prog 18 #[.pointer (some ⟨Q, 0, none⟩), akV a.k a.t a.now] w1 fun e w2 => ∃ p c, e = .returned (tdV (stE P l a) (stT l a) p (stD l a).length c) ∧ Pv Qu w Q O P b1 b2 (stL P l a) m p (stD l a) w2 := by
  obtain ⟨⟨f, g, s1, k1, s2, k2, h1, h2, h3, h4, h5⟩, h7⟩ := h
  have z2 := C.lt_ h2
  refine (do_any C f Q P b1 s1 k1 l a w1 h1 ht hn).mono fun e w2 ⟨p, c, he, ⟨f', hf, hq, hl⟩, ho⟩ => ⟨p, c, he, ⟨f', g, _, _, s2, k2, hq, C.off h2 ho (fun i a b => h5 i b a) (C.z h1), fun k e => ?_, h4, fun k e e2 => ?_, hl.mono (fun j _ e => ?_)⟩, Off.trans h7 ho (fun i e => .inr (h3 i e))⟩
  · rcases hf k e with e | e
    · exact h3 k e
    · exact Nat.le_trans h7.size e.1
  · rcases hf k e with e | e
    · exact h5 k e e2
    · have := z2 k e2; omega
  · rcases e with e | e
    · exact .inr e
    · exact .inl (z2 j e)
theorem pv_do2 (C : Con Qu) (a : Ak) (ht : Tk a.t.a) (hn : Tk a.now) {w1 : World} (h : Pv Qu w Q O P b1 b2 l m p d w1) :
    Calls Tryd.prog 18 #[.pointer (some ⟨O, 0, none⟩), akV a.k a.t a.now] w1 fun e w2 => ∃ q c, e = .returned (tdV (stE P m a) (stT m a) q (stD m a).length c) ∧ Pw Qu w Q O P b1 b2 l (stL P m a) w2 ∧ Has w2 p d ∧ Has w2 q (stD m a) := by
  obtain ⟨⟨f, g, s1, k1, s2, k2, h1, h2, h3, h4, h5, h6⟩, h7⟩ := h
  have z1 := C.lt_ h1
  refine (do_any C g O P b2 s2 k2 m a w1 h2 ht hn).mono fun e w2 ⟨q, c, he, ⟨g', hg, hq, hl⟩, ho⟩ => ⟨q, c, he, ⟨⟨f, g', s1, k1, _, _, C.off h1 ho h5 (C.z h2), hq, h3, fun k e => ?_, fun k e e2 => ?_⟩, Off.trans h7 ho (fun i e => .inr (h4 i e))⟩, (h6.off ho (fun i e => .inr e)).has, hl.has⟩
  · rcases hg k e with e | e
    · exact h4 k e
    · exact Nat.le_trans h7.size e.1
  · rcases hg k e2 with e2 | e2
    · exact h5 k e e2
    · have := z1 k e; omega
theorem pw_zp (C : Con Qu) {w1 : World} (h : Pw Qu w Q O P b1 b2 l m w1) : ∃ Z, w1.cell? ⟨Q, 0, none⟩ = some (.pointer (some ⟨Z, 0, none⟩)) := by
  obtain ⟨⟨f, g, s1, k1, s2, k2, h1, _⟩, _⟩ := h
  exact C.zp h1
theorem pw_count (C : Con Qu) {Z : Nat} {w1 : World} (hz : w1.cell? ⟨Q, 0, none⟩ = some (.pointer (some ⟨Z, 0, none⟩))) (h : Pw Qu w Q O P b1 b2 l m w1) {n : Nat} (e : l.length = n) : Calls Tryd.prog 9 #[.pointer (some ⟨Z, 0, none⟩)] w1 fun e w2 => e = .returned (.int .i64 n) ∧ Bel w1 w2 := by
  subst e
  obtain ⟨⟨f, g, s1, k1, s2, k2, h1, _⟩, _⟩ := h
  exact C.count w1 h1 hz
theorem pw_min (C : Con Qu) {w1 : World} (h : Pw Qu w Q O P b1 b2 l m w1) : Calls Tryd.prog 19 #[.pointer (some ⟨Q, 0, none⟩)] w1 fun e w2 => e = .returned (ansT l.head?) ∧ Bel w1 w2 := by
  obtain ⟨⟨f, g, s1, k1, s2, k2, h1, _⟩, _⟩ := h
  exact C.min w1 h1
theorem pw_all (C : Con Qu) {Z : Nat} {w1 : World} (hz : w1.cell? ⟨Q, 0, none⟩ = some (.pointer (some ⟨Z, 0, none⟩))) (h : Pw Qu w Q O P b1 b2 l m w1) {n : Nat} (e : l.length = n) : Calls Tryd.prog 20 #[.pointer (some ⟨Z, 0, none⟩)] w1 fun e w2 => ∃ p c, e = .returned (.slice p n c) ∧ Has w2 p l ∧ Bel w1 w2 := by
  subst e
  obtain ⟨⟨f, g, s1, k1, s2, k2, h1, _⟩, _⟩ := h
  exact (C.all w1 h1 hz).mono fun e w2 ⟨p, c, he, _, hl, hb⟩ => ⟨p, c, he, hl.has, hb⟩
end
theorem stD_len (l : List T) (a : Ak) : (stD l a).length ≤ l.length := by
  unfold stD
  split
  · exact due_len _ _ _
  · simp
set_option maxHeartbeats 8000000 in
set_option maxRecDepth 100000 in
theorem any_yes {Qu : QT} (C : Con Qu) (P b : Nat) (s : Int) (pa : Option Addr) (N ca : Nat) (al : List Ak) (b2 : Nat) (s2 : Int) (w : World) (hT : Bm.Tab w) (hN : N ≤ 60) (hl : al.length = N) (hK : Aks al) (hA : Lies nof w pa (encK al)) (hP : P ≤ 1024) (hb6 : 1 ≤ b ∧ b ≤ 6) (hb62 : 1 ≤ b2 ∧ b2 ≤ 6) (hs : Tk s) (hs2 : Tk s2) :
    Calls Tryd.prog 5 #[.int .i64 P, .int .i64 b, .int .u64 s, .slice pa N ca, .int .i64 b2, .int .u64 s2] w fun e w' => e = .returned (.bool true) ∧ Bel w w' := by
  have K := Lib.hid (works_any C w hT)
  have K1 := Lib.hid (fun w' (hb : Bel w w') => C.qnew_yes P b s w' hP hb6 hs (tab_bel hT hb))
  have K2 := Lib.hid (fun w' (hb : Bel w w') => C.qnew_yes P b2 s2 w' hP hb62 hs2 (tab_bel hT hb))
  have HA := Lib.hid hA
  have HL := Lib.hid hl
  have HK := Lib.hid hK
  have h0 : ¬ (60 : Int) < N := by omega
  clear hN hA hl hK hP hs hs2 hb6 hb62
  go_enter Tryd.func5, Tryd.ntmps5
  go_wp2_with fail
  with_reducible refine K.out.mono ?_
  rintro e w1 ⟨rfl, hb⟩
  have HB1 := Lib.hid hb
  clear hb K
  go_wp2_with fail
  with_reducible refine (K1.out _ HB1.out).mono ?_
  rintro e w2 ⟨Q, f, rfl, hq, hf, hb⟩
  have HQ := Lib.hid hq
  have HF := Lib.hid hf
  have HB2 := Lib.hid hb
  clear hq hf hb K1
  go_wp2_with fail
  with_reducible refine (K2.out _ (HB1.out.trans HB2.out)).mono ?_
  rintro e w3 ⟨O, g, rfl, hq, hg, hb⟩
  have P0 : Hid (Pw Qu w1 Q O P b b2 [] [] w3) := Lib.hid ⟨⟨f, g, s, 0, s2, 0, C.bel HQ.out hb, hq, HF.out, fun k e => Nat.le_trans HB2.out.size (hg k e), fun k e e2 => by have := C.lt_ HQ.out k e; have := hg k e2; omega⟩, HB2.out.trans hb⟩
  clear hq hg hb K2 HQ HF HB2
  go_wp2
  go_loopw [18, 19] (fun v _ wr => ∃ (m : Nat) (l : List T), v = .int .i64 m ∧ m ≤ N ∧ Pw Qu w1 Q O P b b2 l l wr) (fun v _ _ => N - (intOf v).toNat)
  case atStart => exact ⟨0, [], rfl, Nat.zero_le _, P0.out⟩
  case round =>
    clear P0
    obtain ⟨m, l, rfl, hm, hi⟩ := hrel
    have HI := Lib.hid hi
    clear hi
    by_cases hlt : m < N
    · obtain ⟨a, ha⟩ : ∃ a, al[m]? = some a := ⟨_, List.getElem?_eq_getElem (by have := HL.out; omega)⟩
      obtain ⟨bb, off, rfl, _, hr⟩ := lies_ak HA.out (i := m) (by have := HL.out; omega)
      obtain ⟨a0, a1, a2, a3, a4⟩ := row_ak hr ha
      have hta := HK.out.at_ ha
      have HAC : Hid (∀ w', Bel w1 w' → w'.cell? ⟨bb, off + m * 5, none⟩ = some (.int .i64 a.k) ∧ w'.cell? ⟨bb, off + m * 5 + 1, none⟩ = some (.int .u64 a.t.a) ∧ w'.cell? ⟨bb, off + m * 5 + 2, none⟩ = some (.int .u64 a.t.s) ∧ w'.cell? ⟨bb, off + m * 5 + 3, none⟩ = some (.int .i64 a.t.p) ∧ w'.cell? ⟨bb, off + m * 5 + 4, none⟩ = some (.int .u64 a.now)) := Lib.hid (fun w' h => by
        have h := HB1.out.trans h
        exact ⟨h.cell a0, h.cell a1, h.cell a2, h.cell a3, h.cell a4⟩)
      clear a0 a1 a2 a3 a4 hr ha
      have hpl := pw_len C HI.out
      have KQ := Lib.hid (fun w' (h : Pw Qu w1 Q O P b b2 l l w') => pw_do1 C a hta.1 hta.2 h)
      have KO := Lib.hid (fun w' p (h : Pv Qu w1 Q O P b b2 (stL P l a) l p (stD l a) w') => pv_do2 C a hta.1 hta.2 h)
      have KS := Lib.hid (fun w' p1 p2 c1 c2 (h1 : Has w' p1 (stD l a)) (h2 : Has w' p2 (stD l a)) => sameT_any (stE P l a) (stT l a) p1 p2 c1 c2 (stD l a) w' (Nat.le_trans (stD_len l a) (by omega)) h1 h2)
      have hmN : (m : Int) < N := by omega
      generalize stE P l a = er at *
      generalize stT l a = tt at *
      generalize stD l a = dd at *
      generalize stL P l a = ll at *
      unfold akV tdV at *
      go_upto_region 13 with (fail)
      have BD : Hid (Pw Qu w1 Q O P b b2 l l wr.drew) := Lib.hid (pw_le C HI.out (Bel.refl wr).drew)
      have HBw : Hid (Bel w1 wr) := Lib.hid HI.out.bel
      have HBd : Hid (Bel w1 wr.drew) := Lib.hid HI.out.bel.drew
      obtain ⟨a0, a1, a2, a3, a4⟩ := HAC.out _ HI.out.bel
      clear HI HK hta hpl
      generalize a.k = xk at *
      generalize a.t.a = ya at *
      generalize a.t.s = ys at *
      generalize a.t.p = yp at *
      generalize a.now = yn at *
      go_wp2
      go_region_held3 (fun w' => w'.cell? ⟨bb, off + m * 5, none⟩ = some (.int .i64 xk) ∧ w'.cell? ⟨bb, off + m * 5 + 1, none⟩ = some (.int .u64 ya) ∧ w'.cell? ⟨bb, off + m * 5 + 2, none⟩ = some (.int .u64 ys) ∧ w'.cell? ⟨bb, off + m * 5 + 3, none⟩ = some (.int .i64 yp) ∧ w'.cell? ⟨bb, off + m * 5 + 4, none⟩ = some (.int .u64 yn))
        (first | (with_reducible exact HAC.out _ HBd.out) | (with_reducible exact HAC.out _ hv4.bel) | (with_reducible exact HAC.out _ hw5.bel) | exact HAC.out _ (hw5.bel.trans hb6))
        (first | (go_at_call 18; (with_reducible refine (KQ.out _ BD.out).mono ?_); rintro e w4 ⟨p4, c4, rfl, hv4⟩) | (go_at_call 18; (with_reducible refine (KO.out _ _ hv4).mono ?_); rintro e w5 ⟨p5, c5, rfl, hw5, hh4, hh5⟩) | (go_at_call 17; (with_reducible refine (KS.out _ _ _ _ _ hh4 hh5).mono ?_); rintro e w6 ⟨rfl, hb6⟩))
      all_goals
        have P6 := Lib.hid (pw_le C hw5 hb6)
        clear hv4 hw5 hh4 hh5 hb6 a0 a1 a2 a3 a4
        obtain ⟨n, en⟩ : ∃ n, ll.length = n := ⟨_, rfl⟩
        have P6d := Lib.hid (pw_le C P6.out (Bel.refl w6).drew)
        obtain ⟨Zq, hzq⟩ := pw_zp C P6.out
        obtain ⟨Zo, hzo⟩ := pw_zp C P6.out.sw
        have HZ : Hid (∀ w', Bel w6 w' → w'.cell? ⟨Q, 0, none⟩ = some (.pointer (some ⟨Zq, 0, none⟩)) ∧ w'.cell? ⟨O, 0, none⟩ = some (.pointer (some ⟨Zo, 0, none⟩))) := Lib.hid (fun w' hb => ⟨hb.cell hzq, hb.cell hzo⟩)
        have HD6 : Hid (Bel w6 w6.drew) := Lib.hid (Bel.refl w6).drew
        have KLq := Lib.hid (fun w' (hb : Bel w6 w') => pw_count C (HZ.out w' hb).1 (pw_le C P6.out hb) en)
        have KLo := Lib.hid (fun w' (hb : Bel w6 w') => pw_count C (HZ.out w' hb).2 (pw_le C P6.out hb).sw en)
        have PF := Lib.hid (fun w' (hb : Bel w6 w') => pw_le C P6.out hb)
        clear P6 P6d en
        go_wp2
        go_region_held3 (fun w' => w'.cell? ⟨Q, 0, none⟩ = some (.pointer (some ⟨Zq, 0, none⟩)) ∧ w'.cell? ⟨O, 0, none⟩ = some (.pointer (some ⟨Zo, 0, none⟩)))
          (first | (with_reducible exact HZ.out _ HD6.out) | (with_reducible exact HZ.out _ (HD6.out.trans hb7)) | exact HZ.out _ ((HD6.out.trans hb7).trans hb8))
          (first
            | (go_at_call 9; (with_reducible refine (KLq.out _ HD6.out).mono ?_); rintro e w7 ⟨rfl, hb7⟩)
            | (go_at_call 9; (with_reducible refine (KLo.out _ HD6.out).mono ?_); rintro e w7 ⟨rfl, hb7⟩)
            | (go_at_call 9; (with_reducible refine (KLo.out _ (HD6.out.trans hb7)).mono ?_); rintro e w8 ⟨rfl, hb8⟩)
            | (go_at_call 9; (with_reducible refine (KLq.out _ (HD6.out.trans hb7)).mono ?_); rintro e w8 ⟨rfl, hb8⟩))
        all_goals
          have P8 := Lib.hid (PF.out _ ((HD6.out.trans hb7).trans hb8))
          clear hb7 hb8 KLq KLo HZ HD6 PF
          go_wp2
          go_roundw
          case rel => exact ⟨m + 1, ll, by go_num, by omega, P8.out⟩
          case measure => simp [intOf]; omega
    · have hmN : ¬ (m : Int) < N := by omega
      have KM := Lib.hid (fun w' (h : Pw Qu w1 Q O P b b2 l l w') => pw_min C h)
      have KN := Lib.hid (fun w' (h : Pw Qu w1 O Q P b2 b l l w') => pw_min C h)
      have hE2 := eql_yes (l.head?.getD default) (l.head?.getD default) rfl
      obtain ⟨n, en⟩ : ∃ n, l.length = n := ⟨_, rfl⟩
      have hpl := pw_len C HI.out
      have KA := Lib.hid (fun w' Z (hz : w'.cell? ⟨Q, 0, none⟩ = some (.pointer (some ⟨Z, 0, none⟩))) (h : Pw Qu w1 Q O P b b2 l l w') => pw_all C hz h en)
      have KB := Lib.hid (fun w' Z (hz : w'.cell? ⟨O, 0, none⟩ = some (.pointer (some ⟨Z, 0, none⟩))) (h : Pw Qu w1 O Q P b2 b l l w') => pw_all C hz h en)
      have KS : Hid (∀ p q c d w', Has w' p l → Has w' q l → Calls Tryd.prog 16 #[.slice p n c, .slice q n d] w' fun e w2 => e = .returned (.bool true) ∧ Bel w' w2) := Lib.hid (fun p q c d w' h1 h2 => by
        have k := same_yes p q c d l w' (by omega) h1 h2
        rw [en] at k
        exact k)
      simp only [ansT_eq] at KM KN
      generalize (l.head?.getD default).a = z0 at *
      generalize (l.head?.getD default).s = z1 at *
      generalize (l.head?.getD default).p = z2 at *
      generalize l.head?.isSome = zs at *
      have hS2 : (zs == zs) = true := by simp
      clear en hpl HL HK HA
      have KM0 := Lib.hid (KM.out _ HI.out)
      go_wp2_with fail
      with_reducible refine KM0.out.mono ?_
      rintro e w4 ⟨rfl, hb⟩
      have HBa : Hid (Bel w4 (w4.alloc (.cells #[.int .u64 z0, .int .u64 z1, .int .i64 z2] 41))) := Lib.hid ((Bel.refl _).alloc _ _)
      have P4 := Lib.hid (pw_le C (pw_le C HI.out hb) HBa.out)
      have M20 := Lib.hid (heap_alloc_new w4 (.cells #[.int .u64 z0, .int .u64 z1, .int .i64 z2] 41))
      clear hb HI KM0 HBa
      go_upto_region 17 with (fail)
      generalize w4.alloc (.cells #[.int .u64 z0, .int .u64 z1, .int .i64 z2] 41) = V4 at *
      generalize w4.heap.size = b20 at *
      have KN4 := Lib.hid (KN.out _ P4.out.sw)
      go_wp2_with fail
      with_reducible refine KN4.out.mono ?_
      rintro e w5 ⟨rfl, hb⟩
      have HBa : Hid (Bel w5 (w5.alloc (.cells #[.int .u64 z0, .int .u64 z1, .int .i64 z2] 41))) := Lib.hid ((Bel.refl _).alloc _ _)
      have P5 := Lib.hid (pw_le C (pw_le C P4.out hb) HBa.out)
      have M20 := Lib.hid (HBa.out.heap (hb.heap M20.out))
      have M22 := Lib.hid (heap_alloc_new w5 (.cells #[.int .u64 z0, .int .u64 z1, .int .i64 z2] 41))
      clear hb P4 KN4 HBa
      go_upto_region 18 with (fail)
      generalize w5.alloc (.cells #[.int .u64 z0, .int .u64 z1, .int .i64 z2] 41) = V5 at *
      generalize w5.heap.size = b22 at *
      obtain ⟨Zq, hzq⟩ := pw_zp C P5.out
      obtain ⟨Zo, hzo⟩ := pw_zp C P5.out.sw
      have HZ : Hid (∀ w', Bel V5 w' → w'.cell? ⟨Q, 0, none⟩ = some (.pointer (some ⟨Zq, 0, none⟩)) ∧ w'.cell? ⟨O, 0, none⟩ = some (.pointer (some ⟨Zo, 0, none⟩))) := Lib.hid (fun w' hb => ⟨hb.cell hzq, hb.cell hzo⟩)
      have B5d : Hid (Bel V5 V5.drew) := Lib.hid (Bel.refl V5).drew
      have KA5 := Lib.hid (fun w' (hb : Bel V5 w') => KA.out w' _ (HZ.out w' hb).1 (pw_le C P5.out hb))
      have KB5 := Lib.hid (fun w' (hb : Bel V5 w') => KB.out w' _ (HZ.out w' hb).2 (pw_le C P5.out hb).sw)
      have HB5 := Lib.hid P5.out.bel
      clear P5 KA KB
      go_wp2
      go_region_held3 (fun w' => w'.cell? ⟨Q, 0, none⟩ = some (.pointer (some ⟨Zq, 0, none⟩)) ∧ w'.cell? ⟨O, 0, none⟩ = some (.pointer (some ⟨Zo, 0, none⟩)))
        (first | (with_reducible exact HZ.out _ B5d.out) | (with_reducible exact HZ.out _ (B5d.out.trans hb6)) | (with_reducible exact HZ.out _ ((B5d.out.trans hb6).trans hb7)) | exact HZ.out _ (((B5d.out.trans hb6).trans hb7).trans hb8))
        (first
          | (go_at_call 20; (with_reducible refine (KA5.out _ B5d.out).mono ?_); rintro e w6 ⟨p6, c6, rfl, hh6, hb6⟩)
          | (go_at_call 20; (with_reducible refine (KB5.out _ B5d.out).mono ?_); rintro e w6 ⟨p7, c7, rfl, hh7, hb6⟩)
          | (go_at_call 20; (with_reducible refine (KB5.out _ (B5d.out.trans hb6)).mono ?_); rintro e w7 ⟨p7, c7, rfl, hx7, hb7⟩; have hx6 := hh6.bel hb7)
          | (go_at_call 20; (with_reducible refine (KA5.out _ (B5d.out.trans hb6)).mono ?_); rintro e w7 ⟨p6, c6, rfl, hx6, hb7⟩; have hx7 := hh7.bel hb7)
          | (go_at_call 16; (with_reducible refine (KS.out _ _ _ _ _ hx6 hx7).mono ?_); rintro e w8 ⟨rfl, hb8⟩))
      all_goals
        have HB8 := Lib.hid (((B5d.out.trans hb6).trans hb7).trans hb8)
        have HE := Lib.hid (HB1.out.trans (HB5.out.trans HB8.out))
        obtain ⟨⟨r0, r1, r2⟩, _⟩ := box3 (HB8.out.heap M20.out)
        obtain ⟨⟨r3, r4, r5⟩, _⟩ := box3 (HB8.out.heap M22.out)
        clear hb6 hb7 hb8 hx6 hx7 KA5 KB5 KS HZ
        go_wp2
        go_ret
        exact ⟨rfl, HE.out⟩
end Go.Proofs.YtdoceldofkaapaaDoor.Ha
