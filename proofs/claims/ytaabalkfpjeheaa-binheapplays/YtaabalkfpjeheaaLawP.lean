/-
  The walk of BinheapPlays.
-/
import Derived.Test.YtaabalkfpjeheaaBehind
import Derived.Test.YtaabalkfpjeheaaSamet
import Derived.Test.YtaabalkfpjeheaaLawA
namespace Go.Proofs.Ytaabalkfpjeheaa
open Go.RowKit
theorem ansT_eq (o : Option T) : ansT o = .tuple #[.agg #[.int .u64 (o.getD default).a, .int .u64 (o.getD default).s, .int .i64 (o.getD default).p], .bool o.isSome] := by cases o <;> rfl
theorem plays_long (P : Int) (pa : Option Addr) (N ca : Nat) (a : Ak) (k : Int) (w : World) (h : 60 < N) :
    Calls Try.prog 3 #[.int .i64 P, .slice pa N ca, .agg #[.int .i64 a.k, .int .u64 a.t.a, .int .u64 a.t.s, .int .i64 a.t.p, .int .u64 a.now], .int .i64 k] w fun e w' => e = .returned (.bool true) ∧ Bel w w' := by
  have K := Lib.hid (works_any (w.alloc (.cells #[.int .i64 a.k, .int .u64 a.t.a, .int .u64 a.t.s, .int .i64 a.t.p, .int .u64 a.now] 27)))
  have HB : Hid (Bel w (w.alloc (.cells #[.int .i64 a.k, .int .u64 a.t.a, .int .u64 a.t.s, .int .i64 a.t.p, .int .u64 a.now] 27))) := Lib.hid ((Bel.refl _).alloc _ _)
  have h0 : (60 : Int) < N := by omega
  go_enter Try.func3, Try.ntmps3
  go_wp2_with fail
  with_reducible refine K.out.mono ?_
  rintro e w1 ⟨rfl, hb⟩
  have HB1 := Lib.hid (HB.out.trans hb)
  clear hb
  go_wp2
  go_ret
  exact ⟨rfl, HB1.out⟩
theorem plays_no (P : Int) (pa : Option Addr) (N ca : Nat) (a : Ak) (k : Int) (w : World) (hN : N ≤ 60) (h : ¬ (0 ≤ P ∧ P ≤ 1024)) :
    Calls Try.prog 3 #[.int .i64 P, .slice pa N ca, .agg #[.int .i64 a.k, .int .u64 a.t.a, .int .u64 a.t.s, .int .i64 a.t.p, .int .u64 a.now], .int .i64 k] w fun e w' => e = .returned (.bool true) ∧ Bel w w' := by
  have K := Lib.hid (works_any (w.alloc (.cells #[.int .i64 a.k, .int .u64 a.t.a, .int .u64 a.t.s, .int .i64 a.t.p, .int .u64 a.now] 27)))
  have HB : Hid (Bel w (w.alloc (.cells #[.int .i64 a.k, .int .u64 a.t.a, .int .u64 a.t.s, .int .i64 a.t.p, .int .u64 a.now] 27))) := Lib.hid ((Bel.refl _).alloc _ _)
  have KB := Lib.hid (fun w' => built_no P pa N ca w' h)
  have KH := Lib.hid (fun w' => behind_no P pa N ca w' h)
  have h0 : ¬ (60 : Int) < N := by omega
  clear h hN
  go_enter Try.func3, Try.ntmps3
  go_wp2_with fail
  with_reducible refine K.out.mono ?_
  rintro e w1 ⟨rfl, hb⟩
  have HB1 := Lib.hid (HB.out.trans hb)
  clear hb
  go_wp2_with fail
  with_reducible refine (KB.out _).mono ?_
  rintro e w2 ⟨rfl, rfl⟩
  go_wp2_with fail
  with_reducible refine (KH.out _).mono ?_
  rintro e w3 ⟨rfl, hb⟩
  have HB3 := Lib.hid (HB1.out.trans (hb.alloc #[.int .i64 0, .slice none 0 0] 35))
  clear hb
  go_wp2
  go_ret
  exact ⟨rfl, HB3.out⟩
set_option maxHeartbeats 8000000 in
set_option maxRecDepth 100000 in
theorem plays_yes (P : Nat) (pa : Option Addr) (N ca : Nat) (al : List Ak) (a : Ak) (k : Int) (w : World) (hN : N ≤ 60) (hl : al.length = N) (hA : Lies nof w pa (encK al)) (hP : P ≤ 1024) :
    Calls Try.prog 3 #[.int .i64 P, .slice pa N ca, .agg #[.int .i64 a.k, .int .u64 a.t.a, .int .u64 a.t.s, .int .i64 a.t.p, .int .u64 a.now], .int .i64 k] w fun e w' => e = .returned (.bool true) ∧ Bel w w' := by
  have KB := Lib.hid (fun w' (h : Bel w w') => built_yes P pa N ca al w' hP hl hN (hA.bel h))
  have KH := Lib.hid (fun w' (h : Bel w w') => behind_yes P pa N ca al w' hP hl hN (hA.bel h))
  have hpi : (∀ t ∈ pla P al, hp P t.p = true) ∧ (pla P al).length ≤ 60 := by
    have := pla_in P al N
    rw [List.take_of_length_le (by omega)] at this
    exact ⟨this.1, by omega⟩
  have HPI := Lib.hid hpi
  have HLen : Hid ((stL P (pla P al) a).length ≤ 61) := Lib.hid (by have := stL_len P (pla P al) a; have := hpi.2; omega)
  have HDLen : Hid ((stD (pla P al) a).length ≤ 60) := Lib.hid (by
    unfold stD
    split
    · exact Nat.le_trans (List.length_filter_le _ _) hpi.2
    · simp)
  have HB0 : Hid (Bel w (w.alloc (.cells #[.int .i64 a.k, .int .u64 a.t.a, .int .u64 a.t.s, .int .i64 a.t.p, .int .u64 a.now] 27))) := Lib.hid ((Bel.refl _).alloc _ _)
  have HN0 : Hid ((w.alloc (.cells #[.int .i64 a.k, .int .u64 a.t.a, .int .u64 a.t.s, .int .i64 a.t.p, .int .u64 a.now] 27)).heap[w.heap.size]? = some (.cells #[.int .i64 a.k, .int .u64 a.t.a, .int .u64 a.t.s, .int .i64 a.t.p, .int .u64 a.now] 27 (0, 0))) := Lib.hid (heap_alloc_new _ _)
  have h0 : ¬ (60 : Int) < N := by omega
  clear hN hA hl hP hpi
  have KD := Lib.hid (fun f Q w' (h : Qu f w' Q P (pla P al)) => do_any f Q P (pla P al) a w' h)
  have KE := Lib.hid (fun f p c w' (hf : ∀ j, f j → j < w'.heap.size) (hc : (pla P al).length ≤ c) (hl : Lies f w' p (encs (pla P al))) => ddo_any f P p c (pla P al) a w' (by have := HPI.out.2; omega) hf hc hl HPI.out.1)
  unfold akV tdV at KD KE
  generalize pla P al = l at *
  generalize stL P l a = L at *
  generalize stD l a = D at *
  generalize stE P l a = er at *
  generalize (stT l a).a = ta at *
  generalize (stT l a).s = ts at *
  generalize (stT l a).p = tp at *
  have KS := Lib.hid (fun p q c d w' (h1 : Has w' p D) (h2 : Has w' q D) => sameT_any er ⟨ta, ts, tp⟩ p q c d D w' (by have := HDLen.out; omega) h1 h2)
  unfold tdV at KS
  generalize a.k = ak at *
  generalize a.t.a = aa at *
  generalize a.t.s = asq at *
  generalize a.t.p = ap at *
  generalize a.now = an at *
  go_enter Try.func3, Try.ntmps3
  go_upto_region 1 with (fail)
  generalize w.alloc (.cells #[.int .i64 ak, .int .u64 aa, .int .u64 asq, .int .i64 ap, .int .u64 an] 27) = W at *
  obtain ⟨b6, e6⟩ : ∃ b, w.heap.size = b := ⟨_, rfl⟩
  rw [e6] at HN0 ⊢
  clear e6
  have K := Lib.hid (works_any W)
  go_wp2_with fail
  with_reducible refine K.out.mono ?_
  rintro e w1 ⟨rfl, hb⟩
  have HB1 := Lib.hid hb
  clear hb K
  go_wp2_with fail
  with_reducible refine (KB.out _ (HB0.out.trans HB1.out)).mono ?_
  rintro e w2 ⟨Q, rfl, ⟨f, hq, hf⟩, hb2⟩
  have HQ := Lib.hid hq
  have HF : Hid (∀ j, f j → W.heap.size ≤ j) := Lib.hid (fun j e => Nat.le_trans HB1.out.size (hf j e))
  have HB2 := Lib.hid (HB1.out.trans hb2)
  have KH2 := Lib.hid (KH.out w2 (HB0.out.trans HB2.out))
  clear hq hf hb2 KB KH HB1
  go_wp2_with fail
  with_reducible refine (KH2.out).mono ?_
  rintro e w3 ⟨p, c, rfl, hc, hl3, hb3⟩
  have HB4 : Hid (Bel w3 (w3.alloc (.cells #[.int .i64 P, .slice p l.length c] 35))) := Lib.hid ((Bel.refl _).alloc _ _)
  have M12 : Hid ((w3.alloc (.cells #[.int .i64 P, .slice p l.length c] 35)).heap[w3.heap.size]? = some (.cells #[.int .i64 P, .slice p l.length c] 35 (0, 0))) := Lib.hid (heap_alloc_new _ _)
  have HL3 : Hid (Lies f w3 p (encs l)) := Lib.hid (hl3.fresh HQ.out.lt_)
  have HC := Lib.hid hc
  have HB3 := Lib.hid hb3
  clear hc hl3 hb3 KH2
  go_upto_region 8 with (fail)
  generalize w3.alloc (.cells #[.int .i64 P, .slice p l.length c] 35) = W4 at *
  obtain ⟨b12, e12⟩ : ∃ b, w3.heap.size = b := ⟨_, rfl⟩
  rw [e12] at M12 ⊢
  have NB12 : Hid (¬ f b12) := Lib.hid (fun e => by have h1 := HQ.out.lt_ _ e; have h2 := HB3.out.size; omega)
  have HQ4 := Lib.hid (HQ.out.bel (HB3.out.trans HB4.out))
  have HL4 := Lib.hid (HL3.out.bel HB4.out)
  have HW4 := Lib.hid (HB2.out.trans (HB3.out.trans HB4.out))
  have M6 := Lib.hid (HW4.out.heap HN0.out)
  have NB6 : Hid (¬ f b6) := Lib.hid (fun e => by have h1 := HF.out _ e; have h2 := (Array.getElem?_eq_some_iff.1 HN0.out).1; omega)
  have KD4 := Lib.hid (KD.out f Q W4 HQ4.out)
  obtain ⟨⟨a0, a1, a2, a3, a4⟩, _⟩ := box5 M6.out
  clear HQ HL3 HB3 HB4 HB2 HN0 KD e12
  go_wp2_with fail
  with_reducible refine (KD4.out).mono ?_
  rintro e w5 ⟨p1, c1, rfl, ⟨f', hff, hq5, hl5⟩, ho5⟩
  have HB6 : Hid (Bel w5 (w5.alloc (.cells #[.int .i64 er, .int .u64 ta, .int .u64 ts, .int .i64 tp, .slice p1 D.length c1] 39))) := Lib.hid ((Bel.refl _).alloc _ _)
  have M14 : Hid ((w5.alloc (.cells #[.int .i64 er, .int .u64 ta, .int .u64 ts, .int .i64 tp, .slice p1 D.length c1] 39)).heap[w5.heap.size]? = some (.cells #[.int .i64 er, .int .u64 ta, .int .u64 ts, .int .i64 tp, .slice p1 D.length c1] 39 (0, 0))) := Lib.hid (heap_alloc_new _ _)
  have HQ5 := Lib.hid hq5
  have HH5 := Lib.hid hl5.has
  have HL5 : Hid (Lies f' w5 p (encs l)) := Lib.hid (HL4.out.step ho5 hff)
  have HW5 : Hid (Bel W w5) := Lib.hid (Off.trans HW4.out ho5 (fun i e => .inr (HF.out i e)))
  have M6 := Lib.hid ((ho5.block _ (Array.getElem?_eq_some_iff.1 M6.out).1 NB6.out).trans M6.out)
  have M12 := Lib.hid ((ho5.block _ (Array.getElem?_eq_some_iff.1 M12.out).1 NB12.out).trans M12.out)
  clear hff hq5 hl5 ho5 KD4 HQ4 HL4 HW4 a0 a1 a2 a3 a4
  go_upto_region 11 with (fail)
  generalize w5.alloc (.cells #[.int .i64 er, .int .u64 ta, .int .u64 ts, .int .i64 tp, .slice p1 D.length c1] 39) = W6 at *
  generalize w5.heap.size = b14 at *
  have HQ6 := Lib.hid (HQ5.out.bel HB6.out)
  have KE6 := Lib.hid (KE.out f' p c W6 HQ6.out.lt_ HC.out (HL5.out.bel HB6.out))
  have HW6 := Lib.hid (HW5.out.trans HB6.out)
  have HH6 := Lib.hid (HH5.out.bel HB6.out)
  obtain ⟨⟨a0, a1, a2, a3, a4⟩, _⟩ := box5 (HB6.out.heap M6.out)
  obtain ⟨⟨d0, d1⟩, _⟩ := box2 (HB6.out.heap M12.out)
  clear HQ5 HL5 HW5 HH5 KE M6 M12 HC
  go_wp2_with fail
  with_reducible refine (KE6.out).mono ?_
  rintro e w7 ⟨p7, c7, q7, k7, rfl, hd7⟩
  have HT := Lib.hid (two_new w7 #[.int .i64 P, .slice p7 L.length c7] #[.int .i64 er, .int .u64 ta, .int .u64 ts, .int .i64 tp, .slice q7 D.length k7] 35 39)
  have HD7 := Lib.hid hd7
  clear hd7 KE6 a0 a1 a2 a3 a4 d0 d1
  go_upto_region 12 with (fail)
  obtain ⟨W8, eW8, hB8, _, n15, n16⟩ := HT.out
  rw [eW8]
  clear eW8 HT
  obtain ⟨b16, e16⟩ : ∃ b, w7.heap.size + 1 = b := ⟨_, rfl⟩
  rw [e16] at n16 ⊢
  obtain ⟨b15, e15⟩ : ∃ b, w7.heap.size = b := ⟨_, rfl⟩
  rw [e15] at n15 ⊢
  have hb8 := HD7.out.doc.bel.trans hB8
  have HQ8 := Lib.hid (HQ6.out.bel hb8)
  have HP8 : Hid (Has W8 p7 L) := Lib.hid (HD7.out.doc.lies.bel hB8).has
  have HW8 := Lib.hid (HW6.out.trans hb8)
  have KS8 := Lib.hid (KS.out p1 q7 c1 k7 W8 (HH6.out.bel hb8) (HD7.out.fresh.bel hB8).has)
  obtain ⟨⟨a0, a1, a2, a3, a4⟩, _⟩ := box5 (hb8.heap M14.out)
  obtain ⟨⟨d0, d1, d2, d3, d4⟩, _⟩ := box5 n16
  have M15 := Lib.hid n15
  clear n15 n16 e15 e16 hb8 hB8 HD7 HQ6 HH6 HW6 KS
  go_wp2_with fail
  with_reducible refine (KS8.out).mono ?_
  rintro e w9 ⟨rfl, hb9⟩
  have HQ9 : Hid (∀ w', Bel w9 w' → Qu f' w' Q P L ∧ Has w' p7 L) := Lib.hid (fun w' hb => ⟨HQ8.out.bel (hb9.trans hb), HP8.out.bel (hb9.trans hb)⟩)
  have HW9 : Hid (Bel w w9) := Lib.hid (HB0.out.trans (HW8.out.trans hb9))
  have M15 := Lib.hid (hb9.heap M15.out)
  clear hb9 KS8 a0 a1 a2 a3 a4 d0 d1 d2 d3 d4 HQ8 HP8 HW8 HB0 M14
  have hLen := HLen.out
  have K1 := Lib.hid (fun w' (h : Qu f' w' Q P L) => get_any f' Q P L k w' h)
  have K2 := Lib.hid (fun w' (h : Has w' p7 L) => dget_any P p7 L.length c7 L k w' rfl (by omega) h)
  have K3 := Lib.hid (fun w' (h : Qu f' w' Q P L) => min_any f' Q P L w' h)
  have K4 := Lib.hid (fun w' (h : Has w' p7 L) => dmin_any P p7 L.length c7 L w' rfl h)
  have K5 : Hid (∀ w', Qu f' w' Q P L → Calls Try.prog 19 #[.pointer (some ⟨Q, 0, none⟩)] w' fun e w2 => ∃ q d, e = .returned (.slice q L.length d) ∧ Has w2 q L ∧ Bel w' w2) := Lib.hid (fun w' h => (all_any f' Q P L w' h).mono fun e w2 ⟨⟨q, d, he, _, hh⟩, hb⟩ => ⟨q, d, he, hh.has, hb⟩)
  have K6 := Lib.hid (fun q d w' (h1 : Has w' q L) (h2 : Has w' p7 L) => same_yes q p7 d c7 L w' (by omega) h1 h2)
  have K7 := Lib.hid (fun w' (h : Qu f' w' Q P L) => len_any f' Q P L w' h)
  simp only [ansT_eq] at K1 K2 K3 K4
  have hE1 := eql_yes ((fnd L k).getD default) ((fnd L k).getD default) rfl
  have hE2 := eql_yes (L.head?.getD default) (L.head?.getD default) rfl
  generalize ((fnd L k).getD default).a = x0 at *
  generalize ((fnd L k).getD default).s = x1 at *
  generalize ((fnd L k).getD default).p = x2 at *
  generalize (fnd L k).isSome = xs at *
  generalize (L.head?.getD default).a = z0 at *
  generalize (L.head?.getD default).s = z1 at *
  generalize (L.head?.getD default).p = z2 at *
  generalize L.head?.isSome = zs at *
  have hS1 : (xs == xs) = true := by simp
  have hS2 : (zs == zs) = true := by simp
  have BB0 : Hid (Bel w9 w9) := Lib.hid (Bel.refl w9)
  go_wp2_with fail
  with_reducible refine (K1.out _ (HQ9.out _ BB0.out).1).mono ?_
  rintro e w10 ⟨rfl, hb⟩
  have BB1 := Lib.hid (BB0.out.trans (hb.alloc #[.int .u64 x0, .int .u64 x1, .int .i64 x2] 25))
  have M15 := Lib.hid ((hb.alloc #[.int .u64 x0, .int .u64 x1, .int .i64 x2] 25).heap M15.out)
  have Mb18 := Lib.hid (heap_alloc_new w10 (.cells #[.int .u64 x0, .int .u64 x1, .int .i64 x2] 25))
  clear hb
  go_upto_region 14 with (fail)
  generalize w10.alloc (.cells #[.int .u64 x0, .int .u64 x1, .int .i64 x2] 25) = V0 at *
  generalize w10.heap.size = b18 at *
  obtain ⟨⟨q0, q1⟩, _⟩ := box2 M15.out
  go_wp2_with fail
  with_reducible refine (K2.out _ (HQ9.out _ BB1.out).2).mono ?_
  rintro e w11 ⟨rfl, hb⟩
  have BB2 := Lib.hid (BB1.out.trans (hb.alloc #[.int .u64 x0, .int .u64 x1, .int .i64 x2] 25))
  have M15 := Lib.hid ((hb.alloc #[.int .u64 x0, .int .u64 x1, .int .i64 x2] 25).heap M15.out)
  have Mb18 := Lib.hid ((hb.alloc #[.int .u64 x0, .int .u64 x1, .int .i64 x2] 25).heap Mb18.out)
  have Mb20 := Lib.hid (heap_alloc_new w11 (.cells #[.int .u64 x0, .int .u64 x1, .int .i64 x2] 25))
  clear hb q0 q1
  go_upto_region 15 with (fail)
  generalize w11.alloc (.cells #[.int .u64 x0, .int .u64 x1, .int .i64 x2] 25) = V1 at *
  generalize w11.heap.size = b20 at *
  go_wp2_with fail
  with_reducible refine (K3.out _ (HQ9.out _ BB2.out).1).mono ?_
  rintro e w12 ⟨rfl, hb⟩
  have BB3 := Lib.hid (BB2.out.trans (hb.alloc #[.int .u64 z0, .int .u64 z1, .int .i64 z2] 25))
  have M15 := Lib.hid ((hb.alloc #[.int .u64 z0, .int .u64 z1, .int .i64 z2] 25).heap M15.out)
  have Mb18 := Lib.hid ((hb.alloc #[.int .u64 z0, .int .u64 z1, .int .i64 z2] 25).heap Mb18.out)
  have Mb20 := Lib.hid ((hb.alloc #[.int .u64 z0, .int .u64 z1, .int .i64 z2] 25).heap Mb20.out)
  have Mb22 := Lib.hid (heap_alloc_new w12 (.cells #[.int .u64 z0, .int .u64 z1, .int .i64 z2] 25))
  clear hb
  go_upto_region 16 with (fail)
  generalize w12.alloc (.cells #[.int .u64 z0, .int .u64 z1, .int .i64 z2] 25) = V2 at *
  generalize w12.heap.size = b22 at *
  obtain ⟨⟨q0, q1⟩, _⟩ := box2 M15.out
  go_wp2_with fail
  with_reducible refine (K4.out _ (HQ9.out _ BB3.out).2).mono ?_
  rintro e w13 ⟨rfl, hb⟩
  have BB4 := Lib.hid (BB3.out.trans (hb.alloc #[.int .u64 z0, .int .u64 z1, .int .i64 z2] 25))
  have M15 := Lib.hid ((hb.alloc #[.int .u64 z0, .int .u64 z1, .int .i64 z2] 25).heap M15.out)
  have Mb18 := Lib.hid ((hb.alloc #[.int .u64 z0, .int .u64 z1, .int .i64 z2] 25).heap Mb18.out)
  have Mb20 := Lib.hid ((hb.alloc #[.int .u64 z0, .int .u64 z1, .int .i64 z2] 25).heap Mb20.out)
  have Mb22 := Lib.hid ((hb.alloc #[.int .u64 z0, .int .u64 z1, .int .i64 z2] 25).heap Mb22.out)
  have Mb24 := Lib.hid (heap_alloc_new w13 (.cells #[.int .u64 z0, .int .u64 z1, .int .i64 z2] 25))
  clear hb q0 q1
  go_upto_region 17 with (fail)
  generalize w13.alloc (.cells #[.int .u64 z0, .int .u64 z1, .int .i64 z2] 25) = V3 at *
  generalize w13.heap.size = b24 at *
  have HC : Hid (∀ w', Bel V3 w' → w'.cell? ⟨b15, 1, none⟩ = some (.slice p7 L.length c7)) := Lib.hid (fun w' hb => (box2 (hb.heap M15.out)).1.2)
  have HD : Hid (Bel V3 V3.drew) := Lib.hid (Bel.refl V3).drew
  have HQ4 : Hid (∀ w', Bel V3 w' → Qu f' w' Q P L ∧ Has w' p7 L) := Lib.hid (fun w' hb => HQ9.out _ (BB4.out.trans hb))
  have c1' := HC.out _ (Bel.refl _)
  go_wp2
  go_region_held3 (fun w' => w'.cell? ⟨b15, 1, none⟩ = some (.slice p7 L.length c7)) (first | (with_reducible exact HC.out _ HD.out) | exact HC.out _ (HD.out.trans hg1) | exact HC.out _ ((HD.out.trans hg1).trans hg2))
    (first | (go_at_call 19; (with_reducible refine (K5.out _ (HQ4.out _ HD.out).1).mono ?_); rintro e w15 ⟨q, d, rfl, hq, hg1⟩) | (go_at_call 18; (with_reducible refine (K6.out q d _ hq (HQ4.out _ (HD.out.trans hg1)).2).mono ?_); rintro e w16 ⟨rfl, hg2⟩))
  have HB6 : Hid (Bel V3 w16) := Lib.hid ((HD.out.trans hg1).trans hg2)
  clear hg1 hg2 hq c1'
  have HS : Hid (∀ w', Bel w16 w' → (w'.cell? ⟨b18, 0, none⟩ = some (.int .u64 x0) ∧ w'.cell? ⟨b18, 1, none⟩ = some (.int .u64 x1) ∧ w'.cell? ⟨b18, 2, none⟩ = some (.int .i64 x2)) ∧ (w'.cell? ⟨b20, 0, none⟩ = some (.int .u64 x0) ∧ w'.cell? ⟨b20, 1, none⟩ = some (.int .u64 x1) ∧ w'.cell? ⟨b20, 2, none⟩ = some (.int .i64 x2)) ∧ (w'.cell? ⟨b22, 0, none⟩ = some (.int .u64 z0) ∧ w'.cell? ⟨b22, 1, none⟩ = some (.int .u64 z1) ∧ w'.cell? ⟨b22, 2, none⟩ = some (.int .i64 z2)) ∧ (w'.cell? ⟨b24, 0, none⟩ = some (.int .u64 z0) ∧ w'.cell? ⟨b24, 1, none⟩ = some (.int .u64 z1) ∧ w'.cell? ⟨b24, 2, none⟩ = some (.int .i64 z2)) ∧ w'.cell? ⟨b15, 1, none⟩ = some (.slice p7 L.length c7)) := Lib.hid (fun w' hb =>
    ⟨(box3 ((HB6.out.trans hb).heap Mb18.out)).1, (box3 ((HB6.out.trans hb).heap Mb20.out)).1, (box3 ((HB6.out.trans hb).heap Mb22.out)).1, (box3 ((HB6.out.trans hb).heap Mb24.out)).1, (box2 ((HB6.out.trans hb).heap M15.out)).1.2⟩)
  have HBw : Hid (Bel w w16) := Lib.hid (HW9.out.trans (BB4.out.trans HB6.out))
  have H6 : Hid (Bel w16 w16.drew) := Lib.hid (Bel.refl w16).drew
  have K7' := Lib.hid (K7.out _ (HQ4.out _ (HB6.out.trans H6.out)).1)
  obtain ⟨⟨r0, r1, r2⟩, ⟨r3, r4, r5⟩, ⟨r6, r7, r8⟩, ⟨r9, r10, r11⟩, r12⟩ := HS.out _ (Bel.refl _)
  clear K1 K2 K3 K4 K5 K6 K7 M15 Mb18 Mb20 Mb22 Mb24 BB0 BB1 BB2 BB3
  go_wp2
  go_region_held3 (fun w' => (w'.cell? ⟨b18, 0, none⟩ = some (.int .u64 x0) ∧ w'.cell? ⟨b18, 1, none⟩ = some (.int .u64 x1) ∧ w'.cell? ⟨b18, 2, none⟩ = some (.int .i64 x2)) ∧ (w'.cell? ⟨b20, 0, none⟩ = some (.int .u64 x0) ∧ w'.cell? ⟨b20, 1, none⟩ = some (.int .u64 x1) ∧ w'.cell? ⟨b20, 2, none⟩ = some (.int .i64 x2)) ∧ (w'.cell? ⟨b22, 0, none⟩ = some (.int .u64 z0) ∧ w'.cell? ⟨b22, 1, none⟩ = some (.int .u64 z1) ∧ w'.cell? ⟨b22, 2, none⟩ = some (.int .i64 z2)) ∧ (w'.cell? ⟨b24, 0, none⟩ = some (.int .u64 z0) ∧ w'.cell? ⟨b24, 1, none⟩ = some (.int .u64 z1) ∧ w'.cell? ⟨b24, 2, none⟩ = some (.int .i64 z2)) ∧ w'.cell? ⟨b15, 1, none⟩ = some (.slice p7 L.length c7))
    (first | (with_reducible exact HS.out _ H6.out) | exact HS.out _ (H6.out.trans hg3))
    (first | (go_at_call 20; (with_reducible refine (K7'.out).mono ?_); rintro e w17 ⟨rfl, hg3'⟩; have hg3 : Bel w16.drew w17 := hg3' ▸ Bel.refl _))
  have HBE := Lib.hid (HBw.out.trans (H6.out.trans hg3))
  clear hg3 hg3'
  go_wp2
  go_ret
  exact ⟨rfl, HBE.out⟩
end Go.Proofs.Ytaabalkfpjeheaa
