/-
  Contract of the document's wheel's Do.
-/
import Derived.Test.YtllohpojajijjaaGreatDoorXm
set_option linter.unusedVariables false
set_option linter.unusedSimpArgs false
namespace Go.Proofs.YtllohpojajijjaaGreatDoor
open Go.RowKit
theorem off10 (w : World) (S U : Nat) (a b c d e x y z u v : Value) : Off (fun k => k = S ∨ k = U) w (sto5 (sto5 w S a b c d e) U x y z u v) :=
  Off.then ((offs5 w S a b c d e).mono (fun _ _ e => .inl e)) ((offs5 _ U x y z u v).mono (fun _ _ e => .inr e))
set_option maxHeartbeats 4000000 in
set_option maxRecDepth 100000 in
theorem wdo_any (f : Nat → Prop) (P b : Nat) (s lk : Int) (p : Option Addr) (c : Nat) (l : List T) (a : Ak) (w : World) (hb6 : b ≤ 6) (hs : Tk s) (hnw : Tk a.now) (ht : ∀ t ∈ l, Tk t.a) (hm : l.length ≤ 5000) (hf : ∀ j, f j → j < w.heap.size) (hc : l.length ≤ c) (hl : Lies f w p (encs l)) (hin : ∀ t ∈ l, hp P t.p = true) :
    Calls Tryz.prog 7 #[whV P p l.length c b s lk, akV a.k a.t a.now] w fun e w' => ∃ p' c' q k', e = .returned (.tuple #[whV P p' (stL P l a).length c' b (stB s a) (stK b s lk l a), tdV (stE P l a) (stT l a) q (stD l a).length k']) ∧ DidD f w w' p' c' (stL P l a) q (stD l a) := by
  have H4 := Lib.hid (four_new w #[.int .i64 P, .slice p l.length c, .int .i64 b, .int .u64 s, .int .i64 lk] #[.int .i64 a.k, .int .u64 a.t.a, .int .u64 a.t.s, .int .i64 a.t.p, .int .u64 a.now] #[.int .i64 0, .slice none 0 0, .int .i64 0, .int .u64 0, .int .i64 0] #[.int .i64 0, .int .u64 0, .int .u64 0, .int .i64 0, .slice none 0 0] 33 43 33 39)
  have HL := Lib.hid hl
  have HF := Lib.hid hf
  have K := Lib.hid (fun (F : Nat → Prop) w' (hf : ∀ j, F j → j < w'.heap.size) (hl : Lies F w' p (encs l)) => ddo_any F P p c l a w' hm hf hc hl hin)
  have KL := Lib.hid (fun w' (h : Has w' p l) => rlooked_any P b s lk a.now p l.length c l w' hb6 hs hnw rfl hm ht h)
  unfold stB stK
  generalize stE P l a = er at *
  generalize stT l a = tt at *
  generalize stD l a = D at *
  generalize stL P l a = L at *
  obtain ⟨n, en⟩ : ∃ n, l.length = n := ⟨_, rfl⟩
  rw [en] at H4 KL K ⊢
  obtain ⟨ky, eky⟩ : ∃ k, lks (slo b) s a.now l = k := ⟨_, rfl⟩
  rw [eky] at KL ⊢
  clear hl hf hc hin hm ht hnw hs en eky hb6
  unfold akV tdV at *
  generalize a.k = ak at *
  generalize a.t.a = aa at *
  generalize a.t.s = asq at *
  generalize a.t.p = ap at *
  generalize a.now = an at *
  go_enter Tryz.func7, Tryz.ntmps7
  go_upto_region 1 with (fail)
  obtain ⟨W, eW, hB, hz, n0, n1, n2, n3⟩ := H4.out
  rw [eW]
  clear H4 eW
  obtain ⟨b0, e0⟩ : ∃ b, w.heap.size = b := ⟨_, rfl⟩
  obtain ⟨b1, e1⟩ : ∃ b, w.heap.size + 1 = b := ⟨_, rfl⟩
  rw [e1] at n1 n2 n3 hz ⊢
  obtain ⟨b2, e2⟩ : ∃ b, b1 + 1 = b := ⟨_, rfl⟩
  rw [e2] at n2 n3 hz ⊢
  obtain ⟨b3, e3⟩ : ∃ b, b2 + 1 = b := ⟨_, rfl⟩
  rw [e3] at n3 hz ⊢
  have hS : w.heap.size ≤ b2 ∧ b2 < W.heap.size := by omega
  have hU : w.heap.size ≤ b3 ∧ b3 < W.heap.size := by omega
  have l01 : b0 < W.heap.size ∧ b1 < W.heap.size := by omega
  have n23 : ¬ b2 = b3 := by omega
  have n32 : ¬ b3 = b2 := by omega
  rw [e0] at n0 ⊢
  obtain ⟨⟨q0, q1, q2, q3, q4⟩, _⟩ := box5 n0
  obtain ⟨⟨x0, x1, x2, x3, x4⟩, _⟩ := box5 n1
  have HB := Lib.hid hB
  have HN0 := Lib.hid n0
  have HN1 := Lib.hid n1
  have HN2 := Lib.hid n2
  have HN3 := Lib.hid n3
  have HW := Lib.hid (HL.out.wide hB)
  have HG : Hid (∀ j, (f j ∨ w.heap.size ≤ j ∧ j < W.heap.size) → j < W.heap.size) := Lib.hid (fun j e => by rcases e with e | e; exact Nat.lt_of_lt_of_le (HF.out j e) hB.size; exact e.2)
  clear hB n0 n1 n2 n3 e1 e2 e3 hz e0
  go_wp2_with fail
  with_reducible refine (K.out _ _ HG.out HW.out).mono ?_
  rintro e w1 ⟨p1, c1, q1', k1, rfl, hd, hh⟩
  have H2 := Lib.hid (two_new w1 #[.int .i64 P, .slice p1 L.length c1] #[.int .i64 er, .int .u64 tt.a, .int .u64 tt.s, .int .i64 tt.p, .slice q1' D.length k1] 31 39)
  have HD1 := Lib.hid hd
  have HH1 := Lib.hid hh
  clear hd hh q0 q1 q2 q3 q4 x0 x1 x2 x3 x4 K
  go_upto_region 2 with (fail)
  obtain ⟨W3, eW3, hB3, hz3, m6, m7⟩ := H2.out
  rw [eW3]
  clear H2 eW3
  obtain ⟨b7, e7⟩ : ∃ b, w1.heap.size + 1 = b := ⟨_, rfl⟩
  rw [e7] at m7 hz3 ⊢
  obtain ⟨b6, e6⟩ : ∃ b, w1.heap.size = b := ⟨_, rfl⟩
  rw [e6] at m6 ⊢
  have hz1 := HD1.out.bel.size
  have hBW3 : Bel W W3 := HD1.out.bel.trans hB3
  obtain ⟨⟨r0, r1⟩, _⟩ := box2 m6
  obtain ⟨⟨q0, q1, q2, q3, q4⟩, _⟩ := box5 (hBW3.heap HN0.out)
  have HB4 : Hid (Bel W3 (W3.alloc (.cells #[.int .i64 P, .slice p1 L.length c1, .int .i64 b, .int .u64 s, .int .i64 lk] 33))) := Lib.hid ((Bel.refl _).alloc _ _)
  have M8 := Lib.hid (heap_alloc_new W3 (.cells #[.int .i64 P, .slice p1 L.length c1, .int .i64 b, .int .u64 s, .int .i64 lk] 33))
  have M7 := Lib.hid (HB4.out.heap m7)
  have HBW4 := Lib.hid (hBW3.trans HB4.out)
  have HB14 := Lib.hid (hB3.trans HB4.out)
  have l7 : b7 < W3.heap.size := by omega
  have l8 : w1.heap.size ≤ W3.heap.size := by omega
  clear m6 m7 hBW3 hB3
  go_upto_region 3 with (fail)
  obtain ⟨b8, e8⟩ : ∃ b, b7 + 1 = b := ⟨_, rfl⟩
  rw [hz3, e8] at M8 l7 l8
  rw [e8]
  generalize W3.alloc (.cells #[.int .i64 P, .slice p1 L.length c1, .int .i64 b, .int .u64 s, .int .i64 lk] 33) = W4 at *
  have n28 : ¬ b2 = b8 := by omega
  have n82 : ¬ b8 = b2 := by omega
  have n38 : ¬ b3 = b8 := by omega
  have n83 : ¬ b8 = b3 := by omega
  have n27 : ¬ b2 = b7 := by omega
  have n72 : ¬ b7 = b2 := by omega
  have n37 : ¬ b3 = b7 := by omega
  have n73 : ¬ b7 = b3 := by omega
  have n08 : ¬ b0 = b8 := by omega
  have n18 : ¬ b1 = b8 := by omega
  have n78 : ¬ b7 = b8 := by omega
  have HFin : Hid (∀ Wz wz, Bel w1 Wz → Off (fun k => k = b2 ∨ k = b3) Wz wz → DidD f w wz p1 c1 L q1' D) := Lib.hid (fun Wz wz hb ho => by
    have hd : DocOut (fun j => f j ∨ w.heap.size ≤ j ∧ j < W.heap.size) W Wz p1 c1 L := ⟨HD1.out.hc, HD1.out.lies.bel hb, HD1.out.bel.trans hb⟩
    refine ⟨DidD.mk2 HB.out hd ho hS hU, ?_⟩
    exact ((HH1.out.bel hb).off (ho.mono (g := old W) (fun i _ e => by unfold old; rcases e with e | e <;> omega)) (fun i e => e)).mono (fun b _ e => Nat.lt_of_lt_of_le e HB.out.size))
  obtain ⟨⟨x0, x1, x2, x3, x4⟩, _⟩ := box5 (HBW4.out.heap HN1.out)
  clear HD1 HH1 hS hU l01 q0 q1 q2 q3 q4 r0 r1
  by_cases h3 : ak = 3
  · have k3 : (ak == 3) = true := by simpa using h3
    have H3 := Lib.hid h3
    obtain ⟨⟨q0, q1, q2, q3, q4⟩, _⟩ := box5 (HBW4.out.heap HN0.out)
    have KL4 := Lib.hid (KL.out W4 (HL.out.has.bel (HB.out.trans HBW4.out)))
    clear h3 KL
    go_wp2_with fail
    with_reducible refine KL4.out.mono ?_
    rintro e w5 ⟨rfl, hb5⟩
    have h8 := hb5.heap M8.out
    have o8 : Off (fun k => k = b8) w5 (w5.setCell ⟨b8, 4, none⟩ (.int .i64 ky)) := Off.setCell (Off.refl (fun k => k = b8) w5) (p := ⟨b8, 4, none⟩) (.inl rfl) _
    have M8 : Hid ((w5.setCell ⟨b8, 4, none⟩ (.int .i64 ky)).heap[b8]? = some (.cells #[.int .i64 P, .slice p1 L.length c1, .int .i64 b, .int .u64 s, .int .i64 ky] 33 (0, 0))) := Lib.hid (heap_setCell_same w5 b8 4 _ 33 (.int .i64 ky) h8)
    have keep : ∀ j, j < W4.heap.size → ¬ j = b8 → (w5.setCell ⟨b8, 4, none⟩ (.int .i64 ky)).heap[j]? = W4.heap[j]? := fun j hj hn => (o8.block j (Nat.lt_of_lt_of_le hj hb5.size) hn).trans (hb5.block j hj (fun e => e))
    have lt4 : ∀ {j o}, W4.heap[j]? = some o → j < W4.heap.size := fun h => (Array.getElem?_eq_some_iff.1 h).1
    have N0 := HBW4.out.heap HN0.out
    have N1 := HBW4.out.heap HN1.out
    have N2 := HBW4.out.heap HN2.out
    have N3 := HBW4.out.heap HN3.out
    have P0 := Lib.hid ((keep b0 (lt4 N0) n08).trans N0)
    have P1 := Lib.hid ((keep b1 (lt4 N1) n18).trans N1)
    have P2 := Lib.hid ((keep b2 (lt4 N2) n28).trans N2)
    have P3 := Lib.hid ((keep b3 (lt4 N3) n38).trans N3)
    have P7 := Lib.hid ((keep b7 (lt4 M7.out) n78).trans M7.out)
    have HB6 : Hid (Bel w1 (w5.setCell ⟨b8, 4, none⟩ (.int .i64 ky))) := Lib.hid (Off.trans (HB14.out.trans hb5) o8 (fun i e => .inr (by have : i = b8 := e; omega)))
    obtain ⟨⟨u0, u1, u2, u3, u4⟩, _, _, _, _, f4⟩ := box5 h8
    clear keep lt4 N0 N1 N2 N3 h8 o8 hb5 KL4 q0 q1 q2 q3 q4 x0 x1 x2 x3 x4
    go_upto_region 5 with (fail)
    generalize w5.setCell ⟨b8, 4, none⟩ (.int .i64 ky) = W6 at *
    clear u0 u1 u2 u3 u4 f4
    obtain ⟨⟨q0, q1, q2, q3, q4⟩, _⟩ := box5 P0.out
    obtain ⟨⟨x0, x1, x2, x3, x4⟩, _⟩ := box5 P1.out
    obtain ⟨⟨u0, u1, u2, u3, u4⟩, _, _, _, f3, _⟩ := box5 M8.out
    obtain ⟨mx, emx⟩ : ∃ m, max s an = m := ⟨_, rfl⟩
    have HMX := Lib.hid emx
    have o8 : Off (fun k => k = b8) W6 (W6.setCell ⟨b8, 3, none⟩ (.int .u64 mx)) := Off.setCell (Off.refl (fun k => k = b8) W6) (p := ⟨b8, 3, none⟩) (.inl rfl) _
    have M9 : Hid ((W6.setCell ⟨b8, 3, none⟩ (.int .u64 mx)).heap[b8]? = some (.cells #[.int .i64 P, .slice p1 L.length c1, .int .i64 b, .int .u64 mx, .int .i64 ky] 33 (0, 0))) := Lib.hid (heap_setCell_same W6 b8 3 _ 33 (.int .u64 mx) M8.out)
    have lt6 : ∀ {j o}, W6.heap[j]? = some o → j < W6.heap.size := fun h => (Array.getElem?_eq_some_iff.1 h).1
    have R2 := Lib.hid ((o8.block b2 (lt6 P2.out) n28).trans P2.out)
    have R3 := Lib.hid ((o8.block b3 (lt6 P3.out) n38).trans P3.out)
    have R7 := Lib.hid ((o8.block b7 (lt6 P7.out) n78).trans P7.out)
    have HB7 : Hid (Bel w1 (W6.setCell ⟨b8, 3, none⟩ (.int .u64 mx))) := Lib.hid (Off.trans HB6.out o8 (fun i e => .inr (by have : i = b8 := e; omega)))
    clear o8 lt6
    by_cases hsn : s < an
    · obtain rfl : mx = an := by omega
      have hns : ¬ mx < s := by omega
      clear emx
      go_upto_region 6 with (fail)
      try rw [HMX.out]
      generalize W6.setCell ⟨b8, 3, none⟩ (.int .u64 mx) = W7 at *
      clear q0 q1 q2 q3 q4 x0 x1 x2 x3 x4 u0 u1 u2 u3 u4 f3
      obtain ⟨⟨z0, z1, z2, z3, z4⟩, g0, g1, g2, g3, g4⟩ := box5 R2.out
      obtain ⟨⟨y0, y1, y2, y3, y4⟩, i0, i1, i2, i3, i4⟩ := box5 R3.out
      obtain ⟨⟨u0, u1, u2, u3, u4⟩, _⟩ := box5 M9.out
      obtain ⟨⟨v0, v1, v2, v3, v4⟩, _⟩ := box5 R7.out
      have HZ := Lib.hid (fun wz ho => HFin.out W7 wz HB7.out ho)
      clear HFin
      go_wp2
      go_region
      all_goals
        go_wp2
        refine bodyPost_ret (v := .tuple #[whV P p1 L.length c1 b mx ky, .agg #[.int .i64 er, .int .u64 tt.a, .int .u64 tt.s, .int .i64 tt.p, .slice q1' D.length k1]]) (by simp [results, Tryz.results7, go_sem, z0, z1, z2, z3, z4, y0, y1, y2, y3, y4, n23, n32]) rfl ?_
        first | refine ⟨p1, c1, q1', ⟨k1, ?_⟩, HZ.out _ ?_⟩ | refine ⟨p1, c1, q1', k1, ?_, HZ.out _ ?_⟩
        · first | rfl | rw [HMX.out] | rw [if_pos H3.out, if_pos H3.out, HMX.out] | rw [if_neg H3.out, if_neg H3.out]
        · first | exact (off10 _ _ _ _ _ _ _ _ _ _ _ _ _).drew | exact ((off10 _ _ _ _ _ _ _ _ _ _ _ _ _).mono (fun _ _ e => e.symm)).drew | exact (off10 _ _ _ _ _ _ _ _ _ _ _ _ _) | exact (off10 _ _ _ _ _ _ _ _ _ _ _ _ _).mono (fun _ _ e => e.symm)
    · obtain rfl : mx = s := by omega
      clear emx
      go_upto_region 6 with (fail)
      try rw [HMX.out]
      generalize W6.setCell ⟨b8, 3, none⟩ (.int .u64 mx) = W7 at *
      clear q0 q1 q2 q3 q4 x0 x1 x2 x3 x4 u0 u1 u2 u3 u4 f3
      obtain ⟨⟨z0, z1, z2, z3, z4⟩, g0, g1, g2, g3, g4⟩ := box5 R2.out
      obtain ⟨⟨y0, y1, y2, y3, y4⟩, i0, i1, i2, i3, i4⟩ := box5 R3.out
      obtain ⟨⟨u0, u1, u2, u3, u4⟩, _⟩ := box5 M9.out
      obtain ⟨⟨v0, v1, v2, v3, v4⟩, _⟩ := box5 R7.out
      have HZ := Lib.hid (fun wz ho => HFin.out W7 wz HB7.out ho)
      clear HFin
      go_wp2
      go_region
      all_goals
        go_wp2
        refine bodyPost_ret (v := .tuple #[whV P p1 L.length c1 b mx ky, .agg #[.int .i64 er, .int .u64 tt.a, .int .u64 tt.s, .int .i64 tt.p, .slice q1' D.length k1]]) (by simp [results, Tryz.results7, go_sem, z0, z1, z2, z3, z4, y0, y1, y2, y3, y4, n23, n32]) rfl ?_
        first | refine ⟨p1, c1, q1', ⟨k1, ?_⟩, HZ.out _ ?_⟩ | refine ⟨p1, c1, q1', k1, ?_, HZ.out _ ?_⟩
        · first | rfl | rw [HMX.out] | rw [if_pos H3.out, if_pos H3.out, HMX.out] | rw [if_neg H3.out, if_neg H3.out]
        · first | exact (off10 _ _ _ _ _ _ _ _ _ _ _ _ _).drew | exact ((off10 _ _ _ _ _ _ _ _ _ _ _ _ _).mono (fun _ _ e => e.symm)).drew | exact (off10 _ _ _ _ _ _ _ _ _ _ _ _ _) | exact (off10 _ _ _ _ _ _ _ _ _ _ _ _ _).mono (fun _ _ e => e.symm)
  · have k3 : (ak == 3) = false := by simpa using h3
    have H3 := Lib.hid h3
    obtain ⟨⟨z0, z1, z2, z3, z4⟩, g0, g1, g2, g3, g4⟩ := box5 (HBW4.out.heap HN2.out)
    obtain ⟨⟨y0, y1, y2, y3, y4⟩, i0, i1, i2, i3, i4⟩ := box5 (HBW4.out.heap HN3.out)
    obtain ⟨⟨u0, u1, u2, u3, u4⟩, _⟩ := box5 M8.out
    obtain ⟨⟨v0, v1, v2, v3, v4⟩, _⟩ := box5 M7.out
    have HZ := Lib.hid (fun wz ho => HFin.out W4 wz HB14.out ho)
    clear HFin h3 KL
    go_wp2
    go_region
    all_goals
      go_wp2
      refine bodyPost_ret (v := .tuple #[whV P p1 L.length c1 b s lk, .agg #[.int .i64 er, .int .u64 tt.a, .int .u64 tt.s, .int .i64 tt.p, .slice q1' D.length k1]]) (by simp [results, Tryz.results7, go_sem, z0, z1, z2, z3, z4, y0, y1, y2, y3, y4, n23, n32]) rfl ?_
      first | refine ⟨p1, c1, q1', ⟨k1, ?_⟩, HZ.out _ ?_⟩ | refine ⟨p1, c1, q1', k1, ?_, HZ.out _ ?_⟩
      · first | rfl | rw [HMX.out] | rw [if_pos H3.out, if_pos H3.out, HMX.out] | rw [if_neg H3.out, if_neg H3.out]
      · first | exact (off10 _ _ _ _ _ _ _ _ _ _ _ _ _).drew | exact ((off10 _ _ _ _ _ _ _ _ _ _ _ _ _).mono (fun _ _ e => e.symm)).drew | exact (off10 _ _ _ _ _ _ _ _ _ _ _ _ _) | exact (off10 _ _ _ _ _ _ _ _ _ _ _ _ _).mono (fun _ _ e => e.symm)
end Go.Proofs.YtllohpojajijjaaGreatDoor
