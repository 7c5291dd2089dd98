/-
  Contract of the document's wheel's Do: how many have cascaded.
-/
import Derived.Test.YtdoceldofkaapaaGreatDoorXag
import Derived.Deep.CutRange
import Derived.BigQuiet
set_option linter.unusedVariables false
set_option linter.unusedSimpArgs false
namespace Go.Proofs.YtdoceldofkaapaaGreatDoor
open Go.RowKit
theorem stL_in {P : Nat} {l : List T} {a : Ak} {t : T} (h : t ∈ stL P l a) : t ∈ l ∨ t = a.t := by
  have hput : ∀ (m : List T), (∀ x ∈ m, x ∈ l) → t ∈ put m a.t → t ∈ l ∨ t = a.t := fun m hm h => by
    rcases List.mem_cons.1 ((put_perm m a.t).subset h) with e | e
    · exact .inr e
    · exact .inl (hm t e)
  unfold stL at h
  split at h
  · unfold insL at h
    split at h
    · exact hput l (fun _ e => e) h
    · exact .inl h
  · split at h
    · exact .inl (List.mem_filter.1 h).1
    · split at h
      · unfold movL at h
        split at h
        · exact hput _ (fun x e => (List.mem_filter.1 e).1) h
        · exact .inl h
      · split at h
        · exact .inl (List.mem_filter.1 h).1
        · exact .inl h
theorem stL_len (P : Nat) (l : List T) (a : Ak) : (stL P l a).length ≤ l.length + 1 := by
  have hput : ∀ m : List T, m.length ≤ l.length → (put m a.t).length ≤ l.length + 1 := fun m hm => by
    rw [(put_perm m a.t).length_eq, List.length_cons]; omega
  have hfl : ∀ q : T → Bool, (l.filter q).length ≤ l.length + 1 := fun q => Nat.le_succ_of_le (List.length_filter_le _ _)
  unfold stL
  split
  · unfold insL
    split
    · exact hput l (Nat.le_refl _)
    · omega
  · split
    · exact hfl _
    · split
      · unfold movL
        split
        · exact hput _ (List.length_filter_le _ _)
        · omega
      · split
        · exact hfl _
        · omega
theorem cnt_take (p : T → Bool) (l : List T) (m : Nat) (h : m < l.length) : (l.take (m + 1)).countP p = (l.take m).countP p + (if p (l.getD m default) = true then 1 else 0) := by
  rw [List.take_succ_eq_append_getElem h, List.countP_append]
  have e : l.getD m default = l[m] := by simp [List.getD_eq_getElem?_getD, List.getElem?_eq_getElem h]
  rw [e, List.countP_cons]
  simp
theorem off10 (w : World) (S U : Nat) (a b c d e x y z u v : Value) : Off (fun k => k = S ∨ k = U) w (sto5 (sto5 w S a b c d e) U x y z u v) :=
  Off.then ((offs5 w S a b c d e).mono (fun _ _ e => .inl e)) ((offs5 _ U x y z u v).mono (fun _ _ e => .inr e))
set_option maxHeartbeats 4000000 in
set_option maxRecDepth 100000 in
theorem wdo_any (f : Nat → Prop) (P b : Nat) (s lk : Int) (p : Option Addr) (c : Nat) (l : List T) (a : Ak) (w : World) (hb6 : 1 ≤ b ∧ b ≤ 6) (hs : Tk s) (hnw : Tk a.now) (hta : Tk a.t.a) (hlk : 0 ≤ lk ∧ lk ≤ 1000000000) (ht : ∀ t ∈ l, Tk t.a) (hm : l.length ≤ 5000) (hf : ∀ j, f j → j < w.heap.size) (hc : l.length ≤ c) (hl : Lies f w p (encs l)) (hin : ∀ t ∈ l, hp P t.p = true) :
    Calls Tryz.prog 28 #[whV P p l.length c b s lk, akV a.k a.t a.now] w fun e w' => ∃ p' c' q k', e = .returned (.tuple #[whV P p' (stL P l a).length c' b (stB s a) (stKh b s lk l a), tdV (stE P l a) (stT l a) q (stD l a).length k']) ∧ DidD f w w' p' c' (stL P l a) q (stD l a) := by
  have H4 := Lib.hid (four_new w #[.int .i64 P, .slice p l.length c, .int .i64 b, .int .u64 s, .int .i64 lk] #[.int .i64 a.k, .int .u64 a.t.a, .int .u64 a.t.s, .int .i64 a.t.p, .int .u64 a.now] #[.int .i64 0, .slice none 0 0, .int .i64 0, .int .u64 0, .int .i64 0] #[.int .i64 0, .int .u64 0, .int .u64 0, .int .i64 0, .slice none 0 0] 65 43 65 39)
  have HL := Lib.hid hl
  have HF := Lib.hid hf
  have K := Lib.hid (fun (F : Nat → Prop) w' (hf : ∀ j, F j → j < w'.heap.size) (hl : Lies F w' p (encs l)) => ddo_any F P p c l a w' hm hf hc hl hin)
  have HTL : Hid (∀ t ∈ stL P l a, Tk t.a) := Lib.hid (fun t h => by
    rcases stL_in h with e | e
    · exact ht t e
    · rw [e]; exact hta)
  have HLen : Hid ((stL P l a).length ≤ 5001) := Lib.hid (by have := stL_len P l a; omega)
  have HS := Lib.hid hs
  have HNw := Lib.hid hnw
  have HDL : Hid (a.k = 3 → due l a.now false = stL P l a) := Lib.hid (fun h => by unfold stL; rw [if_neg (by omega), if_neg (by omega), if_neg (by omega), if_pos h])
  have HB3 : Hid (a.k = 3 → stB s a = max s a.now) := Lib.hid (fun h => by unfold stB; rw [if_pos h])
  have HB0 : Hid (¬ a.k = 3 → stB s a = s) := Lib.hid (fun h => by unfold stB; rw [if_neg h])
  have HK3 : Hid (a.k = 3 → stKh b s lk l a = lk + (csc b s a.now l : Int)) := Lib.hid (fun h => by unfold stKh; rw [if_pos h])
  have HK0 : Hid (¬ a.k = 3 → stKh b s lk l a = lk) := Lib.hid (fun h => by unfold stKh; rw [if_neg h])
  generalize stB s a = BE at *
  generalize stKh b s lk l a = KE at *
  generalize stE P l a = er at *
  generalize stT l a = tt at *
  generalize stD l a = D at *
  generalize stL P l a = L at *
  obtain ⟨n, en⟩ : ∃ n, l.length = n := ⟨_, rfl⟩
  rw [en] at H4 K ⊢
  clear hl hf hc hin hm ht hnw hs en hta
  unfold akV tdV at *
  generalize a.k = ak at *
  generalize a.t.a = aa at *
  generalize a.t.s = asq at *
  generalize a.t.p = ap at *
  generalize a.now = an at *
  go_enter Tryz.func28, Tryz.ntmps28
  go_upto_region 1 with (fail)
  obtain ⟨W, eW, hB, hz, n0, n1, n2, n3⟩ := H4.out
  rw [eW]
  clear H4 eW
  obtain ⟨b0, e0⟩ : ∃ b, w.heap.size = b := ⟨_, rfl⟩
  obtain ⟨b1, e1⟩ : ∃ b, w.heap.size + 1 = b := ⟨_, rfl⟩
  rw [e1] at n1 n2 n3 hz ⊢
  obtain ⟨b2, e2⟩ : ∃ b, b1 + 1 = b := ⟨_, rfl⟩
  rw [e2] at n2 n3 hz ⊢
  obtain ⟨b3, e3⟩ : ∃ b, b2 + 1 = b := ⟨_, rfl⟩
  rw [e3] at n3 hz ⊢
  have hS : w.heap.size ≤ b2 ∧ b2 < W.heap.size := by omega
  have hU : w.heap.size ≤ b3 ∧ b3 < W.heap.size := by omega
  have l01 : b0 < W.heap.size ∧ b1 < W.heap.size := by omega
  have n23 : ¬ b2 = b3 := by omega
  have n32 : ¬ b3 = b2 := by omega
  rw [e0] at n0 ⊢
  obtain ⟨⟨q0, q1, q2, q3, q4⟩, _⟩ := box5 n0
  obtain ⟨⟨x0, x1, x2, x3, x4⟩, _⟩ := box5 n1
  have HB := Lib.hid hB
  have HN0 := Lib.hid n0
  have HN1 := Lib.hid n1
  have HN2 := Lib.hid n2
  have HN3 := Lib.hid n3
  have HW := Lib.hid (HL.out.wide hB)
  have HG : Hid (∀ j, (f j ∨ w.heap.size ≤ j ∧ j < W.heap.size) → j < W.heap.size) := Lib.hid (fun j e => by rcases e with e | e; exact Nat.lt_of_lt_of_le (HF.out j e) hB.size; exact e.2)
  clear hB n0 n1 n2 n3 e1 e2 e3 hz e0
  go_wp2_with fail
  with_reducible refine (K.out _ _ HG.out HW.out).mono ?_
  rintro e w1 ⟨p1, c1, q1', k1, rfl, hd, hh⟩
  have H2 := Lib.hid (two_new w1 #[.int .i64 P, .slice p1 L.length c1] #[.int .i64 er, .int .u64 tt.a, .int .u64 tt.s, .int .i64 tt.p, .slice q1' D.length k1] 31 39)
  have HD1 := Lib.hid hd
  have HH1 := Lib.hid hh
  clear hd hh q0 q1 q2 q3 q4 x0 x1 x2 x3 x4 K
  go_upto_region 2 with (fail)
  obtain ⟨W3, eW3, hB3, hz3, m6, m7⟩ := H2.out
  rw [eW3]
  clear H2 eW3
  obtain ⟨b7, e7⟩ : ∃ b, w1.heap.size + 1 = b := ⟨_, rfl⟩
  rw [e7] at m7 hz3 ⊢
  obtain ⟨b6, e6⟩ : ∃ b, w1.heap.size = b := ⟨_, rfl⟩
  rw [e6] at m6 ⊢
  have hz1 := HD1.out.bel.size
  have hBW3 : Bel W W3 := HD1.out.bel.trans hB3
  obtain ⟨⟨r0, r1⟩, _⟩ := box2 m6
  obtain ⟨⟨q0, q1, q2, q3, q4⟩, _⟩ := box5 (hBW3.heap HN0.out)
  have HB4 : Hid (Bel W3 (W3.alloc (.cells #[.int .i64 P, .slice p1 L.length c1, .int .i64 b, .int .u64 s, .int .i64 lk] 65))) := Lib.hid ((Bel.refl _).alloc _ _)
  have M8 := Lib.hid (heap_alloc_new W3 (.cells #[.int .i64 P, .slice p1 L.length c1, .int .i64 b, .int .u64 s, .int .i64 lk] 65))
  have M7 := Lib.hid (HB4.out.heap m7)
  have M6 := Lib.hid (HB4.out.heap m6)
  have HBW4 := Lib.hid (hBW3.trans HB4.out)
  have HB14 := Lib.hid (hB3.trans HB4.out)
  have l7 : b7 < W3.heap.size := by omega
  have l8 : w1.heap.size ≤ W3.heap.size := by omega
  clear m6 m7 hBW3 hB3
  go_upto_region 3 with (fail)
  obtain ⟨b8, e8⟩ : ∃ b, b7 + 1 = b := ⟨_, rfl⟩
  rw [hz3, e8] at M8 l7 l8
  rw [e8]
  generalize W3.alloc (.cells #[.int .i64 P, .slice p1 L.length c1, .int .i64 b, .int .u64 s, .int .i64 lk] 65) = W4 at *
  have n28 : ¬ b2 = b8 := by omega
  have n82 : ¬ b8 = b2 := by omega
  have n38 : ¬ b3 = b8 := by omega
  have n83 : ¬ b8 = b3 := by omega
  have n27 : ¬ b2 = b7 := by omega
  have n72 : ¬ b7 = b2 := by omega
  have n37 : ¬ b3 = b7 := by omega
  have n73 : ¬ b7 = b3 := by omega
  have n08 : ¬ b0 = b8 := by omega
  have n18 : ¬ b1 = b8 := by omega
  have n78 : ¬ b7 = b8 := by omega
  have n68 : ¬ b6 = b8 := by omega
  have HFin : Hid (∀ Wz wz, Bel w1 Wz → Off (fun k => k = b2 ∨ k = b3) Wz wz → DidD f w wz p1 c1 L q1' D) := Lib.hid (fun Wz wz hb ho => by
    have hd : DocOut (fun j => f j ∨ w.heap.size ≤ j ∧ j < W.heap.size) W Wz p1 c1 L := ⟨HD1.out.hc, HD1.out.lies.bel hb, HD1.out.bel.trans hb⟩
    refine ⟨DidD.mk2 HB.out hd ho hS hU, ?_⟩
    exact ((HH1.out.bel hb).off (ho.mono (g := old W) (fun i _ e => by unfold old; rcases e with e | e <;> omega)) (fun i e => e)).mono (fun b _ e => Nat.lt_of_lt_of_le e HB.out.size))
  obtain ⟨⟨x0, x1, x2, x3, x4⟩, _⟩ := box5 (HBW4.out.heap HN1.out)
  have HLo : Hid (Lies (fun k => w1.heap.size ≤ k) W4 p1 (encs L)) := Lib.hid ((HD1.out.lies.mono (fun b hb e => by omega)).bel HB14.out)
  clear HD1 HH1 hS hU l01 q0 q1 q2 q3 q4 r0 r1
  by_cases h3 : ak = 3 ∧ s < an
  · have hc3 := h3.1
    have k3 : (ak != 3) = false := by simp [hc3]
    have h4 : ¬ an ≤ s := by omega
    have EB : Hid (BE = an) := Lib.hid (by rw [HB3.out hc3]; omega)
    have ek : csc b s an l = L.countP (fall b s an) := by unfold csc; rw [if_neg h4, HDL.out hc3]
    have EK : Hid (KE = lk + (L.countP (fall b s an) : Int)) := Lib.hid (by rw [HK3.out hc3, ek])
    clear ek HDL hc3 HB3 HB0 HK3 HK0
    obtain ⟨⟨q0, q1, q2, q3, q4⟩, _⟩ := box5 (HBW4.out.heap HN0.out)
    obtain ⟨⟨u0, u1, u2, u3, u4⟩, _, _, _, f3, _⟩ := box5 M8.out
    have o8 : Off (fun k => k = b8) W4 (W4.setCell ⟨b8, 3, none⟩ (.int .u64 an)) := Off.setCell (Off.refl (fun k => k = b8) W4) (p := ⟨b8, 3, none⟩) (.inl rfl) _
    have M9 : Hid ((W4.setCell ⟨b8, 3, none⟩ (.int .u64 an)).heap[b8]? = some (.cells #[.int .i64 P, .slice p1 L.length c1, .int .i64 b, .int .u64 an, .int .i64 (lk + ((L.take 0).countP (fall b s an) : Int))] 65 (0, 0))) := Lib.hid (by
      have := heap_setCell_same W4 b8 3 _ 65 (.int .u64 an) M8.out
      simpa using this)
    have lt4 : ∀ {j o}, W4.heap[j]? = some o → j < W4.heap.size := fun h => (Array.getElem?_eq_some_iff.1 h).1
    have KP : Hid (∀ wr, Off (fun k => k = b8) (W4.setCell ⟨b8, 3, none⟩ (.int .u64 an)) wr → wr.heap[b0]? = some (.cells #[.int .i64 P, .slice p n c, .int .i64 b, .int .u64 s, .int .i64 lk] 65 (0, 0)) ∧ wr.heap[b2]? = some (.cells #[.int .i64 0, .slice none 0 0, .int .i64 0, .int .u64 0, .int .i64 0] 65 (0, 0)) ∧ wr.heap[b3]? = some (.cells #[.int .i64 0, .int .u64 0, .int .u64 0, .int .i64 0, .slice none 0 0] 39 (0, 0)) ∧ wr.heap[b6]? = some (.cells #[.int .i64 P, .slice p1 L.length c1] 31 (0, 0)) ∧ wr.heap[b7]? = some (.cells #[.int .i64 er, .int .u64 tt.a, .int .u64 tt.s, .int .i64 tt.p, .slice q1' D.length k1] 39 (0, 0)) ∧ Has wr p1 L ∧ Bel w1 wr) := Lib.hid (fun wr ho => by
      have oo := o8.then ho
      have N0 := HBW4.out.heap HN0.out
      have N2 := HBW4.out.heap HN2.out
      have N3 := HBW4.out.heap HN3.out
      exact ⟨(oo.block b0 (lt4 N0) n08).trans N0, (oo.block b2 (lt4 N2) n28).trans N2, (oo.block b3 (lt4 N3) n38).trans N3, (oo.block b6 (lt4 M6.out) n68).trans M6.out, (oo.block b7 (lt4 M7.out) n78).trans M7.out, (HLo.out.off oo (fun i e => by have : i = b8 := e; omega)).has, Off.trans HB14.out oo (fun i e => .inr (by have : i = b8 := e; omega))⟩)
    clear o8 lt4 h3
    go_upto_region 6 with (fail)
    generalize W4.setCell ⟨b8, 3, none⟩ (.int .u64 an) = W5 at *
    clear q0 q1 q2 q3 q4 x0 x1 x2 x3 x4 u0 u1 u2 u3 u4 f3 M8 M7 M6 HLo HBW4 HB14
    obtain ⟨nL, enL⟩ : ∃ x, L.length = x := ⟨_, rfl⟩
    have hnL : nL ≤ 5001 := by rw [← enL]; exact HLen.out
    rw [enL] at M9 KP
    have ENL := Lib.hid enL
    obtain ⟨r0, r1⟩ := (box2 (KP.out W5 (Off.refl _ _)).2.2.2.1).1
    go_wp2
    go_loopw [9, 10] (fun v _ wr => ∃ m : Nat, v = .int .i64 m ∧ m ≤ nL ∧ wr.heap[b8]? = some (.cells #[.int .i64 P, .slice p1 nL c1, .int .i64 b, .int .u64 an, .int .i64 (lk + ((L.take m).countP (fall b s an) : Int))] 65 (0, 0)) ∧ Off (fun k => k = b8) W5 wr) (fun v _ _ => nL - (intOf v).toNat)
    case atStart => exact ⟨0, rfl, Nat.zero_le _, M9.out, Off.refl _ _⟩
    case round =>
      clear M9 r0 r1
      obtain ⟨m, rfl, hmL, hm8, hof⟩ := hrel
      obtain ⟨g0, g2, g3, g6, g7, gH, gB⟩ := KP.out _ hof
      have G0 := Lib.hid g0
      have G6 := Lib.hid g6
      have GH := Lib.hid gH
      have H8 := Lib.hid hm8
      have HOf := Lib.hid hof
      have hcl : (L.take m).countP (fall b s an) ≤ m := Nat.le_trans List.countP_le_length (by simp; omega)
      by_cases hlt : m < nL
      · obtain ⟨x, hx⟩ : ∃ x, L.getD m default = x := ⟨_, rfl⟩
        have hxm : x ∈ L := by
          rw [← hx, List.getD_eq_getElem?_getD, List.getElem?_eq_getElem (by rw [ENL.out]; exact hlt)]
          exact List.getElem_mem _
        have HTX := Lib.hid (HTL.out x hxm)
        obtain ⟨bb, off, rfl, hr⟩ := GH.out.row (by rw [ENL.out]; omega)
        have HR := Lib.hid hr
        have HCS := Lib.hid (cnt_take (fall b s an) L m (by rw [ENL.out]; exact hlt))
        rw [hx] at HCS
        have KL1 := Lib.hid (fun w' => level_any s x.a b hb6 HS.out HTX.out w')
        have KL2 := Lib.hid (fun w' => level_any an x.a b hb6 HNw.out HTX.out w')
        have HCell : Hid (∀ w', Bel wr w' → (w'.cell? ⟨b0, 2, none⟩ = some (.int .i64 b) ∧ w'.cell? ⟨b0, 3, none⟩ = some (.int .u64 s)) ∧ w'.cell? ⟨b6, 1, none⟩ = some (.slice (some ⟨bb, off, none⟩) nL c1) ∧ w'.cell? ⟨bb, off + m * 3, none⟩ = some (.int .u64 x.a) ∧ w'.cell? ⟨b8, 3, none⟩ = some (.int .u64 an)) := Lib.hid (fun w' h => by
          obtain ⟨_, _, z2, z3, _⟩ := (box5 (h.heap G0.out)).1
          have hz := (HR.out.bel h) m (by rw [ENL.out]; exact hlt)
          rw [hx] at hz
          obtain ⟨_, _, _, y3, _⟩ := (box5 (h.heap H8.out)).1
          exact ⟨⟨z2, z3⟩, (box2 (h.heap G6.out)).1.2, hz.1, y3⟩)
        obtain ⟨la, ela⟩ : ∃ y, lv b s x.a = y := ⟨_, rfl⟩
        obtain ⟨lb, elb⟩ : ∃ y, lv b an x.a = y := ⟨_, rfl⟩
        rw [ela] at KL1
        rw [elb] at KL2
        have HFa : Hid (fall b s an x = (decide (0 ≤ la) && decide (la ≤ 3) && decide (lb < la))) := Lib.hid (by unfold fall; rw [ela, elb])
        have b1' : (m : Int) < (nL : Int) := by omega
        have HD : Hid (Bel wr wr.drew) := Lib.hid (Bel.refl wr).drew
        obtain ⟨⟨z2, z3⟩, z6, zx, z8⟩ := HCell.out _ (Bel.refl _)
        clear hr hx hxm ela elb g0 g2 g3 g6 g7 gH gB hm8 hof GH HR HTX
        generalize x.a = xa at *
        go_upto_region 9 with (fail)
        go_cut [10] from 41 to 83 (fun v wx => v = .int .i64 la ∧ Bel wr wx)
        case first =>
          go_wp2
          go_region_held3 (fun w' => (w'.cell? ⟨b0, 2, none⟩ = some (.int .i64 b) ∧ w'.cell? ⟨b0, 3, none⟩ = some (.int .u64 s)) ∧ w'.cell? ⟨b6, 1, none⟩ = some (.slice (some ⟨bb, off, none⟩) nL c1) ∧ w'.cell? ⟨bb, off + m * 3, none⟩ = some (.int .u64 xa) ∧ w'.cell? ⟨b8, 3, none⟩ = some (.int .u64 an))
            (first | (with_reducible exact HCell.out _ HD.out) | exact HCell.out _ (HD.out.trans hg1))
            (first | (go_at_call 57; (with_reducible refine (KL1.out _).mono ?_); rintro e w6 ⟨rfl, hg1⟩))
          all_goals
            go_wp2_with fail
            go_meet
            case rel => exact ⟨rfl, HD.out.trans hg1⟩
        case rest =>
          obtain ⟨rfl, hbc⟩ := hcut
          have HBc := Lib.hid hbc
          clear hbc z2 z3 z6 zx z8 KL1
          have hb8 := HBc.out.heap H8.out
          have HOc : Hid (Off (fun k => k = b8) W5 wc) := Lib.hid (HOf.out.thenB HBc.out)
          have NO : Hid (fall b s an x = false → wc.heap[b8]? = some (.cells #[.int .i64 P, .slice (some ⟨bb, off, none⟩) nL c1, .int .i64 b, .int .u64 an, .int .i64 (lk + ((L.take (m + 1)).countP (fall b s an) : Int))] 65 (0, 0))) := Lib.hid (fun e => by
            rw [HCS.out, e, if_neg (by decide), Nat.add_zero]
            exact hb8)
          by_cases ha0 : 0 ≤ la
          · by_cases ha3 : la ≤ 3
            · have HD2 : Hid (Bel wc wc.drew) := Lib.hid (Bel.refl wc).drew
              have HCc : Hid (∀ w', Bel wc w' → (w'.cell? ⟨b0, 2, none⟩ = some (.int .i64 b) ∧ w'.cell? ⟨b0, 3, none⟩ = some (.int .u64 s)) ∧ w'.cell? ⟨b6, 1, none⟩ = some (.slice (some ⟨bb, off, none⟩) nL c1) ∧ w'.cell? ⟨bb, off + m * 3, none⟩ = some (.int .u64 xa) ∧ w'.cell? ⟨b8, 3, none⟩ = some (.int .u64 an)) := Lib.hid (fun w' h => HCell.out _ (HBc.out.trans h))
              obtain ⟨⟨z2, z3⟩, z6, zx, z8⟩ := HCc.out _ (Bel.refl _)
              have d1 : decide (0 ≤ la) = true := decide_eq_true ha0
              have d2 : decide (la ≤ 3) = true := decide_eq_true ha3
              have HM8 := Lib.hid hb8
              obtain ⟨cc, ecc⟩ : ∃ x, (L.take m).countP (fall b s an) = x := ⟨_, rfl⟩
              rw [ecc] at HM8 HCS hcl
              by_cases hl : lb < la
              · have hf : fall b s an x = true := by rw [HFa.out, d1, d2, decide_eq_true hl]; rfl
                have HYES : Hid (∀ wq, Bel wc wq → (wq.setCell ⟨b8, 4, none⟩ (.int .i64 (lk + (cc : Int) + 1))).heap[b8]? = some (.cells #[.int .i64 P, .slice (some ⟨bb, off, none⟩) nL c1, .int .i64 b, .int .u64 an, .int .i64 (lk + ((L.take (m + 1)).countP (fall b s an) : Int))] 65 (0, 0)) ∧ Off (fun k => k = b8) W5 (wq.setCell ⟨b8, 4, none⟩ (.int .i64 (lk + (cc : Int) + 1)))) := Lib.hid (fun wq hq => by
                  have k1 := heap_setCell_same wq b8 4 _ 65 (.int .i64 (lk + (cc : Int) + 1)) (hq.heap HM8.out)
                  refine ⟨?_, (HOc.out.thenB hq).then (Off.setCell (Off.refl (fun k => k = b8) wq) (p := ⟨b8, 4, none⟩) (.inl rfl) _)⟩
                  rw [k1, HCS.out, hf, if_pos rfl]
                  simp
                  omega)
                have HB8 : Hid (∀ wq, Bel wc wq → wq.cell? ⟨b8, 4, none⟩ = some (.int .i64 (lk + (cc : Int))) ∧ wq.frozen? ⟨b8, 4, none⟩ = false) := Lib.hid (fun wq hq => by
                  obtain ⟨⟨_, _, _, _, y4⟩, _, _, _, _, f4⟩ := box5 (hq.heap HM8.out)
                  exact ⟨y4, f4⟩)
                clear hb8 HM8 NO HCS ecc H8 hf
                go_wp2
                go_region_held3 (fun w' => (w'.cell? ⟨b0, 2, none⟩ = some (.int .i64 b) ∧ w'.cell? ⟨b0, 3, none⟩ = some (.int .u64 s)) ∧ w'.cell? ⟨b6, 1, none⟩ = some (.slice (some ⟨bb, off, none⟩) nL c1) ∧ w'.cell? ⟨bb, off + m * 3, none⟩ = some (.int .u64 xa) ∧ w'.cell? ⟨b8, 3, none⟩ = some (.int .u64 an))
                  (first | (with_reducible exact HCc.out _ HD2.out) | exact HCc.out _ (HD2.out.trans hg2))
                  (first | (go_at_call 57; (with_reducible refine (KL2.out _).mono ?_); rintro e w7 ⟨rfl, hg2⟩))
                all_goals
                  have HQ := Lib.hid (HD2.out.trans hg2)
                  obtain ⟨y4, f4⟩ := HB8.out _ HQ.out
                  have HY := Lib.hid (HYES.out _ HQ.out)
                  clear hg2 z2 z3 z6 zx z8
                  go_wp2
                  go_roundw
                  case rel => exact ⟨m + 1, by go_num, by omega, HY.out.1, HY.out.2⟩
                  case measure => simp [intOf]; omega
              · have hf : fall b s an x = false := by rw [HFa.out, d1, d2, decide_eq_false hl]; rfl
                have HN8 := Lib.hid (NO.out hf)
                clear hb8 HM8 NO HCS ecc H8 hf
                go_wp2
                go_region_held3 (fun w' => (w'.cell? ⟨b0, 2, none⟩ = some (.int .i64 b) ∧ w'.cell? ⟨b0, 3, none⟩ = some (.int .u64 s)) ∧ w'.cell? ⟨b6, 1, none⟩ = some (.slice (some ⟨bb, off, none⟩) nL c1) ∧ w'.cell? ⟨bb, off + m * 3, none⟩ = some (.int .u64 xa) ∧ w'.cell? ⟨b8, 3, none⟩ = some (.int .u64 an))
                  (first | (with_reducible exact HCc.out _ HD2.out) | exact HCc.out _ (HD2.out.trans hg2))
                  (first | (go_at_call 57; (with_reducible refine (KL2.out _).mono ?_); rintro e w7 ⟨rfl, hg2⟩))
                all_goals
                  have HQ := Lib.hid (HD2.out.trans hg2)
                  clear hg2 z2 z3 z6 zx z8
                  go_wp2
                  go_roundw
                  case rel => exact ⟨m + 1, by go_num, by omega, HQ.out.heap HN8.out, HOc.out.thenB HQ.out⟩
                  case measure => simp [intOf]; omega
            · have d1 : decide (0 ≤ la) = true := decide_eq_true ha0
              have d2 : decide (la ≤ 3) = false := decide_eq_false ha3
              have hf : fall b s an x = false := by rw [HFa.out, d1, d2]; rfl
              have HN8 := Lib.hid (NO.out hf)
              clear hb8 NO HCS H8 hf
              go_wp2
              go_quiet (fail)
              go_wp2
              go_roundw
              case rel => exact ⟨m + 1, by go_num, by omega, ((Bel.refl wc).drewN nq).heap HN8.out, HOc.out.thenB ((Bel.refl wc).drewN nq)⟩
              case measure => simp [intOf]; omega
          · have d1 : decide (0 ≤ la) = false := decide_eq_false ha0
            have hf : fall b s an x = false := by rw [HFa.out, d1]; rfl
            have HN8 := Lib.hid (NO.out hf)
            clear hb8 NO HCS H8 hf
            go_wp2
            go_quiet (fail)
            go_wp2
            go_roundw
            case rel => exact ⟨m + 1, by go_num, by omega, ((Bel.refl wc).drewN nq).heap HN8.out, HOc.out.thenB ((Bel.refl wc).drewN nq)⟩
            case measure => simp [intOf]; omega
      · obtain rfl : m = nL := by omega
        have b1' : ¬ (m : Int) < (m : Int) := by omega
        rw [List.take_of_length_le (by rw [ENL.out]; exact Nat.le_refl _)] at H8
        obtain ⟨r0, r1⟩ := (box2 G6.out).1
        obtain ⟨⟨z0, z1, z2, z3, z4⟩, e0, e1, e2, e3, e4⟩ := box5 g2
        obtain ⟨⟨y0, y1, y2, y3, y4⟩, i0, i1, i2, i3, i4⟩ := box5 g3
        obtain ⟨⟨u0, u1, u2, u3, u4⟩, _⟩ := box5 H8.out
        obtain ⟨⟨v0, v1, v2, v3, v4⟩, _⟩ := box5 g7
        have HZ := Lib.hid (fun wz ho => HFin.out wr wz gB ho)
        clear HFin g0 g2 g3 g6 g7 gH gB hm8 hof
        obtain ⟨kz, ekz⟩ : ∃ x, lk + (L.countP (fall b s an) : Int) = x := ⟨_, rfl⟩
        rw [ekz] at u4 EK
        clear ekz
        go_wp2
        go_region
        all_goals
          go_wp2
          refine bodyPost_ret (v := .tuple #[whV P p1 m c1 b an kz, .agg #[.int .i64 er, .int .u64 tt.a, .int .u64 tt.s, .int .i64 tt.p, .slice q1' D.length k1]]) (by simp [results, Tryz.results28, go_sem, z0, z1, z2, z3, z4, y0, y1, y2, y3, y4, n23, n32]) rfl ?_
          first | refine ⟨p1, c1, q1', ⟨k1, ?_⟩, HZ.out _ ?_⟩ | refine ⟨p1, c1, q1', k1, ?_, HZ.out _ ?_⟩
          · first | rw [EB.out, EK.out, ENL.out] | (rw [EB.out, EK.out, ENL.out]; rfl) | (simp only [EB.out, EK.out, ENL.out]; rfl)
          · first | exact (off10 _ _ _ _ _ _ _ _ _ _ _ _ _).drew | exact ((off10 _ _ _ _ _ _ _ _ _ _ _ _ _).mono (fun _ _ e => e.symm)).drew | exact (off10 _ _ _ _ _ _ _ _ _ _ _ _ _) | exact (off10 _ _ _ _ _ _ _ _ _ _ _ _ _).mono (fun _ _ e => e.symm)
  · have EB : Hid (BE = s) := Lib.hid (by
      by_cases e : ak = 3
      · rw [HB3.out e]; omega
      · exact HB0.out e)
    have EK : Hid (KE = lk) := Lib.hid (by
      by_cases e : ak = 3
      · rw [HK3.out e]
        unfold csc
        rw [if_pos (by omega)]
        simp
      · exact HK0.out e)
    clear HB3 HB0 HK3 HK0
    obtain ⟨⟨z0, z1, z2, z3, z4⟩, g0, g1, g2, g3, g4⟩ := box5 (HBW4.out.heap HN2.out)
    obtain ⟨⟨y0, y1, y2, y3, y4⟩, i0, i1, i2, i3, i4⟩ := box5 (HBW4.out.heap HN3.out)
    obtain ⟨⟨u0, u1, u2, u3, u4⟩, _⟩ := box5 M8.out
    obtain ⟨⟨v0, v1, v2, v3, v4⟩, _⟩ := box5 M7.out
    obtain ⟨⟨q0, q1, q2, q3, q4⟩, _⟩ := box5 (HBW4.out.heap HN0.out)
    have HZ := Lib.hid (fun wz ho => HFin.out W4 wz HB14.out ho)
    clear HFin
    by_cases hk : ak = 3
    · have k3 : (ak != 3) = false := by simp [hk]
      have h4 : an ≤ s := by omega
      clear h3 hk
      go_wp2
      go_region
      all_goals
        go_wp2
        refine bodyPost_ret (v := .tuple #[whV P p1 L.length c1 b s lk, .agg #[.int .i64 er, .int .u64 tt.a, .int .u64 tt.s, .int .i64 tt.p, .slice q1' D.length k1]]) (by simp [results, Tryz.results28, go_sem, z0, z1, z2, z3, z4, y0, y1, y2, y3, y4, n23, n32]) rfl ?_
        first | refine ⟨p1, c1, q1', ⟨k1, ?_⟩, HZ.out _ ?_⟩ | refine ⟨p1, c1, q1', k1, ?_, HZ.out _ ?_⟩
        · first | rw [EB.out, EK.out] | (rw [EB.out, EK.out]; rfl) | (simp only [EB.out, EK.out]; rfl)
        · first | exact (off10 _ _ _ _ _ _ _ _ _ _ _ _ _).drew | exact ((off10 _ _ _ _ _ _ _ _ _ _ _ _ _).mono (fun _ _ e => e.symm)).drew | exact (off10 _ _ _ _ _ _ _ _ _ _ _ _ _) | exact (off10 _ _ _ _ _ _ _ _ _ _ _ _ _).mono (fun _ _ e => e.symm)
    · have k3 : (ak != 3) = true := by simpa using hk
      clear h3 hk
      go_wp2
      go_region
      all_goals
        go_wp2
        refine bodyPost_ret (v := .tuple #[whV P p1 L.length c1 b s lk, .agg #[.int .i64 er, .int .u64 tt.a, .int .u64 tt.s, .int .i64 tt.p, .slice q1' D.length k1]]) (by simp [results, Tryz.results28, go_sem, z0, z1, z2, z3, z4, y0, y1, y2, y3, y4, n23, n32]) rfl ?_
        first | refine ⟨p1, c1, q1', ⟨k1, ?_⟩, HZ.out _ ?_⟩ | refine ⟨p1, c1, q1', k1, ?_, HZ.out _ ?_⟩
        · first | rw [EB.out, EK.out] | (rw [EB.out, EK.out]; rfl) | (simp only [EB.out, EK.out]; rfl)
        · first | exact (off10 _ _ _ _ _ _ _ _ _ _ _ _ _).drew | exact ((off10 _ _ _ _ _ _ _ _ _ _ _ _ _).mono (fun _ _ e => e.symm)).drew | exact (off10 _ _ _ _ _ _ _ _ _ _ _ _ _) | exact (off10 _ _ _ _ _ _ _ _ _ _ _ _ _).mono (fun _ _ e => e.symm)
end Go.Proofs.YtdoceldofkaapaaGreatDoor
