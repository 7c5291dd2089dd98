/-
  Contracts of Take and Free and of the document's, in one each; of the law's alike.
-/
import Derived.Test.YtlohpccfanmiiaaModel
namespace Go.Proofs.Ytlohpccfanmiiaa
open Go.RowKit
theorem take_any (B : Nat) (f : Nat → Prop) (S : St) (w : World) (hS : Slb w B f S) (h : Wf S) :
    Calls Try.prog 15 #[.pointer (some ⟨B, 0, none⟩)] w fun e w' => e = .returned (.tuple #[.agg #[.int .i64 (takeS S).1.p, .int .i64 (takeS S).1.g], .int .i64 (takeS S).2.1]) ∧ ∃ f', Slb w' B f' (takeS S).2.2 ∧ Steps f w f' w' := by
  rcases take_cases h with ⟨r, k, u, h1, h2, h3, h4⟩ | ⟨h1, h2⟩ | ⟨h1, h2⟩
  · rw [takeS_freed h1 h2]
    exact take_freed B f S r k u w hS h.sm h1 h2 (by omega) (by have := h.g1; omega)
  · rw [takeS_fresh h1 h2]
    have e : (S.tk ++ ([⟨0, false⟩] : List Pl)).set S.tk.length ⟨1, true⟩ = S.tk ++ [⟨1, true⟩] := by rw [List.set_append_right _ _ (Nat.le_refl _)]; simp
    have K := take_fresh B f S S.tk.length w hS h.sm h1 rfl h2
    rw [e] at K
    exact K
  · rw [takeS_full h1 h2]
    exact (take_full B f S w hS h.sm h1 h2).mono fun e w' ⟨he, hb⟩ => ⟨he, f, hS.bel hb, (Steps.refl f w).bel hb⟩
theorem free_any (B : Nat) (f : Nat → Prop) (S : St) (q : Hd) (w : World) (hS : Slb w B f S) (h : Wf S) :
    Calls Try.prog 13 #[.pointer (some ⟨B, 0, none⟩), .agg #[.int .i64 q.p, .int .i64 q.g]] w fun e w' => e = .returned (.int .i64 (freeA S q).1) ∧ ∃ f', Slb w' B f' (freeA S q).2 ∧ Steps f w f' w' := by
  by_cases hl : lv S q = true
  · obtain ⟨k, h1, h2⟩ := (lv_iff S q).1 hl
    obtain ⟨p, g⟩ := q
    simp only at h1 h2
    subst h1
    rw [freeA_yes h2]
    exact free_yes B f S k g w hS h.sm h2 (by have := h.cnt; have := lenS_pos h2; have := h.sm.t1; omega)
  · have hl : lv S q = false := by simpa using hl
    rw [freeA_no hl]
    exact (free_no B f S q w hS h.sm hl).mono fun e w' ⟨he, hb⟩ => ⟨he, f, hS.bel hb, (Steps.refl f w).bel hb⟩
theorem rtake_any (f : Nat → Prop) (x : RP) (S : St) (R : Rf) (w : World) (h : Wf S) (hs : Sim S R) (hR : RefIn f w x R) (hf : ∀ k, f k → k < w.heap.size) :
    Calls Try.prog 25 #[rv x R] w fun e w' => ∃ x', e = .returned (.tuple #[rv x' (takeR R).2.2, .agg #[.int .i64 (takeR R).1.p, .int .i64 (takeR R).1.g], .int .i64 (takeR R).2.1]) ∧ RefIn f w' x' (takeR R).2.2 ∧ Bel w w' := by
  have hrs := hs.rsm h
  rcases take_cases h with ⟨r, k, u, h1, h2, h3, h4⟩ | ⟨h1, h2⟩ | ⟨h1, h2⟩
  · have hu : R.used[k]? = some u := by rw [hs.used]; exact us_get h2
    have e : takeR R = (⟨k, u + 1⟩, 0, { R with used := R.used.set k (u + 1), free := r, alive := R.alive ++ [⟨k, u + 1⟩] }) := by
      unfold takeR
      rw [hs.free, h1]
      simp [hu]
    rw [e]
    exact rtake_freed f x R r k u w hrs hR hf (by rw [hs.free, h1]) hu (by omega) (by have := h.g1; omega)
  · have h5 : (R.used.length : Int) < R.pl := by rw [hs.used, us_len, hs.pl]; exact h2
    have e : takeR R = (⟨R.used.length, 1⟩, 0, { R with used := R.used ++ [1], alive := R.alive ++ [⟨R.used.length, 1⟩] }) := by
      unfold takeR
      rw [hs.free, h1]
      simp only [List.getLast?_nil]
      rw [if_pos h5]
    rw [e]
    exact rtake_fresh f x R R.used.length w hrs hR hf (by rw [hs.free, h1]) rfl h5
  · have h5 : ¬ (R.used.length : Int) < R.pl := by rw [hs.used, us_len, hs.pl]; omega
    have e : takeR R = (⟨0, 0⟩, 6, R) := by
      unfold takeR
      rw [hs.free, h1]
      simp only [List.getLast?_nil]
      rw [if_neg h5]
    rw [e]
    exact (rtake_full x R w hrs (hR.mono (fun _ _ e => e.elim)) (by rw [hs.free, h1]) (by omega)).mono fun e w' ⟨he, hb⟩ => ⟨x, he, hR.bel hb, hb⟩
theorem rfree_any (f : Nat → Prop) (x : RP) (R : Rf) (q : Hd) (w : World) (hs : RSm R) (hR : RefIn f w x R) (hf : ∀ k, f k → k < w.heap.size) :
    Calls Try.prog 26 #[rv x R, .agg #[.int .i64 q.p, .int .i64 q.g]] w fun e w' => ∃ x', e = .returned (.tuple #[rv x' (freeB R q).2, .int .i64 (freeB R q).1]) ∧ RefIn f w' x' (freeB R q).2 ∧ Bel w w' := by
  unfold freeB
  by_cases hm : q ∈ R.alive
  · rw [if_pos hm]
    exact rfree_yes f x R q w hs hR hf hm
  · rw [if_neg hm]
    exact (rfree_no x R q w hs (hR.mono (fun _ _ e => e.elim)) hm).mono fun e w' ⟨he, hb⟩ => ⟨x, he, hR.bel hb, hb⟩
/-- What a slab tells is what the document's tells. -/
structure Same (S : St) (R : Rf) : Prop where
  sm : Sm S
  rs : RSm R
  used : R.used = us S.tk
  free : R.free = S.fr
  al : ∀ q, decide (q ∈ R.alive) = lv S q
  att : ∀ x, atR R.alive x = atS S x
  len : R.alive.length = lenS S
  pl : R.pl = S.pl
theorem Sim.same {S : St} {R : Rf} (h : Sim S R) (w : Wf S) : Same S R := ⟨w.sm, h.rsm w, h.used, h.free, sim_alive h, sim_at h, h.len, h.pl⟩
set_option maxHeartbeats 4000000 in
set_option maxRecDepth 100000 in
theorem alike_any (B : Nat) (f : Nat → Prop) (S : St) (x : RP) (R : Rf) (q : Hd) (w : World) (hS : Slb w B f S) (h : Same S R) (hR : RefIn nof w x R) :
    Calls Try.prog 23 #[.pointer (some ⟨B, 0, none⟩), rv x R, .agg #[.int .i64 q.p, .int .i64 q.g]] w fun e w' => e = .returned (.bool true) ∧ Bel w w' := by
  have KA := Lib.hid (fun w' (hb : Bel w w') => at_any B f S q.p w' (hS.bel hb) h.sm)
  have KRA := Lib.hid (fun w' (hb : Bel w w') => rat_any x R q.p w' h.rs (hR.bel hb))
  rw [h.att] at KRA
  have KI := Lib.hid (fun w' (hb : Bel w w') => image_any B f S w' (hS.bel hb) h.sm)
  have hul : R.used.length = S.tk.length := by rw [h.used, us_len]
  have hfl : R.free.length = S.fr.length := by rw [h.free]
  have KS1 := Lib.hid (fun w' (p q : Option Addr) (c k : Nat) (h1 : Lies nof w' p (encI (us S.tk))) (h2 : Lies nof w' q (encI (us S.tk))) => same_yes p q S.tk.length c k (us S.tk) w' (us_len _) (by have := h.sm.t1; omega) h1 h2)
  have KS2 := Lib.hid (fun w' (p q : Option Addr) (c k : Nat) (h1 : Lies nof w' p (encI S.fr)) (h2 : Lies nof w' q (encI S.fr)) => same_yes p q S.fr.length c k S.fr w' rfl (by have := h.sm.f1; omega) h1 h2)
  have KV := Lib.hid (fun w' (hb : Bel w w') => alive_any B f S q w' (hS.bel hb) h.sm)
  have KRV := Lib.hid (fun w' (hb : Bel w w') => risalive_any x R q w' h.rs (hR.bel hb))
  rw [h.al] at KRV
  have KL := Lib.hid (fun w' (hb : Bel w w') => len_any B f S w' (hS.bel hb) h.sm)
  have KF := Lib.hid (fun w' (hb : Bel w w') => left_bel B f S w' (hS.bel hb) h.sm)
  have KRF := Lib.hid (fun w' (_ : Bel w w') => rleft_any x R w' h.rs)
  have e1 : (R.free.length + R.pl - R.used.length : Int) = leftS S := by unfold leftS; rw [hul, hfl, h.pl]; omega
  rw [e1] at KRF
  have KW := Lib.hid (fun w' (hb : Bel w w') => worn_any B f S w' (hS.bel hb) h.sm)
  have KRW := Lib.hid (fun w' (_ : Bel w w') => rworn_any x R w' h.rs)
  have e2 : (R.used.length - R.free.length - R.alive.length : Int) = wornS S := by unfold wornS leftS; rw [hul, hfl, h.len]; omega
  rw [e2] at KRW
  have I1 : Hid (Lies nof w x.p1 (encI (us S.tk))) := Lib.hid (by rw [← h.used]; exact hR.i1)
  have I2 : Hid (Lies nof w x.p2 (encI S.fr)) := Lib.hid (by rw [← h.free]; exact hR.i2)
  have hal := h.len
  unfold rv at *
  obtain ⟨n, hn⟩ : ∃ n, S.tk.length = n := ⟨_, rfl⟩
  obtain ⟨m, hm⟩ : ∃ m, S.fr.length = m := ⟨_, rfl⟩
  obtain ⟨L, hL⟩ : ∃ L, lenS S = L := ⟨_, rfl⟩
  obtain ⟨F, hF⟩ : ∃ F, leftS S = F := ⟨_, rfl⟩
  obtain ⟨W0, hW0⟩ : ∃ W0, wornS S = W0 := ⟨_, rfl⟩
  obtain ⟨b, hb⟩ : ∃ b, lv S q = b := ⟨_, rfl⟩
  obtain ⟨at0, hat⟩ : ∃ at0, atS S q.p = at0 := ⟨_, rfl⟩
  rw [hn] at KI KS1 hul
  rw [hm] at KI KS2 hfl
  rw [hL] at KL hal
  rw [hF] at KF KRF
  rw [hW0] at KW KRW
  rw [hb] at KV KRV
  rw [hat] at KA KRA
  rw [hul, hfl, hal] at KRA KRV KRF KRW
  rw [hul, hfl, hal]
  obtain ⟨ah, ab⟩ := at0
  have K2 := eql_yes ah ah rfl
  clear e1 e2 hul hfl hal hn hm hL hF hW0 hb hat h hR hS
  go_enter Try.func23, Try.ntmps23
  go_wp2_with fail
  with_reducible refine (KA.out _ (((Bel.refl _).alloc _ _).alloc _ _)).mono ?_
  rintro e w1 ⟨rfl, hb1⟩
  have HB1 : Hid (Bel w w1) := Lib.hid ((((Bel.refl _).alloc _ _).alloc _ _).trans hb1)
  have HM : Hid (w1.heap[w.heap.size]? = some (.cells #[.int .i64 R.pl, .int .i64 R.gn, .slice x.p1 n x.c1, .slice x.p2 m x.c2, .slice x.p3 L x.c3] 31)) := Lib.hid (hb1.heap (by rw [Below.heap_alloc _ _ _ (by simp), heap_alloc_new]))
  have HQ : Hid (w1.heap[w.heap.size + 1]? = some (.cells #[.int .i64 q.p, .int .i64 q.g] 38)) := Lib.hid (hb1.heap (by
    have h1 := heap_alloc_new (w.alloc (.cells #[.int .i64 R.pl, .int .i64 R.gn, .slice x.p1 n x.c1, .slice x.p2 m x.c2, .slice x.p3 L x.c3] 31)) (.cells #[.int .i64 q.p, .int .i64 q.g] 38)
    simpa using h1))
  have hz1 : w.heap.size + 1 < w1.heap.size := by have := hb1.size; simp at this; omega
  clear hb1
  obtain ⟨⟨m0, m1, m2, m3, m4⟩, _⟩ := box5 HM.out
  obtain ⟨⟨q0, q1⟩, _⟩ := box2 HQ.out
  have hz1a : w.heap.size < w1.heap.size := by omega
  go_wp2_with fail
  with_reducible refine (KRA.out _ (HB1.out.alloc _ _)).mono ?_
  rintro e w2 ⟨rfl, hb2⟩
  have HB12 : Hid (Bel w1 w2) := Lib.hid (((Bel.refl _).alloc _ _).trans hb2)
  have HA1 : Hid (w2.heap[w1.heap.size]? = some (.cells #[.int .i64 ah.p, .int .i64 ah.g] 38)) := Lib.hid (hb2.heap (heap_alloc_new _ _))
  have hz2 : w1.heap.size < w2.heap.size := by have := hb2.size; simp at this; omega
  clear hb2 m0 m1 m2 m3 m4 q0 q1
  have HB2 : Hid (Bel w w2) := Lib.hid (HB1.out.trans HB12.out)
  go_wp2_with fail
  with_reducible refine (KI.out _ (HB2.out.alloc _ _)).mono ?_
  rintro e w3 ⟨pi, ci, qi, ki, rfl, hci, hki, hpi, hqi, hb3⟩
  have HB23 : Hid (Bel w2 w3) := Lib.hid (((Bel.refl _).alloc _ _).trans hb3)
  have HA2 : Hid (w3.heap[w2.heap.size]? = some (.cells #[.int .i64 ah.p, .int .i64 ah.g] 38)) := Lib.hid (hb3.heap (heap_alloc_new _ _))
  have hz3 : w2.heap.size < w3.heap.size := by have := hb3.size; simp at this; omega
  have HPI := Lib.hid hpi.any
  have HQI := Lib.hid hqi.any
  clear hb3 hpi hqi
  have HB3 : Hid (Bel w w3) := Lib.hid (HB2.out.trans HB23.out)
  obtain ⟨⟨m0, m1, m2, m3, m4⟩, _⟩ := box5 ((HB12.out.trans HB23.out).heap HM.out)
  go_wp2_with fail
  with_reducible refine (KS1.out _ pi x.p1 ci x.c1 HPI.out (I1.out.bel HB3.out)).mono ?_
  rintro e w4 ⟨rfl, hb4⟩
  have HB34 := Lib.hid hb4
  clear hb4 m0 m1 m2 m3 m4
  obtain ⟨⟨m0, m1, m2, m3, m4⟩, _⟩ := box5 ((HB12.out.trans (HB23.out.trans HB34.out)).heap HM.out)
  go_wp2_with fail
  with_reducible refine (KS2.out _ qi x.p2 ki x.c2 (HQI.out.bel HB34.out) (I2.out.bel (HB3.out.trans HB34.out))).mono ?_
  rintro e w5 ⟨rfl, hb5⟩
  have HB15 : Hid (Bel w1 w5) := Lib.hid (HB12.out.trans (HB23.out.trans (HB34.out.trans hb5)))
  have HB25 : Hid (Bel w2 w5) := Lib.hid (HB23.out.trans (HB34.out.trans hb5))
  have HB35 : Hid (Bel w3 w5) := Lib.hid (HB34.out.trans hb5)
  have HB5 : Hid (Bel w w5) := Lib.hid (HB1.out.trans HB15.out)
  clear hb5 m0 m1 m2 m3 m4
  go_wp2
  have HX : Hid (∀ w', Bel w5 w' → Bel w5 w' ∧ (w'.cell? ⟨w.heap.size, 0, none⟩ = some (.int .i64 R.pl) ∧ w'.cell? ⟨w.heap.size, 1, none⟩ = some (.int .i64 R.gn) ∧ w'.cell? ⟨w.heap.size, 2, none⟩ = some (.slice x.p1 n x.c1) ∧ w'.cell? ⟨w.heap.size, 3, none⟩ = some (.slice x.p2 m x.c2) ∧ w'.cell? ⟨w.heap.size, 4, none⟩ = some (.slice x.p3 L x.c3)) ∧
    (w'.cell? ⟨w.heap.size + 1, 0, none⟩ = some (.int .i64 q.p) ∧ w'.cell? ⟨w.heap.size + 1, 1, none⟩ = some (.int .i64 q.g)) ∧ (w'.cell? ⟨w1.heap.size, 0, none⟩ = some (.int .i64 ah.p) ∧ w'.cell? ⟨w1.heap.size, 1, none⟩ = some (.int .i64 ah.g)) ∧ (w'.cell? ⟨w2.heap.size, 0, none⟩ = some (.int .i64 ah.p) ∧ w'.cell? ⟨w2.heap.size, 1, none⟩ = some (.int .i64 ah.g))) :=
    Lib.hid (fun w' hb => ⟨hb, (box5 ((HB15.out.trans hb).heap HM.out)).1, (box2 ((HB15.out.trans hb).heap HQ.out)).1, (box2 ((HB25.out.trans hb).heap HA1.out)).1, (box2 ((HB35.out.trans hb).heap HA2.out)).1⟩)
  have KB := Lib.hid (fun w' (hb : Bel w5 w') => HB5.out.trans hb)
  go_region_held3 (fun w' => Bel w5 w' ∧ (w'.cell? ⟨w.heap.size, 0, none⟩ = some (.int .i64 R.pl) ∧ w'.cell? ⟨w.heap.size, 1, none⟩ = some (.int .i64 R.gn) ∧ w'.cell? ⟨w.heap.size, 2, none⟩ = some (.slice x.p1 n x.c1) ∧ w'.cell? ⟨w.heap.size, 3, none⟩ = some (.slice x.p2 m x.c2) ∧ w'.cell? ⟨w.heap.size, 4, none⟩ = some (.slice x.p3 L x.c3)) ∧
    (w'.cell? ⟨w.heap.size + 1, 0, none⟩ = some (.int .i64 q.p) ∧ w'.cell? ⟨w.heap.size + 1, 1, none⟩ = some (.int .i64 q.g)) ∧ (w'.cell? ⟨w1.heap.size, 0, none⟩ = some (.int .i64 ah.p) ∧ w'.cell? ⟨w1.heap.size, 1, none⟩ = some (.int .i64 ah.g)) ∧ (w'.cell? ⟨w2.heap.size, 0, none⟩ = some (.int .i64 ah.p) ∧ w'.cell? ⟨w2.heap.size, 1, none⟩ = some (.int .i64 ah.g)))
    (((with_reducible refine HX.out _ ?_); first | (with_reducible exact (Bel.refl _).drew) | (with_reducible exact Bel.refl _) | exact Bel.trans (And.left (by assumption)) hg1))
    (first | (go_at_call 16; (with_reducible refine (KV.out _ (KB.out _ (And.left (by assumption)))).mono ?_); rintro e w9 ⟨rfl, hg1⟩) | (go_at_call 37; (with_reducible refine (KRV.out _ (KB.out _ (And.left (by assumption)))).mono ?_); rintro e w9 ⟨rfl, hg1⟩) | (go_at_call 17; (with_reducible refine (KL.out _ (KB.out _ (And.left (by assumption)))).mono ?_); rintro e w9 ⟨rfl, hg1⟩) | (go_at_call 18; (with_reducible refine (KF.out _ (KB.out _ (And.left (by assumption)))).mono ?_); rintro e w9 ⟨rfl, hg1⟩) | (go_at_call 38; (with_reducible refine (KRF.out _ (KB.out _ (And.left (by assumption)))).mono ?_); rintro e w9 ⟨rfl, hg1⟩) | (go_at_call 19; (with_reducible refine (KW.out _ (KB.out _ (And.left (by assumption)))).mono ?_); rintro e w9 ⟨rfl, hg1⟩) | (go_at_call 39; (with_reducible refine (KRW.out _ (KB.out _ (And.left (by assumption)))).mono ?_); rintro e w9 ⟨rfl, hg1⟩))
  all_goals
    go_wp2
    go_ret
    exact ⟨rfl, KB.out _ (And.left (by assumption))⟩
end Go.Proofs.Ytlohpccfanmiiaa
