/-
  Contracts of the document's cat and with.
-/
import Derived.Test.YtdeiknfaehpheaaBeside
namespace Go.Proofs.Ytdeiknfaehpheaa
open Go.RowKit
theorem own_empty (w : World) (e : TypeId) (size : Nat) : (w.alloc (.cells #[] e)).ownsRow 0 e size (.slice (some ⟨w.heap.size, 0, none⟩) 0 0) 0 [] :=
  ⟨by simp, .inr ⟨w.heap.size, 0, #[], rfl, Nat.zero_le _, heap_alloc_new _ _, Nat.le_refl _, by decide, by simp, by simp⟩⟩
theorem own_ty {w : World} {e : TypeId} {size : Nat} {q : Option Addr} {n c : Nat} {cs : List Value} (h : w.ownsRow 0 e size (.slice q n c) n cs) : Ty w q e cs := by
  rcases h.2 with ⟨h1, h0⟩ | ⟨g, cap, cur, h1, _, hg, _⟩
  · subst h0
    exact .inl (List.eq_nil_of_length_eq_zero (by simpa using h.1))
  · injection h1 with h1
    exact .inr ⟨g, 0, cur, (0, 0), h1, hg⟩
theorem cat_any (pa pb : Option Addr) (n m ca cb : Nat) (a b : List Nat) (w : World) (ha : a.length = n) (hb : b.length = m) (hn : n ≤ 5000) (hm : m ≤ 5000) (la : Lies nof w pa (encI a)) (lb : Lies nof w pb (encI b)) :
    Calls Try.prog 46 #[.slice pa n ca, .slice pb m cb] w fun e w' => ∃ q k, e = .returned (.slice q (n + m) k) ∧ n + m ≤ k ∧ LiesT (old w) w' q 3 (encI (a ++ b)) ∧ Bel w w' := by
  have HA : Hid ((encI a).length = n * 1) := Lib.hid (by rw [encI_len, ha])
  have HB : Hid ((encI b).length = m * 1) := Lib.hid (by rw [encI_len, hb])
  have LA := Lib.hid (la.bel ((Bel.refl w).alloc #[] 3))
  have LB := Lib.hid lb
  clear ha hb la lb
  go_enter Try.func46, Try.ntmps46
  go_wp2_with (at_builtin; refine wpList_append_gen el36 rfl _ _ rfl _ 0 [] rfl (own_empty _ _ _) _ _ _ (encI a) rfl HA.out LA.out (encI_one a) (by omega) ?_)
  intro v' w1 hown hgrow hnew
  have hb1 : Bel w w1 := Off.trans ((Bel.refl w).alloc #[] 3) (Off.grown (f := fun k => k = w.heap.size) (Off.refl _ _) hgrow (fun k e => by simp [Value.ownBlock] at e; exact .inl e.symm)) (fun i e => .inr (by omega))
  have hnw : ∀ k, v'.ownBlock = some k → w.heap.size ≤ k := fun k hk => by
    rcases hnew k hk with e | e
    · simp [Value.ownBlock] at e; omega
    · omega
  obtain ⟨q1, k1, hv, hk1, _, _⟩ := own_slice hown nof (fun _ _ e => e)
  have HO := Lib.hid hown
  have HB1 := Lib.hid hb1
  have HNW := Lib.hid hnw
  subst hv
  have LB1 := Lib.hid (LB.out.bel hb1)
  clear hown hgrow hnew hb1 hnw
  go_wp2_with (at_builtin; refine wpList_append_gen el36 rfl _ _ rfl _ n (encI a) rfl HO.out _ _ _ (encI b) rfl HB.out LB1.out (encI_one b) (by omega) ?_)
  intro v2 w2 hown hgrow hnew
  have HB2 : Hid (Bel w w2) := Lib.hid (Off.trans HB1.out (Off.grown (f := fun k => w.heap.size ≤ k) (Off.refl _ _) hgrow (fun k e => .inl (HNW.out k e))) (fun i e => .inr e))
  obtain ⟨q2, k2, hv, hk2, _, hl2⟩ := own_slice hown (old w) (fun k hk => by
    have hz := HB1.out.size
    rcases hnew k hk with e | e
    · have := HNW.out k e; unfold old; omega
    · unfold old; omega)
  subst hv
  rw [← encI_append] at hl2 hown
  have HL := Lib.hid (And.intro hl2 (own_ty hown))
  clear hown hgrow hnew hl2
  go_wp2
  go_ret
  exact ⟨_, _, rfl, hk2, HL.out, HB2.out⟩
theorem encS_set (l : List Sh) (i : Nat) (x : Sh) : (encS l).set i (.slice x.p x.n x.c) = encS (l.set i x) := by unfold encS; rw [List.map_set]
set_option maxHeartbeats 1000000 in
theorem with_any (f : Nat → Prop) (P : Nat) (p : Option Addr) (L c : Nat) (ls : Ls) (i : Nat) (q : Option Addr) (n k : Nat) (l : List Nat) (w : World) (hR : RefIn f w p L ls) (hL : L ≤ 1024) (hi : i < L) (hn : l.length = n) (hk : n ≤ k) (hl : LiesT f w q 3 (encI l)) (hf : ∀ j, f j → j < w.heap.size) :
    Calls Try.prog 45 #[rv P p L c, .int .i64 i, .slice q n k] w fun e w' => ∃ p' c', e = .returned (rv P p' L c') ∧ L ≤ c' ∧ RefIn f w' p' L (upd ls i l) ∧ Bel w w' := by
  obtain ⟨hs, h1, h2, h3⟩ := hR
  have HH : Hid ((encS hs).length = L * 1) := Lib.hid (by rw [encS_len, h1])
  have LH := Lib.hid ((h2.1.any.bel ((Bel.refl w).alloc #[.int .i64 P, .slice p L c] 27)).bel (((Bel.refl _).alloc #[.int .i64 0, .slice none 0 0] 27).alloc #[] 36))
  have H1 := Lib.hid h1
  have H2 := Lib.hid h2
  have H3 := Lib.hid h3
  have HN := Lib.hid hn
  have HL2 := Lib.hid hl
  have HF := Lib.hid hf
  have OE : Hid ((((w.alloc (.cells #[.int .i64 P, .slice p L c] 27)).alloc (.cells #[.int .i64 0, .slice none 0 0] 27)).alloc (.cells #[] 36)).ownsRow 0 36 1 (.slice (some ⟨w.heap.size + 1 + 1, 0, none⟩) 0 0) 0 []) := Lib.hid (by
    have := own_empty ((w.alloc (.cells #[.int .i64 P, .slice p L c] 27)).alloc (.cells #[.int .i64 0, .slice none 0 0] 27)) 36 1
    simpa using this)
  unfold rv
  clear h1 h2 h3 hn hl hf
  go_enter Try.func45, Try.ntmps45
  go_wp2_with (at_builtin; refine wpList_append_gen el25 rfl _ _ rfl _ 0 [] rfl OE.out _ _ _ (encS hs) rfl HH.out LH.out (encS_one hs) (by omega) ?_)
  intro v' w1 hown hgrow hnew
  have hoff : Off (fun k => k = w.heap.size + 1 + 1) (((w.alloc (.cells #[.int .i64 P, .slice p L c] 27)).alloc (.cells #[.int .i64 0, .slice none 0 0] 27)).alloc (.cells #[] 36)) w1 :=
    Off.grown (Off.refl _ _) hgrow (fun k e => by simp [Value.ownBlock] at e; exact .inl e.symm)
  have hb1 : Bel w w1 := Off.trans ((((Bel.refl w).alloc _ _).alloc _ _).alloc _ _) hoff (fun i e => .inr (by omega))
  have d0 : w1.cell? ⟨w.heap.size, 0, none⟩ = some (.int .i64 P) := hoff.cell (show ¬ w.heap.size = w.heap.size + 1 + 1 by omega) (by simp [go_sem])
  have e0 : w1.cell? ⟨w.heap.size + 1, 0, none⟩ = some (.int .i64 0) := hoff.cell (show ¬ w.heap.size + 1 = w.heap.size + 1 + 1 by omega) (by simp [go_sem])
  have e1 : w1.cell? ⟨w.heap.size + 1, 1, none⟩ = some (.slice none 0 0) := hoff.cell (show ¬ w.heap.size + 1 = w.heap.size + 1 + 1 by omega) (by simp [go_sem])
  have g0 : w1.frozen? ⟨w.heap.size + 1, 0, none⟩ = false := hoff.froz (v := .int .i64 0) (show ¬ w.heap.size + 1 = w.heap.size + 1 + 1 by omega) (by simp [go_sem]) (by simp [go_sem])
  have g1 : w1.frozen? ⟨w.heap.size + 1, 1, none⟩ = false := hoff.froz (v := .slice none 0 0) (show ¬ w.heap.size + 1 = w.heap.size + 1 + 1 by omega) (by simp [go_sem]) (by simp [go_sem])
  obtain ⟨g, cap, hv, hcap⟩ : ∃ g cap, v' = .slice (some ⟨g, 0, none⟩) L cap ∧ L ≤ cap := by
    rcases hown.2 with ⟨_, h0⟩ | ⟨g, cap, cur, hv, _, _, hc, _⟩
    · omega
    · exact ⟨g, cap, hv, hc⟩
  subst hv
  have hg : w.heap.size + 1 + 1 ≤ g := by
    rcases hnew g rfl with e | e
    · simp [Value.ownBlock] at e; omega
    · omega
  obtain ⟨s0, hs0⟩ : ∃ s, hs[i]? = some s := ⟨_, List.getElem?_eq_getElem (by have := H1.out; omega)⟩
  have x0 : w1.cell? ⟨g, i, none⟩ = some (.slice s0.p s0.n s0.c) := by
    rw [hown.cellAt i (by omega)]
    exact encS_get hs i s0 hs0
  have f0 : w1.frozen? ⟨g, i, none⟩ = false := hown.frozenAt i
  have hst := (hown.stored i (.slice q n k)).1
  have e2 := encS_set hs i ⟨q, n, k⟩
  simp only at e2
  rw [e2] at hst
  have ne1 : ¬ g = w.heap.size := by omega
  have ne2 : ¬ g = w.heap.size + 1 := by omega
  have ne3 : ¬ w.heap.size = g := by omega
  have ne4 : ¬ w.heap.size + 1 = g := by omega
  have HST := Lib.hid hst
  have HB1 := Lib.hid hb1
  have hz : w.heap.size + 1 < w1.heap.size := World.block_lt_of_cell? w1 _ e0
  clear hown hgrow hnew hoff hst hb1 hs0 e2
  go_upto_region 3 with (fail)
  have hO : Off (fun j => j = g) w1 (w1.setCell ⟨g, i, none⟩ (.slice q n k)) := Off.setCell (Off.refl (fun j => j = g) w1) (p := ⟨g, i, none⟩) (.inl rfl) _
  have d0 := hO.cell ne3 d0
  have e0' := hO.cell ne4 e0
  have e1' := hO.cell ne4 e1
  have g0 := hO.froz ne4 e0 g0
  have g1 := hO.froz ne4 e1 g1
  have HB2 : Hid (Bel w (w1.setCell ⟨g, i, none⟩ (.slice q n k))) := Lib.hid (Off.trans HB1.out hO (fun j e => .inr (by omega)))
  generalize w1.setCell ⟨g, i, none⟩ (.slice q n k) = w2 at *
  clear hO x0 f0 e0 e1
  go_wp2
  have hO2 := off2 w2 (w.heap.size + 1) (.int .i64 P) (.slice (some ⟨g, 0, none⟩) L cap)
  refine bodyPost_ret (v := .agg #[.int .i64 P, .slice (some ⟨g, 0, none⟩) L cap]) (by simp [results, Try.results45, go_sem, e0', e1']) rfl ⟨_, _, rfl, hcap, ?_, Off.trans HB2.out hO2 (fun j e => .inr (by omega))⟩
  have hB3 : Bel w ((w2.setCell ⟨w.heap.size + 1, 0, none⟩ (.int .i64 P)).setCell ⟨w.heap.size + 1, 1, none⟩ (.slice (some ⟨g, 0, none⟩) L cap)) := Off.trans HB2.out hO2 (fun j e => .inr (by omega))
  have hso := own_off HST.out hO2 (fun k hk e => by simp [Value.ownBlock] at hk; omega)
  obtain ⟨pp, kk, hv, _, _, hlies⟩ := own_slice hso f (fun k hk e => by simp [Value.ownBlock] at hk; have := HF.out k e; omega)
  injection hv with hv1
  subst hv1
  refine ⟨hs.set i ⟨q, n, k⟩, by simp [H1.out], ⟨hlies, own_ty hso⟩, fun t s hs' => ?_⟩
  by_cases e : t = i
  · subst e
    rw [List.getElem?_set_self (by have := H1.out; omega)] at hs'
    injection hs' with hs'
    subst hs'
    rw [upd_same]
    exact ⟨HN.out.symm, hk, HL2.out.bel hB3⟩
  · rw [List.getElem?_set_ne (by omega)] at hs'
    rw [upd_other _ _ e]
    obtain ⟨h1, h2, h3⟩ := H3.out t s hs'
    exact ⟨h1, h2, h3.bel hB3⟩
end Go.Proofs.Ytdeiknfaehpheaa
