/-
  Contract of the document's Take.
-/
import Derived.Test.YtlohpccfanmiiaaRefFree
import Derived.Deep.Cut
namespace Go.Proofs.Ytlohpccfanmiiaa
open Go.RowKit
theorem step_append_gen {t e : TypeId} {size bytes : Nat} (E : Elem t e size bytes) {w : World} {ops : Array Oper} {o : Oper} {a : Act} {K : Act → World → Prop} {Q : Exit → Act → World → Prop} {Z : Prop} (hgd : o.guard = none) (s x : Operand)
    (ho : o.op = .call { callee := .builtin .append, args := #[s, x], argTypes := #[t, t] })
    (v : Value) (n : Nat) (cs : List Value) (hs : a.eval s = v) (hown : w.ownsRow 0 e size v n cs) (p : Option Addr) (m c : Nat) (news : List Value) (hx : a.eval x = .slice p m c) (hl : news.length = m * size) (hLies : Lies nof w p news) (h1 : ∀ u ∈ news, u.oneCell' = true)
    (h63 : n + m ≤ 1000000)
    (h : ∀ q k w', w'.ownsRow 0 e size (.slice q (n + m) k) (n + m) (cs ++ news) → w.grownBy w' v.ownBlock → (∀ j, (Value.slice q (n + m) k).ownBlock = some j → v.ownBlock = some j ∨ w.heap.size ≤ j) → K (a.put o.dst (.slice q (n + m) k)) w') :
    if Region.wanted o (yielded ops a.tmps) = true then Oper.wp Try.prog o a w K Q else Z := by
  have hw : Region.wanted o (yielded ops a.tmps) = true := by simp [Region.wanted, hgd]
  rw [if_pos hw]
  obtain ⟨v', w', hr, h2, h3, h4⟩ := append_gen E w o.type v n cs hown p m c news hl hLies h1 h63
  obtain ⟨q, k, rfl, _⟩ := own_slice h2 nof (fun _ _ e => e)
  unfold Oper.wp execOp
  simp only [ho, resolve, invoke, builtin, Sem.run_bind, Sem.run_pure, Result.andThen_ok, List.map_toArray, List.map_cons, List.map_nil, hs, hx, hr]
  exact h q k w' h2 h3 h4
/-- Two blocks. -/
def TT (a b : Nat) : Nat → Prop := fun k => k = a ∨ k = b
theorem off_peel {f : Nat → Prop} {a w : World} {b o : Nat} {v : Value} (h : Off f a w) (hb : f b) : Off f a (w.setCell ⟨b, o, none⟩ v) := Off.setCell h (.inl hb) v
theorem own_lies {w : World} {e : TypeId} {size : Nat} {p : Option Addr} {n cap : Nat} {cs : List Value} (h : w.ownsRow 0 e size (.slice p n cap) n cs) (f : Nat → Prop) (hf : ∀ k, (Value.slice p n cap).ownBlock = some k → ¬ f k) : n ≤ cap ∧ Lies f w p cs := by
  obtain ⟨q, c, he, h1, _, h2⟩ := own_slice h f hf
  injection he with e1 e2 e3
  subst e1 e3
  exact ⟨h1, h2⟩
theorem own_form {w : World} {e : TypeId} {size : Nat} {v : Value} {n : Nat} {cs : List Value} (h : w.ownsRow 0 e size v n cs) (hn : 0 < n) : ∃ g cap, v = .slice (some ⟨g, 0, none⟩) n cap ∧ n ≤ cap ∧ cap ≤ maxLen := by
  rcases h.2 with ⟨_, h0⟩ | ⟨g, cap, cur, rfl, hb, hg, hc, hm, hs, ht⟩
  · omega
  · exact ⟨g, cap, rfl, hc, hm⟩
set_option maxHeartbeats 2000000 in
theorem rtake_full (x : RP) (R : Rf) (w : World) (hs : RSm R) (hR : RefIn nof w x R) (hf : R.free = []) (hn : R.pl ≤ R.used.length) :
    Calls Try.prog 25 #[rv x R] w fun e w' => e = .returned (.tuple #[rv x R, .agg #[.int .i64 0, .int .i64 0], .int .i64 6]) ∧ Bel w w' := by
  have u1 := hs.u1
  have p0 := hs.p0
  have HI := Lib.hid hR.i1
  have HI2 := Lib.hid hR.i2
  obtain ⟨P, hP⟩ : ∃ P : Nat, R.pl = P := ⟨R.pl.toNat, by omega⟩
  obtain ⟨n, hn'⟩ : ∃ n, R.used.length = n := ⟨_, rfl⟩
  have hfl : R.free.length = 0 := by rw [hf]; rfl
  unfold rv
  rw [hP, hn', hfl]
  rw [hn'] at u1 hn
  rw [hP] at hn
  have hd : decide (P ≤ n) = true := decide_eq_true (by omega)
  have HN := Lib.hid hn'
  rw [hf] at HI2
  clear hs hR hf hP hn' hfl p0 hn
  go_enter Try.func25, Try.ntmps25
  go_wp2_with (at_builtin; refine wpList_append_gen el28 rfl (.tmp 10) (.tmp 12) rfl _ 0 [] rfl (own_empty _ 3 1 _ (by simp)) _ _ _ (encI R.used) rfl (by rw [encI_len, HN.out]) (HI.out.bel (((((Bel.refl _).alloc _ _).alloc _ _).alloc _ _).alloc _ _)) (encI_one _) (by omega) ?_)
  intro v1 w1 hown hgrow hnew
  have HW : Hid (Bel (((w.alloc (.cells #[.int .i64 P, .int .i64 R.gn, .slice x.p1 n x.c1, .slice x.p2 0 x.c2, .slice x.p3 R.alive.length x.c3] 31)).alloc (.cells #[.int .i64 0, .int .i64 0, .slice none 0 0, .slice none 0 0, .slice none 0 0] 31)).alloc (.cells #[.int .i64 0, .int .i64 0] 38)) w1) :=
    Lib.hid (Off.grown ((Bel.refl _).alloc _ _) hgrow (fun k e => .inr (by simp [Value.ownBlock] at e; simp; omega)))
  obtain ⟨h0, h1, h2⟩ := heap3 w (.cells #[.int .i64 P, .int .i64 R.gn, .slice x.p1 n x.c1, .slice x.p2 0 x.c2, .slice x.p3 R.alive.length x.c3] 31) (.cells #[.int .i64 0, .int .i64 0, .slice none 0 0, .slice none 0 0, .slice none 0 0] 31) (.cells #[.int .i64 0, .int .i64 0] 38)
  have HT0 := Lib.hid (HW.out.heap h0)
  have HT1 := Lib.hid (HW.out.heap h1)
  have HT2 := Lib.hid (HW.out.heap h2)
  have HB : Hid (Bel w w1) := Lib.hid (((((Bel.refl _).alloc _ _).alloc _ _).alloc _ _).trans HW.out)
  have hz : w.heap.size + 1 + 1 < w1.heap.size := by have := HW.out.size; simp at this; omega
  obtain ⟨p1, c1, hv1, hc1, _⟩ := own_slice hown nof (fun _ _ e => e)
  rw [hv1]
  clear hown hgrow hnew h0 h1 h2 HW hv1
  obtain ⟨⟨y0, y1, y2, y3, y4⟩, _⟩ := box5 HT0.out
  have hz1 : w.heap.size < w1.heap.size := by omega
  go_wp2_with (at_builtin; refine wpList_append_gen el28 rfl (.tmp 14) (.tmp 16) rfl _ 0 [] rfl (own_empty _ 3 1 _ (by simp)) _ _ _ [] rfl rfl (Lies.nil _ _ _) (by simp) (by omega) ?_)
  intro v2 w2 hown hgrow hnew
  have HB2 : Hid (Bel w1 w2) := Lib.hid (Off.grown ((Bel.refl _).alloc _ _) hgrow (fun k e => .inr (by simp [Value.ownBlock] at e; omega)))
  obtain ⟨p2, c2, hv2, hc2, _⟩ := own_slice hown nof (fun _ _ e => e)
  rw [hv2]
  clear hown hgrow hnew hv2 y0 y1 y2 y3 y4
  obtain ⟨⟨y0, y1, y2, y3, y4⟩, _⟩ := box5 (HB2.out.heap HT0.out)
  obtain ⟨⟨z0, z1, z2, z3, z4⟩, ⟨g0, g1, g2, g3, g4⟩⟩ := box5 (HB2.out.heap HT1.out)
  obtain ⟨⟨t0, t1⟩, ⟨s0, s1⟩⟩ := box2 (HB2.out.heap HT2.out)
  go_wp2
  refine bodyPost_ret (v := .tuple #[.agg #[.int .i64 P, .int .i64 R.gn, .slice x.p1 n x.c1, .slice x.p2 0 x.c2, .slice x.p3 R.alive.length x.c3], .agg #[.int .i64 0, .int .i64 0], .int .i64 6]) (by simp [results, Try.results25, go_sem, z0, z1, z2, z3, z4, t0, t1]) rfl ⟨rfl, ?_⟩
  exact Off.trans (Off.trans (HB.out.trans HB2.out) (off5 w2 (w.heap.size + 1) _ _ _ _ _) (fun i e => .inr (by omega))) (off2 _ (w.heap.size + 1 + 1) _ _) (fun i e => .inr (by omega))
set_option maxHeartbeats 4000000 in
theorem rtake_freed (f : Nat → Prop) (x : RP) (R : Rf) (r : List Int) (k : Nat) (u : Int) (w : World) (hs : RSm R) (hR : RefIn f w x R) (hf : ∀ k, f k → k < w.heap.size) (hr : R.free = r ++ [(k : Int)]) (hk : R.used[k]? = some u) (hu0 : 0 ≤ u) (hu : u ≤ 65535) :
    Calls Try.prog 25 #[rv x R] w fun e w' => ∃ x', e = .returned (.tuple #[rv x' { R with used := R.used.set k (u + 1), free := r, alive := R.alive ++ [⟨k, u + 1⟩] }, .agg #[.int .i64 k, .int .i64 (u + 1)], .int .i64 0]) ∧
      RefIn f w' x' { R with used := R.used.set k (u + 1), free := r, alive := R.alive ++ [⟨k, u + 1⟩] } ∧ Bel w w' := by
  have u1 := hs.u1
  have a1 := hs.a1
  have f1 := hs.f1
  have HR := Lib.hid hR
  have HFo := Lib.hid hf
  obtain ⟨P, hP⟩ : ∃ P, R.pl = P := ⟨_, rfl⟩
  obtain ⟨ul, hul⟩ : ∃ ul, R.used = ul := ⟨_, rfl⟩
  obtain ⟨n, hn⟩ : ∃ n, ul.length = n := ⟨_, rfl⟩
  obtain ⟨m, hm⟩ : ∃ m, r.length = m := ⟨_, rfl⟩
  obtain ⟨a, ha⟩ : ∃ a, R.alive.length = a := ⟨_, rfl⟩
  have hfl : R.free.length = m + 1 := by rw [hr, List.length_append, hm]; rfl
  have HI : Hid (Lies nof w x.p1 (encI ul)) := Lib.hid (by rw [← hul]; exact hR.i1.any)
  have HI2 : Hid (Lies nof w x.p2 (encI (r ++ [(k : Int)]))) := Lib.hid (by rw [← hr]; exact hR.i2.any)
  have HI3 : Hid (Lies nof w x.p3 (encH R.alive)) := Lib.hid hR.i3.any
  rw [hul] at hk u1
  have hlt := get_lt hk
  rw [hn] at hlt u1
  rw [hfl] at f1
  rw [ha] at a1
  have HK := Lib.hid hk
  have HN := Lib.hid hn
  have HM := Lib.hid hm
  have HA := Lib.hid ha
  have HU := Lib.hid hul
  have HP := Lib.hid hP
  have hv0 : rv x R = .agg #[.int .i64 P, .int .i64 R.gn, .slice x.p1 n x.c1, .slice x.p2 (m + 1) x.c2, .slice x.p3 a x.c3] := by unfold rv; rw [hP, hul, hn, hfl, ha]
  rw [hv0]
  clear hs hR hf hr hk hul hn hm ha hfl hP hv0
  go_enter Try.func25, Try.ntmps25
  go_wp2_with (at_builtin; refine wpList_append_gen el28 rfl (.tmp 10) (.tmp 12) rfl _ 0 [] rfl (own_empty _ 3 1 _ (by simp)) _ _ _ (encI ul) rfl (by rw [encI_len, HN.out]) (HI.out.bel (((((Bel.refl _).alloc _ _).alloc _ _).alloc _ _).alloc _ _)) (encI_one _) (by omega) ?_)
  intro v1 w1 hown hgrow hnew
  have HW : Hid (Bel (((w.alloc (.cells #[.int .i64 P, .int .i64 R.gn, .slice x.p1 n x.c1, .slice x.p2 (m + 1) x.c2, .slice x.p3 a x.c3] 31)).alloc (.cells #[.int .i64 0, .int .i64 0, .slice none 0 0, .slice none 0 0, .slice none 0 0] 31)).alloc (.cells #[.int .i64 0, .int .i64 0] 38)) w1) :=
    Lib.hid (Off.grown ((Bel.refl _).alloc _ _) hgrow (fun k e => .inr (by simp [Value.ownBlock] at e; simp; omega)))
  obtain ⟨h0, h1, h2⟩ := heap3 w (.cells #[.int .i64 P, .int .i64 R.gn, .slice x.p1 n x.c1, .slice x.p2 (m + 1) x.c2, .slice x.p3 a x.c3] 31) (.cells #[.int .i64 0, .int .i64 0, .slice none 0 0, .slice none 0 0, .slice none 0 0] 31) (.cells #[.int .i64 0, .int .i64 0] 38)
  have HT0 := Lib.hid (HW.out.heap h0)
  have HT1 := Lib.hid (HW.out.heap h1)
  have HT2 := Lib.hid (HW.out.heap h2)
  have HB : Hid (Bel w w1) := Lib.hid (((((Bel.refl _).alloc _ _).alloc _ _).alloc _ _).trans HW.out)
  have hz : w.heap.size + 1 + 1 < w1.heap.size := by have := HW.out.size; simp at this; omega
  have HO1 : Hid (w1.ownsRow 0 3 1 v1 n (encI ul)) := Lib.hid (by simpa using hown)
  have HN1 : Hid (∀ k, v1.ownBlock = some k → w.heap.size + 1 + 1 < k) := Lib.hid (fun k e => by
    rcases hnew k e with e | e
    · simp [Value.ownBlock] at e; omega
    · omega)
  clear hown hgrow hnew h0 h1 h2 HW
  obtain ⟨⟨y0, y1, y2, y3, y4⟩, _⟩ := box5 HT0.out
  have hz1 : w.heap.size < w1.heap.size := by omega
  go_wp2_with (at_builtin; refine wpList_append_gen el28 rfl (.tmp 14) (.tmp 16) rfl _ 0 [] rfl (own_empty _ 3 1 _ (by simp)) _ _ _ (encI (r ++ [(k : Int)])) rfl (by rw [encI_len, List.length_append, HM.out]; rfl) (HI2.out.bel (HB.out.alloc _ _)) (encI_one _) (by omega) ?_)
  intro v2 w2 hown hgrow hnew
  have HB2 : Hid (Bel w1 w2) := Lib.hid (Off.grown ((Bel.refl _).alloc _ _) hgrow (fun k e => .inr (by simp [Value.ownBlock] at e; omega)))
  have HO2 : Hid (w2.ownsRow 0 3 1 v2 (m + 1) (encI (r ++ [(k : Int)]))) := Lib.hid (by simpa using hown)
  have HN2 : Hid (∀ k, v2.ownBlock = some k → w1.heap.size ≤ k) := Lib.hid (fun k e => by
    rcases hnew k e with e | e
    · simp [Value.ownBlock] at e; omega
    · omega)
  clear hown hgrow hnew y0 y1 y2 y3 y4
  obtain ⟨g1, c1, hv1, hc1, hmx1⟩ := own_form HO1.out (by omega)
  obtain ⟨g2, c2, hv2, hc2, hmx2⟩ := own_form HO2.out (by omega)
  have hb2 := HB2.out.size
  rw [hv1] at HO1 HN1 ⊢
  rw [hv2] at HO2 HN2 ⊢
  have hg1a := HN1.out g1 rfl
  have hg1b := (HO1.out.lt g1 rfl).2
  have hg2 := HN2.out g2 rfl
  have x2 : w2.cell? ⟨g2, m, none⟩ = some (.int .i64 k) := by
    rw [HO2.out.cellAt m (by omega)]
    exact encI_get _ _ _ (by rw [← HM.out]; simp)
  have HO1' := Lib.hid (own_bel HO1.out HB2.out)
  have x1 : w2.cell? ⟨g1, k, none⟩ = some (.int .i64 u) := by
    rw [HO1'.out.cellAt k (by omega)]
    exact encI_get _ _ _ HK.out
  have fx1 : w2.frozen? ⟨g1, k, none⟩ = false := HO1'.out.frozenAt _
  have HS := Lib.hid (HO1'.out.stored k (.int .i64 (u + 1)))
  have HO2t : Hid (w2.ownsRow 0 3 1 (.slice (some ⟨g2, 0, none⟩) m c2) m (encI r)) := Lib.hid (by
    have h1 := own_take HO2.out m (by omega) (by omega)
    rw [encI_append, Nat.mul_one, List.take_left' (by rw [encI_len, HM.out]; omega)] at h1
    exact h1)
  have HSo : Hid (Off (fun j => j = g1) w2 (w2.setCell ⟨g1, k, none⟩ (.int .i64 (u + 1)))) := Lib.hid (Off.setCell (Off.refl (fun j => j = g1) w2) (p := ⟨g1, k, none⟩) (.inl rfl) _)
  have e1 : ((m + 1 : Nat) : Int) - 1 = m := by omega
  unfold maxLen at hmx1 hmx2
  clear hv1 hv2
  have hz2 : w.heap.size < w2.heap.size := by omega
  obtain ⟨⟨y0, y1, y2, y3, y4⟩, _⟩ := box5 (HB2.out.heap HT0.out)
  have y4' : (w2.setCell ⟨g1, k, none⟩ (.int .i64 (u + 1))).cell? ⟨w.heap.size, 4, none⟩ = some (.slice x.p3 a x.c3) := HSo.out.cell (by simp; omega) y4
  have hzs : w.heap.size < (w2.setCell ⟨g1, k, none⟩ (.int .i64 (u + 1))).heap.size := by have := HSo.out.size; omega
  clear y0 y1 y2 y3 y4 y4'
  have HT0' : Hid (((w2.setCell ⟨g1, k, none⟩ (.int .i64 (u + 1))).alloc (.cells #[.int .i64 k, .int .i64 (u + 1)] 38)).heap[w.heap.size]? = some (.cells #[.int .i64 P, .int .i64 R.gn, .slice x.p1 n x.c1, .slice x.p2 (m + 1) x.c2, .slice x.p3 a x.c3] 31)) := Lib.hid (Bel.heap ((Bel.refl _).alloc _ _) ((HSo.out.block w.heap.size (by omega) (by omega)).trans (HB2.out.heap HT0.out)))
  have HT1' : Hid (((w2.setCell ⟨g1, k, none⟩ (.int .i64 (u + 1))).alloc (.cells #[.int .i64 k, .int .i64 (u + 1)] 38)).heap[w.heap.size + 1]? = some (.cells #[.int .i64 0, .int .i64 0, .slice none 0 0, .slice none 0 0, .slice none 0 0] 31)) := Lib.hid (Bel.heap ((Bel.refl _).alloc _ _) ((HSo.out.block (w.heap.size + 1) (by omega) (by omega)).trans (HB2.out.heap HT1.out)))
  have HT2' : Hid (((w2.setCell ⟨g1, k, none⟩ (.int .i64 (u + 1))).alloc (.cells #[.int .i64 k, .int .i64 (u + 1)] 38)).heap[w.heap.size + 1 + 1]? = some (.cells #[.int .i64 0, .int .i64 0] 38)) := Lib.hid (Bel.heap ((Bel.refl _).alloc _ _) ((HSo.out.block (w.heap.size + 1 + 1) (by omega) (by omega)).trans (HB2.out.heap HT2.out)))
  have HT3' : Hid (((w2.setCell ⟨g1, k, none⟩ (.int .i64 (u + 1))).alloc (.cells #[.int .i64 k, .int .i64 (u + 1)] 38)).heap[w2.heap.size]? = some (.cells #[.int .i64 k, .int .i64 (u + 1)] 38)) := Lib.hid (by
    have h1 := heap_alloc_new (w2.setCell ⟨g1, k, none⟩ (.int .i64 (u + 1))) (.cells #[.int .i64 k, .int .i64 (u + 1)] 38)
    rw [show (w2.setCell ⟨g1, k, none⟩ (.int .i64 (u + 1))).heap.size = w2.heap.size by simp] at h1
    exact h1)
  have HB4 : Hid (Bel w ((w2.setCell ⟨g1, k, none⟩ (.int .i64 (u + 1))).alloc (.cells #[.int .i64 k, .int .i64 (u + 1)] 38))) := Lib.hid (Off.alloc (Off.trans (HB.out.trans HB2.out) HSo.out (fun i e => .inr (by omega))) _ _)
  have y4 := (box5 HT0'.out).1.2.2.2.2
  have hz4 : w.heap.size + 1 + 1 < ((w2.setCell ⟨g1, k, none⟩ (.int .i64 (u + 1))).alloc (.cells #[.int .i64 k, .int .i64 (u + 1)] 38)).heap.size := by have := HSo.out.size; simp; omega
  have hz4a : w.heap.size < ((w2.setCell ⟨g1, k, none⟩ (.int .i64 (u + 1))).alloc (.cells #[.int .i64 k, .int .i64 (u + 1)] 38)).heap.size := by omega
  obtain ⟨⟨y0, y1, y2, y3, y4⟩, _⟩ := box5 HT0'.out
  clear y0 y1 y2 y3
  go_upto_region 12 with (fail)
  have L1 : Hid (Lies (fun j => j ≤ w.heap.size + 1 + 1) ((w2.setCell ⟨g1, k, none⟩ (.int .i64 (u + 1))).alloc (.cells #[.int .i64 k, .int .i64 (u + 1)] 38)) ((some ⟨g1, 0, none⟩)) (encI (ul.set k (u + 1)))) := Lib.hid ((own_lies (by have h1 := HS.out.1; rw [← encI_set] at h1; exact h1) _ (fun j e => by simp [Value.ownBlock] at e; omega)).2.bel ((Bel.refl _).alloc _ _))
  have L2 : Hid (Lies (fun j => j ≤ w.heap.size + 1 + 1) ((w2.setCell ⟨g1, k, none⟩ (.int .i64 (u + 1))).alloc (.cells #[.int .i64 k, .int .i64 (u + 1)] 38)) ((some ⟨g2, 0, none⟩)) (encI (r))) := Lib.hid ((own_lies (own_off HO2t.out HSo.out (fun j e => by simp [Value.ownBlock] at e; omega)) _ (fun j e => by simp [Value.ownBlock] at e; omega)).2.bel ((Bel.refl _).alloc _ _))
  generalize ((w2.setCell ⟨g1, k, none⟩ (.int .i64 (u + 1))).alloc (.cells #[.int .i64 k, .int .i64 (u + 1)] 38)) = W9 at *
  have hT12 : ¬ w.heap.size + 1 = w.heap.size + 1 + 1 := by omega
  have hT21 : ¬ w.heap.size + 1 + 1 = w.heap.size + 1 := by omega
  have hT01 : w.heap.size < w.heap.size + 1 := by omega
  have hT1l : w.heap.size + 1 < w.heap.size + 1 + 1 := by omega
  have hT02 : w.heap.size < w.heap.size + 1 + 1 := by omega
  have hT24 : w.heap.size + 1 + 1 < w2.heap.size := by omega
  have hT14 : w.heap.size + 1 < w2.heap.size := by omega
  generalize hT2 : w.heap.size + 1 + 1 = T2 at *
  have HT2e := Lib.hid hT2
  clear hT2
  generalize hT1 : w.heap.size + 1 = T1 at *
  have HT1e := Lib.hid hT1
  clear hT1
  go_wp2_with (at_builtin; refine wpList_append_gen el29 rfl (.tmp 57) (.tmp 59) rfl _ 0 [] rfl (own_empty _ 38 2 _ (by simp)) _ _ _ (encH R.alive) rfl (by rw [encH_len, HA.out]) (HI3.out.bel (HB4.out.alloc _ _)) (encH_one _) (by omega) ?_)
  intro v5 w5 hown hgrow hnew
  have HB5 : Hid (Bel W9 w5) := Lib.hid (Off.grown ((Bel.refl _).alloc _ _) hgrow (fun k e => .inr (by simp [Value.ownBlock] at e; omega)))
  have HO5 : Hid (w5.ownsRow 0 38 2 v5 a (encH R.alive)) := Lib.hid (by simpa using hown)
  have HN5 : Hid (∀ j, v5.ownBlock = some j → W9.heap.size ≤ j) := Lib.hid (fun j e => by
    rcases hnew j e with e | e
    · simp [Value.ownBlock] at e; omega
    · omega)
  have hz5 : W9.heap.size ≤ w5.heap.size := HB5.out.size
  clear hown hgrow hnew
  have HX : Hid (∀ w', Off (TT T1 T2) W9 w' → w'.cell? ⟨w.heap.size, 0, none⟩ = some (.int .i64 P) ∧ w'.cell? ⟨w.heap.size, 1, none⟩ = some (.int .i64 R.gn) ∧ w'.cell? ⟨w2.heap.size, 0, none⟩ = some (.int .i64 k) ∧ w'.cell? ⟨w2.heap.size, 1, none⟩ = some (.int .i64 (u + 1))) := Lib.hid (fun w' hw => by
    obtain ⟨⟨y0, y1, _, _, _⟩, _⟩ := box5 HT0'.out
    obtain ⟨⟨q0, q1⟩, _⟩ := box2 HT3'.out
    exact ⟨hw.cell (by unfold TT; simp; omega) y0, hw.cell (by unfold TT; simp; omega) y1, hw.cell (by unfold TT; simp; omega) q0, hw.cell (by unfold TT; simp; omega) q1⟩)
  clear y4
  have HF1 : Hid (TT T1 T2 T1) := Lib.hid (.inl rfl)
  have HF2 : Hid (TT T1 T2 T2) := Lib.hid (.inr rfl)
  go_wp2
  go_region_held3 (fun w' => w'.cell? ⟨w.heap.size, 0, none⟩ = some (.int .i64 P) ∧ w'.cell? ⟨w.heap.size, 1, none⟩ = some (.int .i64 R.gn) ∧ w'.cell? ⟨w2.heap.size, 0, none⟩ = some (.int .i64 k) ∧ w'.cell? ⟨w2.heap.size, 1, none⟩ = some (.int .i64 (u + 1)))
    (((with_reducible refine HX.out _ ?_); first | (with_reducible exact HB5.out.off _) | (with_reducible exact (HB5.out.off _).drew) | (with_reducible exact ((HB5.out.off _).alloc _ _).drew) | (with_reducible exact (HB5.out.off _).alloc _ _) | (with_reducible exact HB6.out.off _) | ((repeat with_reducible refine off_peel ?_ (by first | exact HF1.out | exact HF2.out)); with_reducible exact HB6.out.off _)))
    ((refine step_append_gen el29 (by rfl) (.tmp 67) (.tmp 69) (by rfl) v5 a (encH R.alive) (by rfl) (own_bel HO5.out ((Bel.refl _).alloc _ _).drew) _ 1 _ (encH [⟨k, u + 1⟩]) (by rfl) rfl ((lies_hd1 w5 ⟨k, u + 1⟩ _ rfl).bel (Bel.refl _).drew) (encH_one _) (by omega) ?_; intro p6 c6 w6 hown6 hgrow6 hnew6; have HB6 : Hid (Bel W9 w6) := Lib.hid (Off.grown (HB5.out.alloc _ _).drew hgrow6 (fun j e => .inr (HN5.out j e))); obtain ⟨⟨z0, z1, z2, z3, z4⟩, ⟨i0, i1, i2, i3, i4⟩⟩ := box5 (HB6.out.heap HT1'.out); obtain ⟨⟨t0, t1⟩, ⟨s0, s1⟩⟩ := box2 (HB6.out.heap HT2'.out)))
  have HO6 := Lib.hid hown6
  have HN6 : Hid (∀ j, (Value.slice p6 (a + 1) c6).ownBlock = some j → ¬ j ≤ T2) := Lib.hid (fun j e => by
    rcases hnew6 j e with e | e
    · have := HN5.out j e; omega
    · have h2 : w5.heap.size ≤ j := Nat.le_trans (Off.size ((Bel.refl w5).alloc #[.int .i64 k, .int .i64 (u + 1)] 38).drew) e
      omega)
  clear hown6 hgrow6 hnew6
  go_wp2
  refine bodyPost_ret (v := .tuple #[.agg #[.int .i64 P, .int .i64 R.gn, .slice (some ⟨g1, 0, none⟩) n c1, .slice (some ⟨g2, 0, none⟩) m c2, .slice p6 (a + 1) c6], .agg #[.int .i64 k, .int .i64 (u + 1)], .int .i64 0]) (by simp [results, Try.results25, go_sem, z0, z1, z2, z3, z4, t0, t1]) rfl ?_
  have hoff : Off (TT T1 T2) w6 (((((((w6.setCell ⟨T1, 0, none⟩ (.int .i64 P)).setCell ⟨T1, 1, none⟩ (.int .i64 R.gn)).setCell ⟨T1, 2, none⟩ (.slice (some ⟨g1, 0, none⟩) n c1)).setCell ⟨T1, 3, none⟩ (.slice (some ⟨g2, 0, none⟩) m c2)).setCell ⟨T1, 4, none⟩ (.slice p6 (a + 1) c6)).setCell ⟨T2, 0, none⟩ (.int .i64 k)).setCell ⟨T2, 1, none⟩ (.int .i64 (u + 1))) :=
    off_peel (off_peel (off_peel (off_peel (off_peel (off_peel (off_peel (Off.refl _ _) HF1.out) HF1.out) HF1.out) HF1.out) HF1.out) HF2.out) HF2.out
  have hoffT : Off (fun j => j ≤ T2) w6 _ := hoff.mono (fun i _ e => by rcases e with e | e <;> omega)
  have hbw := Off.trans (HB4.out.trans HB6.out) hoff (fun i e => .inr (by rcases e with e | e <;> omega))
  obtain ⟨hc6, hl6⟩ := own_lies HO6.out (fun j => j ≤ T2) HN6.out
  have hft : ∀ b, f b → b ≤ T2 := fun b e => by have := HFo.out b e; omega
  rw [HU.out]
  refine ⟨⟨(some ⟨g1, 0, none⟩), c1, (some ⟨g2, 0, none⟩), c2, p6, c6⟩, ?_, ⟨by simp; have := HN.out; omega, by have := HM.out; simp; omega, by simp; have := HA.out; omega, ((L1.out.bel HB6.out).off hoffT).mono (fun b _ e => hft b e), ((L2.out.bel HB6.out).off hoffT).mono (fun b _ e => hft b e), ?_⟩, hbw⟩
  · simp [HN.out, HM.out, HA.out, HP.out]
  · rw [encH_append]
    exact (hl6.off hoffT).mono (fun b _ e => hft b e)
set_option maxHeartbeats 4000000 in
theorem rtake_fresh (f : Nat → Prop) (x : RP) (R : Rf) (n : Nat) (w : World) (hs : RSm R) (hR : RefIn f w x R) (hf : ∀ k, f k → k < w.heap.size) (hr : R.free = []) (hn : R.used.length = n) (hlt : (n : Int) < R.pl) :
    Calls Try.prog 25 #[rv x R] w fun e w' => ∃ x', e = .returned (.tuple #[rv x' { R with used := R.used ++ [1], alive := R.alive ++ [⟨n, 1⟩] }, .agg #[.int .i64 n, .int .i64 1], .int .i64 0]) ∧
      RefIn f w' x' { R with used := R.used ++ [1], alive := R.alive ++ [⟨n, 1⟩] } ∧ Bel w w' := by
  have u1 := hs.u1
  have a1 := hs.a1
  have HR := Lib.hid hR
  have HFo := Lib.hid hf
  obtain ⟨P, hP⟩ : ∃ P, R.pl = P := ⟨_, rfl⟩
  obtain ⟨ul, hul⟩ : ∃ ul, R.used = ul := ⟨_, rfl⟩
  obtain ⟨a, ha⟩ : ∃ a, R.alive.length = a := ⟨_, rfl⟩
  have hfl : R.free.length = 0 := by rw [hr]; rfl
  rw [hul] at hn u1
  have HI : Hid (Lies nof w x.p1 (encI ul)) := Lib.hid (by rw [← hul]; exact hR.i1.any)
  have HI3 : Hid (Lies nof w x.p3 (encH R.alive)) := Lib.hid hR.i3.any
  rw [hn] at u1
  rw [ha] at a1
  rw [hP] at hlt
  have HFr := Lib.hid hr
  have HN := Lib.hid hn
  have HA := Lib.hid ha
  have HU := Lib.hid hul
  have HP := Lib.hid hP
  have hd : decide (P ≤ (n : Int)) = false := decide_eq_false (by omega)
  have hv0 : rv x R = .agg #[.int .i64 P, .int .i64 R.gn, .slice x.p1 n x.c1, .slice x.p2 0 x.c2, .slice x.p3 a x.c3] := by unfold rv; rw [hP, hul, hn, hfl, ha]
  rw [hv0]
  clear hs hR hf hr hul hn ha hfl hP hv0
  go_enter Try.func25, Try.ntmps25
  go_wp2_with (at_builtin; refine wpList_append_gen el28 rfl (.tmp 10) (.tmp 12) rfl _ 0 [] rfl (own_empty _ 3 1 _ (by simp)) _ _ _ (encI ul) rfl (by rw [encI_len, HN.out]) (HI.out.bel (((((Bel.refl _).alloc _ _).alloc _ _).alloc _ _).alloc _ _)) (encI_one _) (by omega) ?_)
  intro v1 w1 hown hgrow hnew
  have HW : Hid (Bel (((w.alloc (.cells #[.int .i64 P, .int .i64 R.gn, .slice x.p1 n x.c1, .slice x.p2 0 x.c2, .slice x.p3 a x.c3] 31)).alloc (.cells #[.int .i64 0, .int .i64 0, .slice none 0 0, .slice none 0 0, .slice none 0 0] 31)).alloc (.cells #[.int .i64 0, .int .i64 0] 38)) w1) :=
    Lib.hid (Off.grown ((Bel.refl _).alloc _ _) hgrow (fun k e => .inr (by simp [Value.ownBlock] at e; simp; omega)))
  obtain ⟨h0, h1, h2⟩ := heap3 w (.cells #[.int .i64 P, .int .i64 R.gn, .slice x.p1 n x.c1, .slice x.p2 0 x.c2, .slice x.p3 a x.c3] 31) (.cells #[.int .i64 0, .int .i64 0, .slice none 0 0, .slice none 0 0, .slice none 0 0] 31) (.cells #[.int .i64 0, .int .i64 0] 38)
  have HT0 := Lib.hid (HW.out.heap h0)
  have HT1 := Lib.hid (HW.out.heap h1)
  have HT2 := Lib.hid (HW.out.heap h2)
  have HB : Hid (Bel w w1) := Lib.hid (((((Bel.refl _).alloc _ _).alloc _ _).alloc _ _).trans HW.out)
  have hz : w.heap.size + 1 + 1 < w1.heap.size := by have := HW.out.size; simp at this; omega
  have HO1 : Hid (w1.ownsRow 0 3 1 v1 n (encI ul)) := Lib.hid (by simpa using hown)
  have HN1 : Hid (∀ k, v1.ownBlock = some k → w.heap.size + 1 + 1 < k) := Lib.hid (fun k e => by
    rcases hnew k e with e | e
    · simp [Value.ownBlock] at e; omega
    · omega)
  clear hown hgrow hnew h0 h1 h2 HW
  obtain ⟨⟨y0, y1, y2, y3, y4⟩, _⟩ := box5 HT0.out
  have hz1 : w.heap.size < w1.heap.size := by omega
  obtain ⟨p1, c1, hv1, hc1, _⟩ := own_slice HO1.out nof (fun _ _ e => e)
  rw [hv1] at HO1 HN1 ⊢
  clear hv1
  go_wp2_with (at_builtin; refine wpList_append_gen el28 rfl (.tmp 14) (.tmp 16) rfl _ 0 [] rfl (own_empty _ 3 1 _ (by simp)) _ _ _ [] rfl rfl (Lies.nil _ _ _) (by simp) (by omega) ?_)
  intro v2 w2 hown hgrow hnew
  have HB2 : Hid (Bel w1 w2) := Lib.hid (Off.grown ((Bel.refl _).alloc _ _) hgrow (fun k e => .inr (by simp [Value.ownBlock] at e; omega)))
  obtain ⟨p2, c2, hv2, hc2, _⟩ := own_slice hown nof (fun _ _ e => e)
  rw [hv2]
  clear hown hgrow hnew hv2 y0 y1 y2 y3 y4
  have hb2 := HB2.out.size
  obtain ⟨⟨y0, y1, y2, y3, y4⟩, _⟩ := box5 (HB2.out.heap HT0.out)
  have hz2 : w.heap.size < w2.heap.size := by omega
  go_wp2_with (at_builtin; refine wpList_append_gen el28 rfl (.tmp 40) (.tmp 41) rfl _ n (encI ul) rfl (own_bel HO1.out (HB2.out.alloc _ _)) _ _ _ (encI [0]) rfl rfl (lies_one _ _ _ rfl) (encI_one _) (by omega) ?_)
  intro v3 w3 hown hgrow hnew
  have HB3 : Hid (Off (fun j => w.heap.size + 1 + 1 < j) w2 w3) := Lib.hid (Off.grown ((Off.refl _ _).alloc _ _) hgrow (fun k e => .inl (HN1.out k e)))
  have HO3 : Hid (w3.ownsRow 0 3 1 v3 (n + 1) (encI (ul ++ [0]))) := Lib.hid (by rw [encI_append]; exact hown)
  have hnew3 : ∀ j, v3.ownBlock = some j → w.heap.size + 1 + 1 < j := fun j e => by
    rcases hnew j e with e | e
    · exact HN1.out j e
    · omega
  obtain ⟨g3, c3, hv3, hc3, hmx3⟩ := own_form HO3.out (by omega)
  rw [hv3] at HO3 hnew3 ⊢
  have hg3 := hnew3 g3 rfl
  have hg3b := (HO3.out.lt g3 rfl).2
  have hb3 := HB3.out.size
  clear hown hgrow hnew hv3 hnew3 y0 y1 y2 y3 y4
  have x1 : w3.cell? ⟨g3, n, none⟩ = some (.int .i64 0) := by
    rw [HO3.out.cellAt n (by omega)]
    exact encI_get _ _ _ (by rw [← HN.out]; simp)
  have fx1 : w3.frozen? ⟨g3, n, none⟩ = false := HO3.out.frozenAt _
  have HS := Lib.hid (HO3.out.stored n (.int .i64 1))
  have HSo : Hid (Off (fun j => j = g3) w3 (w3.setCell ⟨g3, n, none⟩ (.int .i64 1))) := Lib.hid (Off.setCell (Off.refl (fun j => j = g3) w3) (p := ⟨g3, n, none⟩) (.inl rfl) _)
  unfold maxLen at hmx3
  have hzs : w.heap.size < (w3.setCell ⟨g3, n, none⟩ (.int .i64 1)).heap.size := by have := HSo.out.size; omega
  have HT0' : Hid (((w3.setCell ⟨g3, n, none⟩ (.int .i64 1)).alloc (.cells #[.int .i64 n, .int .i64 1] 38)).heap[w.heap.size]? = some (.cells #[.int .i64 P, .int .i64 R.gn, .slice x.p1 n x.c1, .slice x.p2 0 x.c2, .slice x.p3 a x.c3] 31)) := Lib.hid (Bel.heap ((Bel.refl _).alloc _ _) ((HSo.out.block w.heap.size (by omega) (by omega)).trans ((HB3.out.block _ (by omega) (by omega)).trans (HB2.out.heap HT0.out))))
  have HT1' : Hid (((w3.setCell ⟨g3, n, none⟩ (.int .i64 1)).alloc (.cells #[.int .i64 n, .int .i64 1] 38)).heap[w.heap.size + 1]? = some (.cells #[.int .i64 0, .int .i64 0, .slice none 0 0, .slice none 0 0, .slice none 0 0] 31)) := Lib.hid (Bel.heap ((Bel.refl _).alloc _ _) ((HSo.out.block (w.heap.size + 1) (by omega) (by omega)).trans ((HB3.out.block _ (by omega) (by omega)).trans (HB2.out.heap HT1.out))))
  have HT2' : Hid (((w3.setCell ⟨g3, n, none⟩ (.int .i64 1)).alloc (.cells #[.int .i64 n, .int .i64 1] 38)).heap[w.heap.size + 1 + 1]? = some (.cells #[.int .i64 0, .int .i64 0] 38)) := Lib.hid (Bel.heap ((Bel.refl _).alloc _ _) ((HSo.out.block (w.heap.size + 1 + 1) (by omega) (by omega)).trans ((HB3.out.block _ (by omega) (by omega)).trans (HB2.out.heap HT2.out))))
  have HT3' : Hid (((w3.setCell ⟨g3, n, none⟩ (.int .i64 1)).alloc (.cells #[.int .i64 n, .int .i64 1] 38)).heap[w3.heap.size]? = some (.cells #[.int .i64 n, .int .i64 1] 38)) := Lib.hid (by
    have h1 := heap_alloc_new (w3.setCell ⟨g3, n, none⟩ (.int .i64 1)) (.cells #[.int .i64 n, .int .i64 1] 38)
    rw [show (w3.setCell ⟨g3, n, none⟩ (.int .i64 1)).heap.size = w3.heap.size by simp] at h1
    exact h1)
  have HB4 : Hid (Bel w ((w3.setCell ⟨g3, n, none⟩ (.int .i64 1)).alloc (.cells #[.int .i64 n, .int .i64 1] 38))) := Lib.hid (Off.alloc (Off.trans (Off.trans (HB.out.trans HB2.out) HB3.out (fun i e => .inr (by omega))) HSo.out (fun i e => .inr (by omega))) _ _)
  have y4 := (box5 HT0'.out).1.2.2.2.2
  have HUs : Hid ((ul ++ [0]).set n 1 = ul ++ [1]) := Lib.hid (by rw [← HN.out, List.set_append_right _ _ (Nat.le_refl _)]; simp)
  have hz4 : w.heap.size + 1 + 1 < ((w3.setCell ⟨g3, n, none⟩ (.int .i64 1)).alloc (.cells #[.int .i64 n, .int .i64 1] 38)).heap.size := by have := HSo.out.size; simp; omega
  have hz4a : w.heap.size < ((w3.setCell ⟨g3, n, none⟩ (.int .i64 1)).alloc (.cells #[.int .i64 n, .int .i64 1] 38)).heap.size := by omega
  obtain ⟨⟨y0, y1, y2, y3, y4⟩, _⟩ := box5 HT0'.out
  clear y0 y1 y2 y3
  go_upto_region 12 with (fail)
  have L1 : Hid (Lies (fun j => j ≤ w.heap.size + 1 + 1) ((w3.setCell ⟨g3, n, none⟩ (.int .i64 1)).alloc (.cells #[.int .i64 n, .int .i64 1] 38)) ((some ⟨g3, 0, none⟩)) (encI (ul ++ [1]))) := Lib.hid ((own_lies (by have h1 := HS.out.1; rw [← encI_set, HUs.out] at h1; exact h1) _ (fun j e => by simp [Value.ownBlock] at e; omega)).2.bel ((Bel.refl _).alloc _ _))
  have L2 : Hid (Lies (fun j => j ≤ w.heap.size + 1 + 1) ((w3.setCell ⟨g3, n, none⟩ (.int .i64 1)).alloc (.cells #[.int .i64 n, .int .i64 1] 38)) (p2) (encI (([] : List Int)))) := Lib.hid (Lies.nil _ _ _)
  generalize ((w3.setCell ⟨g3, n, none⟩ (.int .i64 1)).alloc (.cells #[.int .i64 n, .int .i64 1] 38)) = W9 at *
  have hT12 : ¬ w.heap.size + 1 = w.heap.size + 1 + 1 := by omega
  have hT21 : ¬ w.heap.size + 1 + 1 = w.heap.size + 1 := by omega
  have hT01 : w.heap.size < w.heap.size + 1 := by omega
  have hT1l : w.heap.size + 1 < w.heap.size + 1 + 1 := by omega
  have hT02 : w.heap.size < w.heap.size + 1 + 1 := by omega
  have hT24 : w.heap.size + 1 + 1 < w3.heap.size := by omega
  have hT14 : w.heap.size + 1 < w3.heap.size := by omega
  generalize hT2 : w.heap.size + 1 + 1 = T2 at *
  have HT2e := Lib.hid hT2
  clear hT2
  generalize hT1 : w.heap.size + 1 = T1 at *
  have HT1e := Lib.hid hT1
  clear hT1
  go_wp2_with (at_builtin; refine wpList_append_gen el29 rfl (.tmp 57) (.tmp 59) rfl _ 0 [] rfl (own_empty _ 38 2 _ (by simp)) _ _ _ (encH R.alive) rfl (by rw [encH_len, HA.out]) (HI3.out.bel (HB4.out.alloc _ _)) (encH_one _) (by omega) ?_)
  intro v5 w5 hown hgrow hnew
  have HB5 : Hid (Bel W9 w5) := Lib.hid (Off.grown ((Bel.refl _).alloc _ _) hgrow (fun k e => .inr (by simp [Value.ownBlock] at e; omega)))
  have HO5 : Hid (w5.ownsRow 0 38 2 v5 a (encH R.alive)) := Lib.hid (by simpa using hown)
  have HN5 : Hid (∀ j, v5.ownBlock = some j → W9.heap.size ≤ j) := Lib.hid (fun j e => by
    rcases hnew j e with e | e
    · simp [Value.ownBlock] at e; omega
    · omega)
  have hz5 : W9.heap.size ≤ w5.heap.size := HB5.out.size
  clear hown hgrow hnew
  have HX : Hid (∀ w', Off (TT T1 T2) W9 w' → w'.cell? ⟨w.heap.size, 0, none⟩ = some (.int .i64 P) ∧ w'.cell? ⟨w.heap.size, 1, none⟩ = some (.int .i64 R.gn) ∧ w'.cell? ⟨w3.heap.size, 0, none⟩ = some (.int .i64 n) ∧ w'.cell? ⟨w3.heap.size, 1, none⟩ = some (.int .i64 (1))) := Lib.hid (fun w' hw => by
    obtain ⟨⟨y0, y1, _, _, _⟩, _⟩ := box5 HT0'.out
    obtain ⟨⟨q0, q1⟩, _⟩ := box2 HT3'.out
    exact ⟨hw.cell (by unfold TT; simp; omega) y0, hw.cell (by unfold TT; simp; omega) y1, hw.cell (by unfold TT; simp; omega) q0, hw.cell (by unfold TT; simp; omega) q1⟩)
  clear y4
  have HF1 : Hid (TT T1 T2 T1) := Lib.hid (.inl rfl)
  have HF2 : Hid (TT T1 T2 T2) := Lib.hid (.inr rfl)
  go_wp2
  go_region_held3 (fun w' => w'.cell? ⟨w.heap.size, 0, none⟩ = some (.int .i64 P) ∧ w'.cell? ⟨w.heap.size, 1, none⟩ = some (.int .i64 R.gn) ∧ w'.cell? ⟨w3.heap.size, 0, none⟩ = some (.int .i64 n) ∧ w'.cell? ⟨w3.heap.size, 1, none⟩ = some (.int .i64 (1)))
    (((with_reducible refine HX.out _ ?_); first | (with_reducible exact HB5.out.off _) | (with_reducible exact (HB5.out.off _).drew) | (with_reducible exact ((HB5.out.off _).alloc _ _).drew) | (with_reducible exact (HB5.out.off _).alloc _ _) | (with_reducible exact HB6.out.off _) | ((repeat with_reducible refine off_peel ?_ (by first | exact HF1.out | exact HF2.out)); with_reducible exact HB6.out.off _)))
    ((refine step_append_gen el29 (by rfl) (.tmp 67) (.tmp 69) (by rfl) v5 a (encH R.alive) (by rfl) (own_bel HO5.out ((Bel.refl _).alloc _ _).drew) _ 1 _ (encH [⟨n, 1⟩]) (by rfl) rfl ((lies_hd1 w5 ⟨n, 1⟩ _ rfl).bel (Bel.refl _).drew) (encH_one _) (by omega) ?_; intro p6 c6 w6 hown6 hgrow6 hnew6; have HB6 : Hid (Bel W9 w6) := Lib.hid (Off.grown (HB5.out.alloc _ _).drew hgrow6 (fun j e => .inr (HN5.out j e))); obtain ⟨⟨z0, z1, z2, z3, z4⟩, ⟨i0, i1, i2, i3, i4⟩⟩ := box5 (HB6.out.heap HT1'.out); obtain ⟨⟨t0, t1⟩, ⟨s0, s1⟩⟩ := box2 (HB6.out.heap HT2'.out)))
  have HO6 := Lib.hid hown6
  have HN6 : Hid (∀ j, (Value.slice p6 (a + 1) c6).ownBlock = some j → ¬ j ≤ T2) := Lib.hid (fun j e => by
    rcases hnew6 j e with e | e
    · have := HN5.out j e; omega
    · have h2 : w5.heap.size ≤ j := Nat.le_trans (Off.size ((Bel.refl w5).alloc #[.int .i64 n, .int .i64 (1)] 38).drew) e
      omega)
  clear hown6 hgrow6 hnew6
  go_wp2
  refine bodyPost_ret (v := .tuple #[.agg #[.int .i64 P, .int .i64 R.gn, .slice (some ⟨g3, 0, none⟩) (n + 1) c3, .slice p2 0 c2, .slice p6 (a + 1) c6], .agg #[.int .i64 n, .int .i64 (1)], .int .i64 0]) (by simp [results, Try.results25, go_sem, z0, z1, z2, z3, z4, t0, t1]) rfl ?_
  have hoff : Off (TT T1 T2) w6 (((((((w6.setCell ⟨T1, 0, none⟩ (.int .i64 P)).setCell ⟨T1, 1, none⟩ (.int .i64 R.gn)).setCell ⟨T1, 2, none⟩ (.slice (some ⟨g3, 0, none⟩) (n + 1) c3)).setCell ⟨T1, 3, none⟩ (.slice p2 0 c2)).setCell ⟨T1, 4, none⟩ (.slice p6 (a + 1) c6)).setCell ⟨T2, 0, none⟩ (.int .i64 n)).setCell ⟨T2, 1, none⟩ (.int .i64 (1))) :=
    off_peel (off_peel (off_peel (off_peel (off_peel (off_peel (off_peel (Off.refl _ _) HF1.out) HF1.out) HF1.out) HF1.out) HF1.out) HF2.out) HF2.out
  have hoffT : Off (fun j => j ≤ T2) w6 _ := hoff.mono (fun i _ e => by rcases e with e | e <;> omega)
  have hbw := Off.trans (HB4.out.trans HB6.out) hoff (fun i e => .inr (by rcases e with e | e <;> omega))
  obtain ⟨hc6, hl6⟩ := own_lies HO6.out (fun j => j ≤ T2) HN6.out
  have hft : ∀ b, f b → b ≤ T2 := fun b e => by have := HFo.out b e; omega
  rw [HU.out, HFr.out]
  refine ⟨⟨(some ⟨g3, 0, none⟩), c3, p2, c2, p6, c6⟩, ?_, ⟨by simp; have := HN.out; omega, by simp, by simp; have := HA.out; omega, ((L1.out.bel HB6.out).off hoffT).mono (fun b _ e => hft b e), ((L2.out.bel HB6.out).off hoffT).mono (fun b _ e => hft b e), ?_⟩, hbw⟩
  · simp [HN.out, HA.out, HP.out]
  · rw [encH_append]
    exact (hl6.off hoffT).mono (fun b _ e => hft b e)
end Go.Proofs.Ytlohpccfanmiiaa
