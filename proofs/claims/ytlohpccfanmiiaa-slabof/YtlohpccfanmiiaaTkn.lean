/-
  The row of handles that were taken, which grows; what stood there stays.
-/
import Derived.Test.YtlohpccfanmiiaaWorks
namespace Go.Proofs.Ytlohpccfanmiiaa
open Go.RowKit
/-- append(own, any slice...): what was its row still is. -/
theorem append_keep {t e : TypeId} {size bytes : Nat} (E : Elem t e size bytes) (w : World) (ty : TypeId) (v : Value) (n : Nat) (cs : List Value) (hown : w.ownsRow 0 e size v n cs)
    (ad : Addr) (m c : Nat) (news : List Value) (hm : 0 < m) (hl : news.length = m * size) (hn : ∀ j u, news[j]? = some u → w.cell? (ad.add j) = some u) (h1 : ∀ u ∈ news, u.oneCell' = true) (h63 : n + m ≤ 1000000)
    (v' : Value) (w' : World) (k1 : (Builtin.append_ #[t, t] ty #[v, .slice (some ad) m c]).run Try.prog w = .ok v' w') (k2 : w'.ownsRow 0 e size v' (n + m) (cs ++ news)) : w'.ownsRow 0 e size v n cs := by
  obtain ⟨i, z, hi, hz, hsz, hby, hzs⟩ := E.hi
  have hbytes : (n + m) * bytes ≤ 140737488355328 := by
    have := Nat.mul_le_mul h63 E.hb
    omega
  rcases hown.2 with ⟨rfl, h0⟩ | ⟨g, cap, cur, rfl, _, hg, hnc, hcm, hcs, htake⟩
  · subst h0
    have hcs0 : cs = [] := List.eq_nil_of_length_eq_zero (by simpa using hown.1)
    subst hcs0
    exact World.ownsRow_nil _ _ _ _
  · by_cases hroom : n + m ≤ cap
    · have hfit : n * i.size + news.length ≤ cur.size := by rw [hl, hcs, hsz, ← Nat.add_mul]; exact Nat.mul_le_mul_right _ hroom
      have hr := run_append_room (P := Try.prog) w t ty e i E.ht hi g n cap cur hg ad m c news (by rw [hsz]; exact hl) hn h1 hroom hfit
      rw [k1] at hr
      injection hr with a1 a2
      subst a1
      have h3 := own_take k2 n (by omega) (by omega)
      rw [List.take_left' hown.1] at h3
      exact h3
    · have holds : ∀ j u, cs[j]? = some u → w.cell? ((⟨g, 0, none⟩ : Addr).add j) = some u := hown.cells (g := g) rfl
      have hr := run_append_grow (P := Try.prog) w t ty e i z E.ht hi hz ⟨g, 0, none⟩ n cap cs (by rw [hsz]; exact hown.1) holds ad m c news (by rw [hsz]; exact hl) hn (by omega) (by omega) (growslice_fits (by omega) (by rw [hby]; exact hbytes))
      rw [k1] at hr
      injection hr with a1 a2
      subst a2
      exact own_bel (own_bel hown (Bel.refl _).drew) (Bel.alloc (Bel.refl _) _ _)
theorem wpList_append_keep {t e : TypeId} {size bytes : Nat} (E : Elem t e size bytes) {w : World} {ops : Array Oper} {rest : List Oper} {o : Oper} {a : Act} {Q : Exit → Act → World → Prop} (hgd : o.guard = none) (s x : Operand)
    (ho : o.op = .call { callee := .builtin .append, args := #[s, x], argTypes := #[t, t] })
    (v : Value) (n : Nat) (cs : List Value) (hs : a.eval s = v) (hown : w.ownsRow 0 e size v n cs) (b off m c : Nat) (news : List Value) (hx : a.eval x = .slice (some ⟨b, off, none⟩) m c) (hm : 0 < m) (hl : news.length = m * size) (hRow : RowG w b off news) (h1 : ∀ u ∈ news, u.oneCell' = true)
    (h63 : n + m ≤ 1000000)
    (h : ∀ q k w', w'.ownsRow 0 e size (.slice q (n + m) k) (n + m) (cs ++ news) → w.grownBy w' v.ownBlock → (∀ j, (Value.slice q (n + m) k).ownBlock = some j → v.ownBlock = some j ∨ w.heap.size ≤ j) → w'.ownsRow 0 e size v n cs → wpList Try.prog ops Q rest (a.put o.dst (.slice q (n + m) k)) w') : wpList Try.prog ops Q (o :: rest) a w :=
  wpList_plain hgd fun K hK => by
    have hn : ∀ j u, news[j]? = some u → w.cell? ((⟨b, off, none⟩ : Addr).add j) = some u := fun j u hu => by
      have hadd : (⟨b, off, none⟩ : Addr).add j = ⟨b, off + j, none⟩ := by unfold Addr.add; split <;> simp_all
      rw [hadd]
      exact hRow j u hu
    obtain ⟨v', w', hr, h2, h3, h4⟩ := append_gen E w o.type v n cs hown (some ⟨b, off, none⟩) m c news hl (.inr ⟨b, off, rfl, fun e => e, hRow⟩) h1 h63
    have h5 := append_keep E w o.type v n cs hown ⟨b, off, none⟩ m c news hm hl hn h1 h63 v' w' hr h2
    obtain ⟨q, k, rfl, _⟩ := own_slice h2 nof (fun _ _ e => e)
    unfold Oper.wp execOp
    simp only [ho, resolve, invoke, builtin, Sem.run_bind, Sem.run_pure, Result.andThen_ok, List.map_toArray, List.map_cons, List.map_nil, hs, hx, hr]
    exact hK _ _ (h q k w' h2 h3 h4 h5)
/-- The handles that were taken, in a row of its own. -/
structure Tkn (w1 : World) (f : Nat → Prop) (w : World) (p : Option Addr) (n c : Nat) (tk : List Hd) : Prop where
  len : tk.length = n
  own : w.ownsRow 0 38 2 (.slice p n c) n (encH tk)
  nf : ∀ k, (Value.slice p n c).ownBlock = some k → ¬ f k
  ge : ∀ k, (Value.slice p n c).ownBlock = some k → w1.heap.size ≤ k
theorem Tkn.nil (w1 : World) (f : Nat → Prop) (w : World) : Tkn w1 f w none 0 0 [] := ⟨rfl, World.ownsRow_nil _ _ _ _, by simp [Value.ownBlock], by simp [Value.ownBlock]⟩
theorem Tkn.bel {w1 : World} {f : Nat → Prop} {w w' : World} {p : Option Addr} {n c : Nat} {tk : List Hd} (h : Tkn w1 f w p n c tk) (k : Bel w w') : Tkn w1 f w' p n c tk := ⟨h.len, own_bel h.own k, h.nf, h.ge⟩
theorem Tkn.steps {w1 : World} {f f' : Nat → Prop} {w w' : World} {p : Option Addr} {n c : Nat} {tk : List Hd} (h : Tkn w1 f w p n c tk) (k : Steps f w f' w') : Tkn w1 f' w' p n c tk :=
  ⟨h.len, own_off h.own k.1 h.nf, fun i hi e => by
    rcases k.2 i e with e | e
    · exact h.nf i hi e
    · have := (h.own.lt i hi).2; omega, h.ge⟩
theorem Tkn.lies {w1 : World} {f : Nat → Prop} {w : World} {p : Option Addr} {n c : Nat} {tk : List Hd} (h : Tkn w1 f w p n c tk) : n ≤ c ∧ Lies nof w p (encH tk) := own_lies h.own nof (fun _ _ e => e)
/-- One more. -/
theorem Tkn.push {w1 : World} {f : Nat → Prop} {w w' : World} {p q : Option Addr} {n c k : Nat} {tk : List Hd} (h : Tkn w1 f w p n c tk) (x : Hd) (hf : ∀ j, f j → j < w.heap.size) (hw : w1.heap.size ≤ w.heap.size)
    (ho : w'.ownsRow 0 38 2 (.slice q (n + 1) k) (n + 1) (encH tk ++ encH [x])) (hnew : ∀ j, (Value.slice q (n + 1) k).ownBlock = some j → (Value.slice p n c).ownBlock = some j ∨ w.heap.size ≤ j) : Tkn w1 f w' q (n + 1) k (tk ++ [x]) :=
  ⟨by simp [h.len], by rw [encH_append]; exact ho, fun j hj e => by
    rcases hnew j hj with e2 | e2
    · exact h.nf j e2 e
    · have := hf j e; omega, fun j hj => by
    rcases hnew j hj with e2 | e2
    · exact h.ge j e2
    · omega⟩
/-- Two rows over one block: what the one keeps the other keeps. -/
theorem own_under {w w' : World} {p p0 : Option Addr} {n n0 c c0 : Nat} {tk tk0 : List Hd} (h0 : w.ownsRow 0 38 2 (.slice p0 n0 c0) n0 (encH tk0)) (h : w.ownsRow 0 38 2 (.slice p n c) n (encH tk))
    (hl0 : tk0.length = n0) (hl : tk.length = n) (hp : ∃ r, tk = tk0 ++ r) (hg : w.grownBy w' (Value.slice p n c).ownBlock) (hk : w'.ownsRow 0 38 2 (.slice p n c) n (encH tk)) : w'.ownsRow 0 38 2 (.slice p0 n0 c0) n0 (encH tk0) := by
  by_cases e : (Value.slice p0 n0 c0).ownBlock = none ∨ (Value.slice p0 n0 c0).ownBlock ≠ (Value.slice p n c).ownBlock
  · exact h0.kept hg e
  · rw [not_or] at e
    rcases h0.2 with ⟨e2, _⟩ | ⟨g0, cap0, cur0, e2, _, hg0, hc0, hm0, hs0, ht0⟩
    · rw [e2] at e
      exact absurd rfl e.1
    · rcases h.2 with ⟨e3, _⟩ | ⟨g, cap, cur, e3, _, hgg, hc, hm, hs, ht⟩
      · rw [e2, e3] at e
        have := e.2
        simp [Value.ownBlock] at this
      · injection e2 with a1 a2 a3
        injection e3 with b1 b2 b3
        subst a1 a3 b1 b3
        have e4 : g0 = g := by
          have := e.2
          simpa [Value.ownBlock] using this
        subst e4
        rw [hg0] at hgg
        injection hgg with hgg
        injection hgg with hcur
        subst hcur
        have hcap : c0 = c := by omega
        subst hcap
        obtain ⟨r, rfl⟩ := hp
        by_cases hn : n = 0
        · have : n0 = 0 := by rw [List.length_append] at hl; omega
          subst this
          subst hn
          have e5 : tk0 = [] := List.eq_nil_of_length_eq_zero hl0
          subst e5
          rcases hk.2 with ⟨e6, _⟩ | ⟨g', cap', cur', e6, x1, x2, x3, x4, x5, x6⟩
          · cases e6
          · exact ⟨rfl, .inr ⟨g', cap', cur', e6, x1, x2, x3, x4, x5, by simp [encH]⟩⟩
        · have h3 := own_take hk n0 (by rw [List.length_append] at hl; omega) (by omega)
          rw [encH_append, List.take_left' (by rw [encH_len, hl0])] at h3
          exact h3
theorem Way.push {w1 w w' : World} {B : Nat} {f : Nat → Prop} {S : St} {row : Option Nat} (h : Way w1 B f S w) (hg : w.grownBy w' row) (hnf : ∀ k, row = some k → ¬ f k) (hge : ∀ k, row = some k → w1.heap.size ≤ k) : Way w1 B f S w' :=
  ⟨h.sl.off (g := fun k => row = some k) (Off.grown (Off.refl _ _) hg (fun _ e => .inl e)) (fun k hk e => hnf k e hk), Off.grown h.off hg (fun k e => .inr (hge k e)), h.ge⟩
end Go.Proofs.Ytlohpccfanmiiaa
