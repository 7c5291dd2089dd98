/-
  Contract of the heap's push.
-/
import Derived.Test.YtaabalkfpjeheaaHact
import Derived.Deep.RegionLaw
namespace Go.Proofs.Ytaabalkfpjeheaa
open Go.RowKit
theorem el33 : Elem 33 25 3 24 := ⟨Try.underlying33, by obtain ⟨i, hi, h0, h1, h2⟩ := info_parts info25; exact ⟨i, _, hi, h0, h1, h2, rfl⟩, by decide, by decide⟩
/-- append(own, one), as a step of a region that draws its order. -/
theorem step_append_one {w : World} {ops : Array Oper} {o : Oper} {a : Act} {K : Act → World → Prop} {Q : Exit → Act → World → Prop} {E : Prop} (hgd : o.guard = none) (s x : Operand)
    (ho : o.op = .call { callee := .builtin .append, args := #[s, x], argTypes := #[33, 33] })
    (p0 : Option Addr) (n0 c0 : Nat) (l : List T) (hn0 : l.length = n0) (hs : a.eval s = .slice p0 n0 c0) (hown : OwnT w 0 (.slice p0 n0 c0) l) (p : Option Addr) (c : Nat) (t : T) (hx : a.eval x = .slice p 1 c) (hHas : Has w p [t])
    (h63 : n0 ≤ 2000)
    (h : ∀ p' c' w', OwnT w' 0 (.slice p' (n0 + 1) c') (l ++ [t]) → w.grownBy w' (Value.slice p0 n0 c0).ownBlock → (∀ k, (Value.slice p' (n0 + 1) c').ownBlock = some k → (Value.slice p0 n0 c0).ownBlock = some k ∨ w.heap.size ≤ k) → K (a.put o.dst (.slice p' (n0 + 1) c')) w') :
    if Region.wanted o (yielded ops a.tmps) = true then Oper.wp Try.prog o a w K Q else E := by
  have hw : Region.wanted o (yielded ops a.tmps) = true := by simp [Region.wanted, hgd]
  rw [if_pos hw]
  subst hn0
  obtain ⟨v', w', hr, h2, h3, h4⟩ := append_gen el33 w o.type (.slice p0 l.length c0) l.length (encs l) hown p 1 c (encs [t]) rfl hHas.lies (encs_one' [t]) (by omega)
  have h5 : OwnT w' 0 v' (l ++ [t]) := by
    unfold OwnT
    rw [List.length_append, encs_append]
    exact h2
  obtain ⟨p', c', e, _, _, _⟩ := h5.slice
  rw [List.length_append] at e
  have e : v' = .slice p' (l.length + 1) c' := e
  subst e
  unfold Oper.wp execOp
  simp only [ho, resolve, invoke, builtin, Sem.run_bind, Sem.run_pure, Result.andThen_ok, List.map_toArray, List.map_cons, List.map_nil, hs, hx, hr]
  exact h p' c' w' h5 h3 h4
/-- Blocks of f, and those that are new. -/
def wd (f : Nat → Prop) (w w' : World) : Nat → Prop := fun k => f k ∨ (w.heap.size ≤ k ∧ k < w'.heap.size)
/-- Behind the append: the heap with one more at its end. -/
theorem Hm.more {f : Nat → Prop} {w0 w w' : World} {Q C S P : Nat} {p p' : Option Addr} {cap cap' n : Nat} {l : List T} {wh : Nat → Int} {t : T} (h : Hm f w Q C S P p cap l wh) (hb : Bel w0 w) (hn : l.length = n) (ho : OwnT w' 0 (.slice p' (n + 1) cap') (l ++ [t])) (hg : w.grownBy w' (Value.slice p n cap).ownBlock)
    (hp : ∀ k, (Value.slice p' (n + 1) cap').ownBlock = some k → (Value.slice p n cap).ownBlock = some k ∨ w.heap.size ≤ k) :
    Hm (wd f w0 w') (w'.setCell ⟨Q, 0, none⟩ (.slice p' (n + 1) cap')) Q C S P p' cap' (l ++ [t]) wh ∧ Off f w0 (w'.setCell ⟨Q, 0, none⟩ (.slice p' (n + 1) cap')) ∧ (w'.cell? ⟨Q, 0, none⟩ = some (.slice p n cap) ∧ w'.frozen? ⟨Q, 0, none⟩ = false) ∧ Off f w w' := by
  subst hn
  have fo : ∀ k, (Value.slice p l.length cap).ownBlock = some k → f k := fun k e => by
    cases p with
    | none => simp [Value.ownBlock] at e
    | some a => simp only [Value.ownBlock, Option.some.injEq] at e; rw [← e]; exact h.fp a rfl
  have o1 : Off f w w' := Off.grown (Off.refl f w) hg (fun k e => .inl (fo k e))
  have no : ∀ (A : Nat) (x : Array Value) (ty : TypeId), w.heap[A]? = some (.cells x ty (0, 0)) → ty ≠ 25 → w'.heap[A]? = some (.cells x ty (0, 0)) := fun A x ty hA hty => by
    refine (hg.block A (Array.getElem?_eq_some_iff.1 hA).1 (fun e => ?_)).trans hA
    rcases h.own.2 with ⟨e3, _⟩ | ⟨g, c, cur, e3, _, hg2, _⟩
    · rw [e3] at e; simp [Value.ownBlock] at e
    · rw [e3] at e
      simp only [Value.ownBlock, Option.some.injEq] at e
      exact cells_ne hA hg2 hty (by omega)
  have hl : (l ++ [t]).length = l.length + 1 := by simp
  have lt' : ∀ k, (Value.slice p' (l.length + 1) cap').ownBlock = some k → k < w'.heap.size := fun k e => (ho.lt k e).2
  have r := Hm.rehead (f := f) (f' := wd f w0 w') (l' := l ++ [t]) (p' := p') (cap' := cap') (wh := wh) (no Q _ _ h.hQ (by decide)) (no C _ _ h.hC (by decide)) (no S _ _ h.hS (by decide)) (by rw [hl]; exact ho) (.inl h.fQ) (.inl h.fC) (.inl h.fS) (fun a e => by
    subst e
    rcases hp a.block rfl with e2 | e2
    · exact .inl (fo _ e2)
    · exact .inr ⟨Nat.le_trans hb.size e2, lt' a.block rfl⟩) (l.length + 1) hl h.fQ
  refine ⟨r.1, ((hb.off f).then o1).then r.2, ?_⟩
  have hq := no Q _ _ h.hQ (by decide)
  exact ⟨⟨(box3 hq).1.1, frozen_of_row w' Q _ _ 78 hq⟩, o1⟩
set_option maxHeartbeats 1000000 in
theorem push_any (f : Nat → Prop) (Q C S P : Nat) (p : Option Addr) (cap : Nat) (l : List T) (wh : Nat → Int) (t : T) (k : Nat) (w : World) (h : Hm f w Q C S P p cap l wh) (hw : Wh P l wh) (hh : Hp l) (hP : P ≤ 1024) (ht : t.p = k) (hk : k < P) (hno : wh k = -1) (hf : ∀ j, f j → j < w.heap.size) :
    Calls Try.prog 36 #[.pointer (some ⟨Q, 0, none⟩), .agg #[.int .u64 t.a, .int .u64 t.s, .int .i64 t.p]] w fun e w' => e = .returned (.tuple #[]) ∧ ∃ (f' : Nat → Prop) (p' : Option Addr) (cap' : Nat) (l' : List T) (wh' : Nat → Int), (∀ j, f' j → f j ∨ (w.heap.size ≤ j ∧ j < w'.heap.size)) ∧ Hm f' w' Q C S P p' cap' l' wh' ∧ Wh P l' wh' ∧ Hp l' ∧ l'.Perm (l ++ [t]) ∧ Off f w w' := by
  have hn : l.length ≤ 1024 := Nat.le_trans hw.len hP
  obtain ⟨n, en⟩ : ∃ n : Nat, l.length = n := ⟨_, rfl⟩
  rw [en] at hn
  have HB : Hid (Bel w (w.alloc (.cells #[.int .u64 t.a, .int .u64 t.s, .int .i64 t.p] 25))) := Lib.hid ((Bel.refl _).alloc _ _)
  have HN : Hid ((w.alloc (.cells #[.int .u64 t.a, .int .u64 t.s, .int .i64 t.p] 25)).heap[w.heap.size]? = some (.cells #[.int .u64 t.a, .int .u64 t.s, .int .i64 t.p] 25 (0, 0))) := Lib.hid (heap_alloc_new _ _)
  have H1 := Lib.hid (h.bel HB.out)
  have HW : Hid (Wh P (l ++ [t]) (upW wh k n)) := Lib.hid (by have := hw.push hk ht hno; rw [en] at this; exact this)
  have HA : Hid (Al (l ++ [t]) n) := Lib.hid (by have := hh.push t; rw [en] at this; exact this)
  have HT := Lib.hid ht
  have HF := Lib.hid hf
  have EN := Lib.hid en
  have c0 := H1.out.head.1
  rw [en] at c0
  clear h hw hh ht hf en hno
  go_enter Try.func36, Try.ntmps36
  go_upto_region 2 with (fail)
  generalize w.alloc (.cells #[.int .u64 t.a, .int .u64 t.s, .int .i64 t.p] 25) = W at *
  obtain ⟨b0, eb0⟩ : ∃ b, w.heap.size = b := ⟨_, rfl⟩
  have hF0 : Hid (¬ f b0) := Lib.hid (fun e => by have := HF.out _ e; omega)
  rw [eb0] at HN ⊢
  obtain ⟨⟨t0, t1, t2⟩, _⟩ := box3 HN.out
  have HX : Hid (∀ W', Bel W W' → W'.cell? ⟨Q, 0, none⟩ = some (.slice p n cap) ∧ W'.cell? ⟨b0, 0, none⟩ = some (.int .u64 t.a) ∧ W'.cell? ⟨b0, 1, none⟩ = some (.int .u64 t.s) ∧ W'.cell? ⟨b0, 2, none⟩ = some (.int .i64 t.p)) := Lib.hid (fun W' b => ⟨b.cell c0, b.cell t0, b.cell t1, b.cell t2⟩)
  have lW : b0 < W.heap.size := (Array.getElem?_eq_some_iff.1 HN.out).1
  have lQ : Q < W.heap.size := H1.out.ltQ
  have HOW : Hid (∀ W', Bel W W' → OwnT W' 0 (.slice p n cap) l) := Lib.hid (fun W' b => by have := (H1.out.bel b).own; rw [EN.out] at this; exact this)
  have HMO : Hid (∀ W2 w3 p' c', Bel W W2 → OwnT w3 0 (.slice p' (n + 1) c') (l ++ [t]) → W2.grownBy w3 (Value.slice p n cap).ownBlock → (∀ k, (Value.slice p' (n + 1) c').ownBlock = some k → (Value.slice p n cap).ownBlock = some k ∨ W2.heap.size ≤ k) →
      Hm (wd f W w3) (w3.setCell ⟨Q, 0, none⟩ (.slice p' (n + 1) c')) Q C S P p' c' (l ++ [t]) wh ∧ Off f W (w3.setCell ⟨Q, 0, none⟩ (.slice p' (n + 1) c')) ∧ (w3.cell? ⟨Q, 0, none⟩ = some (.slice p n cap) ∧ w3.frozen? ⟨Q, 0, none⟩ = false) ∧ Off f W2 w3) := Lib.hid (fun W2 w3 p' c' b h1 h2 h3 => (H1.out.bel b).more b EN.out h1 h2 h3)
  have HFQ : Hid (f Q) := Lib.hid H1.out.fQ
  go_cut [4] from 5 (fun v wx => v = .int .i64 n ∧ ∃ (f' : Nat → Prop) (p3 : Option Addr) (c3 : Nat), (∀ j, f' j → f j ∨ (W.heap.size ≤ j ∧ j < wx.heap.size)) ∧ Hm f' wx Q C S P p3 c3 (l ++ [t]) wh ∧ Off f W wx)
  case first =>
    go_wp2
    go_region_law ((refine step_append_one (by rfl) (.tmp 14) (.tmp 16) (by rfl) p n cap l EN.out (by rfl) (HOW.out _ ((Bel.refl _).alloc _ _).drew) _ _ t (by rfl) ((has_one W t).bel (Bel.refl _).drew) (by omega) ?_; intro p3 c3 w3 hown3 hgrow3 hblk3; have hmo := HMO.out _ _ _ _ ((Bel.refl _).alloc _ _).drew hown3 hgrow3 hblk3; have ho9 : Off f W (w3.setCell ⟨Q, 0, none⟩ (.slice p3 (n + 1) c3)) := Off.setCell (p := ⟨Q, 0, none⟩) ((((Bel.refl W).alloc _ _).drew.off f).then hmo.2.2.2) (.inl HFQ.out) _; obtain ⟨hmo1, hmo2, ⟨hmo3, hmo4⟩, hmo5⟩ := hmo))
    all_goals
      have HE9 : Hid (∃ (f' : Nat → Prop) (p9 : Option Addr) (c9 : Nat), (∀ j, f' j → f j ∨ (W.heap.size ≤ j ∧ j < (w3.setCell ⟨Q, 0, none⟩ (.slice p3 (n + 1) c3)).heap.size)) ∧ Hm f' (w3.setCell ⟨Q, 0, none⟩ (.slice p3 (n + 1) c3)) Q C S P p9 c9 (l ++ [t]) wh ∧ Off f W (w3.setCell ⟨Q, 0, none⟩ (.slice p3 (n + 1) c3))) := Lib.hid ⟨_, _, _, fun j e => by unfold wd at e; simpa [World.setCell] using e, hmo1, ho9⟩
      clear hmo1 hmo2 hmo3 hmo4 hmo5 ho9 hown3 hgrow3 hblk3
      go_wp2_with fail
      go_meet
      exact ⟨rfl, HE9.out⟩
  case rest =>
    obtain ⟨rfl, f', p3, c3, hf', hm3, ho3⟩ := hcut
    have HF' := Lib.hid hf'
    have HM3 := Lib.hid hm3
    have HM3d := Lib.hid (hm3.bel (Bel.refl _).drew)
    have HO3 : Hid (Off f w wc) := Lib.hid ((HB.out.off f).then ho3)
    have y2 := ho3.cell hF0.out t2
    rw [HT.out] at y2
    have q1 := hm3.head.2.1
    have lc : W.heap.size ≤ wc.heap.size := ho3.size
    have NF : Hid (¬ f' b0) := Lib.hid (fun e => by rcases hf' _ e with e | e; exact hF0.out e; omega)
    have KS := Lib.hid (fun W' h => stands_any f' Q C S P p3 c3 (l ++ [t]) wh k n W' h hk)
    have HL : Hid ((l ++ [t]).length = n + 1) := Lib.hid (by rw [List.length_append, EN.out]; rfl)
    clear c0 t0 t1 t2 hm3 ho3 hf' HX HOW HMO
    go_wp2
    go_region_held3 (fun w' => w'.cell? ⟨Q, 1, none⟩ = some (.func (.func 35) #[] #[.pointer (some ⟨C, 0, none⟩)]) ∧ w'.cell? ⟨b0, 2, none⟩ = some (.int .i64 k)) (first | exact ⟨q1, y2⟩ | exact ⟨hm4.head.2.1, ((Off.refl f' wc).drew.then ho4).cell NF.out y2⟩)
      (first | (go_at_call 35; (with_reducible refine (KS.out _ HM3d.out).mono ?_); rintro e w4 ⟨rfl, hm4, ho4⟩))
    have K5 := Lib.hid (settle_any f' Q C S P p3 c3 (l ++ [t]) (upW wh k n) n w4 hm4 HW.out hP (by rw [HL.out]; omega) HA.out)
    have HO4 : Hid (Off f' wc w4) := Lib.hid ((Off.refl f' wc).drew.then ho4)
    clear hm4 ho4 q1 y2
    go_wp2_with fail
    with_reducible refine (K5.out).mono ?_
    rintro e w5 ⟨rfl, l5, wh5, hh5, hs5⟩
    have o5 : Off f w w5 := Off.trans HO3.out (HO4.out.then hs5.off) (fun i e => by rcases HF'.out i e with e | e; exact .inl e; exact .inr (Nat.le_trans HB.out.size e.1))
    have HE : Hid ((∀ j, f' j → f j ∨ (w.heap.size ≤ j ∧ j < w5.heap.size)) ∧ Hm f' w5 Q C S P p3 c3 l5 wh5 ∧ Wh P l5 wh5 ∧ Hp l5 ∧ l5.Perm (l ++ [t]) ∧ Off f w w5) := Lib.hid ⟨fun j e => by rcases HF'.out j e with e | e; exact .inl e; exact .inr ⟨Nat.le_trans HB.out.size e.1, Nat.lt_of_lt_of_le e.2 (HO4.out.then hs5.off).size⟩, hs5.hm, hs5.wh, hh5, hs5.perm, o5⟩
    clear hs5 hh5 o5
    go_wp2
    go_end0
    exact ⟨rfl, _, _, _, _, _, HE.out⟩
end Go.Proofs.Ytaabalkfpjeheaa
