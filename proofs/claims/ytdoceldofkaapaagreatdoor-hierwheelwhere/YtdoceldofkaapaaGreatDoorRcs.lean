/-
  Contract of a wheel of four levels: cutSlots.
-/
import Derived.Test.YtdoceldofkaapaaGreatDoorXaw
set_option linter.unusedVariables false
set_option linter.unusedSimpArgs false
namespace Go.Proofs.YtdoceldofkaapaaGreatDoor
open Go.RowKit Go.Shelf
attribute [local go_sem] Oper.semAt_some
/-- What holds while the operations of cutSlots' test come up, whatever the order. -/
structure J4 (V : World) (Q m i b : Nat) (s g now : Int) (l0 l1 l2 l3 l4 l5 l6 l7 l8 l9 l10 l11 l12 : Bool) (u13 u14 u15 u16 u17 u18 u19 u20 u21 u22 u23 u24 u25 : Value) (W : World) : Prop where
  wb : Bel V W
  c0 : l0 = true → u13 = .pointer (some ⟨Q, 0, none⟩)
  c1 : l1 = true → u14 = .pointer (some ⟨Q, 0, none⟩)
  c2 : l2 = true → u15 = .pointer (some ⟨Q, 22, none⟩)
  c3 : l3 = true → u16 = .int .u64 s
  c4 : l4 = true → u17 = .int .i64 (m : Nat)
  c5 : l5 = true → u18 = .int .i64 (i : Nat)
  c6 : l6 = true → u19 = .pointer (some ⟨Q, 0, none⟩)
  c7 : l7 = true → u20 = .pointer (some ⟨Q, 0, none⟩)
  c8 : l8 = true → u21 = .pointer (some ⟨Q, 21, none⟩)
  c9 : l9 = true → u22 = .int .i64 (b : Nat)
  c10 : l10 = true → u23 = .int .u64 g
  c11 : l11 = true → u24 = .int .u64 now
  c12 : l12 = true → u25 = .bool (decide (now < g))
theorem mem_prs {F : Nat → Nat → Nat} {m i : Nat} : (m, i) ∈ prs F 0 ↔ m ≤ 3 ∧ i < 256 ∧ Bm.tb (F m) i = true := by
  have he : prs F 0 = cu F 0 0 ++ (cu F 1 0 ++ (cu F 2 0 ++ (cu F 3 0 ++ []))) := rfl
  have hm : ∀ n (y : Nat × Nat), y ∈ cu F n 0 ↔ y.1 = n ∧ y.2 < 256 ∧ Bm.tb (F n) y.2 = true := fun n y => by
    unfold cu
    rw [List.mem_map]
    constructor
    · rintro ⟨i, h1, rfl⟩
      obtain ⟨h2, h3, h4⟩ := sg_mem.1 h1
      exact ⟨rfl, h2, h4⟩
    · rintro ⟨h1, h2, h3⟩
      exact ⟨y.2, sg_mem.2 ⟨h2, Nat.zero_le _, h3⟩, by rw [← h1]⟩
  rw [he]
  simp only [List.mem_append, List.not_mem_nil, or_false, hm]
  constructor
  · rintro (⟨rfl, h⟩ | ⟨rfl, h⟩ | ⟨rfl, h⟩ | ⟨rfl, h⟩) <;> exact ⟨by omega, h⟩
  · rintro ⟨h, h2⟩
    have : m = 0 ∨ m = 1 ∨ m = 2 ∨ m = 3 := by omega
    rcases this with rfl | rfl | rfl | rfl
    · exact .inl ⟨rfl, h2⟩
    · exact .inr (.inl ⟨rfl, h2⟩)
    · exact .inr (.inr (.inl ⟨rfl, h2⟩))
    · exact .inr (.inr (.inr ⟨rfl, h2⟩))
theorem begin_at (s : Int) (b m i : Nat) (hs : Tk s) (hb : 1 ≤ b ∧ b ≤ 6) (hm : m ≤ 3) (hi : i < 2 ^ b) (w : World) : Calls Tryz.prog 106 #[.int .u64 s, .int .i64 m, .int .i64 i, .int .i64 b] w fun e w' => e = .returned (.int .u64 (bg b s m i)) ∧ Bel w w' := by
  obtain ⟨h1, h2⟩ := hs
  have e : wi (i : Int) 0 (q b 1 - 1) = i := by unfold wi; rw [q1_nat]; omega
  have k := D3.dBegin s m i b h1 (by omega) b m (by unfold wi; omega) (by unfold wi; omega) w
  rw [e] at k
  exact k.mono fun e w' h => ⟨h.1, bel_of h.2.2⟩
theorem cod_inj {b : Nat} {y z : Nat × Nat} (hy : y.2 < 2 ^ b) (hz : z.2 < 2 ^ b) (h : cod b y = cod b z) : y = z := by
  unfold cod at h
  obtain ⟨h1, h2⟩ := code_inj hy hz (show y.1 * 2 ^ b + y.2 = z.1 * 2 ^ b + z.2 by omega)
  exact Prod.ext h1 h2
/-- What the rounds keep. -/
structure Ir (w : World) (Q Z B G R P b : Nat) (s k : Int) (now : Int) (l : List T) (bq bn D1 D2 Bq : Nat) (ys pre : List (Nat × Nat)) (W : World) : Prop where
  pf : pre <+: ys
  le : ∀ y ∈ pre, bg b s y.1 y.2 ≤ now
  kw : Kw w Q Z B G R P b s k now (vL (lw b s) (pre.map (cod b)) l) (vD (lw b s) now (pre.map (cod b)) l) (vC (lw b s) now (pre.map (cod b)) l) bq bn D1 D2 W
  bx : W.heap[Bq]? = some (.cells #[.pointer (some ⟨Q, 0, none⟩)] 61 (0, 0))
  gb : w.heap.size ≤ Bq
section
variable {w : World} {Q Z B G R P b : Nat} {s k now : Int} {l : List T} {bq bn D1 D2 Bq : Nat} {ys pre : List (Nat × Nat)} {W W' : World}
theorem Ir.own (h : Ir w Q Z B G R P b s k now l bq bn D1 D2 Bq ys pre W) {row : Option Nat} (hg : W.grownBy W' row) (hr : ∀ r, row = some r → w.heap.size ≤ r ∧ ∃ o : Obj, W.heap[r]? = some o ∧ o.isCells = false) : Ir w Q Z B G R P b s k now l bq bn D1 D2 Bq ys pre W' := by
  have o : Off (fun k => row = some k) W W' := Off.grown (Off.refl _ W) hg (fun k e => .inl e)
  have hn : ∀ {i : Nat} {c : Array Value} {t : TypeId}, W.heap[i]? = some (.cells c t (0, 0)) → ¬ row = some i := fun e e2 => by
    obtain ⟨_, ob, h2, h3⟩ := hr _ e2
    rw [h2] at e
    cases e
    cases h3
  exact ⟨h.pf, h.le, h.kw.own hg hr, (o.block Bq (Array.getElem?_eq_some_iff.1 h.bx).1 (hn h.bx)).trans h.bx, h.gb⟩
theorem prefix_not {α : Type} {ys pre : List α} (hp : pre <+: ys) (hn : ys.Nodup) {j : Nat} {y : α} (hj : pre.length ≤ j) (hy : ys[j]? = some y) : y ∉ pre := by
  intro hm
  obtain ⟨r, hr⟩ := hp
  subst hr
  rw [List.getElem?_append_right hj] at hy
  have h2 : y ∈ r := List.mem_of_getElem? hy
  exact (List.nodup_append.1 hn).2.2 y hm y h2 rfl
theorem Sls.nodup (h : Sls b s l ys) : ys.Nodup := h.or.imp (fun {y z} h e => by subst e; rcases h with h | ⟨_, h⟩ <;> omega)
theorem Ir.ms {F0 : Nat → Nat → Nat} (h : Ir w Q Z B G R P b s k now l bq bn D1 D2 Bq ys pre W) (hs : Sls b s l ys) (hF : ys = prs F0 0) (hb : b ≤ 6) : Mr Bq Q F0 ys pre.length W := by
  obtain ⟨⟨ls, r, F, q1, q2, q4⟩, q3⟩ := h.kw.wh
  have hs2 := sls_of q2 hb q1.ql.is
  have hp := pow_le hb
  refine ⟨F, ⟨(box1 h.bx).1, fun m hm => ?_, q3.tab, q2.wd⟩, fun m hm i hi e => ?_, fun j y hj e => ?_⟩
  · have hcs : m = 0 ∨ m = 1 ∨ m = 2 ∨ m = 3 := by omega
    rcases hcs with rfl | rfl | rfl | rfl <;> exact ⟨q1.cell rfl, q1.cell rfl, q1.cell rfl, q1.cell rfl⟩
  · obtain ⟨_, h2, x, hx, h3, h4⟩ := (hs2.me m i).1 (mem_prs.2 ⟨hm, hi, e⟩)
    have h5 : (m, i) ∈ ys := (hs.me m i).2 ⟨hm, h2, x, (List.mem_filter.1 hx).1, h3, h4⟩
    rw [hF] at h5
    exact (mem_prs.1 h5).2.2
  · have hy := List.mem_of_getElem? e
    obtain ⟨h1, h2, x, hx, h3, h4⟩ := (hs.me y.1 y.2).1 hy
    have h5 : x ∈ vL (lw b s) (pre.map (cod b)) l := by
      unfold vL
      rw [List.mem_filter]
      refine ⟨hx, ?_⟩
      have h6 : lw b s x ∉ pre.map (cod b) := fun hm => by
        obtain ⟨z, hz, e2⟩ := List.mem_map.1 hm
        have h7 := (hs.me z.1 z.2).1 (h.pf.subset hz)
        have h8 : lw b s x = cod b y := (lw_slot h2).2 ⟨h1, h3, h4⟩
        have h9 := cod_inj h7.2.1 h2 (e2.trans h8)
        rw [h9] at hz
        exact prefix_not h.pf hs.nodup hj e hz
      simpa using h6
    have h6 := (hs2.me y.1 y.2).2 ⟨h1, h2, x, h5, h3, h4⟩
    exact (mem_prs.1 h6).2.2
end
theorem vis_of {b : Nat} {s now : Int} {l : List T} {ys pre : List (Nat × Nat)} (h : Sls b s l ys) (hp : pre <+: ys) (hb : ∀ y ∈ pre, bg b s y.1 y.2 ≤ now) (he : pre = ys ∨ ∃ y, pre ++ [y] <+: ys ∧ now < bg b s y.1 y.2) : Vis b s now l (pre.map (cod b)) := by
  refine ⟨fun t ht => ?_, fun x hx m hm h1 => ?_⟩
  · obtain ⟨y, _, rfl⟩ := List.mem_map.1 ht
    unfold cod
    omega
  · have h2 := sv_in b s x.a
    obtain ⟨i, hi⟩ : ∃ i : Nat, sv b s x.a = i := ⟨_, (Int.toNat_of_nonneg h2.1).symm⟩
    exact visited h hp hb he hx hm (by omega) h1 hi
section
variable {Q Z B G R P b : Nat} {s k : Int} {l : List T}
set_option maxRecDepth 100000 in
set_option maxHeartbeats 4000000 in
theorem cutSlots_any (now : Int) (w : World) (q : Wr w Q Z B G R P b s k l) (hnow : Tk now) :
    Calls Tryz.prog 69 #[.pointer (some ⟨Q, 0, none⟩), .int .u64 now] w fun e w' => (∃ V d p c d2 p2 c2, d.Perm (vD (lw b s) now V l) ∧ d2.Perm (vC (lw b s) now V l) ∧ e = .returned (.tuple #[.slice p d.length c, .slice p2 d2.length c2]) ∧ OwnT w' w.heap.size (.slice p d.length c) d ∧ OwnT w' w.heap.size (.slice p2 d2.length c2) d2 ∧ Vis b s now l V ∧ Wr w' Q Z B G R P b s k (vL (lw b s) V l)) ∧ Off (Fo Q G R) w w' := by
  have hLT := q.lt
  have hts := q.re.ts
  have hbb := q.re.hb
  have htl := q.re.tl
  obtain ⟨⟨ls, r, F0, q1, q2, q4⟩, q3⟩ := id q
  have HLN : Hid (l.length ≤ 1024) := Lib.hid (Nat.le_trans q1.ql.is.len q1.ql.hP)
  have HSL0 := Lib.hid (sls_of q2 hbb.2 q1.ql.is)
  have HQ := Lib.hid q
  have HFE : Hid (∀ n Bq w', 1 ≤ n → Feeds Fence.wide n Tryz.prog 131 #[.pointer (some ⟨Bq, 0, none⟩)] (fun y : Nat × Nat => #[Value.int .i64 (y.1 : Nat), Value.int .i64 (y.2 : Nat)]) (prs F0 0) (Mr Bq Q F0 (prs F0 0)) w') := Lib.hid (fun n Bq w' hn => rslots_feeds n hn Bq Q F0 w')
  clear q1 q2 q3 q4
  have HB0 : Hid (Bel w ((((w.alloc (.cells #[.pointer (some ⟨Q, 0, none⟩)] 61)).alloc (.cells #[.int .u64 now] 22)).alloc (.cells #[.slice none 0 0] 29)).alloc (.cells #[.slice none 0 0] 29))) := Lib.hid (((((Bel.refl _).alloc _ _).alloc _ _).alloc _ _).alloc _ _)
  have HC0 : Hid (((((w.alloc (.cells #[.pointer (some ⟨Q, 0, none⟩)] 61)).alloc (.cells #[.int .u64 now] 22)).alloc (.cells #[.slice none 0 0] 29)).alloc (.cells #[.slice none 0 0] 29)).heap[w.heap.size]? = some (.cells #[.pointer (some ⟨Q, 0, none⟩)] 61 (0, 0))) := Lib.hid (by
    rw [Below.heap_alloc _ _ _ (by simp only [World.size_alloc]; omega), Below.heap_alloc _ _ _ (by simp only [World.size_alloc]; omega), Below.heap_alloc _ _ _ (by simp only [World.size_alloc]; omega), heap_alloc_new])
  have HC1 : Hid (((((w.alloc (.cells #[.pointer (some ⟨Q, 0, none⟩)] 61)).alloc (.cells #[.int .u64 now] 22)).alloc (.cells #[.slice none 0 0] 29)).alloc (.cells #[.slice none 0 0] 29)).heap[w.heap.size + 1]? = some (.cells #[.int .u64 now] 22 (0, 0))) := Lib.hid (by
    rw [Below.heap_alloc _ _ _ (by simp only [World.size_alloc]; omega), Below.heap_alloc _ _ _ (by simp only [World.size_alloc]; omega)]
    have := heap_alloc_new (w.alloc (.cells #[.pointer (some ⟨Q, 0, none⟩)] 61)) (.cells #[.int .u64 now] 22)
    rw [World.size_alloc] at this; exact this)
  have HC2 : Hid (((((w.alloc (.cells #[.pointer (some ⟨Q, 0, none⟩)] 61)).alloc (.cells #[.int .u64 now] 22)).alloc (.cells #[.slice none 0 0] 29)).alloc (.cells #[.slice none 0 0] 29)).heap[w.heap.size + 1 + 1]? = some (.cells #[.slice none 0 0] 29 (0, 0))) := Lib.hid (by
    rw [Below.heap_alloc _ _ _ (by simp only [World.size_alloc]; omega)]
    have := heap_alloc_new ((w.alloc (.cells #[.pointer (some ⟨Q, 0, none⟩)] 61)).alloc (.cells #[.int .u64 now] 22)) (.cells #[.slice none 0 0] 29)
    rw [World.size_alloc, World.size_alloc] at this; exact this)
  have HC3 : Hid (((((w.alloc (.cells #[.pointer (some ⟨Q, 0, none⟩)] 61)).alloc (.cells #[.int .u64 now] 22)).alloc (.cells #[.slice none 0 0] 29)).alloc (.cells #[.slice none 0 0] 29)).heap[w.heap.size + 1 + 1 + 1]? = some (.cells #[.slice none 0 0] 29 (0, 0))) := Lib.hid (by
    have := heap_alloc_new (((w.alloc (.cells #[.pointer (some ⟨Q, 0, none⟩)] 61)).alloc (.cells #[.int .u64 now] 22)).alloc (.cells #[.slice none 0 0] 29)) (.cells #[.slice none 0 0] 29)
    rw [World.size_alloc, World.size_alloc, World.size_alloc] at this; exact this)
  refine (callsIn_wide (n := 4)).1 ?_
  have hro : Fence.wide.round = none := rfl
  refine callsIn_of_wp_marks Tryz.func69 rfl trivial ?_ hro
  simp only [Tryz.ntmps69, List.size_toArray, List.length_cons, List.length_nil, Nat.reduceAdd, Nat.reduceSub, Array.replicate_succ, Array.replicate_zero, List.push_toArray, List.append_toArray, List.nil_append, List.cons_append]
  refine wpIn_wide.2 ?_
  go_upto_region 1 with (fail)
  generalize (((w.alloc (.cells #[.pointer (some ⟨Q, 0, none⟩)] 61)).alloc (.cells #[.int .u64 now] 22)).alloc (.cells #[.slice none 0 0] 29)).alloc (.cells #[.slice none 0 0] 29) = W0 at *
  obtain ⟨bq, hbq⟩ : ∃ bq, w.heap.size = bq := ⟨_, rfl⟩
  obtain ⟨bn, hbn⟩ : ∃ bn, bq + 1 = bn := ⟨_, rfl⟩
  obtain ⟨D1, hD1⟩ : ∃ D, bn + 1 = D := ⟨_, rfl⟩
  obtain ⟨D2, hD2⟩ : ∃ D, D1 + 1 = D := ⟨_, rfl⟩
  rw [hbq] at HC0 HC1 HC2 HC3 ⊢
  rw [hbn] at HC1 HC2 HC3 ⊢
  rw [hD1] at HC2 HC3 ⊢
  rw [hD2] at HC3 ⊢
  have HKW : Hid (Kw w Q Z B G R P b s k now (vL (lw b s) [] l) (vD (lw b s) now [] l) (vC (lw b s) now [] l) bq bn D1 D2 W0) := Lib.hid (by
    rw [vL_nil, vD_nil, vC_nil]
    exact ⟨HQ.out.bel HB0.out, HC0.out, HC1.out, ⟨none, [], 0, none, [], 0, HC2.out, OwnT.nil _ _, List.Perm.refl _, HC3.out, OwnT.nil _ _, List.Perm.refl _, fun i e => by cases e⟩, by omega, hLT, HB0.out.off _⟩)
  obtain ⟨c0, f0⟩ := box1 HC0.out
  have KN := Lib.hid (fun w' => rslots_new Q w')
  go_wp2_with fail
  with_reducible refine (KN.out _).mono ?_
  rintro e W4 ⟨Bq, rfl, hbx, hb4, hgx⟩
  generalize hys : prs F0 0 = ys at *
  have HYS := Lib.hid hys
  have HI0 : Hid (Ir w Q Z B G R P b s k now l bq bn D1 D2 Bq ys [] W4) := Lib.hid ⟨List.nil_prefix, fun y hy => by simp at hy, HKW.out.bel hb4, hbx, by have := HB0.out.size; omega⟩
  have HDl : Hid (D2 < W4.heap.size ∧ w.heap.size ≤ W4.heap.size) := Lib.hid (by
    have h5 := (Array.getElem?_eq_some_iff.1 (hb4.heap HC3.out)).1
    have := hb4.size
    have := HB0.out.size
    exact ⟨h5, by omega⟩)
  clear hbx hb4 hgx KN c0 f0 hys HC0 HC1 HC2 HC3 HB0 HKW
  go_wp2
  refine (wpIn_wide (n := 4)).1 ?_
  refine range_any hro (by omega) (gf := 131) (lb := #[.pointer (some ⟨Bq, 0, none⟩)]) rfl trivial (enters_of Tryz.func131 (by kernel_rfl) rfl) (HFE.out 3 Bq W4 (by omega)) (fun _ => rfl)
    (fun pre W => Ir w Q Z B G R P b s k now l bq bn D1 D2 Bq ys pre W) (fun c pre W => c = .exit 0 ∧ ∃ pre0 y, pre = pre0 ++ [y] ∧ pre <+: ys ∧ now < bg b s y.1 y.2 ∧ Ir w Q Z B G R P b s k now l bq bn D1 D2 Bq ys pre0 W)
    (fun pre A B' row h hg hr => h.own hg (fun r e => ⟨by have := (hr r e).1; have := HDl.out.2; omega, (hr r e).2⟩)) (fun c pre A B' row h hg hr => by
      obtain ⟨h1, pre0, y, h2, h3, h4, h5⟩ := h
      exact ⟨h1, pre0, y, h2, h3, h4, h5.own hg (fun r e => ⟨by have := (hr r e).1; have := HDl.out.2; omega, (hr r e).2⟩)⟩)
    (fun pre V h => h.ms HSL0.out HYS.out.symm hbb.2) HI0.out ?a1 ?assign ?body ?done ?stop
  case assign =>
    intro lp x V K hK
    gi_wp2
    exact hK
  case done =>
    rintro D' V hD' hI hK
    obtain ⟨p, d, c, p2, d2, c2, a1, a2, a3, a4, a5, a6, a7⟩ := hI.kw.du
    have HIV := Lib.hid hI
    have hne := hI.kw.ge.2.2.2.2
    have hne2 : ¬ D2 = D1 := fun e => hne e.symm
    obtain ⟨d0, f0⟩ := box1 a1
    obtain ⟨e0, g0⟩ := box1 a4
    have l1 : D1 < V.heap.size := (Array.getElem?_eq_some_iff.1 a1).1
    have l2 : D2 < V.heap.size := (Array.getElem?_eq_some_iff.1 a4).1
    have hDV : D' < V.heap.size := (Array.getElem?_eq_some_iff.1 hK).1
    have n1 : ¬ D' = D1 := fun e => by rw [← e, hK] at a1; cases a1
    have n2 : ¬ D' = D2 := fun e => by rw [← e, hK] at a4; cases a4
    have HEND : Hid (∀ X : World, Off (fun k => k = D1 ∨ k = D2) V X → X.heap[D1]? = V.heap[D1]? → X.heap[D2]? = V.heap[D2]? → X.heap[D']? = some (.deferred (some [])) ∧ (X.putObj D' (.deferred none)).cell? ⟨D1, 0, none⟩ = some (.slice p d.length c) ∧ (X.putObj D' (.deferred none)).cell? ⟨D2, 0, none⟩ = some (.slice p2 d2.length c2) ∧
        OwnT (X.putObj D' (.deferred none)) w.heap.size (.slice p d.length c) d ∧ OwnT (X.putObj D' (.deferred none)) w.heap.size (.slice p2 d2.length c2) d2 ∧ Wr (X.putObj D' (.deferred none)) Q Z B G R P b s k (vL (lw b s) (ys.map (cod b)) l) ∧ Off (Fo Q G R) w (X.putObj D' (.deferred none))) := Lib.hid (fun X o x1 x2 => by
      have oD : Off (fun i => i = D') X (X.putObj D' (.deferred none)) := Off.grown (Off.refl (fun i => i = D') X) (grownBy_putObj' X D' (.deferred none)) (fun i e => .inl (by cases e; rfl))
      have o2 : Off (fun i => i = D1 ∨ i = D2 ∨ i = D') V (X.putObj D' (.deferred none)) := (o.mono (fun _ _ e => by rcases e with e | e; exact .inl e; exact .inr (.inl e))).then (oD.mono (fun _ _ e => .inr (.inr e)))
      obtain ⟨g1, g2, g3, g4, g5⟩ := HIV.out.kw.ge
      have hz := HDl.out
      have lw := HIV.out.kw.lw
      have ap : ∀ {v : Value} {dd : List T}, OwnT V w.heap.size v dd → ∀ i, v.ownBlock = some i → ¬ (i = D1 ∨ i = D2 ∨ i = D') := fun hv i e e2 => by
        obtain ⟨cc, hc⟩ := hv.cells e
        rcases e2 with e2 | e2 | e2
        · subst e2; exact ty_ne a1 hc (by decide) rfl
        · subst e2; exact ty_ne a4 hc (by decide) rfl
        · subst e2; rw [hK] at hc; cases hc
      refine ⟨(o.block D' hDV (fun e => by rcases e with e | e; exact n1 e; exact n2 e)).trans hK, (box1 ((oD.block D1 (by have := o.size; omega) (fun e => n1 e.symm)).trans (x1.trans a1))).1, (box1 ((oD.block D2 (by have := o.size; omega) (fun e => n2 e.symm)).trans (x2.trans a4))).1, a2.off2 o2 (ap a2), a5.off2 o2 (ap a5),
        HIV.out.kw.wh.off o2 (fun i e e2 => by have := fo5_lt lw e; rcases e2 with e2 | e2 | e2 <;> omega) (fun e => by rcases e with e | e | e <;> omega), Off.trans HIV.out.kw.off o2 (fun i e => .inr (by rcases e with e | e | e <;> omega))⟩)
    have HV : Hid (Vis b s now l (ys.map (cod b))) := Lib.hid (vis_of HSL0.out hI.pf hI.le (.inl rfl))
    have HA1 := Lib.hid a1
    have HA4 := Lib.hid a4
    have HP1 := Lib.hid a3
    have HP4 := Lib.hid a6
    clear hI hK a1 a2 a3 a4 a5 a6 a7 HFE
    go_wp2
    go_region
    all_goals
      go_wp2
      first
      | (obtain ⟨k1, k2, k3, k4, k5, k6, k7⟩ := HEND.out _ (Off.setCell (Off.setCell (Off.refl _ V) (p := ⟨D1, 0, none⟩) (.inl (.inl rfl)) (.slice p d.length c)) (p := ⟨D2, 0, none⟩) (.inl (.inr rfl)) (.slice p2 d2.length c2)).drew
          ((Below.heap_setCell _ _ _ _ hne).trans ((heap_setCell_same V D1 0 _ 29 _ HA1.out).trans HA1.out.symm)) ((heap_setCell_same _ D2 0 _ 29 _ ((Below.heap_setCell _ _ _ _ hne2).trans HA4.out)).trans HA4.out.symm)
         refine ⟨by simp, .inl ⟨_, _, rfl, run_takeDeferred k1, ?_⟩⟩
         refine ⟨.tuple #[.slice p d.length c, .slice p2 d2.length c2], ?_, ⟨_, d, p, c, d2, p2, c2, HP1.out, HP4.out, rfl, k4, k5, HV.out, k6⟩, k7⟩
         simp [results, Tryz.f69, go_sem, k2, k3])
      | (obtain ⟨k1, k2, k3, k4, k5, k6, k7⟩ := HEND.out _ (Off.setCell (Off.setCell (Off.refl _ V) (p := ⟨D2, 0, none⟩) (.inl (.inr rfl)) (.slice p2 d2.length c2)) (p := ⟨D1, 0, none⟩) (.inl (.inl rfl)) (.slice p d.length c)).drew
          ((heap_setCell_same _ D1 0 _ 29 _ ((Below.heap_setCell _ _ _ _ hne).trans HA1.out)).trans HA1.out.symm) ((Below.heap_setCell _ _ _ _ hne2).trans ((heap_setCell_same V D2 0 _ 29 _ HA4.out).trans HA4.out.symm))
         refine ⟨by simp, .inl ⟨_, _, rfl, run_takeDeferred k1, ?_⟩⟩
         refine ⟨.tuple #[.slice p d.length c, .slice p2 d2.length c2], ?_, ⟨_, d, p, c, d2, p2, c2, HP1.out, HP4.out, rfl, k4, k5, HV.out, k6⟩, k7⟩
         simp [results, Tryz.f69, go_sem, k2, k3])
  case stop =>
    rintro D' c pre V hD' hpre ⟨rfl, pre0, y, hpe, hpf, hbl, hI⟩ hK
    refine wpIn_wide.2 ?_
    obtain ⟨p, d, c, p2, d2, c2, a1, a2, a3, a4, a5, a6, a7⟩ := hI.kw.du
    have HIV := Lib.hid hI
    have hne := hI.kw.ge.2.2.2.2
    have hne2 : ¬ D2 = D1 := fun e => hne e.symm
    obtain ⟨d0, f0⟩ := box1 a1
    obtain ⟨e0, g0⟩ := box1 a4
    have l1 : D1 < V.heap.size := (Array.getElem?_eq_some_iff.1 a1).1
    have l2 : D2 < V.heap.size := (Array.getElem?_eq_some_iff.1 a4).1
    have hDV : D' < V.heap.size := (Array.getElem?_eq_some_iff.1 hK).1
    have n1 : ¬ D' = D1 := fun e => by rw [← e, hK] at a1; cases a1
    have n2 : ¬ D' = D2 := fun e => by rw [← e, hK] at a4; cases a4
    have HEND : Hid (∀ X : World, Off (fun k => k = D1 ∨ k = D2) V X → X.heap[D1]? = V.heap[D1]? → X.heap[D2]? = V.heap[D2]? → X.heap[D']? = some (.deferred (some [])) ∧ (X.putObj D' (.deferred none)).cell? ⟨D1, 0, none⟩ = some (.slice p d.length c) ∧ (X.putObj D' (.deferred none)).cell? ⟨D2, 0, none⟩ = some (.slice p2 d2.length c2) ∧
        OwnT (X.putObj D' (.deferred none)) w.heap.size (.slice p d.length c) d ∧ OwnT (X.putObj D' (.deferred none)) w.heap.size (.slice p2 d2.length c2) d2 ∧ Wr (X.putObj D' (.deferred none)) Q Z B G R P b s k (vL (lw b s) (pre0.map (cod b)) l) ∧ Off (Fo Q G R) w (X.putObj D' (.deferred none))) := Lib.hid (fun X o x1 x2 => by
      have oD : Off (fun i => i = D') X (X.putObj D' (.deferred none)) := Off.grown (Off.refl (fun i => i = D') X) (grownBy_putObj' X D' (.deferred none)) (fun i e => .inl (by cases e; rfl))
      have o2 : Off (fun i => i = D1 ∨ i = D2 ∨ i = D') V (X.putObj D' (.deferred none)) := (o.mono (fun _ _ e => by rcases e with e | e; exact .inl e; exact .inr (.inl e))).then (oD.mono (fun _ _ e => .inr (.inr e)))
      obtain ⟨g1, g2, g3, g4, g5⟩ := HIV.out.kw.ge
      have hz := HDl.out
      have lw := HIV.out.kw.lw
      have ap : ∀ {v : Value} {dd : List T}, OwnT V w.heap.size v dd → ∀ i, v.ownBlock = some i → ¬ (i = D1 ∨ i = D2 ∨ i = D') := fun hv i e e2 => by
        obtain ⟨cc, hc⟩ := hv.cells e
        rcases e2 with e2 | e2 | e2
        · subst e2; exact ty_ne a1 hc (by decide) rfl
        · subst e2; exact ty_ne a4 hc (by decide) rfl
        · subst e2; rw [hK] at hc; cases hc
      refine ⟨(o.block D' hDV (fun e => by rcases e with e | e; exact n1 e; exact n2 e)).trans hK, (box1 ((oD.block D1 (by have := o.size; omega) (fun e => n1 e.symm)).trans (x1.trans a1))).1, (box1 ((oD.block D2 (by have := o.size; omega) (fun e => n2 e.symm)).trans (x2.trans a4))).1, a2.off2 o2 (ap a2), a5.off2 o2 (ap a5),
        HIV.out.kw.wh.off o2 (fun i e e2 => by have := fo5_lt lw e; rcases e2 with e2 | e2 | e2 <;> omega) (fun e => by rcases e with e | e | e <;> omega), Off.trans HIV.out.kw.off o2 (fun i e => .inr (by rcases e with e | e | e <;> omega))⟩)
    have HV : Hid (Vis b s now l (pre0.map (cod b))) := Lib.hid (vis_of HSL0.out hI.pf hI.le (.inr ⟨y, by rw [← hpe]; exact hpf, hbl⟩))
    have HA1 := Lib.hid a1
    have HA4 := Lib.hid a4
    have HP1 := Lib.hid a3
    have HP4 := Lib.hid a6
    clear hI hK a1 a2 a3 a4 a5 a6 a7 HFE
    go_wp2
    go_region
    all_goals
      go_wp2
      first
      | (obtain ⟨k1, k2, k3, k4, k5, k6, k7⟩ := HEND.out _ (Off.setCell (Off.setCell (Off.refl _ V) (p := ⟨D1, 0, none⟩) (.inl (.inl rfl)) (.slice p d.length c)) (p := ⟨D2, 0, none⟩) (.inl (.inr rfl)) (.slice p2 d2.length c2)).drew
          ((Below.heap_setCell _ _ _ _ hne).trans ((heap_setCell_same V D1 0 _ 29 _ HA1.out).trans HA1.out.symm)) ((heap_setCell_same _ D2 0 _ 29 _ ((Below.heap_setCell _ _ _ _ hne2).trans HA4.out)).trans HA4.out.symm)
         refine ⟨by simp, .inl ⟨_, _, rfl, run_takeDeferred k1, ?_⟩⟩
         refine ⟨.tuple #[.slice p d.length c, .slice p2 d2.length c2], ?_, ⟨_, d, p, c, d2, p2, c2, HP1.out, HP4.out, rfl, k4, k5, HV.out, k6⟩, k7⟩
         simp [results, Tryz.f69, go_sem, k2, k3])
      | (obtain ⟨k1, k2, k3, k4, k5, k6, k7⟩ := HEND.out _ (Off.setCell (Off.setCell (Off.refl _ V) (p := ⟨D2, 0, none⟩) (.inl (.inr rfl)) (.slice p2 d2.length c2)) (p := ⟨D1, 0, none⟩) (.inl (.inl rfl)) (.slice p d.length c)).drew
          ((heap_setCell_same _ D1 0 _ 29 _ ((Below.heap_setCell _ _ _ _ hne).trans HA1.out)).trans HA1.out.symm) ((Below.heap_setCell _ _ _ _ hne2).trans ((heap_setCell_same V D2 0 _ 29 _ HA4.out).trans HA4.out.symm))
         refine ⟨by simp, .inl ⟨_, _, rfl, run_takeDeferred k1, ?_⟩⟩
         refine ⟨.tuple #[.slice p d.length c, .slice p2 d2.length c2], ?_, ⟨_, d, p, c, d2, p2, c2, HP1.out, HP4.out, rfl, k4, k5, HV.out, k6⟩, k7⟩
         simp [results, Tryz.f69, go_sem, k2, k3])
  case body =>
    rintro lp pre ⟨m, i⟩ V hpx hI
    have HI := Lib.hid hI
    obtain ⟨hm3, hi2, _⟩ := (HSL0.out.me m i).1 (hpx.subset (by simp))
    have hpw := pow_le hbb.2
    have KBG := Lib.hid (fun w' => begin_at s b m i hts hbb hm3 hi2 w')
    have HCQ : Hid (∀ w', Bel V w' → w'.cell? ⟨bq, 0, none⟩ = some (.pointer (some ⟨Q, 0, none⟩))) := Lib.hid (fun w' hb => (box1 (hb.heap HI.out.kw.cq)).1)
    have HCN : Hid (∀ w', Bel V w' → w'.cell? ⟨bn, 0, none⟩ = some (.int .u64 now)) := Lib.hid (fun w' hb => (box1 (hb.heap HI.out.kw.cn)).1)
    have HCS : Hid (∀ w', Bel V w' → w'.cell? ⟨Q, 22, none⟩ = some (.int .u64 s) ∧ w'.cell? ⟨Q, 21, none⟩ = some (.int .i64 b)) := Lib.hid (fun w' hb => by
      obtain ⟨_, a1, a2, _⟩ := (HI.out.kw.wh.bel hb).cells
      exact ⟨a2, a1⟩)
    obtain ⟨g, hg⟩ : ∃ g, bg b s m i = g := ⟨_, rfl⟩
    rw [hg] at KBG
    have HG := Lib.hid hg
    clear hI hg
    gi_wp2
    rename_i K4 HK4
    refine wpIn_region_any (by kernel_rfl) ?_
    refine wpAnyIn_inv (fun listed a w2 => ∃ l0 l1 l2 l3 l4 l5 l6 l7 l8 l9 l10 l11 l12 u13 u14 u15 u16 u17 u18 u19 u20 u21 u22 u23 u24 u25, listed = #[l0, l1, l2, l3, l4, l5, l6, l7, l8, l9, l10, l11, l12] ∧ a = { tmps := (.pointer (some ⟨Q, 0, none⟩) :: .int .u64 now :: .pointer (some ⟨bq, 0, none⟩) :: .pointer (some ⟨bn, 0, none⟩) :: .pointer (some ⟨D1, 0, none⟩) :: .pointer (some ⟨D2, 0, none⟩) :: .int .i64 (m : Nat) :: .int .i64 (i : Nat) :: undef :: .pointer (some ⟨Q, 0, none⟩) :: .func (.func 131) #[] #[.pointer (some ⟨Bq, 0, none⟩)] :: .int .i64 (m : Nat) :: .int .i64 (i : Nat) :: u13 :: u14 :: u15 :: u16 :: u17 :: u18 :: u19 :: u20 :: u21 :: u22 :: u23 :: u24 :: u25 :: undef :: undef :: undef :: undef :: undef :: undef :: undef :: undef :: undef :: undef :: undef :: undef :: undef :: undef :: undef :: undef :: []).toArray, defers := [] } ∧ J4 V Q m i b s g now l0 l1 l2 l3 l4 l5 l6 l7 l8 l9 l10 l11 l12 u13 u14 u15 u16 u17 u18 u19 u20 u21 u22 u23 u24 u25 w2) ?sz ?step ?fin _ _ _ _ (by decide) ⟨false, false, false, false, false, false, false, false, false, false, false, false, false, undef, undef, undef, undef, undef, undef, undef, undef, undef, undef, undef, undef, undef, rfl, rfl, ⟨(Bel.refl V).drew, (fun e => by cases e), (fun e => by cases e), (fun e => by cases e), (fun e => by cases e), (fun e => by cases e), (fun e => by cases e), (fun e => by cases e), (fun e => by cases e), (fun e => by cases e), (fun e => by cases e), (fun e => by cases e), (fun e => by cases e), (fun e => by cases e)⟩⟩
    case sz =>
      rintro listed a w2 ⟨l0, l1, l2, l3, l4, l5, l6, l7, l8, l9, l10, l11, l12, u13, u14, u15, u16, u17, u18, u19, u20, u21, u22, u23, u24, u25, rfl, _⟩
      rfl
    case step =>
      rintro listed a w2 j o ⟨l0, l1, l2, l3, l4, l5, l6, l7, l8, l9, l10, l11, l12, u13, u14, u15, u16, u17, u18, u19, u20, u21, u22, u23, u24, u25, rfl, ha, h⟩ hl ho hafter K hK
      have hq := HCQ.out w2 h.wb
      have hn := HCN.out w2 h.wb
      have hs := (HCS.out w2 h.wb).1
      have hb := (HCS.out w2 h.wb).2
      match j, hl, ho with
      | 0, hl, ho =>
        obtain rfl : l0 = false := hl
        simp at ho
        subst ho
        have e2 : a.eval (.tmp 2) = .pointer (some ⟨bq, 0, none⟩) := by rw [ha]; rfl
        rw [if_pos (by simp [Region.wanted])]
        refine ⟨by first | exact fun f' hf' => trivial | simp [Oper.about], ?_⟩
        rw [Oper.semAt_plain _ _ _ (by intro c hc; cases hc)]
        have hk := hK (a.put (some 13) (.pointer (some ⟨Q, 0, none⟩))) w2 ⟨true, l1, l2, l3, l4, l5, l6, l7, l8, l9, l10, l11, l12, _, u14, u15, u16, u17, u18, u19, u20, u21, u22, u23, u24, u25, rfl, (by rw [ha]; rfl), ⟨h.wb, fun _ => rfl, h.c1, h.c2, h.c3, h.c4, h.c5, h.c6, h.c7, h.c8, h.c9, h.c10, h.c11, h.c12⟩⟩
        simp [go_sem] at e2
        simp [execOp, e2, go_sem, hq]
        exact hk
      | 1, hl, ho =>
        obtain rfl : l1 = false := hl
        simp at ho
        subst ho
        obtain rfl : l0 = true := hafter ⟨0, .data⟩ (by simp) rfl
        obtain rfl := h.c0 rfl
        have e13 : a.eval (.tmp 13) = .pointer (some ⟨Q, 0, none⟩) := by rw [ha]; rfl
        rw [if_pos (by simp [Region.wanted])]
        refine ⟨by first | exact fun f' hf' => trivial | simp [Oper.about], ?_⟩
        rw [Oper.semAt_plain _ _ _ (by intro c hc; cases hc)]
        have hk := hK (a.put (some 14) (.pointer (some ⟨Q, 0, none⟩))) w2 ⟨true, true, l2, l3, l4, l5, l6, l7, l8, l9, l10, l11, l12, _, _, u15, u16, u17, u18, u19, u20, u21, u22, u23, u24, u25, rfl, (by rw [ha]; rfl), ⟨h.wb, h.c0, fun _ => rfl, h.c2, h.c3, h.c4, h.c5, h.c6, h.c7, h.c8, h.c9, h.c10, h.c11, h.c12⟩⟩
        simp [go_sem] at e13
        simp [execOp, e13, go_sem]
        exact hk
      | 2, hl, ho =>
        obtain rfl : l2 = false := hl
        simp at ho
        subst ho
        obtain rfl : l1 = true := hafter ⟨1, .data⟩ (by simp) rfl
        obtain rfl := h.c1 rfl
        have e14 : a.eval (.tmp 14) = .pointer (some ⟨Q, 0, none⟩) := by rw [ha]; rfl
        rw [if_pos (by simp [Region.wanted])]
        refine ⟨by first | exact fun f' hf' => trivial | simp [Oper.about], ?_⟩
        rw [Oper.semAt_plain _ _ _ (by intro c hc; cases hc)]
        have hk := hK (a.put (some 15) (.pointer (some ⟨Q, 22, none⟩))) w2 ⟨l0, true, true, l3, l4, l5, l6, l7, l8, l9, l10, l11, l12, u13, _, _, u16, u17, u18, u19, u20, u21, u22, u23, u24, u25, rfl, (by rw [ha]; rfl), ⟨h.wb, h.c0, h.c1, fun _ => rfl, h.c3, h.c4, h.c5, h.c6, h.c7, h.c8, h.c9, h.c10, h.c11, h.c12⟩⟩
        simp [go_sem] at e14
        simp [execOp, e14, go_sem]
        exact hk
      | 3, hl, ho =>
        obtain rfl : l3 = false := hl
        simp at ho
        subst ho
        obtain rfl : l2 = true := hafter ⟨2, .data⟩ (by simp) rfl
        obtain rfl := h.c2 rfl
        have e15 : a.eval (.tmp 15) = .pointer (some ⟨Q, 22, none⟩) := by rw [ha]; rfl
        rw [if_pos (by simp [Region.wanted])]
        refine ⟨by first | exact fun f' hf' => trivial | simp [Oper.about], ?_⟩
        rw [Oper.semAt_plain _ _ _ (by intro c hc; cases hc)]
        have hk := hK (a.put (some 16) (.int .u64 s)) w2 ⟨l0, l1, true, true, l4, l5, l6, l7, l8, l9, l10, l11, l12, u13, u14, _, _, u17, u18, u19, u20, u21, u22, u23, u24, u25, rfl, (by rw [ha]; rfl), ⟨h.wb, h.c0, h.c1, h.c2, fun _ => rfl, h.c4, h.c5, h.c6, h.c7, h.c8, h.c9, h.c10, h.c11, h.c12⟩⟩
        simp [go_sem] at e15
        simp [execOp, e15, go_sem, hs]
        exact hk
      | 4, hl, ho =>
        obtain rfl : l4 = false := hl
        simp at ho
        subst ho
        have e6 : a.eval (.tmp 6) = .int .i64 (m : Nat) := by rw [ha]; rfl
        rw [if_pos (by simp [Region.wanted])]
        refine ⟨by first | exact fun f' hf' => trivial | simp [Oper.about], ?_⟩
        rw [Oper.semAt_plain _ _ _ (by intro c hc; cases hc)]
        have hk := hK (a.put (some 17) (.int .i64 (m : Nat))) w2 ⟨l0, l1, l2, l3, true, l5, l6, l7, l8, l9, l10, l11, l12, u13, u14, u15, u16, _, u18, u19, u20, u21, u22, u23, u24, u25, rfl, (by rw [ha]; rfl), ⟨h.wb, h.c0, h.c1, h.c2, h.c3, fun _ => rfl, h.c5, h.c6, h.c7, h.c8, h.c9, h.c10, h.c11, h.c12⟩⟩
        simp [go_sem] at e6
        simp [execOp, e6, go_sem]
        exact hk
      | 5, hl, ho =>
        obtain rfl : l5 = false := hl
        simp at ho
        subst ho
        have e7 : a.eval (.tmp 7) = .int .i64 (i : Nat) := by rw [ha]; rfl
        rw [if_pos (by simp [Region.wanted])]
        refine ⟨by first | exact fun f' hf' => trivial | simp [Oper.about], ?_⟩
        rw [Oper.semAt_plain _ _ _ (by intro c hc; cases hc)]
        have hk := hK (a.put (some 18) (.int .i64 (i : Nat))) w2 ⟨l0, l1, l2, l3, l4, true, l6, l7, l8, l9, l10, l11, l12, u13, u14, u15, u16, u17, _, u19, u20, u21, u22, u23, u24, u25, rfl, (by rw [ha]; rfl), ⟨h.wb, h.c0, h.c1, h.c2, h.c3, h.c4, fun _ => rfl, h.c6, h.c7, h.c8, h.c9, h.c10, h.c11, h.c12⟩⟩
        simp [go_sem] at e7
        simp [execOp, e7, go_sem]
        exact hk
      | 6, hl, ho =>
        obtain rfl : l6 = false := hl
        simp at ho
        subst ho
        have e2 : a.eval (.tmp 2) = .pointer (some ⟨bq, 0, none⟩) := by rw [ha]; rfl
        rw [if_pos (by simp [Region.wanted])]
        refine ⟨by first | exact fun f' hf' => trivial | simp [Oper.about], ?_⟩
        rw [Oper.semAt_plain _ _ _ (by intro c hc; cases hc)]
        have hk := hK (a.put (some 19) (.pointer (some ⟨Q, 0, none⟩))) w2 ⟨l0, l1, l2, l3, l4, l5, true, l7, l8, l9, l10, l11, l12, u13, u14, u15, u16, u17, u18, _, u20, u21, u22, u23, u24, u25, rfl, (by rw [ha]; rfl), ⟨h.wb, h.c0, h.c1, h.c2, h.c3, h.c4, h.c5, fun _ => rfl, h.c7, h.c8, h.c9, h.c10, h.c11, h.c12⟩⟩
        simp [go_sem] at e2
        simp [execOp, e2, go_sem, hq]
        exact hk
      | 7, hl, ho =>
        obtain rfl : l7 = false := hl
        simp at ho
        subst ho
        obtain rfl : l6 = true := hafter ⟨6, .data⟩ (by simp) rfl
        obtain rfl := h.c6 rfl
        have e19 : a.eval (.tmp 19) = .pointer (some ⟨Q, 0, none⟩) := by rw [ha]; rfl
        rw [if_pos (by simp [Region.wanted])]
        refine ⟨by first | exact fun f' hf' => trivial | simp [Oper.about], ?_⟩
        rw [Oper.semAt_plain _ _ _ (by intro c hc; cases hc)]
        have hk := hK (a.put (some 20) (.pointer (some ⟨Q, 0, none⟩))) w2 ⟨l0, l1, l2, l3, l4, l5, true, true, l8, l9, l10, l11, l12, u13, u14, u15, u16, u17, u18, _, _, u21, u22, u23, u24, u25, rfl, (by rw [ha]; rfl), ⟨h.wb, h.c0, h.c1, h.c2, h.c3, h.c4, h.c5, h.c6, fun _ => rfl, h.c8, h.c9, h.c10, h.c11, h.c12⟩⟩
        simp [go_sem] at e19
        simp [execOp, e19, go_sem]
        exact hk
      | 8, hl, ho =>
        obtain rfl : l8 = false := hl
        simp at ho
        subst ho
        obtain rfl : l7 = true := hafter ⟨7, .data⟩ (by simp) rfl
        obtain rfl := h.c7 rfl
        have e20 : a.eval (.tmp 20) = .pointer (some ⟨Q, 0, none⟩) := by rw [ha]; rfl
        rw [if_pos (by simp [Region.wanted])]
        refine ⟨by first | exact fun f' hf' => trivial | simp [Oper.about], ?_⟩
        rw [Oper.semAt_plain _ _ _ (by intro c hc; cases hc)]
        have hk := hK (a.put (some 21) (.pointer (some ⟨Q, 21, none⟩))) w2 ⟨l0, l1, l2, l3, l4, l5, l6, true, true, l9, l10, l11, l12, u13, u14, u15, u16, u17, u18, u19, _, _, u22, u23, u24, u25, rfl, (by rw [ha]; rfl), ⟨h.wb, h.c0, h.c1, h.c2, h.c3, h.c4, h.c5, h.c6, h.c7, fun _ => rfl, h.c9, h.c10, h.c11, h.c12⟩⟩
        simp [go_sem] at e20
        simp [execOp, e20, go_sem]
        exact hk
      | 9, hl, ho =>
        obtain rfl : l9 = false := hl
        simp at ho
        subst ho
        obtain rfl : l8 = true := hafter ⟨8, .data⟩ (by simp) rfl
        obtain rfl := h.c8 rfl
        have e21 : a.eval (.tmp 21) = .pointer (some ⟨Q, 21, none⟩) := by rw [ha]; rfl
        rw [if_pos (by simp [Region.wanted])]
        refine ⟨by first | exact fun f' hf' => trivial | simp [Oper.about], ?_⟩
        rw [Oper.semAt_plain _ _ _ (by intro c hc; cases hc)]
        have hk := hK (a.put (some 22) (.int .i64 (b : Nat))) w2 ⟨l0, l1, l2, l3, l4, l5, l6, l7, true, true, l10, l11, l12, u13, u14, u15, u16, u17, u18, u19, u20, _, _, u23, u24, u25, rfl, (by rw [ha]; rfl), ⟨h.wb, h.c0, h.c1, h.c2, h.c3, h.c4, h.c5, h.c6, h.c7, h.c8, fun _ => rfl, h.c10, h.c11, h.c12⟩⟩
        simp [go_sem] at e21
        simp [execOp, e21, go_sem, hb]
        exact hk
      | 10, hl, ho =>
        obtain rfl : l10 = false := hl
        simp at ho
        subst ho
        obtain rfl : l3 = true := hafter ⟨3, .data⟩ (by simp) rfl
        obtain rfl : l4 = true := hafter ⟨4, .data⟩ (by simp) rfl
        obtain rfl : l5 = true := hafter ⟨5, .data⟩ (by simp) rfl
        obtain rfl : l9 = true := hafter ⟨9, .data⟩ (by simp) rfl
        obtain rfl := h.c3 rfl
        obtain rfl := h.c4 rfl
        obtain rfl := h.c5 rfl
        obtain rfl := h.c9 rfl
        have e16 : a.eval (.tmp 16) = .int .u64 s := by rw [ha]; rfl
        have e17 : a.eval (.tmp 17) = .int .i64 (m : Nat) := by rw [ha]; rfl
        have e18 : a.eval (.tmp 18) = .int .i64 (i : Nat) := by rw [ha]; rfl
        have e22 : a.eval (.tmp 22) = .int .i64 (b : Nat) := by rw [ha]; rfl
        rw [if_pos (by simp [Region.wanted])]
        refine ⟨by first | exact fun f' hf' => trivial | simp [Oper.about], ?_⟩
        rw [Oper.semAt_plain _ _ _ (by intro c hc; cases hc)]
        simp [go_sem] at e16 e17 e18 e22
        simp [execOp, e16, e17, e18, e22, go_sem]
        refine (CallsIn.inRound (F := Fence.wide) (n := 1) lp (callsIn_wide.2 (KBG.out _))).mono ?_
        rintro e w3 ⟨rfl, hb3⟩
        exact hK (a.put (some 23) (.int .u64 g)) w3 ⟨l0, l1, l2, true, true, true, l6, l7, l8, true, true, l11, l12, u13, u14, u15, _, _, _, u19, u20, u21, _, _, u24, u25, rfl, (by rw [ha]; rfl), ⟨h.wb.trans hb3, h.c0, h.c1, h.c2, h.c3, h.c4, h.c5, h.c6, h.c7, h.c8, h.c9, fun _ => rfl, h.c11, h.c12⟩⟩
      | 11, hl, ho =>
        obtain rfl : l11 = false := hl
        simp at ho
        subst ho
        have e3 : a.eval (.tmp 3) = .pointer (some ⟨bn, 0, none⟩) := by rw [ha]; rfl
        rw [if_pos (by simp [Region.wanted])]
        refine ⟨by first | exact fun f' hf' => trivial | simp [Oper.about], ?_⟩
        rw [Oper.semAt_plain _ _ _ (by intro c hc; cases hc)]
        have hk := hK (a.put (some 24) (.int .u64 now)) w2 ⟨l0, l1, l2, l3, l4, l5, l6, l7, l8, l9, l10, true, l12, u13, u14, u15, u16, u17, u18, u19, u20, u21, u22, u23, _, u25, rfl, (by rw [ha]; rfl), ⟨h.wb, h.c0, h.c1, h.c2, h.c3, h.c4, h.c5, h.c6, h.c7, h.c8, h.c9, h.c10, fun _ => rfl, h.c12⟩⟩
        simp [go_sem] at e3
        simp [execOp, e3, go_sem, hn]
        exact hk
      | 12, hl, ho =>
        obtain rfl : l12 = false := hl
        simp at ho
        subst ho
        obtain rfl : l10 = true := hafter ⟨10, .data⟩ (by simp) rfl
        obtain rfl : l11 = true := hafter ⟨11, .data⟩ (by simp) rfl
        obtain rfl := h.c10 rfl
        obtain rfl := h.c11 rfl
        have e23 : a.eval (.tmp 23) = .int .u64 g := by rw [ha]; rfl
        have e24 : a.eval (.tmp 24) = .int .u64 now := by rw [ha]; rfl
        rw [if_pos (by simp [Region.wanted])]
        refine ⟨by first | exact fun f' hf' => trivial | simp [Oper.about], ?_⟩
        rw [Oper.semAt_plain _ _ _ (by intro c hc; cases hc)]
        have hk := hK (a.put (some 25) (.bool (decide (now < g)))) w2 ⟨l0, l1, l2, l3, l4, l5, l6, l7, l8, l9, true, true, true, u13, u14, u15, u16, u17, u18, u19, u20, u21, u22, _, _, _, rfl, (by rw [ha]; rfl), ⟨h.wb, h.c0, h.c1, h.c2, h.c3, h.c4, h.c5, h.c6, h.c7, h.c8, h.c9, h.c10, h.c11, fun _ => rfl⟩⟩
        simp [go_sem] at e23 e24
        simp [execOp, e23, e24, go_sem]
        exact hk
      | (j + 13), hl, ho => simp at ho
    case fin =>
      rintro listed a w2 ⟨l0, l1, l2, l3, l4, l5, l6, l7, l8, l9, l10, l11, l12, u13, u14, u15, u16, u17, u18, u19, u20, u21, u22, u23, u24, u25, rfl, ha, h⟩ hr
      obtain rfl : l0 = true := by
        cases l0 with
        | true => rfl
        | false => exact absurd rfl (ready_not (j := 0) hr rfl (by intro e he hb; simp at he <;> (repeat' (rcases he with he | he)) <;> first | rfl | exact absurd hb (by decide)))
      obtain rfl : l1 = true := by
        cases l1 with
        | true => rfl
        | false => exact absurd rfl (ready_not (j := 1) hr rfl (by intro e he hb; simp at he <;> (repeat' (rcases he with he | he)) <;> first | rfl | exact absurd hb (by decide)))
      obtain rfl : l2 = true := by
        cases l2 with
        | true => rfl
        | false => exact absurd rfl (ready_not (j := 2) hr rfl (by intro e he hb; simp at he <;> (repeat' (rcases he with he | he)) <;> first | rfl | exact absurd hb (by decide)))
      obtain rfl : l3 = true := by
        cases l3 with
        | true => rfl
        | false => exact absurd rfl (ready_not (j := 3) hr rfl (by intro e he hb; simp at he <;> (repeat' (rcases he with he | he)) <;> first | rfl | exact absurd hb (by decide)))
      obtain rfl : l4 = true := by
        cases l4 with
        | true => rfl
        | false => exact absurd rfl (ready_not (j := 4) hr rfl (by intro e he hb; simp at he <;> (repeat' (rcases he with he | he)) <;> first | rfl | exact absurd hb (by decide)))
      obtain rfl : l5 = true := by
        cases l5 with
        | true => rfl
        | false => exact absurd rfl (ready_not (j := 5) hr rfl (by intro e he hb; simp at he <;> (repeat' (rcases he with he | he)) <;> first | rfl | exact absurd hb (by decide)))
      obtain rfl : l6 = true := by
        cases l6 with
        | true => rfl
        | false => exact absurd rfl (ready_not (j := 6) hr rfl (by intro e he hb; simp at he <;> (repeat' (rcases he with he | he)) <;> first | rfl | exact absurd hb (by decide)))
      obtain rfl : l7 = true := by
        cases l7 with
        | true => rfl
        | false => exact absurd rfl (ready_not (j := 7) hr rfl (by intro e he hb; simp at he <;> (repeat' (rcases he with he | he)) <;> first | rfl | exact absurd hb (by decide)))
      obtain rfl : l8 = true := by
        cases l8 with
        | true => rfl
        | false => exact absurd rfl (ready_not (j := 8) hr rfl (by intro e he hb; simp at he <;> (repeat' (rcases he with he | he)) <;> first | rfl | exact absurd hb (by decide)))
      obtain rfl : l9 = true := by
        cases l9 with
        | true => rfl
        | false => exact absurd rfl (ready_not (j := 9) hr rfl (by intro e he hb; simp at he <;> (repeat' (rcases he with he | he)) <;> first | rfl | exact absurd hb (by decide)))
      obtain rfl : l10 = true := by
        cases l10 with
        | true => rfl
        | false => exact absurd rfl (ready_not (j := 10) hr rfl (by intro e he hb; simp at he <;> (repeat' (rcases he with he | he)) <;> first | rfl | exact absurd hb (by decide)))
      obtain rfl : l11 = true := by
        cases l11 with
        | true => rfl
        | false => exact absurd rfl (ready_not (j := 11) hr rfl (by intro e he hb; simp at he <;> (repeat' (rcases he with he | he)) <;> first | rfl | exact absurd hb (by decide)))
      obtain rfl : l12 = true := by
        cases l12 with
        | true => rfl
        | false => exact absurd rfl (ready_not (j := 12) hr rfl (by intro e he hb; simp at he <;> (repeat' (rcases he with he | he)) <;> first | rfl | exact absurd hb (by decide)))
      obtain rfl := h.c0 rfl
      obtain rfl := h.c1 rfl
      obtain rfl := h.c2 rfl
      obtain rfl := h.c3 rfl
      obtain rfl := h.c4 rfl
      obtain rfl := h.c5 rfl
      obtain rfl := h.c6 rfl
      obtain rfl := h.c7 rfl
      obtain rfl := h.c8 rfl
      obtain rfl := h.c9 rfl
      obtain rfl := h.c10 rfl
      obtain rfl := h.c11 rfl
      obtain rfl := h.c12 rfl
      have hbw := h.wb
      subst ha
      clear h hr
      show K4 _ _
      refine HK4 _ _ ?_
      by_cases hle : now < g
      · rw [decide_eq_true hle]
        have HXI := Lib.hid hbw
        gi_wp2
        refine ⟨⟨HXI.out.size, fun j ob hj e hc => (HXI.out.block j (Array.getElem?_eq_some_iff.1 e).1 (fun e => e)).trans e⟩, rfl, pre, (m, i), rfl, hpx, by rw [HG.out]; exact hle, HI.out.pf, HI.out.le, HI.out.kw.bel HXI.out, HXI.out.heap HI.out.bx, HI.out.gb⟩
      · rw [decide_eq_false hle]
        have hb5 := hbw.alloc #[.int .i64 (m : Nat), .int .i64 (i : Nat)] 109
        have hns := heap_alloc_new w2 (.cells #[.int .i64 (m : Nat), .int .i64 (i : Nat)] 109)
        have hnz : w.heap.size ≤ w2.heap.size := by have h1 := HI.out.kw.off.size; have h2 := hbw.size; omega
        clear hbw
        gi_wp2
        generalize w2.alloc (.cells #[.int .i64 (m : Nat), .int .i64 (i : Nat)] 109) = V5 at *
        generalize w2.heap.size = Ns at *
        rename_i K6 HK6
        obtain ⟨Vs, hVs⟩ : ∃ Vs, pre.map (cod b) = Vs := ⟨_, rfl⟩
        have HVS := Lib.hid hVs
        have hkw := HI.out.kw
        rw [hVs] at hkw
        have HB5 := Lib.hid hb5
        have HK5 := Lib.hid (hkw.bel hb5.drew)
        have HNS := Lib.hid hns
        have hlsn : lsn b (m : Int) (i : Int) = cod b (m, i) := lsn_slot b m i hm3
        obtain ⟨t, ht⟩ : ∃ t, cod b (m, i) = t := ⟨_, rfl⟩
        rw [ht] at hlsn
        have HT := Lib.hid ht
        have htV : Hid (t ∉ Vs) := Lib.hid (by
          rw [← hVs, ← ht]
          intro hmem
          obtain ⟨z, hz, e2⟩ := List.mem_map.1 hmem
          have h7 := (HSL0.out.me z.1 z.2).1 (HI.out.pf.subset hz)
          have h9 := cod_inj h7.2.1 hi2 e2
          rw [h9] at hz
          obtain ⟨rr, hrr⟩ := hpx
          have hnd := HSL0.out.nodup
          rw [← hrr, List.append_assoc] at hnd
          exact (List.nodup_append.1 hnd).2.2 (m, i) hz (m, i) (by simp) rfl)
        clear hVs ht
        have hv : ((m : Int) = -1 ∨ (m : Int) = 4 ∨ ∃ m' i' : Nat, m' ≤ 3 ∧ i' < 2 ^ b ∧ (m : Int) = m' ∧ (i : Int) = i') := .inr (.inr ⟨m, i, hm3, hi2, rfl, rfl⟩)
        obtain ⟨p, d, c, pp, dd, cc, a1, a2, a3, a4, a5, a6, a7⟩ := HK5.out.du
        have hlen : ∀ {f : T → Bool} {x : List T}, x.Perm (l.filter f) → x.length ≤ 1024 := fun {f x} h => by
          have h1 := h.length_eq
          have h2 := List.length_filter_le f l
          have h3 := HLN.out
          omega
        obtain ⟨DP6, hDP6⟩ : ∃ D, dueL (lw b s) now t (vL (lw b s) Vs l) = D := ⟨_, rfl⟩
        obtain ⟨WR6, hWR6⟩ : ∃ F : World → Prop, (fun W => Wr W Q Z B G R P b s k (leftL (lw b s) now t (vL (lw b s) Vs l))) = F := ⟨_, rfl⟩
        obtain ⟨FIN6, hFIN6⟩ : ∃ F : World → Prop, (fun W => Kw w Q Z B G R P b s k now (leftL (lw b s) now t (vL (lw b s) Vs l)) (vD (lw b s) now (Vs ++ [t]) l) (vC (lw b s) now Vs l) bq bn D1 D2 W ∧ Sty w.heap.size (V5.drew) W) = F := ⟨_, rfl⟩
        have b0 : (V5.drew).cell? ⟨bq, 0, none⟩ = some (.pointer (some ⟨Q, 0, none⟩)) := (box1 HK5.out.cq).1
        have b1 : (V5.drew).cell? ⟨bn, 0, none⟩ = some (.int .u64 now) := (box1 HK5.out.cn).1
        have bs0 : (V5.drew).cell? ⟨Ns, 0, none⟩ = some (.int .i64 (m : Nat)) := (box2 HNS.out).1.1
        have bs1 : (V5.drew).cell? ⟨Ns, 1, none⟩ = some (.int .i64 (i : Nat)) := (box2 HNS.out).1.2
        have HD6 : Hid (∀ W', Off (Fo Q G R) (V5.drew) W' → W'.cell? ⟨D1, 0, none⟩ = some (.slice p d.length c)) := Lib.hid (fun W' ho => (box1 ((ho.block D1 (Array.getElem?_eq_some_iff.1 a1).1 (fun e => by have := fo_lt HK5.out.lw e; have := HK5.out.ge.2.2.1; omega)).trans a1)).1)
        have KX6 : Hid (Calls Tryz.prog 68 #[.pointer (some ⟨Q, 0, none⟩), spV m i, .int .u64 now] (V5.drew) fun e w' => (∃ d p c, d.Perm DP6 ∧ e = .returned (.slice p d.length c) ∧ OwnT w' (V5.drew).heap.size (.slice p d.length c) d) ∧ WR6 w' ∧ Off (Fo Q G R) (V5.drew) w') := Lib.hid (by
          have h := rcut_any (v := m) (u := i) now (V5.drew) HK5.out.wh hv
          rw [hlsn, hDP6] at h
          rw [← hWR6]
          exact h)
        have HAP6 : Hid (∀ W (e2 : List T) p2 c2, Off (Fo Q G R) (V5.drew) W → e2.Perm DP6 → Has W p2 e2 → ∃ v' w3, (Builtin.append_ #[29, 29] 29 #[.slice p d.length c, .slice p2 e2.length c2]).run Tryz.prog W = .ok v' w3 ∧ OwnT w3 w.heap.size v' (d ++ e2) ∧ W.grownBy w3 (Value.slice p d.length c).ownBlock ∧
            (∀ i, v'.ownBlock = some i → (Value.slice p d.length c).ownBlock = some i ∨ W.heap.size ≤ i) ∧ w3.heap[D1]? = some (.cells #[.slice p d.length c] 29 (0, 0))) := Lib.hid (fun W e2 p2 c2 ho he hh => by
          have hown : OwnT W w.heap.size (.slice p d.length c) d := a2.off2 ho (fun i e e2 => by have := (a2.lt i e).1; have := fo_lt HK5.out.lw e2; omega)
          have hD : W.heap[D1]? = some (.cells #[.slice p d.length c] 29 (0, 0)) := (ho.block D1 (Array.getElem?_eq_some_iff.1 a1).1 (fun e => by have := fo_lt HK5.out.lw e; have := HK5.out.ge.2.2.1; omega)).trans a1
          have hl1 : d.length ≤ 1024 := hlen a3
          have hl2 : e2.length ≤ 1024 := by
            rw [← hDP6] at he
            unfold dueL vL at he
            rw [List.filter_filter] at he
            exact hlen he
          obtain ⟨v', w3, r1, r2, r3, r4⟩ := append_at W 29 w.heap.size _ d hown p2 c2 e2 hh (by omega) (by have := HK5.out.off.size; have := ho.size; omega)
          refine ⟨v', w3, r1, r2, r3, r4, (r3.block D1 (Array.getElem?_eq_some_iff.1 hD).1 (fun e => ?_)).trans hD⟩
          obtain ⟨cx, hcx⟩ := hown.cells e.symm
          exact ty_ne hD hcx (by decide) rfl)
        have HFI6 : Hid (∀ w1 W (e2 : List T) p3 c3, e2.Perm DP6 → WR6 w1 → Off (Fo Q G R) (V5.drew) w1 → OwnT W w.heap.size (.slice p3 (d ++ e2).length c3) (d ++ e2) → w1.grownBy W (Value.slice p d.length c).ownBlock →
            (∀ i, (Value.slice p3 (d ++ e2).length c3).ownBlock = some i → (Value.slice p d.length c).ownBlock = some i ∨ w1.heap.size ≤ i) → FIN6 (W.setCell ⟨D1, 0, none⟩ (.slice p3 (d ++ e2).length c3))) := Lib.hid (fun w1 W e2 p3 c3 h1 h2 h3 h4 h5 h6 => by
          rw [← hFIN6]
          rw [← hWR6] at h2
          rw [← hDP6] at h1
          exact HK5.out.step a1 a2 (vD_next htV.out a3 h1) a4 a5 a6 a7 h3 h2 h4 h5 h6)
        have HFIN6 := Lib.hid hFIN6
        clear a1 a2 a3 a4 a5 a6 a7 hFIN6 hWR6 hDP6 hkw hb5 hns HCQ HCN HCS KBG
        refine wpIn_region_any (by kernel_rfl) ?_
        refine wpAnyIn_inv (fun listed a w2 => ∃ l0 l1 l2 l3 l4 l5 l6 v29 v30 v31 v32 v33 v34, listed = #[l0, l1, l2, l3, l4, l5, l6] ∧ a = { tmps := (.pointer (some ⟨Q, 0, none⟩) :: .int .u64 now :: .pointer (some ⟨bq, 0, none⟩) :: .pointer (some ⟨bn, 0, none⟩) :: .pointer (some ⟨D1, 0, none⟩) :: .pointer (some ⟨D2, 0, none⟩) :: .int .i64 (m : Nat) :: .int .i64 (i : Nat) :: .pointer (some ⟨Ns, 0, none⟩) :: .pointer (some ⟨Q, 0, none⟩) :: .func (.func 131) #[] #[.pointer (some ⟨Bq, 0, none⟩)] :: .int .i64 (m : Nat) :: .int .i64 (i : Nat) :: .pointer (some ⟨Q, 0, none⟩) :: .pointer (some ⟨Q, 0, none⟩) :: .pointer (some ⟨Q, 22, none⟩) :: .int .u64 s :: .int .i64 (m : Nat) :: .int .i64 (i : Nat) :: .pointer (some ⟨Q, 0, none⟩) :: .pointer (some ⟨Q, 0, none⟩) :: .pointer (some ⟨Q, 21, none⟩) :: .int .i64 (b : Nat) :: .int .u64 g :: .int .u64 now :: .bool false :: .int .i64 (m : Nat) :: .int .i64 (i : Nat) :: spV m i :: v29 :: v30 :: v31 :: v32 :: v33 :: v34 :: undef :: undef :: undef :: undef :: undef :: undef :: undef :: []).toArray, defers := [] } ∧ Jc w.heap.size (V5.drew) (Fo Q G R) D1 p c d DP6 WR6 FIN6 (.pointer (some ⟨Q, 0, none⟩)) (spV m i) (.int .u64 now) l0 l1 l2 l3 l4 l5 l6 v29 v30 v31 v32 v33 v34 w2) ?sz ?step ?fin _ _ _ _ (by decide) ⟨false, false, false, false, false, false, false, undef, undef, undef, undef, undef, undef, rfl, rfl, Jc.start2⟩
        case sz =>
          rintro listed a w2 ⟨l0, l1, l2, l3, l4, l5, l6, v29, v30, v31, v32, v33, v34, rfl, _⟩
          rfl
        case step =>
          rintro listed a w2 j o ⟨l0, l1, l2, l3, l4, l5, l6, v29, v30, v31, v32, v33, v34, rfl, ha, h⟩ hl ho hafter K hK
          match j, hl, ho with
          | 0, hl, ho =>
            obtain rfl : l0 = false := hl
            simp at ho
            subst ho
            have e4 : a.eval (.tmp 4) = .pointer (some ⟨D1, 0, none⟩) := by rw [ha]; rfl
            have hc := h.r0 HD6.out
            rw [if_pos (by simp [Region.wanted])]
            refine ⟨by first | exact fun f' hf' => trivial | simp [Oper.about], ?_⟩
            rw [Oper.semAt_plain _ _ _ (by intro c hc; cases hc)]
            have hk := hK (a.put (some 29) (.slice p d.length c)) _ ⟨true, l1, l2, l3, l4, l5, l6, _, v30, v31, v32, v33, v34, rfl, (by rw [ha]; rfl), h.t0⟩
            simp [go_sem] at e4
            simp [execOp, e4, go_sem, hc]
            exact hk
          | 1, hl, ho =>
            obtain rfl : l1 = false := hl
            simp at ho
            subst ho
            have e2 : a.eval (.tmp 2) = .pointer (some ⟨bq, 0, none⟩) := by rw [ha]; rfl
            have hw := h.a1
            subst hw
            rw [if_pos (by simp [Region.wanted])]
            refine ⟨by first | exact fun f' hf' => trivial | simp [Oper.about], ?_⟩
            rw [Oper.semAt_plain _ _ _ (by intro c hc; cases hc)]
            have hk := hK (a.put (some 30) (.pointer (some ⟨Q, 0, none⟩))) _ ⟨l0, true, l2, l3, l4, l5, l6, v29, _, v31, v32, v33, v34, rfl, (by rw [ha]; rfl), h.t1⟩
            simp [go_sem] at e2
            simp [execOp, e2, go_sem, b0]
            exact hk
          | 2, hl, ho =>
            obtain rfl : l2 = false := hl
            simp at ho
            subst ho
            have e8 : a.eval (.tmp 8) = .pointer (some ⟨Ns, 0, none⟩) := by rw [ha]; rfl
            have hw := h.a2
            subst hw
            rw [if_pos (by simp [Region.wanted])]
            refine ⟨by first | exact fun f' hf' => trivial | simp [Oper.about], ?_⟩
            rw [Oper.semAt_plain _ _ _ (by intro c hc; cases hc)]
            have hk := hK (a.put (some 31) (spV m i)) _ ⟨l0, l1, true, l3, l4, l5, l6, v29, v30, _, v32, v33, v34, rfl, (by rw [ha]; rfl), h.t2⟩
            simp [go_sem] at e8
            simp [execOp, e8, go_sem, bs0, bs1]
            exact hk
          | 3, hl, ho =>
            obtain rfl : l3 = false := hl
            simp at ho
            subst ho
            have e3 : a.eval (.tmp 3) = .pointer (some ⟨bn, 0, none⟩) := by rw [ha]; rfl
            have hw := h.a3
            subst hw
            rw [if_pos (by simp [Region.wanted])]
            refine ⟨by first | exact fun f' hf' => trivial | simp [Oper.about], ?_⟩
            rw [Oper.semAt_plain _ _ _ (by intro c hc; cases hc)]
            have hk := hK (a.put (some 32) (.int .u64 now)) _ ⟨l0, l1, l2, true, l4, l5, l6, v29, v30, v31, _, v33, v34, rfl, (by rw [ha]; rfl), h.t3⟩
            simp [go_sem] at e3
            simp [execOp, e3, go_sem, b1]
            exact hk
          | 4, hl, ho =>
            obtain rfl : l4 = false := hl
            simp at ho
            subst ho
            obtain rfl : l1 = true := hafter ⟨1, .data⟩ (by simp) rfl
            obtain rfl : l2 = true := hafter ⟨2, .data⟩ (by simp) rfl
            obtain rfl : l3 = true := hafter ⟨3, .data⟩ (by simp) rfl
            obtain rfl := h.c1 rfl
            obtain rfl := h.c2 rfl
            obtain rfl := h.c3 rfl
            have e30 : a.eval (.tmp 30) = .pointer (some ⟨Q, 0, none⟩) := by rw [ha]; rfl
            have e31 : a.eval (.tmp 31) = spV m i := by rw [ha]; rfl
            have e32 : a.eval (.tmp 32) = .int .u64 now := by rw [ha]; rfl
            have hw := h.wA rfl
            subst hw
            rw [if_pos (by simp [Region.wanted])]
            refine ⟨by first | exact fun f' hf' => trivial | simp [Oper.about], ?_⟩
            rw [Oper.semAt_plain _ _ _ (by intro c hc; cases hc)]
            simp [go_sem, spV] at e30 e31 e32
            simp [execOp, e30, e31, e32, go_sem]
            refine (CallsIn.inRound (F := Fence.wide) (n := 1) lp (callsIn_wide.2 KX6.out)).mono ?_
            rintro e w3 ⟨⟨e2, p2, c2, hd2, rfl, hown2⟩, hq2, ho2⟩
            exact hK (a.put (some 33) (.slice p2 e2.length c2)) w3 ⟨l0, true, true, true, true, l5, l6, v29, _, _, _, _, v34, rfl, (by rw [ha]; rfl), h.t4 hd2 (own_has hown2) hq2 ho2⟩
          | 5, hl, ho =>
            obtain rfl : l5 = false := hl
            simp at ho
            subst ho
            obtain rfl : l0 = true := hafter ⟨0, .data⟩ (by simp) rfl
            obtain rfl : l4 = true := hafter ⟨4, .data⟩ (by simp) rfl
            obtain rfl := h.c0 rfl
            obtain ⟨e2, p2, c2, rfl, q1, q2, q3, q4⟩ := h.wB rfl rfl
            have e29 : a.eval (.tmp 29) = .slice p d.length c := by rw [ha]; rfl
            have e33 : a.eval (.tmp 33) = .slice p2 e2.length c2 := by rw [ha]; rfl
            obtain ⟨v', w3, hrun, hown3, hgrow, hloc, hD3⟩ := HAP6.out w2 e2 p2 c2 q4 q1 q2
            obtain ⟨p3, c3, rfl, _⟩ := hown3.slice
            have hk := hK (a.put (some 34) (.slice p3 (d ++ e2).length c3)) w3 ⟨true, l1, l2, l3, true, true, l6, _, v30, v31, v32, _, _, rfl, (by rw [ha]; rfl), h.t5 q1 q3 q4 hown3 hgrow hloc hD3⟩
            rw [if_pos (by simp [Region.wanted])]
            refine ⟨fun f' hf' => trivial, ?_⟩
            rw [Oper.semAt_plain _ _ _ (by intro c hc; cases hc)]
            rw [List.length_append] at hk hrun
            simp [execOp, resolve, invoke, builtin, e29, e33, hrun, Result.andThen]
            exact hk
          | 6, hl, ho =>
            obtain rfl : l6 = false := hl
            simp at ho
            subst ho
            obtain rfl : l5 = true := hafter ⟨5, .data⟩ (by simp) rfl
            obtain ⟨w1, e2, p3, c3, rfl, q1, q2, q3, q4, q5, q6, q7⟩ := h.wC rfl rfl
            obtain ⟨hcD, hfD⟩ := box1 q7
            have e4 : a.eval (.tmp 4) = .pointer (some ⟨D1, 0, none⟩) := by rw [ha]; rfl
            have e34 : a.eval (.tmp 34) = .slice p3 (d ++ e2).length c3 := by rw [ha]; rfl
            have hk := hK (a.put none undef) (w2.setCell ⟨D1, 0, none⟩ (.slice p3 (d ++ e2).length c3)) ⟨l0, l1, l2, l3, l4, true, true, v29, v30, v31, v32, v33, _, rfl, (by rw [ha]; rfl), h.t6 (HFI6.out w1 w2 e2 p3 c3 q1 q2 q3 q4 q5 q6)⟩
            rw [if_pos (by simp [Region.wanted])]
            refine ⟨by simp [Oper.about], ?_⟩
            rw [Oper.semAt_plain _ _ _ (by intro c hc; cases hc)]
            simp [go_sem] at e4 e34
            rw [List.length_append] at hk
            simp [execOp, e4, e34, go_sem, hcD, hfD]
            exact hk
          | (j + 7), hl, ho => simp at ho
        case fin =>
          rintro listed a w6 ⟨l0, l1, l2, l3, l4, l5, l6, v29, v30, v31, v32, v33, v34, rfl, ha, h⟩ hr
          obtain rfl : l0 = true := by
            cases l0 with
            | true => rfl
            | false => exact absurd rfl (ready_not (j := 0) hr rfl (by intro e he hb; simp at he <;> (repeat' (rcases he with he | he)) <;> first | rfl | exact absurd hb (by decide)))
          obtain rfl : l1 = true := by
            cases l1 with
            | true => rfl
            | false => exact absurd rfl (ready_not (j := 1) hr rfl (by intro e he hb; simp at he <;> (repeat' (rcases he with he | he)) <;> first | rfl | exact absurd hb (by decide)))
          obtain rfl : l2 = true := by
            cases l2 with
            | true => rfl
            | false => exact absurd rfl (ready_not (j := 2) hr rfl (by intro e he hb; simp at he <;> (repeat' (rcases he with he | he)) <;> first | rfl | exact absurd hb (by decide)))
          obtain rfl : l3 = true := by
            cases l3 with
            | true => rfl
            | false => exact absurd rfl (ready_not (j := 3) hr rfl (by intro e he hb; simp at he <;> (repeat' (rcases he with he | he)) <;> first | rfl | exact absurd hb (by decide)))
          obtain rfl : l4 = true := by
            cases l4 with
            | true => rfl
            | false => exact absurd rfl (ready_not (j := 4) hr rfl (by intro e he hb; simp at he <;> (repeat' (rcases he with he | he)) <;> first | rfl | exact absurd hb (by decide)))
          obtain rfl : l5 = true := by
            cases l5 with
            | true => rfl
            | false => exact absurd rfl (ready_not (j := 5) hr rfl (by intro e he hb; simp at he <;> (repeat' (rcases he with he | he)) <;> first | rfl | exact absurd hb (by decide)))
          obtain rfl : l6 = true := by
            cases l6 with
            | true => rfl
            | false => exact absurd rfl (ready_not (j := 6) hr rfl (by intro e he hb; simp at he <;> (repeat' (rcases he with he | he)) <;> first | rfl | exact absurd hb (by decide)))
          obtain rfl := h.c0 rfl
          obtain rfl := h.c1 rfl
          obtain rfl := h.c2 rfl
          obtain rfl := h.c3 rfl
          have hfin := h.wD rfl
          subst ha
          clear h hr
          rw [← HFIN6.out] at hfin
          obtain ⟨hk6, hst6⟩ := hfin
          have HST6 := Lib.hid hst6
          have HK7' := Lib.hid hk6
          clear hk6 hst6 KX6 HAP6 HFI6 HD6 b0 b1 bs0 bs1
          show K6 _ _
          refine HK6 _ _ ?_
          try gi_wp2
          have HK7 := Lib.hid (HK7'.out.swap.bel (Bel.refl w6).drew)
          have hns6 : w6.heap[Ns]? = some (.cells #[.int .i64 (m : Nat), .int .i64 (i : Nat)] 109 (0, 0)) := (HST6.out.cl Ns _ _ HNS.out hnz (by decide) (by decide)).trans HNS.out
          have b0 : (w6.drew).cell? ⟨bq, 0, none⟩ = some (.pointer (some ⟨Q, 0, none⟩)) := (box1 HK7.out.cq).1
          have bs0 : (w6.drew).cell? ⟨Ns, 0, none⟩ = some (.int .i64 (m : Nat)) := (box2 hns6).1.1
          have bs1 : (w6.drew).cell? ⟨Ns, 1, none⟩ = some (.int .i64 (i : Nat)) := (box2 hns6).1.2
          obtain ⟨pp, dd, cc, p9, d9, c9, a1, a2, a3, a4, a5, a6, a7⟩ := HK7.out.du
          have htop : ∀ y ∈ l, y.a ≤ 18446744073709551615 := fun y hy => (htl y hy).2
          have HVN : Hid (leftL (lw b s) 18446744073709551615 t (leftL (lw b s) now t (vL (lw b s) Vs l)) = vL (lw b s) (Vs ++ [t]) l) := Lib.hid (vL_next htop)
          obtain ⟨DP7, hDP7⟩ : ∃ D, dueL (lw b s) 18446744073709551615 t (leftL (lw b s) now t (vL (lw b s) Vs l)) = D := ⟨_, rfl⟩
          obtain ⟨WR7, hWR7⟩ : ∃ F : World → Prop, (fun W => Wr W Q Z B G R P b s k (vL (lw b s) (Vs ++ [t]) l)) = F := ⟨_, rfl⟩
          obtain ⟨FIN7, hFIN7⟩ : ∃ F : World → Prop, (fun W => Kw w Q Z B G R P b s k now (vL (lw b s) (Vs ++ [t]) l) (vD (lw b s) now (Vs ++ [t]) l) (vC (lw b s) now (Vs ++ [t]) l) bq bn D1 D2 W ∧ Sty w.heap.size (w6.drew) W) = F := ⟨_, rfl⟩
          have HD7 : Hid (∀ W', Off (Fo Q G R) (w6.drew) W' → W'.cell? ⟨D2, 0, none⟩ = some (.slice pp dd.length cc)) := Lib.hid (fun W' ho => (box1 ((ho.block D2 (Array.getElem?_eq_some_iff.1 a1).1 (fun e => by have := fo_lt HK7.out.lw e; have := HK7.out.ge.2.2.1; omega)).trans a1)).1)
          have KX7 : Hid (Calls Tryz.prog 68 #[.pointer (some ⟨Q, 0, none⟩), spV m i, .int .u64 18446744073709551615] (w6.drew) fun e w' => (∃ d p c, d.Perm DP7 ∧ e = .returned (.slice p d.length c) ∧ OwnT w' (w6.drew).heap.size (.slice p d.length c) d) ∧ WR7 w' ∧ Off (Fo Q G R) (w6.drew) w') := Lib.hid (by
            have h := rcut_any (v := m) (u := i) 18446744073709551615 (w6.drew) HK7.out.wh hv
            rw [hlsn, hDP7, HVN.out] at h
            rw [← hWR7]
            exact h)
          have HAP7 : Hid (∀ W (e2 : List T) p2 c2, Off (Fo Q G R) (w6.drew) W → e2.Perm DP7 → Has W p2 e2 → ∃ v' w3, (Builtin.append_ #[29, 29] 29 #[.slice pp dd.length cc, .slice p2 e2.length c2]).run Tryz.prog W = .ok v' w3 ∧ OwnT w3 w.heap.size v' (dd ++ e2) ∧ W.grownBy w3 (Value.slice pp dd.length cc).ownBlock ∧
              (∀ i, v'.ownBlock = some i → (Value.slice pp dd.length cc).ownBlock = some i ∨ W.heap.size ≤ i) ∧ w3.heap[D2]? = some (.cells #[.slice pp dd.length cc] 29 (0, 0))) := Lib.hid (fun W e2 p2 c2 ho he hh => by
            have hown : OwnT W w.heap.size (.slice pp dd.length cc) dd := a2.off2 ho (fun i e e2 => by have := (a2.lt i e).1; have := fo_lt HK7.out.lw e2; omega)
            have hD : W.heap[D2]? = some (.cells #[.slice pp dd.length cc] 29 (0, 0)) := (ho.block D2 (Array.getElem?_eq_some_iff.1 a1).1 (fun e => by have := fo_lt HK7.out.lw e; have := HK7.out.ge.2.2.1; omega)).trans a1
            have hl1 : dd.length ≤ 1024 := hlen a3
            have hl2 : e2.length ≤ 1024 := by
              rw [← hDP7] at he
              unfold dueL leftL vL at he
              rw [List.filter_filter, List.filter_filter] at he
              exact hlen he
            obtain ⟨v', w3, r1, r2, r3, r4⟩ := append_at W 29 w.heap.size _ dd hown p2 c2 e2 hh (by omega) (by have := HK7.out.off.size; have := ho.size; omega)
            refine ⟨v', w3, r1, r2, r3, r4, (r3.block D2 (Array.getElem?_eq_some_iff.1 hD).1 (fun e => ?_)).trans hD⟩
            obtain ⟨cx, hcx⟩ := hown.cells e.symm
            exact ty_ne hD hcx (by decide) rfl)
          have HFI7 : Hid (∀ w1 W (e2 : List T) p3 c3, e2.Perm DP7 → WR7 w1 → Off (Fo Q G R) (w6.drew) w1 → OwnT W w.heap.size (.slice p3 (dd ++ e2).length c3) (dd ++ e2) → w1.grownBy W (Value.slice pp dd.length cc).ownBlock →
              (∀ i, (Value.slice p3 (dd ++ e2).length c3).ownBlock = some i → (Value.slice pp dd.length cc).ownBlock = some i ∨ w1.heap.size ≤ i) → FIN7 (W.setCell ⟨D2, 0, none⟩ (.slice p3 (dd ++ e2).length c3))) := Lib.hid (fun w1 W e2 p3 c3 h1 h2 h3 h4 h5 h6 => by
            rw [← hFIN7]
            rw [← hWR7] at h2
            rw [← hDP7] at h1
            have hst := HK7.out.step a1 a2 (vC_next htV.out htop a3 h1) a4 a5 a6 a7 h3 h2 h4 h5 h6
            exact ⟨hst.1.swap, hst.2⟩)
          have HFIN7 := Lib.hid hFIN7
          clear a1 a2 a3 a4 a5 a6 a7 hFIN7 hWR7 hDP7 hns6 HK6
          refine wpIn_region_any (by kernel_rfl) ?_
          refine wpAnyIn_inv (fun listed a w2 => ∃ l0 l1 l2 l3 l4 l5 v35 v36 v37 v38 v39, listed = #[l0, l1, l2, l3, l4, l5] ∧ a = { tmps := (.pointer (some ⟨Q, 0, none⟩) :: .int .u64 now :: .pointer (some ⟨bq, 0, none⟩) :: .pointer (some ⟨bn, 0, none⟩) :: .pointer (some ⟨D1, 0, none⟩) :: .pointer (some ⟨D2, 0, none⟩) :: .int .i64 (m : Nat) :: .int .i64 (i : Nat) :: .pointer (some ⟨Ns, 0, none⟩) :: .pointer (some ⟨Q, 0, none⟩) :: .func (.func 131) #[] #[.pointer (some ⟨Bq, 0, none⟩)] :: .int .i64 (m : Nat) :: .int .i64 (i : Nat) :: .pointer (some ⟨Q, 0, none⟩) :: .pointer (some ⟨Q, 0, none⟩) :: .pointer (some ⟨Q, 22, none⟩) :: .int .u64 s :: .int .i64 (m : Nat) :: .int .i64 (i : Nat) :: .pointer (some ⟨Q, 0, none⟩) :: .pointer (some ⟨Q, 0, none⟩) :: .pointer (some ⟨Q, 21, none⟩) :: .int .i64 (b : Nat) :: .int .u64 g :: .int .u64 now :: .bool false :: .int .i64 (m : Nat) :: .int .i64 (i : Nat) :: spV m i :: .slice p d.length c :: .pointer (some ⟨Q, 0, none⟩) :: spV m i :: .int .u64 now :: v33 :: v34 :: v35 :: v36 :: v37 :: v38 :: v39 :: undef :: undef :: []).toArray, defers := [] } ∧ Jc w.heap.size (w6.drew) (Fo Q G R) D2 pp cc dd DP7 WR7 FIN7 (.pointer (some ⟨Q, 0, none⟩)) (spV m i) (.int .u64 now) l0 l1 l2 true l3 l4 l5 v35 v36 v37 (.int .u64 now) v38 v39 w2) ?sz ?step ?fin _ _ _ _ (by decide) ⟨false, false, false, false, false, false, undef, undef, undef, undef, undef, rfl, rfl, Jc.start⟩
          case sz =>
            rintro listed a w2 ⟨l0, l1, l2, l3, l4, l5, v35, v36, v37, v38, v39, rfl, _⟩
            rfl
          case step =>
            rintro listed a w2 j o ⟨l0, l1, l2, l3, l4, l5, v35, v36, v37, v38, v39, rfl, ha, h⟩ hl ho hafter K hK
            match j, hl, ho with
            | 0, hl, ho =>
              obtain rfl : l0 = false := hl
              simp at ho
              subst ho
              have e5 : a.eval (.tmp 5) = .pointer (some ⟨D2, 0, none⟩) := by rw [ha]; rfl
              have hc := h.r0 HD7.out
              rw [if_pos (by simp [Region.wanted])]
              refine ⟨by first | exact fun f' hf' => trivial | simp [Oper.about], ?_⟩
              rw [Oper.semAt_plain _ _ _ (by intro c hc; cases hc)]
              have hk := hK (a.put (some 35) (.slice pp dd.length cc)) _ ⟨true, l1, l2, l3, l4, l5, _, v36, v37, v38, v39, rfl, (by rw [ha]; rfl), h.t0⟩
              simp [go_sem] at e5
              simp [execOp, e5, go_sem, hc]
              exact hk
            | 1, hl, ho =>
              obtain rfl : l1 = false := hl
              simp at ho
              subst ho
              have e2 : a.eval (.tmp 2) = .pointer (some ⟨bq, 0, none⟩) := by rw [ha]; rfl
              have hw := h.a1
              subst hw
              rw [if_pos (by simp [Region.wanted])]
              refine ⟨by first | exact fun f' hf' => trivial | simp [Oper.about], ?_⟩
              rw [Oper.semAt_plain _ _ _ (by intro c hc; cases hc)]
              have hk := hK (a.put (some 36) (.pointer (some ⟨Q, 0, none⟩))) _ ⟨l0, true, l2, l3, l4, l5, v35, _, v37, v38, v39, rfl, (by rw [ha]; rfl), h.t1⟩
              simp [go_sem] at e2
              simp [execOp, e2, go_sem, b0]
              exact hk
            | 2, hl, ho =>
              obtain rfl : l2 = false := hl
              simp at ho
              subst ho
              have e8 : a.eval (.tmp 8) = .pointer (some ⟨Ns, 0, none⟩) := by rw [ha]; rfl
              have hw := h.a2
              subst hw
              rw [if_pos (by simp [Region.wanted])]
              refine ⟨by first | exact fun f' hf' => trivial | simp [Oper.about], ?_⟩
              rw [Oper.semAt_plain _ _ _ (by intro c hc; cases hc)]
              have hk := hK (a.put (some 37) (spV m i)) _ ⟨l0, l1, true, l3, l4, l5, v35, v36, _, v38, v39, rfl, (by rw [ha]; rfl), h.t2⟩
              simp [go_sem] at e8
              simp [execOp, e8, go_sem, bs0, bs1]
              exact hk
            | 3, hl, ho =>
              obtain rfl : l3 = false := hl
              simp at ho
              subst ho
              obtain rfl : l1 = true := hafter ⟨1, .data⟩ (by simp) rfl
              obtain rfl : l2 = true := hafter ⟨2, .data⟩ (by simp) rfl
              obtain rfl := h.c1 rfl
              obtain rfl := h.c2 rfl
              have e36 : a.eval (.tmp 36) = .pointer (some ⟨Q, 0, none⟩) := by rw [ha]; rfl
              have e37 : a.eval (.tmp 37) = spV m i := by rw [ha]; rfl
              have hw := h.wA rfl
              subst hw
              rw [if_pos (by simp [Region.wanted])]
              refine ⟨by first | exact fun f' hf' => trivial | simp [Oper.about], ?_⟩
              rw [Oper.semAt_plain _ _ _ (by intro c hc; cases hc)]
              simp [go_sem, spV] at e36 e37
              simp [execOp, e36, e37, go_sem]
              refine (CallsIn.inRound (F := Fence.wide) (n := 1) lp (callsIn_wide.2 KX7.out)).mono ?_
              rintro e w3 ⟨⟨e2, p2, c2, hd2, rfl, hown2⟩, hq2, ho2⟩
              exact hK (a.put (some 38) (.slice p2 e2.length c2)) w3 ⟨l0, true, true, true, l4, l5, v35, _, _, _, v39, rfl, (by rw [ha]; rfl), h.t4 hd2 (own_has hown2) hq2 ho2⟩
            | 4, hl, ho =>
              obtain rfl : l4 = false := hl
              simp at ho
              subst ho
              obtain rfl : l0 = true := hafter ⟨0, .data⟩ (by simp) rfl
              obtain rfl : l3 = true := hafter ⟨3, .data⟩ (by simp) rfl
              obtain rfl := h.c0 rfl
              obtain ⟨e2, p2, c2, rfl, q1, q2, q3, q4⟩ := h.wB rfl rfl
              have e35 : a.eval (.tmp 35) = .slice pp dd.length cc := by rw [ha]; rfl
              have e38 : a.eval (.tmp 38) = .slice p2 e2.length c2 := by rw [ha]; rfl
              obtain ⟨v', w3, hrun, hown3, hgrow, hloc, hD3⟩ := HAP7.out w2 e2 p2 c2 q4 q1 q2
              obtain ⟨p3, c3, rfl, _⟩ := hown3.slice
              have hk := hK (a.put (some 39) (.slice p3 (dd ++ e2).length c3)) w3 ⟨true, l1, l2, true, true, l5, _, v36, v37, _, _, rfl, (by rw [ha]; rfl), h.t5 q1 q3 q4 hown3 hgrow hloc hD3⟩
              rw [if_pos (by simp [Region.wanted])]
              refine ⟨fun f' hf' => trivial, ?_⟩
              rw [Oper.semAt_plain _ _ _ (by intro c hc; cases hc)]
              rw [List.length_append] at hk hrun
              simp [execOp, resolve, invoke, builtin, e35, e38, hrun, Result.andThen]
              exact hk
            | 5, hl, ho =>
              obtain rfl : l5 = false := hl
              simp at ho
              subst ho
              obtain rfl : l4 = true := hafter ⟨4, .data⟩ (by simp) rfl
              obtain ⟨w1, e2, p3, c3, rfl, q1, q2, q3, q4, q5, q6, q7⟩ := h.wC rfl rfl
              obtain ⟨hcD, hfD⟩ := box1 q7
              have e5 : a.eval (.tmp 5) = .pointer (some ⟨D2, 0, none⟩) := by rw [ha]; rfl
              have e39 : a.eval (.tmp 39) = .slice p3 (dd ++ e2).length c3 := by rw [ha]; rfl
              have hk := hK (a.put none undef) (w2.setCell ⟨D2, 0, none⟩ (.slice p3 (dd ++ e2).length c3)) ⟨l0, l1, l2, l3, true, true, v35, v36, v37, v38, _, rfl, (by rw [ha]; rfl), h.t6 (HFI7.out w1 w2 e2 p3 c3 q1 q2 q3 q4 q5 q6)⟩
              rw [if_pos (by simp [Region.wanted])]
              refine ⟨by simp [Oper.about], ?_⟩
              rw [Oper.semAt_plain _ _ _ (by intro c hc; cases hc)]
              simp [go_sem] at e5 e39
              rw [List.length_append] at hk
              simp [execOp, e5, e39, go_sem, hcD, hfD]
              exact hk
            | (j + 6), hl, ho => simp at ho
          case fin =>
            rintro listed a w7 ⟨l0, l1, l2, l3, l4, l5, v35, v36, v37, v38, v39, rfl, ha, h⟩ hr
            obtain rfl : l0 = true := by
              cases l0 with
              | true => rfl
              | false => exact absurd rfl (ready_not (j := 0) hr rfl (by intro e he hb; simp at he <;> (repeat' (rcases he with he | he)) <;> first | rfl | exact absurd hb (by decide)))
            obtain rfl : l1 = true := by
              cases l1 with
              | true => rfl
              | false => exact absurd rfl (ready_not (j := 1) hr rfl (by intro e he hb; simp at he <;> (repeat' (rcases he with he | he)) <;> first | rfl | exact absurd hb (by decide)))
            obtain rfl : l2 = true := by
              cases l2 with
              | true => rfl
              | false => exact absurd rfl (ready_not (j := 2) hr rfl (by intro e he hb; simp at he <;> (repeat' (rcases he with he | he)) <;> first | rfl | exact absurd hb (by decide)))
            obtain rfl : l3 = true := by
              cases l3 with
              | true => rfl
              | false => exact absurd rfl (ready_not (j := 3) hr rfl (by intro e he hb; simp at he <;> (repeat' (rcases he with he | he)) <;> first | rfl | exact absurd hb (by decide)))
            obtain rfl : l4 = true := by
              cases l4 with
              | true => rfl
              | false => exact absurd rfl (ready_not (j := 4) hr rfl (by intro e he hb; simp at he <;> (repeat' (rcases he with he | he)) <;> first | rfl | exact absurd hb (by decide)))
            obtain rfl : l5 = true := by
              cases l5 with
              | true => rfl
              | false => exact absurd rfl (ready_not (j := 5) hr rfl (by intro e he hb; simp at he <;> (repeat' (rcases he with he | he)) <;> first | rfl | exact absurd hb (by decide)))
            obtain rfl := h.c0 rfl
            obtain rfl := h.c1 rfl
            obtain rfl := h.c2 rfl
            have hfin := h.wD rfl
            subst ha
            clear h hr
            rw [← HFIN7.out] at hfin
            obtain ⟨hk7, hst7⟩ := hfin
            have hVT : (pre ++ [(m, i)]).map (cod b) = Vs ++ [t] := by rw [List.map_append, HVS.out, List.map_cons, HT.out]; rfl
            have hno : ∀ j ob, W4.heap.size ≤ j → V.heap[j]? = some ob → ob.isCells = false → w7.heap[j]? = some ob := fun j ob hj e hc => by
              have hz := HDl.out.2
              have e5 : (V5.drew).heap[j]? = some ob := (HB5.out.block j (Array.getElem?_eq_some_iff.1 e).1 (fun e => e)).trans e
              have e6 := HST6.out.no j ob e5 (by omega) hc
              exact hst7.no j ob e6 (by omega) hc
            have hbx : w7.heap[Bq]? = some (.cells #[.pointer (some ⟨Q, 0, none⟩)] 61 (0, 0)) := by
              have e5 : (V5.drew).heap[Bq]? = some (.cells #[.pointer (some ⟨Q, 0, none⟩)] 61 (0, 0)) := HB5.out.heap HI.out.bx
              have e6 := (HST6.out.cl Bq _ _ e5 HI.out.gb (by decide) (by decide)).trans e5
              exact (hst7.cl Bq _ _ e6 HI.out.gb (by decide) (by decide)).trans e6
            refine ⟨⟨?_, hno⟩, trivial, hpx, fun y hy => ?_, by rw [hVT]; exact hk7, hbx, HI.out.gb⟩
            · have h1 := HB5.out.size
              have h2 := HST6.out.sz
              have h3 := hst7.sz
              exact Nat.le_trans h1 (Nat.le_trans h2 h3)
            · rcases List.mem_append.1 hy with hy | hy
              · exact HI.out.le y hy
              · simp at hy
                subst hy
                have := HG.out
                simp only
                omega
end
end Go.Proofs.YtdoceldofkaapaaGreatDoor
