/-
  Contracts of a queue of places: pending, Len, All.
  A wheel in memory: a block of its own, whose first cell points at its timers in lists of places.
-/
import Derived.Test.YtdoceldofkaapaaDoorXal
import Derived.Test.YtdoceldofkaapaaDoorXab
import Derived.Test.YtdoceldofkaapaaDoorXae
set_option linter.unusedVariables false
set_option linter.unusedSimpArgs false
namespace Go.Proofs.YtdoceldofkaapaaDoor
open Go.RowKit
/-- Those that pend, place by place. -/
def pnd (l : List T) (n : Nat) : List T := (List.range n).filterMap fun i => fnd l (i : Nat)
theorem pnd_zero (l : List T) : pnd l 0 = [] := rfl
theorem pnd_none {l : List T} {n : Nat} (h : fnd l (n : Nat) = none) : pnd l (n + 1) = pnd l n := by unfold pnd; rw [List.range_succ, List.filterMap_append]; simp [h]
theorem pnd_some {l : List T} {n : Nat} {x : T} (h : fnd l (n : Nat) = some x) : pnd l (n + 1) = pnd l n ++ [x] := by unfold pnd; rw [List.range_succ, List.filterMap_append]; simp [h]
theorem pnd_len (l : List T) (n : Nat) : (pnd l n).length ≤ n := by
  unfold pnd
  have := List.length_filterMap_le (fun i : Nat => fnd l (i : Nat)) (List.range n)
  simpa using this
section
variable {Z B G R P L : Nat} {lo : T → Nat} {ls : Ls} {r : Nat → T} {l : List T}
theorem Is.lnd (hi : Is P L lo ls r l) : l.Nodup := by
  have h1 := hi.nd
  unfold pls List.Nodup at h1
  rw [List.pairwise_map] at h1
  exact h1.imp (fun hab e => hab (by rw [e]))
theorem Is.pnd_perm (hi : Is P L lo ls r l) : (pnd l P).Perm l := by
  refine (List.perm_ext_iff_of_nodup ?_ hi.lnd).2 fun x => ?_
  · unfold pnd List.Nodup
    rw [List.pairwise_filterMap]
    refine (List.nodup_range (n := P)).imp ?_
    intro a b hab x hx y hy e
    subst e
    have h1 := (fnd_some hx).2
    have h2 := (fnd_some hy).2
    omega
  · unfold pnd
    rw [List.mem_filterMap]
    constructor
    · rintro ⟨i, _, hx⟩; exact (fnd_some hx).1
    · intro hx; exact ⟨pl x, by simpa using (hi.tm x hx).2.1, hi.find hx⟩
set_option maxHeartbeats 1000000 in
set_option maxRecDepth 100000 in
theorem pending_any (w : World) (q : Qp w Z B G R P L lo ls r l) :
    Calls Tryd.prog 24 #[.pointer (some ⟨Z, 0, none⟩)] w fun e w' => OutN w w' e (pnd l P) ∧ Bel w w' := by
  have HA := Lib.hid q
  obtain ⟨c0, c1⟩ := q.head
  have lZ := q.lt.1
  have hP := q.hP
  have K1 : Hid (∀ (i : Nat) w', Bel w w' → Calls Tryd.prog 23 #[.pointer (some ⟨Z, 0, none⟩), .int .i64 i] w' fun e w2 => e = .returned (ansT (fnd l (i : Nat))) ∧ Bel w' w2) := Lib.hid (fun i w' hb => get_any (i : Nat) w' (q.bel hb))
  clear q
  go_enter Tryd.func24, Tryd.ntmps24
  go_wp2
  clear c0 c1
  go_loopw [3, 4, 5, 6, 12] (fun o _ _ _ v wr => ∃ m : Nat, v = .int .i64 m ∧ m ≤ P ∧ OwnT wr w.heap.size o (pnd l m) ∧ Bel w wr) (fun _ _ _ _ v _ => P - (intOf v).toNat)
  case atStart => exact ⟨0, rfl, by omega, OwnT.nil _ _, Bel.refl _⟩
  case round =>
    obtain ⟨m, rfl, hm, ho, hb⟩ := hrel
    have HO := Lib.hid ho
    have HB := Lib.hid hb
    clear ho hb
    have HTL := Lib.hid (pnd_len l m)
    by_cases hlt : m < P
    · have KS := Lib.hid (K1.out m wr HB.out)
      cases hf : fnd l (m : Nat) with
      | none =>
        rw [hf] at KS
        have HT := Lib.hid (pnd_none hf)
        clear hf
        unfold ansT at KS
        go_wp2_with fail
        with_reducible refine KS.out.mono ?_
        rintro e w1 ⟨rfl, hb1⟩
        have HO1 := Lib.hid (HO.out.bel (hb1.alloc #[.int .u64 0, .int .u64 0, .int .i64 0] 41))
        have HB1 := Lib.hid (HB.out.trans (hb1.alloc #[.int .u64 0, .int .u64 0, .int .i64 0] 41))
        clear hb1
        go_wp2
        go_roundw
        case rel => exact ⟨m + 1, by go_num, by omega, by rw [HT.out]; exact HO1.out, HB1.out⟩
        case measure => simp [intOf]; omega
      | some x =>
        rw [hf] at KS
        have HT := Lib.hid (pnd_some hf)
        clear hf
        unfold ansT at KS
        simp only at KS
        go_wp2_with fail
        with_reducible refine KS.out.mono ?_
        rintro e w1 ⟨rfl, hb1⟩
        have HO1 := Lib.hid (HO.out.bel (hb1.alloc #[.int .u64 x.a, .int .u64 x.s, .int .i64 x.p] 41))
        have HH : Hid (Has ((w1.alloc (.cells #[.int .u64 x.a, .int .u64 x.s, .int .i64 x.p] 41)).alloc (.cells #[.int .u64 x.a, .int .u64 x.s, .int .i64 x.p] 41)) (some ⟨w1.heap.size + 1, 0, none⟩) [x]) := Lib.hid (by have := has_one (w1.alloc (.cells #[.int .u64 x.a, .int .u64 x.s, .int .i64 x.p] 41)) x; rw [World.size_alloc] at this; exact this)
        have HZ : Hid (w.heap.size ≤ w1.heap.size) := Lib.hid (HB.out.trans hb1).size
        have HB1 := Lib.hid (HB.out.trans (hb1.alloc #[.int .u64 x.a, .int .u64 x.s, .int .i64 x.p] 41))
        clear hb1
        go_wp2_with (at_builtin; refine wpList_append_any rfl (.tmp 22) (.tmp 24) rfl w.heap.size _ (pnd l m) rfl (HO1.out.bel ((Bel.refl _).alloc _ _)) _ _ _ [x] rfl rfl HH.out (by have := HTL.out; omega) (by have := HZ.out; simp; omega) ?_)
        intro v' w2 hown hgrow hnil
        have HO2 : Hid (OwnT w2 w.heap.size v' (pnd l (m + 1))) := Lib.hid (by rw [HT.out]; exact hown)
        have HB2 : Hid (Bel w w2) := Lib.hid ((HB1.out.alloc _ _).grown hgrow (fun k hk => .inr (HO1.out.lt k hk).1))
        clear hown hgrow hnil
        go_wp2
        go_roundw
        case rel => exact ⟨m + 1, by go_num, by omega, HO2.out, HB2.out⟩
        case measure => simp [intOf]; omega
    · obtain rfl : m = P := by omega
      go_wp2
      go_ret
      exact ⟨HO.out.outN (w := w) (Nat.le_refl _), HB.out⟩
theorem count_any (w : World) (q : Qp w Z B G R P L lo ls r l) :
    Calls Tryd.prog 9 #[.pointer (some ⟨Z, 0, none⟩)] w fun e w' => e = .returned (.int .i64 l.length) ∧ Bel w w' := by
  have K1 := Lib.hid (pending_any w q)
  have HE := Lib.hid q.is.pnd_perm.length_eq
  have lZ := q.lt.1
  clear q
  go_enter Tryd.func9, Tryd.ntmps9
  go_wp2_with fail
  with_reducible refine K1.out.mono ?_
  rintro e w1 ⟨⟨p, c, rfl, hc, hl⟩, hb⟩
  rw [HE.out] at *
  clear hl
  go_wp2
  go_ret
  exact ⟨rfl, hb⟩
theorem all_any (w : World) (q : Qp w Z B G R P L lo ls r l) :
    Calls Tryd.prog 20 #[.pointer (some ⟨Z, 0, none⟩)] w fun e w' => OutN w w' e l ∧ Bel w w' := by
  have K1 := Lib.hid (pending_any w q)
  have hp := q.is.pnd_perm
  have HE := Lib.hid hp.length_eq
  have HS : Hid (srt (pnd l P) = l) := Lib.hid (srt_of q.is.so hp.symm).symm
  have hlen : l.length ≤ 1024 := Nat.le_trans q.is.len q.hP
  clear q hp
  go_enter Tryd.func20, Tryd.ntmps20
  go_wp2_with fail
  with_reducible refine K1.out.mono ?_
  rintro e w1 ⟨⟨p, c, rfl, hc, hl⟩, hb⟩
  have K2 := Lib.hid (sort_any p _ c (pnd l P) w1 rfl (by rw [HE.out]; omega) hl.has)
  have HB := Lib.hid hb
  clear hl hb
  go_wp2_with fail
  with_reducible refine K2.out.mono ?_
  rintro e w2 ⟨⟨p2, c2, rfl, hc2, hl2⟩, hb2⟩
  rw [HS.out] at *
  have HL2 : Hid (Lies (old w) w2 p2 (encs l)) := Lib.hid (hl2.mono (fun b _ e => Nat.lt_of_lt_of_le e HB.out.size))
  have HB2 := Lib.hid (HB.out.trans hb2)
  clear hl2 hb2
  go_wp2
  go_ret
  exact ⟨⟨p2, c2, rfl, hc2, HL2.out⟩, HB2.out⟩
end
end Go.Proofs.YtdoceldofkaapaaDoor
namespace Go.Proofs.YtdoceldofkaapaaDoor
open Go.RowKit
/-- A wheel at block Q, of the type t, its cells cs; its timers l at Z. -/
structure Qw (w : World) (Q Z B G R P L : Nat) (lo : T → Nat) (ls : Ls) (r : Nat → T) (t : TypeId) (cs : List Value) (l : List T) : Prop where
  hQ : w.heap[Q]? = some (.cells cs.toArray t (0, 0))
  ql : Qp w Z B G R P L lo ls r l
  hz : cs[0]? = some (.pointer (some ⟨Z, 0, none⟩))
  nt : t ≠ 78 ∧ t ≠ 103 ∧ t ≠ 100 ∧ t ≠ 41
section
variable {w w' : World} {Q Z B G R P L : Nat} {lo lo' : T → Nat} {ls ls' : Ls} {r r' : Nat → T} {t : TypeId} {cs cs' : List Value} {l l' : List T}
theorem Qw.ltQ (q : Qw w Q Z B G R P L lo ls r t cs l) : Q < w.heap.size := (Array.getElem?_eq_some_iff.1 q.hQ).1
theorem Qw.lt (q : Qw w Q Z B G R P L lo ls r t cs l) : Q < w.heap.size ∧ Z < w.heap.size ∧ B < w.heap.size ∧ G < w.heap.size ∧ R < w.heap.size := ⟨q.ltQ, q.ql.lt⟩
theorem Qw.ne (q : Qw w Q Z B G R P L lo ls r t cs l) : ¬ Q = Z ∧ ¬ Q = B ∧ ¬ Q = G ∧ ¬ Q = R := by
  obtain ⟨⟨g, q1, q2⟩, _⟩ := q.ql
  obtain ⟨n1, n2, n3, n4⟩ := q.nt
  exact ⟨ne_of_ty q.hQ q1.hZ n1, ne_of_ty q.hQ q1.ch.hB n2, ne_of_ty q.hQ q1.ch.hG n3, ne_of_ty q.hQ q1.hR n4⟩
theorem Qw.off {f : Nat → Prop} (q : Qw w Q Z B G R P L lo ls r t cs l) (k : Off f w w') (hq : ¬ f Q) (hz : ¬ f Z) (hb : ¬ f B) (hg : ¬ f G) (hr : ¬ f R) : Qw w' Q Z B G R P L lo ls r t cs l :=
  ⟨(k.block Q q.ltQ hq).trans q.hQ, q.ql.off k hz hb hg hr, q.hz, q.nt⟩
theorem Qw.bel (q : Qw w Q Z B G R P L lo ls r t cs l) (k : Bel w w') : Qw w' Q Z B G R P L lo ls r t cs l := q.off k (fun e => e) (fun e => e) (fun e => e) (fun e => e) (fun e => e)
theorem Qw.cell (q : Qw w Q Z B G R P L lo ls r t cs l) {i : Nat} {v : Value} (hv : cs[i]? = some v) : w.cell? ⟨Q, i, none⟩ = some v := by
  rw [cell_of_row w Q _ _ t (0, 0) q.hQ, List.getElem?_toArray]; exact hv
theorem Qw.froz (q : Qw w Q Z B G R P L lo ls r t cs l) (j : Nat) : w.frozen? ⟨Q, j, none⟩ = false := frozen_of_row w Q j _ t q.hQ
/-- Its timers have turned. -/
theorem Qw.put (q : Qw w Q Z B G R P L lo ls r t cs l) (k : Off (Fo2 G R) w w') (h : Qp w' Z B G R P L lo' ls' r' l') : Qw w' Q Z B G R P L lo' ls' r' t cs l' :=
  ⟨(k.block Q q.ltQ (fun e => by obtain ⟨_, _, n3, n4⟩ := q.ne; rcases e with e | e; exact n3 e; exact n4 e)).trans q.hQ, h, q.hz, q.nt⟩
/-- One of its own cells is another one. -/
theorem Qw.own (q : Qw w Q Z B G R P L lo ls r t cs l) {i : Nat} {v : Value} (hi : i ≠ 0) (he : cs.set i v = cs') : Qw (w.setCell ⟨Q, i, none⟩ v) Q Z B G R P L lo ls r t cs' l ∧ Off (Only Q) w (w.setCell ⟨Q, i, none⟩ v) := by
  have o1 : Off (Only Q) w (w.setCell ⟨Q, i, none⟩ v) := Off.setCell (Off.refl (Only Q) w) (p := ⟨Q, i, none⟩) (.inl rfl) _
  obtain ⟨n1, n2, n3, n4⟩ := q.ne
  refine ⟨⟨?_, q.ql.off o1 (fun e => n1 e.symm) (fun e => n2 e.symm) (fun e => n3 e.symm) (fun e => n4 e.symm), ?_, q.nt⟩, o1⟩
  · have e := heap_setCell_same w Q i cs.toArray t v q.hQ
    rw [List.setIfInBounds_toArray, he] at e
    exact e
  · rw [← he, List.getElem?_set_ne (fun e => hi e)]; exact q.hz
theorem Qw.other (q : Qw w Q Z B G R P L lo ls r t cs l) (he : ∀ x ∈ l, lo' x = lo x) : Qw w Q Z B G R P L lo' ls r t cs l :=
  ⟨q.hQ, ⟨q.ql.ex, q.ql.is.other he, q.ql.hP, q.ql.hL⟩, q.hz, q.nt⟩
end
/-- What a call may turn: the wheel's own block, the lists' ring, the row of timers. -/
def Fo (Q G R : Nat) : Nat → Prop := fun k => k = Q ∨ k = G ∨ k = R
/-- The blocks of a wheel. -/
def Fo5 (Q Z B G R : Nat) : Nat → Prop := fun k => k = Q ∨ k = Z ∨ k = B ∨ k = G ∨ k = R
theorem Off.foG {G R Q : Nat} {a b : World} (h : Off (Fo2 G R) a b) : Off (Fo Q G R) a b := h.mono (fun _ _ e => .inr e)
theorem Off.foQ {G R Q : Nat} {a b : World} (h : Off (Only Q) a b) : Off (Fo Q G R) a b := h.mono (fun _ _ e => .inl e)
/-- What else holds of a wheel. -/
structure Rest (w : World) (Q Z B G R b : Nat) (s : Int) (l : List T) : Prop where
  hb : 1 ≤ b ∧ b ≤ 6
  ts : Tk s
  tl : ∀ t ∈ l, Tk t.a
  tab : Bm.Tab w
  zs : 0 < Q ∧ 0 < Z ∧ 0 < B ∧ 0 < G ∧ 0 < R
section
variable {w w' : World} {Q Z B G R b : Nat} {s : Int} {l m : List T}
theorem Rest.off {f : Nat → Prop} (h : Rest w Q Z B G R b s l) (k : Off f w w') (h0 : ¬ f 0) : Rest w' Q Z B G R b s l :=
  ⟨h.hb, h.ts, h.tl, fun j hj => k.cell (p := ⟨0, j, none⟩) h0 (h.tab j hj), h.zs⟩
theorem Rest.sub (h : Rest w Q Z B G R b s l) (hm : ∀ t ∈ m, t ∈ l) : Rest w Q Z B G R b s m :=
  ⟨h.hb, h.ts, fun t ht => h.tl t (hm t ht), h.tab, h.zs⟩
theorem Rest.fo0 (h : Rest w Q Z B G R b s l) : ¬ Fo Q G R 0 := fun e => by obtain ⟨z1, z2, z3, z4, z5⟩ := h.zs; rcases e with e | e | e <;> omega
theorem Rest.fo2 (h : Rest w Q Z B G R b s l) : ¬ Fo2 G R 0 := fun e => h.fo0 (.inr e)
theorem Rest.only (h : Rest w Q Z B G R b s l) : ¬ Only Q 0 := fun e => h.fo0 (.inl e)
end
end Go.Proofs.YtdoceldofkaapaaDoor
