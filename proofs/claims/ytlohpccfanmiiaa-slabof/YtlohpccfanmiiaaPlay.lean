/-
  Contract of the law's play: a slab and the document's own go through acts, and tell the same.
-/
import Derived.Test.YtlohpccfanmiiaaTkn
import Derived.BigRegion
namespace Go.Proofs.Ytlohpccfanmiiaa
open Go.RowKit
/-- What may turn: the slab, the row of handles, and some boxes. -/
def DD (f : Nat → Prop) (v : Value) (a b c : Nat) : Nat → Prop := fun k => f k ∨ v.ownBlock = some k ∨ k = a ∨ k = b ∨ k = c
/-- The footprint with some old blocks more. -/
def fX (f X : Nat → Prop) : Nat → Prop := fun k => f k ∨ X k
theorem fX.steps {f f' X : Nat → Prop} {w w' : World} (k : Steps f w f' w') : Steps (fX f X) w (fX f' X) w' :=
  ⟨k.1.mono (fun _ _ e => .inl e), fun i e => by
    rcases e with e | e
    · rcases k.2 i e with e | e
      · exact .inl (.inl e)
      · exact .inr e
    · exact .inl (.inr e)⟩
/-- The document's slab, in a box. -/
abbrev rbox (x : RP) (R : Rf) : Obj := .cells #[.int .i64 R.pl, .int .i64 R.gn, .slice x.p1 R.used.length x.c1, .slice x.p2 R.free.length x.c2, .slice x.p3 R.alive.length x.c3] 31
/-- What holds at each round's head. -/
structure Inv (X : Nat → Prop) (w1 : World) (B : Nat) (f : Nat → Prop) (S : St) (R : Rf) (x : RP) (p : Option Addr) (n c : Nat) (tk : List Hd) (a b : Nat) (w : World) : Prop where
  way : Way w1 B f S w
  wf : Wf S
  sim : Sim S R
  tkn : Tkn w1 f w p n c tk
  nt : ∀ k, (Value.slice p n c).ownBlock = some k → k ≠ a ∧ k ≠ b
  ka : ¬ f a
  kb : ¬ f b
  ma : w.heap[a]? = some (rbox x R)
  mb : w.heap[b]? = some (.cells #[.int .i64 0, .int .i64 0, .slice none 0 0, .slice none 0 0, .slice none 0 0] 31)
  ref : RefIn (DD (fX f X) (.slice p n c) a b b) w x R
theorem Inv.bel {X : Nat → Prop} {w1 : World} {B : Nat} {f : Nat → Prop} {S : St} {R : Rf} {x : RP} {p : Option Addr} {n c : Nat} {tk : List Hd} {a b : Nat} {w w' : World} (h : Inv X w1 B f S R x p n c tk a b w) (k : Bel w w') : Inv X w1 B f S R x p n c tk a b w' :=
  ⟨h.way.bel k, h.wf, h.sim, h.tkn.bel k, h.nt, h.ka, h.kb, k.heap h.ma, k.heap h.mb, h.ref.bel k⟩
theorem Inv.lt {X : Nat → Prop} {w1 : World} {B : Nat} {f : Nat → Prop} {S : St} {R : Rf} {x : RP} {p : Option Addr} {n c : Nat} {tk : List Hd} {a b : Nat} {w : World} (h : Inv X w1 B f S R x p n c tk a b w) : a < w.heap.size ∧ b < w.heap.size ∧ (∀ k, f k → k < w.heap.size) ∧ ∀ k, (Value.slice p n c).ownBlock = some k → k < w.heap.size :=
  ⟨(Array.getElem?_eq_some_iff.1 h.ma).1, (Array.getElem?_eq_some_iff.1 h.mb).1, h.way.sl.lt, fun k e => (h.tkn.own.lt k e).2⟩
/-- The boxes' blocks are the slab's no more than they were. -/
theorem DD.steps {f f' : Nat → Prop} {w w' : World} {v : Value} {a b c : Nat} (k : Steps f w f' w') : Steps (DD f v a b c) w (DD f' v a b c) w' :=
  ⟨k.1.mono (fun _ _ e => .inl e), fun i e => by
    rcases e with e | e
    · rcases k.2 i e with e | e
      · exact .inl (.inl e)
      · exact .inr e
    · exact .inl (.inr e)⟩
theorem Steps.not {f f' : Nat → Prop} {w w' : World} (k : Steps f w f' w') {T : Nat} (h : ¬ f T) (hT : T < w.heap.size) : ¬ f' T := fun e => by
  rcases k.2 T e with e | e
  · exact h e
  · omega
/-- The slab and the row of handles. -/
def D2 (f : Nat → Prop) (v : Value) : Nat → Prop := fun k => f k ∨ v.ownBlock = some k
def PlayPost (X : Nat → Prop) (w1 : World) (B : Nat) (f : Nat → Prop) (S0 : St) (p : Option Addr) (n c : Nat) (tk : List Hd) (N : Nat) (w : World) (e : Ending) (w' : World) : Prop :=
  ∃ f' S' R' x' p' n' c' tk', e = .returned (.tuple #[rv x' R', .slice p' n' c', .bool true]) ∧ Way w1 B f' S' w' ∧ Wf S' ∧ Sim S' R' ∧ Tkn w1 f' w' p' n' c' tk' ∧ RefIn (D2 (fX f' X) (.slice p' n' c')) w' x' R' ∧
    w'.ownsRow 0 38 2 (.slice p n c) n (encH tk) ∧ Steps (D2 f (.slice p n c)) w (D2 f' (.slice p' n' c')) w' ∧ n' ≤ n + N ∧ S'.pl = S0.pl ∧ S'.gn = S0.gn
theorem D2.steps {f f' : Nat → Prop} {w w' : World} {v : Value} (k : Steps f w f' w') : Steps (D2 f v) w (D2 f' v) w' :=
  ⟨k.1.mono (fun _ _ e => .inl e), fun i e => by
    rcases e with e | e
    · rcases k.2 i e with e | e
      · exact .inl (.inl e)
      · exact .inr e
    · exact .inl (.inr e)⟩
theorem row_hd1 (w : World) (x : Hd) (B : Nat) (hB : w.heap.size = B) : RowG (w.alloc (.cells #[.int .i64 x.p, .int .i64 x.g] 38)) B 0 (encH [x]) := by
  rcases lies_hd1 w x B hB with h | ⟨b, off, e, _, h⟩
  · have := encH_len [x]; rw [h] at this; simp at this
  · injection e with e
    injection e with e1 e2
    subst e1 e2
    exact h
theorem pl_take {S : St} (h : Wf S) : (takeS S).2.2.pl = S.pl ∧ (takeS S).2.2.gn = S.gn := by
  rcases take_cases h with ⟨r, k, u, h1, h2, h3, h4⟩ | ⟨h1, h2⟩ | ⟨h1, h2⟩
  · rw [takeS_freed h1 h2]; exact ⟨rfl, rfl⟩
  · rw [takeS_fresh h1 h2]; exact ⟨rfl, rfl⟩
  · rw [takeS_full h1 h2]; exact ⟨rfl, rfl⟩
theorem pl_free (S : St) (q : Hd) : (freeA S q).2.pl = S.pl ∧ (freeA S q).2.gn = S.gn := by
  unfold freeA
  split
  · exact ⟨rfl, rfl⟩
  · exact ⟨rfl, rfl⟩
theorem take_err {S : St} (h : Wf S) : (takeS S).2.1 = 0 ∨ (takeS S).2.1 = 6 := by
  rcases take_cases h with ⟨r, k, u, h1, h2, h3, h4⟩ | ⟨h1, h2⟩ | ⟨h1, h2⟩
  · rw [takeS_freed h1 h2]; exact .inl rfl
  · rw [takeS_fresh h1 h2]; exact .inl rfl
  · rw [takeS_full h1 h2]; exact .inr rfl
/-- What holds when both have taken. -/
structure Mid (X : Nat → Prop) (w1 : World) (B : Nat) (f : Nat → Prop) (S : St) (R0 R : Rf) (x0 x : RP) (p : Option Addr) (n c : Nat) (tk : List Hd) (T5 T8 T12 T13 T15 : Nat) (q0 q : Hd) (w : World) : Prop where
  way : Way w1 B f S w
  tkn : Tkn w1 f w p n c tk
  nt : ∀ k, (Value.slice p n c).ownBlock = some k → k ≠ T5 ∧ k ≠ T8 ∧ k ≠ T12
  ref : RefIn (DD (fX f X) (.slice p n c) T5 T8 T12) w x R
  k5 : Keep f w T5 (rbox x0 R0)
  k8 : Keep f w T8 (.cells #[.int .i64 0, .int .i64 0, .slice none 0 0, .slice none 0 0, .slice none 0 0] 31)
  k12 : Keep f w T12 (.cells #[.int .i64 q0.p, .int .i64 q0.g] 38)
  k13 : w.heap[T13]? = some (.cells #[.int .i64 q.p, .int .i64 q.g] 38)
  k15 : w.heap[T15]? = some (rbox x R)
theorem Way.away {w1 w w' : World} {B : Nat} {f g : Nat → Prop} {S : St} (h : Way w1 B f S w) (k : Off g w w') (hg : ∀ i, g i → ¬ f i ∧ w1.heap.size ≤ i) : Way w1 B f S w' :=
  ⟨h.sl.off k (fun i hi e => (hg i e).1 hi), Off.trans h.off k (fun i e => .inr (hg i e).2), h.ge⟩
theorem Tkn.away {w1 : World} {f g : Nat → Prop} {w w' : World} {p : Option Addr} {n c : Nat} {tk : List Hd} (h : Tkn w1 f w p n c tk) (k : Off g w w') (hg : ∀ i, (Value.slice p n c).ownBlock = some i → ¬ g i) : Tkn w1 f w' p n c tk := ⟨h.len, own_off h.own k hg, h.nf, h.ge⟩
theorem RefIn.any {f : Nat → Prop} {w : World} {x : RP} {R : Rf} (h : RefIn f w x R) : RefIn nof w x R := ⟨h.l1, h.l2, h.l3, h.i1.any, h.i2.any, h.i3.any⟩
theorem set5 {w : World} {T : Nat} {a b c d e a' b' c' d' e' : Value} {t : TypeId} (h : w.heap[T]? = some (.cells #[a, b, c, d, e] t (0, 0))) :
    (((((w.setCell ⟨T, 0, none⟩ a').setCell ⟨T, 1, none⟩ b').setCell ⟨T, 2, none⟩ c').setCell ⟨T, 3, none⟩ d').setCell ⟨T, 4, none⟩ e').heap[T]? = some (.cells #[a', b', c', d', e'] t (0, 0)) :=
  heap_setCell_same _ T 4 _ t e' (heap_setCell_same _ T 3 _ t d' (heap_setCell_same _ T 2 _ t c' (heap_setCell_same _ T 1 _ t b' (heap_setCell_same w T 0 _ t a' h))))
theorem set2 {w : World} {T : Nat} {a b a' b' : Value} {t : TypeId} (h : w.heap[T]? = some (.cells #[a, b] t (0, 0))) :
    ((w.setCell ⟨T, 0, none⟩ a').setCell ⟨T, 1, none⟩ b').heap[T]? = some (.cells #[a', b'] t (0, 0)) :=
  heap_setCell_same _ T 1 _ t b' (heap_setCell_same w T 0 _ t a' h)
theorem RefIn.off {f : Nat → Prop} {w w' : World} {x : RP} {R : Rf} (h : RefIn f w x R) (k : Off f w w') : RefIn f w' x R := ⟨h.l1, h.l2, h.l3, h.i1.off k, h.i2.off k, h.i3.off k⟩
structure Done (X : Nat → Prop) (w1 : World) (B : Nat) (f : Nat → Prop) (S : St) (R : Rf) (x : RP) (p : Option Addr) (n c : Nat) (tk : List Hd) (T5 T8 T12 : Nat) (q : Hd) (wh w : World) : Prop where
  way : Way w1 B f S w
  tkn : Tkn w1 f w p n c tk
  ref : RefIn (DD (fX f X) (.slice p n c) T5 T8 T8) w x R
  m5 : w.heap[T5]? = some (rbox x R)
  m8 : w.heap[T8]? = some (.cells #[.int .i64 0, .int .i64 0, .slice none 0 0, .slice none 0 0, .slice none 0 0] 31)
  m12 : w.heap[T12]? = some (.cells #[.int .i64 q.p, .int .i64 q.g] 38)
  off : Off (TT T5 T12) wh w
theorem Mid.done {X : Nat → Prop} {w1 : World} {B : Nat} {f : Nat → Prop} {S : St} {R0 R : Rf} {x0 x : RP} {p : Option Addr} {n c : Nat} {tk : List Hd} {T5 T8 T12 T13 T15 : Nat} {q0 q : Hd} {wh w5 w2 : World} (h : Mid X w1 B f S R0 R x0 x p n c tk T5 T8 T12 T13 T15 q0 q wh)
    (h1 : T5 ≠ T12) (h2 : T5 ≠ T8) (h3 : T8 ≠ T12) (h5 : w1.heap.size ≤ T5) (h12 : w1.heap.size ≤ T12) (o5 : Off (fun k => k = T5) wh w5) (m5 : w5.heap[T5]? = some (rbox x R)) (o2 : Off (fun k => k = T12) w5 w2)
    (m12 : w5.heap[T12]? = some (.cells #[.int .i64 q0.p, .int .i64 q0.g] 38 (0, 0)) → w2.heap[T12]? = some (.cells #[.int .i64 q.p, .int .i64 q.g] 38 (0, 0))) : Done X w1 B f S R x p n c tk T5 T8 T12 q wh w2.drew := by
  have ho : Off (TT T5 T12) wh w2.drew := (Off.trans (o5.mono (g := TT T5 T12) (fun i _ e => .inl e)) o2 (fun i e => .inl (.inr e))).drew
  have l5 := h.k5.lt
  have l8 := h.k8.lt
  have l12 := h.k12.lt
  refine ⟨h.way.away ho (fun i e => ?_), h.tkn.away ho (fun i hi e => ?_), (h.ref.off (ho.mono (fun i _ e => ?_))).mono (fun b _ e => ?_), ?_, ?_, ?_, ho⟩
  · rcases e with rfl | rfl
    · exact ⟨h.k5.1, h5⟩
    · exact ⟨h.k12.1, h12⟩
  · rcases e with rfl | rfl
    · exact (h.nt _ hi).1 rfl
    · exact (h.nt _ hi).2.2 rfl
  · rcases e with e | e
    · exact .inr (.inr (.inl e))
    · exact .inr (.inr (.inr (.inr e)))
  · rcases e with e | e | e | e | e
    · exact .inl e
    · exact .inr (.inl e)
    · exact .inr (.inr (.inl e))
    · exact .inr (.inr (.inr (.inl e)))
    · exact .inr (.inr (.inr (.inl e)))
  · exact (o2.block T5 (Nat.lt_of_lt_of_le l5 o5.size) h1).trans m5
  · exact (o2.block T8 (Nat.lt_of_lt_of_le l8 o5.size) h3).trans ((o5.block T8 l8 (fun e => h2 e.symm)).trans h.k8.2)
  · exact m12 ((o5.block T12 l12 (fun e => h1 e.symm)).trans h.k12.2)
set_option maxHeartbeats 8000000 in
set_option maxRecDepth 100000 in
theorem play_any (X : Nat → Prop) (w1 : World) (B : Nat) (f : Nat → Prop) (S : St) (R : Rf) (x : RP) (p pa : Option Addr) (n c N ca : Nat) (tk : List Hd) (l : List Ac) (w : World)
    (hway : Way w1 B f S w) (hwf : Wf S) (hsim : Sim S R) (htkn : Tkn w1 f w p n c tk) (href : RefIn (D2 (fX f X) (.slice p n c)) w x R) (hX : ∀ k, X k → k < w.heap.size) (hl : l.length = N) (hN : N ≤ 60) (hn : n ≤ 60) (hacts : Lies nof w1 pa (encA l)) :
    Calls Try.prog 12 #[.pointer (some ⟨B, 0, none⟩), rv x R, .slice pa N ca, .slice p n c] w fun e w' => PlayPost X w1 B f S p n c tk N w e w' := by
  have HA := Lib.hid hacts
  have HXl := Lib.hid hX
  have HL := Lib.hid hl
  have hw1 : w1.heap.size ≤ w.heap.size := hway.off.size
  have HI : Hid (Inv X w1 B f S R x p n c tk w.heap.size (w.heap.size + 1) ((w.alloc (rbox x R)).alloc (.cells #[.int .i64 0, .int .i64 0, .slice none 0 0, .slice none 0 0, .slice none 0 0] 31))) := Lib.hid (by
    have hb : Bel w ((w.alloc (rbox x R)).alloc (.cells #[.int .i64 0, .int .i64 0, .slice none 0 0, .slice none 0 0, .slice none 0 0] 31)) := ((Bel.refl _).alloc _ _).alloc _ _
    refine ⟨hway.bel hb, hwf, hsim, htkn.bel hb, fun k e => ?_, fun e => ?_, fun e => ?_, ?_, ?_, ?_⟩
    · have := (htkn.own.lt k e).2; omega
    · have := hway.sl.lt _ e; omega
    · have := hway.sl.lt _ e; omega
    · rw [Below.heap_alloc _ _ _ (by simp), heap_alloc_new]
    · have h1 := heap_alloc_new (w.alloc (rbox x R)) (.cells #[.int .i64 0, .int .i64 0, .slice none 0 0, .slice none 0 0, .slice none 0 0] 31)
      simpa using h1
    · refine (href.mono (fun b hb e => ?_)).bel hb
      rcases e with e | e | e | e | e
      · exact .inl e
      · exact .inr e
      · omega
      · omega
      · omega)
  have HO : Hid (w.ownsRow 0 38 2 (.slice p n c) n (encH tk)) := Lib.hid htkn.own
  have HTL : Hid (tk.length = n) := Lib.hid htkn.len
  have HNf : Hid (∀ k, (Value.slice p n c).ownBlock = some k → ¬ f k) := Lib.hid htkn.nf
  unfold rv
  clear hway hwf hsim htkn href hacts hl hX
  go_enter Try.func12, Try.ntmps12
  go_wp2
  generalize hW : (w.alloc (rbox x R)).alloc (.cells #[.int .i64 0, .int .i64 0, .slice none 0 0, .slice none 0 0, .slice none 0 0] 31) = W at HI
  have HBW : Hid (Bel w W) := Lib.hid (by rw [← hW]; exact ((Bel.refl _).alloc _ _).alloc _ _)
  clear hW
  go_loopw [3, 11] (fun o v wr => ∃ m : Nat, v = .int .i64 m ∧ m ≤ N ∧ ∃ f' S' R' x' p' n' c' tk', o = .slice p' n' c' ∧ Inv X w1 B f' S' R' x' p' n' c' tk' w.heap.size (w.heap.size + 1) wr ∧ wr.ownsRow 0 38 2 (.slice p n c) n (encH tk) ∧ (∃ r, tk' = tk ++ r) ∧ n' ≤ n + m ∧ Steps (D2 f (.slice p n c)) w (D2 f' (.slice p' n' c')) wr ∧ (∀ k, f' k → f k ∨ w.heap.size ≤ k) ∧ S'.pl = S.pl ∧ S'.gn = S.gn) (fun _ v _ => N - (intOf v).toNat)
  case atStart => exact ⟨0, rfl, by omega, f, S, R, x, p, n, c, tk, rfl, HI.out, own_bel HO.out HBW.out, ⟨[], by simp⟩, by omega, (Steps.refl _ _).bel HBW.out, (fun k e => .inl e), rfl, rfl⟩
  case round =>
    clear HI HBW
    obtain ⟨m, rfl, hi, f2, S2, R2, x2, p2, n2, c2, tk2, rfl, hI, hrow, hpre, hn2, hst, hfs, hpg⟩ := hrel
    have HPg := Lib.hid hpg
    have HI := Lib.hid hI
    have HR := Lib.hid hrow
    have HPre := Lib.hid hpre
    have HSt := Lib.hid hst
    have HFs := Lib.hid hfs
    have HV0 : Hid (∀ i, (Value.slice p n c).ownBlock = some i → ¬ f2 i) := Lib.hid (fun i hi e => by
      rcases hfs i e with e | e
      · exact HNf.out i hi e
      · have := (HO.out.lt i hi).2; omega)
    clear hI hrow hpre hst hfs hpg
    by_cases hlt : m < N
    · obtain ⟨b, off, rfl, _, hr⟩ := lies_ac HA.out (i := m) (by have := HL.out; omega)
      obtain ⟨a, ha⟩ : ∃ a, l[m]? = some a := ⟨_, List.getElem?_eq_getElem (by have := HL.out; omega)⟩
      have HAc := Lib.hid (fun w' (hb : Bel w1 w') => (fun h => ⟨hb.cell h.1, hb.cell h.2.1, hb.cell h.2.2.1, hb.cell h.2.2.2⟩ : _ → w'.cell? ⟨b, off + m * 4, none⟩ = some (.int .i64 a.k) ∧ w'.cell? ⟨b, off + m * 4 + 1, none⟩ = some (.int .i64 a.n) ∧ w'.cell? ⟨b, off + m * 4 + 2, none⟩ = some (.int .i64 a.h.p) ∧ w'.cell? ⟨b, off + m * 4 + 3, none⟩ = some (.int .i64 a.h.g)) (row_ac hr ha))
      have hbl : b < w1.heap.size := World.block_lt_of_cell? w1 _ (row_ac hr ha).1
      clear hr ha
      obtain ⟨a0, a1, a2, a3⟩ := HAc.out _ HI.out.way.off
      go_wp2_with fail
      with_reducible refine (handle_any a tk2 p2 n2 c2 _ HI.out.tkn.len HI.out.tkn.lies.2).mono ?_
      rintro e wa ⟨rfl, hb⟩
      have HIa := Lib.hid (HI.out.bel hb)
      have HRa := Lib.hid (own_bel HR.out hb)
      have HSa := Lib.hid (HSt.out.bel hb)
      clear hb a0 a1 a2 a3
      obtain ⟨q, hq⟩ : ∃ q, pickH a tk2 = q := ⟨_, rfl⟩
      rw [hq]
      clear hq
      obtain ⟨a0, a1, a2, a3⟩ := HAc.out _ (HIa.out.way.off.alloc #[.int .i64 q.p, .int .i64 q.g] 38)
      by_cases hk0 : a.k = 0
      · have hkd : (a.k == 0) = true := by simpa using hk0
        have hkd1 : (a.k == 1) = false := by rw [hk0]; rfl
        have hkd2 : (a.k == 2) = false := by rw [hk0]; rfl
        clear hk0
        obtain ⟨hp, hg, er, S3, hta⟩ : ∃ hp hg er S3, takeS S2 = (⟨hp, hg⟩, er, S3) := ⟨_, _, _, _, rfl⟩
        obtain ⟨R3, htb, hsim3⟩ : ∃ R3, takeR R2 = (⟨hp, hg⟩, er, R3) ∧ Sim S3 R3 := by
          have h1 := sim_take HIa.out.wf HIa.out.sim
          rw [hta] at h1
          exact ⟨_, Prod.ext h1.1 (Prod.ext h1.2.1 rfl), h1.2.2⟩
        have hwf3 : Wf S3 := by have h1 := wf_take HIa.out.wf; rw [hta] at h1; exact h1
        have HPg3 : Hid (S3.pl = S.pl ∧ S3.gn = S.gn) := Lib.hid (by have h1 := pl_take HIa.out.wf; rw [hta] at h1; exact ⟨h1.1.trans HPg.out.1, h1.2.trans HPg.out.2⟩)
        have herr : er = 0 ∨ er = 6 := by have h1 := take_err HIa.out.wf; rw [hta] at h1; exact h1
        have HF3 := Lib.hid hta
        have HB3 := Lib.hid htb
        have HSim3 := Lib.hid hsim3
        have HWf3 := Lib.hid hwf3
        clear hta htb hsim3 hwf3
        have hza : w.heap.size < wa.heap.size := HIa.out.lt.1
        have hza8 : w.heap.size + 1 < wa.heap.size := HIa.out.lt.2.1
        have hTa : ¬ wa.heap.size = w.heap.size := by omega
        have hTb : ¬ w.heap.size = wa.heap.size := by omega
        have KQ := Lib.hid (Keep.new (.cells #[.int .i64 q.p, .int .i64 q.g] 38) HIa.out.way.sl.lt)
        have K5 : Hid (Keep f2 (wa.alloc (.cells #[.int .i64 q.p, .int .i64 q.g] 38)) w.heap.size (rbox x2 R2)) := Lib.hid ⟨HIa.out.ka, Bel.heap ((Bel.refl _).alloc _ _) HIa.out.ma⟩
        have K8 : Hid (Keep f2 (wa.alloc (.cells #[.int .i64 q.p, .int .i64 q.g] 38)) (w.heap.size + 1) (.cells #[.int .i64 0, .int .i64 0, .slice none 0 0, .slice none 0 0, .slice none 0 0] 31)) := Lib.hid ⟨HIa.out.kb, Bel.heap ((Bel.refl _).alloc _ _) HIa.out.mb⟩
        have HRf : Hid (RefIn (DD (fX f2 X) (.slice p2 n2 c2) w.heap.size (w.heap.size + 1) wa.heap.size) (wa.alloc (.cells #[.int .i64 q.p, .int .i64 q.g] 38)) x2 R2) := Lib.hid ((HIa.out.ref.mono (fun b hb e => by
          rcases e with e | e | e | e | e
          · exact .inl e
          · exact .inr (.inl e)
          · exact .inr (.inr (.inl e))
          · exact .inr (.inr (.inr (.inl e)))
          · omega)).bel ((Bel.refl _).alloc _ _))
        go_wp2_with fail
        with_reducible refine (do_take HIa.out.wf HF3.out B f2 _ (HIa.out.way.sl.bel ((Bel.refl _).alloc _ _))).mono ?_
        rintro e wc ⟨rfl, f3, hs, hst⟩
        have HS3 := Lib.hid hs
        have HSt3 := Lib.hid hst
        have KQ := Lib.hid (KQ.out.steps hst)
        have K5 := Lib.hid (K5.out.steps hst)
        have K8 := Lib.hid (K8.out.steps hst)
        have HRf := Lib.hid ((HRf.out.steps (DD.steps (fX.steps hst))).bel ((Bel.refl _).alloc #[.int .i64 hp, .int .i64 hg] 38))
        clear hs hst a0 a1 a2 a3
        obtain ⟨⟨m0, m1, m2, m3, m4⟩, _⟩ := box5 K5.out.2
        have hzc5 := K5.out.lt
        have hzcq := KQ.out.lt
        have HDl : Hid (∀ k, DD (fX f3 X) (.slice p2 n2 c2) w.heap.size (w.heap.size + 1) wa.heap.size k → k < (wc.alloc (.cells #[.int .i64 hp, .int .i64 hg] 38)).heap.size) := Lib.hid (fun k e => by
          have h3 := K8.out.lt
          simp only [World.size_alloc]
          rcases e with e | e | e | e | e
          · rcases e with e | e
            · have := HS3.out.lt k e; omega
            · have := HXl.out k e; omega
          · have h1 := HIa.out.lt.2.2.2 k e; omega
          · omega
          · omega
          · omega)
        have KT := Lib.hid (rtake_any _ x2 S2 R2 _ HIa.out.wf HIa.out.sim HRf.out HDl.out)
        rw [HB3.out] at KT
        go_wp2_with fail
        with_reducible refine (KT.out).mono ?_
        rintro e wd ⟨x3, rfl, hr3, hb3⟩
        have HR3 := Lib.hid hr3
        have HBd : Hid (Bel wc wd) := Lib.hid (((Bel.refl _).alloc _ _).trans hb3)
        have K13 : Hid (wd.heap[wc.heap.size]? = some (.cells #[.int .i64 hp, .int .i64 hg] 38)) := Lib.hid (hb3.heap (heap_alloc_new _ _))
        clear hr3 hb3 m0 m1 m2 m3 m4 KT HRf
        have hz13 : wc.heap.size < wd.heap.size := (Array.getElem?_eq_some_iff.1 K13.out).1
        obtain ⟨⟨v0, v1⟩, _⟩ := box2 K13.out
        have K2 : ∀ w', (binOp .neq 38 (.agg #[.int .i64 hp, .int .i64 hg]) (.agg #[.int .i64 hp, .int .i64 hg])).run Try.prog w' = .ok (.bool false) w' := fun w' => by
          have h1 := neq_dec ⟨hp, hg⟩ ⟨hp, hg⟩ w'
          simpa using h1
        unfold rv
        have MID : Hid (Mid X w1 B f3 S3 R2 R3 x2 x3 p2 n2 c2 tk2 w.heap.size (w.heap.size + 1) wa.heap.size wc.heap.size wd.heap.size q ⟨hp, hg⟩ ((wd.alloc (rbox x3 R3)).alloc (.cells #[.int .i64 hp, .int .i64 hg] 38))) := Lib.hid (by
          have hb2 : Bel wd ((wd.alloc (rbox x3 R3)).alloc (.cells #[.int .i64 hp, .int .i64 hg] 38)) := ((Bel.refl _).alloc _ _).alloc _ _
          refine ⟨(((HIa.out.way.bel ((Bel.refl _).alloc _ _)).steps HS3.out HSt3.out).bel HBd.out).bel hb2, (((HIa.out.tkn.bel ((Bel.refl _).alloc _ _)).steps HSt3.out).bel HBd.out).bel hb2, fun k e => ⟨(HIa.out.nt k e).1, (HIa.out.nt k e).2, by have := HIa.out.lt.2.2.2 k e; omega⟩, HR3.out.bel hb2, (K5.out.bel HBd.out).bel hb2, (K8.out.bel HBd.out).bel hb2, (KQ.out.bel HBd.out).bel hb2, hb2.heap K13.out, ?_⟩
          rw [Below.heap_alloc _ _ _ (by simp), heap_alloc_new])
        have HRw : Hid (((wd.alloc (rbox x3 R3)).alloc (.cells #[.int .i64 hp, .int .i64 hg] 38)).ownsRow 0 38 2 (.slice p n c) n (encH tk)) := Lib.hid (own_bel (own_off (own_bel HRa.out ((Bel.refl _).alloc _ _)) HSt3.out.1 HV0.out) ((HBd.out.alloc _ _).alloc _ _))
        have HSw : Hid (Steps (D2 f (.slice p n c)) w (D2 f3 (.slice p2 n2 c2)) ((wd.alloc (rbox x3 R3)).alloc (.cells #[.int .i64 hp, .int .i64 hg] 38))) := Lib.hid (((HSa.out.bel ((Bel.refl _).alloc _ _)).trans (D2.steps HSt3.out)).bel ((HBd.out.alloc _ _).alloc _ _))
        have HFs3 : Hid (∀ k, f3 k → f k ∨ w.heap.size ≤ k) := Lib.hid (fun k e => by
          rcases HSt3.out.2 k e with e | e
          · exact HFs.out k e
          · simp at e; exact .inr (by omega))
        rcases herr with rfl | rfl
        · go_wp2_with (at_builtin; refine wpList_append_keep el29 rfl (.tmp 63) (.tmp 65) rfl (.slice p2 n2 c2) n2 (encH tk2) rfl (own_bel MID.out.tkn.own ((Bel.refl _).alloc _ _)) (wd.heap.size + 1 + 1) 0 1 1 (encH [⟨hp, hg⟩]) rfl (by omega) rfl (row_hd1 _ ⟨hp, hg⟩ _ (by simp)) (encH_one _) (by omega) ?_)
          intro p3 c3 wh hown hgrow hnew hkeep
          have hgr : Off (fun k => (Value.slice p2 n2 c2).ownBlock = some k) ((wd.alloc (rbox x3 R3)).alloc (.cells #[.int .i64 hp, .int .i64 hg] 38)) wh := Off.grown ((Off.refl _ _).alloc _ _) hgrow (fun k e => .inl e)
          have hzw : wd.heap.size + 1 + 1 + 1 ≤ wh.heap.size := by have := hgrow.size; simp at this; omega
          have hnw : ∀ j, (Value.slice p3 (n2 + 1) c3).ownBlock = some j → (Value.slice p2 n2 c2).ownBlock = some j ∨ wd.heap.size + 1 + 1 + 1 ≤ j := fun j e => by
            rcases hnew j e with e | e
            · exact .inl e
            · exact .inr (by omega)
          have hlt2 := HIa.out.lt.2.2.2
          have MID2 : Hid (Mid X w1 B f3 S3 R2 R3 x2 x3 p3 (n2 + 1) c3 (tk2 ++ [⟨hp, hg⟩]) w.heap.size (w.heap.size + 1) wa.heap.size wc.heap.size wd.heap.size q ⟨hp, hg⟩ wh) := Lib.hid (by
            have M := MID.out
            have hb3 : Bel ((wd.alloc (rbox x3 R3)).alloc (.cells #[.int .i64 hp, .int .i64 hg] 38)) (((wd.alloc (rbox x3 R3)).alloc (.cells #[.int .i64 hp, .int .i64 hg] 38)).alloc (.cells #[.int .i64 hp, .int .i64 hg] 38)) := (Bel.refl _).alloc _ _
            have hkp : ∀ T o, T < wd.heap.size + 1 → (Value.slice p2 n2 c2).ownBlock ≠ some T → ((wd.alloc (rbox x3 R3)).alloc (.cells #[.int .i64 hp, .int .i64 hg] 38)).heap[T]? = some o → wh.heap[T]? = some o := fun T o h1 h2 h3 => (hgr.block T (by simp; omega) h2).trans h3
            refine ⟨(M.way.bel hb3).push hgrow M.tkn.nf M.tkn.ge, (M.tkn.bel hb3).push ⟨hp, hg⟩ (fun j e => by have := HS3.out.lt j e; simp; omega) (by have := HIa.out.way.off.size; simp; omega) hown (fun j e => by
              rcases hnew j e with e | e
              · exact .inl e
              · exact .inr (by simp; omega)), fun k e => ?_, ?_, ⟨M.k5.1, hkp _ _ (by omega) (fun e => (M.nt _ e).1 rfl) M.k5.2⟩, ⟨M.k8.1, hkp _ _ (by omega) (fun e => (M.nt _ e).2.1 rfl) M.k8.2⟩, ⟨M.k12.1, hkp _ _ (by omega) (fun e => (M.nt _ e).2.2 rfl) M.k12.2⟩, hkp _ _ (by omega) (fun e => by have := hlt2 _ e; omega) M.k13, hkp _ _ (by omega) (fun e => by have := hlt2 _ e; omega) M.k15⟩
            · rcases hnw k e with e | e
              · exact M.nt k e
              · omega
            · have h1 : RefIn (fun k => DD (fX f3 X) (.slice p2 n2 c2) w.heap.size (w.heap.size + 1) wa.heap.size k ∨ DD (fX f3 X) (.slice p3 (n2 + 1) c3) w.heap.size (w.heap.size + 1) wa.heap.size k) ((wd.alloc (rbox x3 R3)).alloc (.cells #[.int .i64 hp, .int .i64 hg] 38)) x3 R3 := M.ref.mono (fun b hb e => by
                simp at hb
                rcases e with e | e
                · exact e
                · rcases e with e | e | e
                  · exact .inl e
                  · rcases hnw b e with e | e
                    · exact .inr (.inl e)
                    · omega
                  · exact .inr (.inr e))
              exact (h1.off (hgr.mono (fun i _ e => .inl (.inr (.inl e))))).mono (fun b _ e => .inr e))
          have HRw3 : Hid (wh.ownsRow 0 38 2 (.slice p n c) n (encH tk)) := Lib.hid (own_under (own_bel HRw.out ((Bel.refl _).alloc _ _)) (own_bel MID.out.tkn.own ((Bel.refl _).alloc _ _)) HTL.out MID.out.tkn.len HPre.out hgrow hkeep)
          have HSw3 : Hid (Steps (D2 f (.slice p n c)) w (D2 f3 (.slice p3 (n2 + 1) c3)) wh) := Lib.hid (by
            have h1 : Steps (D2 f3 (.slice p2 n2 c2)) ((wd.alloc (rbox x3 R3)).alloc (.cells #[.int .i64 hp, .int .i64 hg] 38)) (D2 f3 (.slice p3 (n2 + 1) c3)) wh := ⟨hgr.mono (fun i _ e => .inr e), fun i e => by
              rcases e with e | e
              · exact .inl (.inl e)
              · rcases hnw i e with e | e
                · exact .inl (.inr e)
                · exact .inr (by simp; omega)⟩
            exact HSw.out.trans h1)
          clear MID HRw HSw hown hgrow hnew hkeep hgr hnw hlt2 v0 v1
          have MID := MID2
          have HRw := HRw3
          have HSw := HSw3
          have HPre2 : Hid (∃ r, tk2 ++ [⟨hp, hg⟩] = tk ++ r) := Lib.hid (by obtain ⟨r, hr⟩ := HPre.out; exact ⟨r ++ [⟨hp, hg⟩], by rw [hr, List.append_assoc]⟩)
          clear MID2 HRw3 HSw3
          go_wp2
          obtain ⟨⟨m0, m1, m2, m3, m4⟩, ⟨g0, g1, g2, g3, g4⟩⟩ := box5 MID.out.k5.2
          obtain ⟨⟨r0, r1, r2, r3, r4⟩, _⟩ := box5 MID.out.k15
          obtain ⟨⟨v0, v1⟩, _⟩ := box2 MID.out.k13
          obtain ⟨⟨q0, q1⟩, ⟨i0, i1⟩⟩ := box2 MID.out.k12.2
          have hE1 : ¬ wd.heap.size = w.heap.size := by omega
          have hE2 : ¬ wc.heap.size = w.heap.size := by omega
          have hE3 : ¬ wd.heap.size = wa.heap.size := by omega
          have hE4 : ¬ wc.heap.size = wa.heap.size := by omega
          go_region
          have DN := Lib.hid (MID.out.done hTb (by omega) (by omega) (by omega) (by omega) (off5 wh w.heap.size (.int .i64 R3.pl) (.int .i64 R3.gn) (.slice x3.p1 R3.used.length x3.c1) (.slice x3.p2 R3.free.length x3.c2) (.slice x3.p3 R3.alive.length x3.c3)) (set5 MID.out.k5.2) (off2 _ wa.heap.size (.int .i64 hp) (.int .i64 hg)) set2)
          have HRw2 := Lib.hid (own_off HRw.out DN.out.off (fun i hi e => by
            have h1 := (HO.out.lt i hi).2
            rcases e with e | e <;> omega))
          have HSw2 : Hid (Steps (D2 f (.slice p n c)) w (D2 f3 (.slice p3 (n2 + 1) c3)) ((((((((wh.setCell ⟨w.heap.size, 0, none⟩ (.int .i64 R3.pl)).setCell ⟨w.heap.size, 1, none⟩ (.int .i64 R3.gn)).setCell ⟨w.heap.size, 2, none⟩ (.slice x3.p1 R3.used.length x3.c1)).setCell ⟨w.heap.size, 3, none⟩ (.slice x3.p2 R3.free.length x3.c2)).setCell ⟨w.heap.size, 4, none⟩ (.slice x3.p3 R3.alive.length x3.c3)).setCell ⟨wa.heap.size, 0, none⟩ (.int .i64 hp)).setCell ⟨wa.heap.size, 1, none⟩ (.int .i64 hg)).drew)) := Lib.hid ⟨Off.trans HSw.out.1 DN.out.off (fun i e => .inr (by rcases e with e | e <;> omega)), HSw.out.2⟩
          clear hE1 hE2 hE3 hE4 m0 m1 m2 m3 m4 g0 g1 g2 g3 g4 r0 r1 r2 r3 r4 v0 v1 q0 q1 i0 i1
          generalize ((((((((wh.setCell ⟨w.heap.size, 0, none⟩ (.int .i64 R3.pl)).setCell ⟨w.heap.size, 1, none⟩ (.int .i64 R3.gn)).setCell ⟨w.heap.size, 2, none⟩ (.slice x3.p1 R3.used.length x3.c1)).setCell ⟨w.heap.size, 3, none⟩ (.slice x3.p2 R3.free.length x3.c2)).setCell ⟨w.heap.size, 4, none⟩ (.slice x3.p3 R3.alive.length x3.c3)).setCell ⟨wa.heap.size, 0, none⟩ (.int .i64 hp)).setCell ⟨wa.heap.size, 1, none⟩ (.int .i64 hg)).drew) = wi at *
          obtain ⟨a0, a1, a2, a3⟩ := HAc.out _ DN.out.way.off
          obtain ⟨⟨m0, m1, m2, m3, m4⟩, _⟩ := box5 DN.out.m5
          obtain ⟨⟨q0, q1⟩, _⟩ := box2 DN.out.m12
          go_wp2_with fail
          with_reducible refine (alike_any B f3 S3 x3 R3 ⟨hp, hg⟩ _ DN.out.way.sl (HSim3.out.same HWf3.out) DN.out.ref.any).mono ?_
          rintro e wj ⟨rfl, hb⟩
          have HBj := Lib.hid hb
          clear hb q0 q1 m0 m1 m2 m3 m4 a0 a1 a2 a3
          go_wp2
          go_roundw
          case rel => exact ⟨m + 1, by go_num, by omega, f3, S3, R3, x3, p3, (n2 + 1), c3, (tk2 ++ [⟨hp, hg⟩]), rfl, Inv.bel ⟨DN.out.way, HWf3.out, HSim3.out, DN.out.tkn, fun k e => ⟨(MID.out.nt k e).1, (MID.out.nt k e).2.1⟩, MID.out.k5.1, MID.out.k8.1, DN.out.m5, DN.out.m8, DN.out.ref⟩ HBj.out, own_bel HRw2.out HBj.out, HPre2.out, by omega, HSw2.out.bel HBj.out, HFs3.out, HPg3.out⟩
          case measure => simp [intOf]; omega
        · go_wp2
          generalize hWh : (wd.alloc (rbox x3 R3)).alloc (.cells #[.int .i64 hp, .int .i64 hg] 38) = wh at *
          clear hWh v0 v1
          obtain ⟨⟨m0, m1, m2, m3, m4⟩, ⟨g0, g1, g2, g3, g4⟩⟩ := box5 MID.out.k5.2
          obtain ⟨⟨r0, r1, r2, r3, r4⟩, _⟩ := box5 MID.out.k15
          obtain ⟨⟨v0, v1⟩, _⟩ := box2 MID.out.k13
          obtain ⟨⟨q0, q1⟩, ⟨i0, i1⟩⟩ := box2 MID.out.k12.2
          have hE1 : ¬ wd.heap.size = w.heap.size := by omega
          have hE2 : ¬ wc.heap.size = w.heap.size := by omega
          have hE3 : ¬ wd.heap.size = wa.heap.size := by omega
          have hE4 : ¬ wc.heap.size = wa.heap.size := by omega
          go_region
          have DN := Lib.hid (MID.out.done hTb (by omega) (by omega) (by omega) (by omega) (off5 wh w.heap.size (.int .i64 R3.pl) (.int .i64 R3.gn) (.slice x3.p1 R3.used.length x3.c1) (.slice x3.p2 R3.free.length x3.c2) (.slice x3.p3 R3.alive.length x3.c3)) (set5 MID.out.k5.2) (off2 _ wa.heap.size (.int .i64 hp) (.int .i64 hg)) set2)
          have HRw2 := Lib.hid (own_off HRw.out DN.out.off (fun i hi e => by
            have h1 := (HO.out.lt i hi).2
            rcases e with e | e <;> omega))
          have HSw2 : Hid (Steps (D2 f (.slice p n c)) w (D2 f3 (.slice p2 n2 c2)) ((((((((wh.setCell ⟨w.heap.size, 0, none⟩ (.int .i64 R3.pl)).setCell ⟨w.heap.size, 1, none⟩ (.int .i64 R3.gn)).setCell ⟨w.heap.size, 2, none⟩ (.slice x3.p1 R3.used.length x3.c1)).setCell ⟨w.heap.size, 3, none⟩ (.slice x3.p2 R3.free.length x3.c2)).setCell ⟨w.heap.size, 4, none⟩ (.slice x3.p3 R3.alive.length x3.c3)).setCell ⟨wa.heap.size, 0, none⟩ (.int .i64 hp)).setCell ⟨wa.heap.size, 1, none⟩ (.int .i64 hg)).drew)) := Lib.hid ⟨Off.trans HSw.out.1 DN.out.off (fun i e => .inr (by rcases e with e | e <;> omega)), HSw.out.2⟩
          clear hE1 hE2 hE3 hE4 m0 m1 m2 m3 m4 g0 g1 g2 g3 g4 r0 r1 r2 r3 r4 v0 v1 q0 q1 i0 i1
          generalize ((((((((wh.setCell ⟨w.heap.size, 0, none⟩ (.int .i64 R3.pl)).setCell ⟨w.heap.size, 1, none⟩ (.int .i64 R3.gn)).setCell ⟨w.heap.size, 2, none⟩ (.slice x3.p1 R3.used.length x3.c1)).setCell ⟨w.heap.size, 3, none⟩ (.slice x3.p2 R3.free.length x3.c2)).setCell ⟨w.heap.size, 4, none⟩ (.slice x3.p3 R3.alive.length x3.c3)).setCell ⟨wa.heap.size, 0, none⟩ (.int .i64 hp)).setCell ⟨wa.heap.size, 1, none⟩ (.int .i64 hg)).drew) = wi at *
          obtain ⟨a0, a1, a2, a3⟩ := HAc.out _ DN.out.way.off
          obtain ⟨⟨m0, m1, m2, m3, m4⟩, _⟩ := box5 DN.out.m5
          obtain ⟨⟨q0, q1⟩, _⟩ := box2 DN.out.m12
          go_wp2_with fail
          with_reducible refine (alike_any B f3 S3 x3 R3 ⟨hp, hg⟩ _ DN.out.way.sl (HSim3.out.same HWf3.out) DN.out.ref.any).mono ?_
          rintro e wj ⟨rfl, hb⟩
          have HBj := Lib.hid hb
          clear hb q0 q1 m0 m1 m2 m3 m4 a0 a1 a2 a3
          go_wp2
          go_roundw
          case rel => exact ⟨m + 1, by go_num, by omega, f3, S3, R3, x3, p2, n2, c2, tk2, rfl, Inv.bel ⟨DN.out.way, HWf3.out, HSim3.out, DN.out.tkn, fun k e => ⟨(MID.out.nt k e).1, (MID.out.nt k e).2.1⟩, MID.out.k5.1, MID.out.k8.1, DN.out.m5, DN.out.m8, DN.out.ref⟩ HBj.out, own_bel HRw2.out HBj.out, HPre.out, by omega, HSw2.out.bel HBj.out, HFs3.out, HPg3.out⟩
          case measure => simp [intOf]; omega
      · have hkd : (a.k == 0) = false := by simpa using hk0
        by_cases hk1 : a.k = 1 ∨ a.k = 2
        · obtain ⟨er, S3, hfa⟩ : ∃ er S3, freeA S2 q = (er, S3) := ⟨_, _, rfl⟩
          obtain ⟨R3, hfb, hsim3⟩ : ∃ R3, freeB R2 q = (er, R3) ∧ Sim S3 R3 := by
            have h1 := sim_free HIa.out.sim q
            rw [hfa] at h1
            exact ⟨_, Prod.ext h1.1 rfl, h1.2⟩
          have hwf3 : Wf S3 := by have h1 := wf_free HIa.out.wf q; rw [hfa] at h1; exact h1
          have HPg3 : Hid (S3.pl = S.pl ∧ S3.gn = S.gn) := Lib.hid (by have h1 := pl_free S2 q; rw [hfa] at h1; exact ⟨h1.1.trans HPg.out.1, h1.2.trans HPg.out.2⟩)
          have HF3 := Lib.hid hfa
          have HB3 := Lib.hid hfb
          have HSim3 := Lib.hid hsim3
          have HWf3 := Lib.hid hwf3
          clear hfa hfb hsim3 hwf3
          have hza : w.heap.size < wa.heap.size := HIa.out.lt.1
          have hza8 : w.heap.size + 1 < wa.heap.size := HIa.out.lt.2.1
          have hTa : ¬ wa.heap.size = w.heap.size := by omega
          have hTb : ¬ w.heap.size = wa.heap.size := by omega
          have hkk : ((a.k == 1) = true) ∨ ((a.k == 1) = false ∧ (a.k == 2) = true) := by
            rcases hk1 with h | h
            · exact .inl (by simpa using h)
            · exact .inr ⟨by rw [h]; rfl, by simpa using h⟩
          clear hk0 hk1
          have KQ := Lib.hid (Keep.new (.cells #[.int .i64 q.p, .int .i64 q.g] 38) HIa.out.way.sl.lt)
          have K5 : Hid (Keep f2 (wa.alloc (.cells #[.int .i64 q.p, .int .i64 q.g] 38)) w.heap.size (rbox x2 R2)) := Lib.hid ⟨HIa.out.ka, Bel.heap ((Bel.refl _).alloc _ _) HIa.out.ma⟩
          have K8 : Hid (Keep f2 (wa.alloc (.cells #[.int .i64 q.p, .int .i64 q.g] 38)) (w.heap.size + 1) (.cells #[.int .i64 0, .int .i64 0, .slice none 0 0, .slice none 0 0, .slice none 0 0] 31)) := Lib.hid ⟨HIa.out.kb, Bel.heap ((Bel.refl _).alloc _ _) HIa.out.mb⟩
          have HRf : Hid (RefIn (DD (fX f2 X) (.slice p2 n2 c2) w.heap.size (w.heap.size + 1) wa.heap.size) (wa.alloc (.cells #[.int .i64 q.p, .int .i64 q.g] 38)) x2 R2) := Lib.hid ((HIa.out.ref.mono (fun b hb e => by
            rcases e with e | e | e | e | e
            · exact .inl e
            · exact .inr (.inl e)
            · exact .inr (.inr (.inl e))
            · exact .inr (.inr (.inr (.inl e)))
            · omega)).bel ((Bel.refl _).alloc _ _))
          rcases hkk with hkd1 | ⟨hkd1, hkd2⟩
          all_goals
            go_wp2_with fail
            with_reducible refine (do_free HIa.out.wf HF3.out B f2 _ (HIa.out.way.sl.bel ((Bel.refl _).alloc _ _))).mono ?_
            rintro e wc ⟨rfl, f3, hs, hst⟩
            have HS3 := Lib.hid hs
            have HSt3 := Lib.hid hst
            have KQ := Lib.hid (KQ.out.steps hst)
            have K5 := Lib.hid (K5.out.steps hst)
            have K8 := Lib.hid (K8.out.steps hst)
            have HRf := Lib.hid (HRf.out.steps (DD.steps (fX.steps hst)))
            clear hs hst a0 a1 a2 a3
            obtain ⟨⟨q0, q1⟩, _⟩ := box2 KQ.out.2
            obtain ⟨⟨m0, m1, m2, m3, m4⟩, _⟩ := box5 K5.out.2
            have HDl : Hid (∀ k, DD (fX f3 X) (.slice p2 n2 c2) w.heap.size (w.heap.size + 1) wa.heap.size k → k < wc.heap.size) := Lib.hid (fun k e => by
              rcases e with e | e | e | e | e
              · rcases e with e | e
                · exact HS3.out.lt k e
                · have h1 := HXl.out k e
                  have h2 := KQ.out.lt
                  omega
              · have h1 := HIa.out.lt.2.2.2 k e
                have h2 := KQ.out.lt
                omega
              · rw [e]; exact K5.out.lt
              · rw [e]; exact K8.out.lt
              · rw [e]; exact KQ.out.lt)
            have KF := Lib.hid (rfree_any _ x2 R2 q wc (HIa.out.sim.rsm HIa.out.wf) HRf.out HDl.out)
            rw [HB3.out] at KF
            go_wp2_with fail
            with_reducible refine (KF.out).mono ?_
            rintro e wd ⟨x3, rfl, hr3, hb3⟩
            have HR3 := Lib.hid hr3
            have HBd := Lib.hid hb3
            clear hr3 hb3 q0 q1 m0 m1 m2 m3 m4 KF
            have KQ := Lib.hid (KQ.out.bel HBd.out)
            have K5 := Lib.hid (K5.out.bel HBd.out)
            have K8 := Lib.hid (K8.out.bel HBd.out)
            obtain ⟨⟨q0, q1⟩, _⟩ := box2 KQ.out.2
            obtain ⟨⟨m0, m1, m2, m3, m4⟩, ⟨g0, g1, g2, g3, g4⟩⟩ := box5 K5.out.2
            have hzd5 := K5.out.lt
            have hzdq := KQ.out.lt
            unfold rv
            have HOf := Lib.hid (fun a b c d e (cs : Array Value) (t : TypeId) => (off5 wd w.heap.size a b c d e).alloc cs t)
            have HWay : Hid (∀ w', Off (fun k => k = w.heap.size) wd w' → Way w1 B f3 S3 w') := Lib.hid (fun w' ho => (((HIa.out.way.bel ((Bel.refl _).alloc _ _)).steps HS3.out HSt3.out).bel HBd.out).away ho (fun i e => ⟨by rw [e]; exact K5.out.1, by omega⟩))
            have HRef : Hid (∀ w', Off (fun k => k = w.heap.size) wd w' → RefIn (DD (fX f3 X) (.slice p2 n2 c2) w.heap.size (w.heap.size + 1) (w.heap.size + 1)) w' x3 R3) := Lib.hid (fun w' ho => (HR3.out.off (ho.mono (fun i _ e => .inr (.inr (.inl e))))).mono (fun b _ e => by
              rcases e with e | e | e | e | e
              · exact .inl e
              · exact .inr (.inl e)
              · exact .inr (.inr (.inl e))
              · exact .inr (.inr (.inr (.inl e)))
              · exact .inr (.inr (.inr (.inl e)))))
            go_wp2_with fail
            with_reducible refine (alike_any B f3 S3 x3 R3 q _ (HWay.out _ (HOf.out _ _ _ _ _ _ _)).sl (HSim3.out.same HWf3.out) (HRef.out _ (HOf.out _ _ _ _ _ _ _)).any).mono ?_
            rintro e wj ⟨rfl, hb⟩
            have HBj := Lib.hid hb
            clear hb q0 q1
            go_wp2
            go_roundw
            case rel => 
              refine ⟨m + 1, by go_num, by omega, f3, S3, R3, x3, p2, n2, c2, tk2, rfl, Inv.bel ⟨HWay.out _ (HOf.out _ _ _ _ _ _ _), HWf3.out, HSim3.out, ?_, HIa.out.nt, K5.out.1, K8.out.1, Bel.heap ((Bel.refl _).alloc _ _) (set5 K5.out.2), ?_, HRef.out _ (HOf.out _ _ _ _ _ _ _)⟩ HBj.out, ?_, HPre.out, by omega, ?_, fun k e => ?_, HPg3.out⟩
              · exact (((HIa.out.tkn.bel ((Bel.refl _).alloc _ _)).steps HSt3.out).bel HBd.out).away (HOf.out _ _ _ _ _ _ _) (fun i hi e => (HIa.out.nt i hi).1 e)
              · exact ((HOf.out _ _ _ _ _ _ _).block (w.heap.size + 1) K8.out.lt (by omega)).trans K8.out.2
              · refine own_bel (own_off (own_bel (own_off (own_bel HRa.out ((Bel.refl _).alloc _ _)) HSt3.out.1 ?_) HBd.out) (HOf.out _ _ _ _ _ _ _) ?_) HBj.out
                · exact HV0.out
                · intro i hi e
                  have := (HO.out.lt i hi).2
                  omega
              · refine Steps.bel ⟨Off.trans (((HSa.out.bel ((Bel.refl _).alloc _ _)).trans (D2.steps HSt3.out)).bel HBd.out).1 (HOf.out _ _ _ _ _ _ _) (fun i e => .inr (by omega)), (((HSa.out.bel ((Bel.refl _).alloc _ _)).trans (D2.steps HSt3.out)).bel HBd.out).2⟩ HBj.out
              · rcases HSt3.out.2 k e with e | e
                · exact HFs.out k e
                · simp at e; exact .inr (by omega)
            case measure => simp [intOf]; omega
        · have hkd1 : (a.k == 1) = false := by simp; omega
          have hkd2 : (a.k == 2) = false := by simp; omega
          clear hk0 hk1
          obtain ⟨⟨m0, m1, m2, m3, m4⟩, _⟩ := box5 (Bel.heap ((Bel.refl wa).alloc #[.int .i64 q.p, .int .i64 q.g] 38) HIa.out.ma)
          have hza : w.heap.size < wa.heap.size := HIa.out.lt.1
          go_wp2_with fail
          with_reducible refine (alike_any B f2 S2 x2 R2 q _ (HIa.out.way.sl.bel ((Bel.refl _).alloc _ _)) (HIa.out.sim.same HIa.out.wf) (HIa.out.ref.bel ((Bel.refl _).alloc _ _)).any).mono ?_
          rintro e wj ⟨rfl, hb⟩
          have HBj : Hid (Bel wa wj) := Lib.hid (((Bel.refl _).alloc _ _).trans hb)
          clear hb m0 m1 m2 m3 m4 a0 a1 a2 a3
          go_wp2
          go_roundw
          case rel => exact ⟨m + 1, by go_num, by omega, f2, S2, R2, x2, p2, n2, c2, tk2, rfl, HIa.out.bel HBj.out, own_bel HRa.out HBj.out, HPre.out, by omega, HSa.out.bel HBj.out, HFs.out, HPg.out⟩
          case measure => simp [intOf]; omega
    · obtain rfl : m = N := by omega
      have hza : w.heap.size < wr.heap.size := HI.out.lt.1
      obtain ⟨⟨m0, m1, m2, m3, m4⟩, _⟩ := box5 HI.out.ma
      obtain ⟨⟨z0, z1, z2, z3, z4⟩, ⟨g0, g1, g2, g3, g4⟩⟩ := box5 HI.out.mb
      go_wp2
      refine bodyPost_ret (v := .tuple #[rv x2 R2, .slice p2 n2 c2, .bool true]) (by simp [results, Try.results12, go_sem, z0, z1, z2, z3, z4]) rfl ?_
      have HO5 := off5 wr (w.heap.size + 1) (.int .i64 R2.pl) (.int .i64 R2.gn) (.slice x2.p1 R2.used.length x2.c1) (.slice x2.p2 R2.free.length x2.c2) (.slice x2.p3 R2.alive.length x2.c3)
      refine ⟨f2, S2, R2, x2, p2, n2, c2, tk2, rfl, HI.out.way.away HO5 (fun i e => ⟨by rw [e]; exact HI.out.kb, by omega⟩), HI.out.wf, HI.out.sim, HI.out.tkn.away HO5 (fun i hi e => (HI.out.nt i hi).2 e), ?_, ?_, ?_, hn2, HPg.out.1, HPg.out.2⟩
      · refine (HI.out.ref.off (HO5.mono (fun i _ e => .inr (.inr (.inr (.inl e)))))).mono (fun b _ e => ?_)
        rcases e with e | e
        · exact .inl e
        · exact .inr (.inl e)
      · refine own_off HR.out HO5 (fun i hi e => ?_)
        have := (HO.out.lt i hi).2
        omega
      · exact ⟨Off.trans HSt.out.1 HO5 (fun i e => .inr (by omega)), HSt.out.2⟩
end Go.Proofs.Ytlohpccfanmiiaa
