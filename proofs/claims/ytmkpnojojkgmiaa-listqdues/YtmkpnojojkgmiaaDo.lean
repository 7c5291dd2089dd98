/-
  Contract of the law's do: what an act does to a queue, and what it tells.
-/
import Derived.Test.YtmkpnojojkgmiaaDocm
import Derived.Test.YtmkpnojojkgmiaaDue
import Derived.Test.YtmkpnojojkgmiaaSame
namespace Go.Proofs.Ytmkpnojojkgmiaa
open Go.RowKit
/-- An act. -/
structure Ak where
  k : Int
  t : T
  now : Int
instance : Inhabited Ak := ⟨⟨0, default, 0⟩⟩
/-- What an act tells, and what comes of it. -/
def stE (P : Nat) (l : List T) (a : Ak) : Int := if a.k = 0 then insE P l a.t else if a.k = 1 then canE P l a.t.p else if a.k = 2 then canE P l a.t.p else 0
def stT (l : List T) (a : Ak) : T := if a.k = 1 then (fnd l a.t.p).getD default else default
def stD (l : List T) (a : Ak) : List T := if a.k = 3 then due l a.now true else []
def stL (P : Nat) (l : List T) (a : Ak) : List T := if a.k = 0 then insL P l a.t else if a.k = 1 then wo l a.t.p else if a.k = 2 then movL P l a.t else if a.k = 3 then due l a.now false else l
/-- As values. -/
abbrev akV (k : Int) (t : T) (now : Int) : Value := .agg #[.int .i64 k, .int .u64 t.a, .int .u64 t.s, .int .i64 t.p, .int .u64 now]
abbrev tdV (er : Int) (t : T) (p : Option Addr) (n c : Nat) : Value := .agg #[.int .i64 er, .int .u64 t.a, .int .u64 t.s, .int .i64 t.p, .slice p n c]
theorem box5 {w : World} {T : Nat} {a b c d e : Value} {t : TypeId} (h : w.heap[T]? = some (.cells #[a, b, c, d, e] t (0, 0))) :
    (w.cell? ⟨T, 0, none⟩ = some a ∧ w.cell? ⟨T, 1, none⟩ = some b ∧ w.cell? ⟨T, 2, none⟩ = some c ∧ w.cell? ⟨T, 3, none⟩ = some d ∧ w.cell? ⟨T, 4, none⟩ = some e) ∧ (w.frozen? ⟨T, 0, none⟩ = false ∧ w.frozen? ⟨T, 1, none⟩ = false ∧ w.frozen? ⟨T, 2, none⟩ = false ∧ w.frozen? ⟨T, 3, none⟩ = false ∧ w.frozen? ⟨T, 4, none⟩ = false) := by
  refine ⟨⟨?_, ?_, ?_, ?_, ?_⟩, frozen_of_row w T _ _ t h, frozen_of_row w T _ _ t h, frozen_of_row w T _ _ t h, frozen_of_row w T _ _ t h, frozen_of_row w T _ _ t h⟩ <;> (rw [cell_of_row w T _ _ t (0, 0) h]; rfl)
abbrev sto5 (w : World) (T : Nat) (a b c d e : Value) : World := ((((w.setCell ⟨T, 0, none⟩ a).setCell ⟨T, 1, none⟩ b).setCell ⟨T, 2, none⟩ c).setCell ⟨T, 3, none⟩ d).setCell ⟨T, 4, none⟩ e
theorem offs5 (w : World) (T : Nat) (a b c d e : Value) : Off (fun k => k = T) w (sto5 w T a b c d e) :=
  Off.setCell (p := ⟨T, 4, none⟩) (Off.setCell (p := ⟨T, 3, none⟩) (off3 w T a b c) (.inl rfl) d) (.inl rfl) e
theorem two_new (w : World) (a b : Array Value) (ta tb : TypeId) : ∃ W, (w.alloc (.cells a ta)).alloc (.cells b tb) = W ∧ Bel w W ∧ W.heap.size = w.heap.size + 1 + 1 ∧ W.heap[w.heap.size]? = some (.cells a ta (0, 0)) ∧ W.heap[w.heap.size + 1]? = some (.cells b tb (0, 0)) := by
  refine ⟨_, rfl, ((Bel.refl w).alloc _ _).alloc _ _, by simp, ?_, ?_⟩
  · rw [Below.heap_alloc _ _ _ (by simp), heap_alloc_new]
  · have := heap_alloc_new (w.alloc (.cells a ta)) (.cells b tb)
    simpa using this
/-- Behind an act: the queue, and what was told. -/
structure DidQ (w w' : World) (Q B G R P : Nat) (l : List T) (p : Option Addr) (d : List T) : Prop where
  qu : Qu w' Q B G R P l
  off : Off (Foot G R) w w'
  has : Has w' p d
theorem Qu.lts {w : World} {Q B G R P : Nat} {l : List T} (h : Qu w Q B G R P l) : (Q < w.heap.size ∧ B < w.heap.size) ∧ G < w.heap.size ∧ R < w.heap.size := by
  obtain ⟨⟨g, r, h1, _⟩, _⟩ := h
  exact ⟨⟨h1.ltQ, h1.ch.ltB⟩, h1.ch.ltG, h1.ltR⟩
set_option maxHeartbeats 1000000 in
theorem do0 (Q B G R P : Nat) (l : List T) (t : T) (now : Int) (w : World) (h : Qu w Q B G R P l) :
    Calls Try.prog 22 #[.pointer (some ⟨Q, 0, none⟩), akV 0 t now] w fun e w' => ∃ p c, e = .returned (tdV (insE P l t) default p 0 c) ∧ DidQ w w' Q B G R P (insL P l t) p [] := by
  have H2 := Lib.hid (two_new w #[.int .i64 0, .int .u64 t.a, .int .u64 t.s, .int .i64 t.p, .int .u64 now] #[.int .i64 0, .int .u64 0, .int .u64 0, .int .i64 0, .slice none 0 0] 59 56)
  obtain ⟨⟨lQ, lB⟩, lG, lR⟩ := h.lts
  have H := Lib.hid h
  have K := Lib.hid (fun w' (h : Qu w' Q B G R P l) => insert_any Q B G R P l t w' h)
  clear h
  unfold akV tdV
  generalize insE P l t = er at *
  simp only [default]
  go_enter Try.func22, Try.ntmps22
  go_upto_region 1 with (fail)
  obtain ⟨W, eW, hB, hz, n0, n1⟩ := H2.out
  rw [eW]
  clear H2 eW
  obtain ⟨b1, e1⟩ : ∃ b, w.heap.size + 1 = b := ⟨_, rfl⟩
  rw [e1] at n1 hz ⊢
  obtain ⟨⟨x0, x1, x2, x3, x4⟩, _⟩ := box5 n0
  have HB := Lib.hid hB
  have HN1 := Lib.hid n1
  have l1 : b1 < W.heap.size := by omega
  clear hB n0 n1
  go_wp2_with fail
  with_reducible refine (K.out _ (H.out.bel HB.out)).mono ?_
  rintro e w1 ⟨rfl, hq, ho⟩
  have n2 : w1.heap[b1]? = some (.cells #[.int .i64 0, .int .u64 0, .int .u64 0, .int .i64 0, .slice none 0 0] 56 (0, 0)) := (ho.block _ l1 (fun e => by rcases e with e | e <;> omega)).trans HN1.out
  obtain ⟨⟨y0, y1, y2, y3, y4⟩, g0, g1, g2, g3, g4⟩ := box5 n2
  have o5 := offs5 w1 b1 (.int .i64 er) (.int .u64 0) (.int .u64 0) (.int .i64 0) (.slice none 0 0)
  have HE : Hid (DidQ w (((((w1.setCell ⟨b1, 0, none⟩ (.int .i64 er)).setCell ⟨b1, 1, none⟩ (.int .u64 0)).setCell ⟨b1, 2, none⟩ (.int .u64 0)).setCell ⟨b1, 3, none⟩ (.int .i64 0)).setCell ⟨b1, 4, none⟩ (.slice none 0 0)) Q B G R P (insL P l t) none []) := Lib.hid
    ⟨hq.off o5 (by omega) (by omega) (by omega) (by omega), Off.trans ((HB.out.off (Foot G R)).then ho) o5 (fun i e => .inr (by omega)), .inl rfl⟩
  clear o5
  clear hq ho n2
  go_wp2
  exact bodyPost_ret (v := .agg #[.int .i64 er, .int .u64 0, .int .u64 0, .int .i64 0, .slice none 0 0]) (by simp [results, Try.results22, go_sem, y0, y1, y2, y3, y4]) rfl ⟨none, 0, rfl, HE.out⟩
set_option maxHeartbeats 1000000 in
theorem do2 (Q B G R P : Nat) (l : List T) (t : T) (now : Int) (w : World) (h : Qu w Q B G R P l) :
    Calls Try.prog 22 #[.pointer (some ⟨Q, 0, none⟩), akV 2 t now] w fun e w' => ∃ p c, e = .returned (tdV (canE P l t.p) default p 0 c) ∧ DidQ w w' Q B G R P (movL P l t) p [] := by
  have H2 := Lib.hid (two_new w #[.int .i64 2, .int .u64 t.a, .int .u64 t.s, .int .i64 t.p, .int .u64 now] #[.int .i64 0, .int .u64 0, .int .u64 0, .int .i64 0, .slice none 0 0] 59 56)
  obtain ⟨⟨lQ, lB⟩, lG, lR⟩ := h.lts
  have H := Lib.hid h
  have K := Lib.hid (fun w' (h : Qu w' Q B G R P l) => move_any Q B G R P l t w' h)
  clear h
  unfold akV tdV
  generalize canE P l t.p = er at *
  simp only [default]
  go_enter Try.func22, Try.ntmps22
  go_upto_region 1 with (fail)
  obtain ⟨W, eW, hB, hz, n0, n1⟩ := H2.out
  rw [eW]
  clear H2 eW
  obtain ⟨b1, e1⟩ : ∃ b, w.heap.size + 1 = b := ⟨_, rfl⟩
  rw [e1] at n1 hz ⊢
  obtain ⟨⟨x0, x1, x2, x3, x4⟩, _⟩ := box5 n0
  have HB := Lib.hid hB
  have HN1 := Lib.hid n1
  have l1 : b1 < W.heap.size := by omega
  clear hB n0 n1
  go_wp2_with fail
  with_reducible refine (K.out _ (H.out.bel HB.out)).mono ?_
  rintro e w1 ⟨rfl, hq, ho⟩
  have n2 : w1.heap[b1]? = some (.cells #[.int .i64 0, .int .u64 0, .int .u64 0, .int .i64 0, .slice none 0 0] 56 (0, 0)) := (ho.block _ l1 (fun e => by rcases e with e | e <;> omega)).trans HN1.out
  obtain ⟨⟨y0, y1, y2, y3, y4⟩, g0, g1, g2, g3, g4⟩ := box5 n2
  have o5 := offs5 w1 b1 (.int .i64 er) (.int .u64 0) (.int .u64 0) (.int .i64 0) (.slice none 0 0)
  have HE : Hid (DidQ w (((((w1.setCell ⟨b1, 0, none⟩ (.int .i64 er)).setCell ⟨b1, 1, none⟩ (.int .u64 0)).setCell ⟨b1, 2, none⟩ (.int .u64 0)).setCell ⟨b1, 3, none⟩ (.int .i64 0)).setCell ⟨b1, 4, none⟩ (.slice none 0 0)) Q B G R P (movL P l t) none []) := Lib.hid
    ⟨hq.off o5 (by omega) (by omega) (by omega) (by omega), Off.trans ((HB.out.off (Foot G R)).then ho) o5 (fun i e => .inr (by omega)), .inl rfl⟩
  clear o5
  clear hq ho n2
  go_wp2
  exact bodyPost_ret (v := .agg #[.int .i64 er, .int .u64 0, .int .u64 0, .int .i64 0, .slice none 0 0]) (by simp [results, Try.results22, go_sem, y0, y1, y2, y3, y4]) rfl ⟨none, 0, rfl, HE.out⟩
set_option maxHeartbeats 1000000 in
theorem do1 (Q B G R P : Nat) (l : List T) (t : T) (now : Int) (w : World) (h : Qu w Q B G R P l) :
    Calls Try.prog 22 #[.pointer (some ⟨Q, 0, none⟩), akV 1 t now] w fun e w' => ∃ p c, e = .returned (tdV (canE P l t.p) ((fnd l t.p).getD default) p 0 c) ∧ DidQ w w' Q B G R P (wo l t.p) p [] := by
  have H2 := Lib.hid (two_new w #[.int .i64 1, .int .u64 t.a, .int .u64 t.s, .int .i64 t.p, .int .u64 now] #[.int .i64 0, .int .u64 0, .int .u64 0, .int .i64 0, .slice none 0 0] 59 56)
  obtain ⟨⟨lQ, lB⟩, lG, lR⟩ := h.lts
  have H := Lib.hid h
  have K := Lib.hid (fun w' (h : Qu w' Q B G R P l) => cancel_any Q B G R P l t.p w' h)
  clear h
  unfold akV tdV
  unfold canV at K
  generalize canE P l t.p = er at *
  generalize ((fnd l t.p).getD default).a = ta at *
  generalize ((fnd l t.p).getD default).s = ts at *
  generalize ((fnd l t.p).getD default).p = tp at *
  go_enter Try.func22, Try.ntmps22
  go_upto_region 1 with (fail)
  obtain ⟨W, eW, hB, hz, n0, n1⟩ := H2.out
  rw [eW]
  clear H2 eW
  obtain ⟨b1, e1⟩ : ∃ b, w.heap.size + 1 = b := ⟨_, rfl⟩
  rw [e1] at n1 hz ⊢
  obtain ⟨⟨x0, x1, x2, x3, x4⟩, _⟩ := box5 n0
  have HB := Lib.hid hB
  have HN1 := Lib.hid n1
  have l1 : b1 < W.heap.size := by omega
  clear hB n0 n1
  go_wp2_with fail
  with_reducible refine (K.out _ (H.out.bel HB.out)).mono ?_
  rintro e w1 ⟨rfl, hq, ho⟩
  have n2 : w1.heap[b1]? = some (.cells #[.int .i64 0, .int .u64 0, .int .u64 0, .int .i64 0, .slice none 0 0] 56 (0, 0)) := (ho.block _ l1 (fun e => by rcases e with e | e <;> omega)).trans HN1.out
  have HB3 : Hid (Bel w1 (w1.alloc (.cells #[.int .u64 ta, .int .u64 ts, .int .i64 tp] 38))) := Lib.hid ((Bel.refl _).alloc _ _)
  have HM : Hid ((w1.alloc (.cells #[.int .u64 ta, .int .u64 ts, .int .i64 tp] 38)).heap[w1.heap.size]? = some (.cells #[.int .u64 ta, .int .u64 ts, .int .i64 tp] 38 (0, 0))) := Lib.hid (heap_alloc_new _ _)
  have HQ3 := Lib.hid (hq.bel HB3.out)
  have HO3 : Hid (Off (Foot G R) w (w1.alloc (.cells #[.int .u64 ta, .int .u64 ts, .int .i64 tp] 38))) := Lib.hid (((HB.out.off (Foot G R)).then ho).thenB HB3.out)
  have HN3 := Lib.hid (HB3.out.heap n2)
  clear hq ho n2
  go_upto_region 6 with (fail)
  generalize w1.alloc (.cells #[.int .u64 ta, .int .u64 ts, .int .i64 tp] 38) = W3 at *
  obtain ⟨⟨m0, m1, m2⟩, _⟩ := box3 HM.out
  obtain ⟨⟨y0, y1, y2, y3, y4⟩, g0, g1, g2, g3, g4⟩ := box5 HN3.out
  have o5 := offs5 W3 b1 (.int .i64 er) (.int .u64 ta) (.int .u64 ts) (.int .i64 tp) (.slice none 0 0)
  have HE : Hid (DidQ w (((((W3.setCell ⟨b1, 0, none⟩ (.int .i64 er)).setCell ⟨b1, 1, none⟩ (.int .u64 ta)).setCell ⟨b1, 2, none⟩ (.int .u64 ts)).setCell ⟨b1, 3, none⟩ (.int .i64 tp)).setCell ⟨b1, 4, none⟩ (.slice none 0 0)) Q B G R P (wo l t.p) none []) := Lib.hid
    ⟨HQ3.out.off o5 (by omega) (by omega) (by omega) (by omega), Off.trans HO3.out o5 (fun i e => .inr (by omega)), .inl rfl⟩
  clear o5
  go_wp2
  exact bodyPost_ret (v := .agg #[.int .i64 er, .int .u64 ta, .int .u64 ts, .int .i64 tp, .slice none 0 0]) (by simp [results, Try.results22, go_sem, y0, y1, y2, y3, y4]) rfl ⟨none, 0, rfl, HE.out⟩
set_option maxHeartbeats 1000000 in
theorem do3 (Q B G R P : Nat) (l : List T) (t : T) (now : Int) (w : World) (h : Qu w Q B G R P l) :
    Calls Try.prog 22 #[.pointer (some ⟨Q, 0, none⟩), akV 3 t now] w fun e w' => ∃ p c, e = .returned (tdV 0 default p (due l now true).length c) ∧ DidQ w w' Q B G R P (due l now false) p (due l now true) := by
  have H2 := Lib.hid (two_new w #[.int .i64 3, .int .u64 t.a, .int .u64 t.s, .int .i64 t.p, .int .u64 now] #[.int .i64 0, .int .u64 0, .int .u64 0, .int .i64 0, .slice none 0 0] 59 56)
  obtain ⟨⟨lQ, lB⟩, lG, lR⟩ := h.lts
  have H := Lib.hid h
  have K := Lib.hid (fun w' (h : Qu w' Q B G R P l) => due_any Q B G R P l now w' h)
  clear h
  unfold akV tdV
  simp only [default]
  go_enter Try.func22, Try.ntmps22
  go_upto_region 1 with (fail)
  obtain ⟨W, eW, hB, hz, n0, n1⟩ := H2.out
  rw [eW]
  clear H2 eW
  obtain ⟨b1, e1⟩ : ∃ b, w.heap.size + 1 = b := ⟨_, rfl⟩
  rw [e1] at n1 hz ⊢
  obtain ⟨⟨x0, x1, x2, x3, x4⟩, _⟩ := box5 n0
  have HB := Lib.hid hB
  have HN1 := Lib.hid n1
  have l1 : b1 < W.heap.size := by omega
  clear hB n0 n1
  go_wp2_with fail
  with_reducible refine (K.out _ (H.out.bel HB.out)).mono ?_
  rintro e w1 ⟨⟨p, c, rfl, hc, hl⟩, hq, ho⟩
  have n2 : w1.heap[b1]? = some (.cells #[.int .i64 0, .int .u64 0, .int .u64 0, .int .i64 0, .slice none 0 0] 56 (0, 0)) := (ho.block _ l1 (fun e => by rcases e with e | e <;> omega)).trans HN1.out
  obtain ⟨⟨y0, y1, y2, y3, y4⟩, g0, g1, g2, g3, g4⟩ := box5 n2
  have o5 := offs5 w1 b1 (.int .i64 0) (.int .u64 0) (.int .u64 0) (.int .i64 0) (.slice p (due l now true).length c)
  have HE : Hid (DidQ w (((((w1.setCell ⟨b1, 0, none⟩ (.int .i64 0)).setCell ⟨b1, 1, none⟩ (.int .u64 0)).setCell ⟨b1, 2, none⟩ (.int .u64 0)).setCell ⟨b1, 3, none⟩ (.int .i64 0)).setCell ⟨b1, 4, none⟩ (.slice p (due l now true).length c)) Q B G R P (due l now false) p (due l now true)) := Lib.hid
    ⟨hq.off o5 (by omega) (by omega) (by omega) (by omega), Off.trans ((HB.out.off (Foot G R)).then ho) o5 (fun i e => .inr (by omega)), (hl.off (o5.mono (g := old W) (fun i _ e => by unfold old; omega)) (fun i e => e)).has⟩
  clear o5
  clear hq ho n2 hl
  go_wp2
  exact bodyPost_ret (v := .agg #[.int .i64 0, .int .u64 0, .int .u64 0, .int .i64 0, .slice p (due l now true).length c]) (by simp [results, Try.results22, go_sem, y0, y1, y2, y3, y4]) rfl ⟨p, c, rfl, HE.out⟩
set_option maxHeartbeats 1000000 in
theorem do9 (Q B G R P : Nat) (l : List T) (k : Int) (t : T) (now : Int) (w : World) (h : Qu w Q B G R P l) (h0 : ¬ k = 0) (h1 : ¬ k = 1) (h2 : ¬ k = 2) (h3 : ¬ k = 3) :
    Calls Try.prog 22 #[.pointer (some ⟨Q, 0, none⟩), akV k t now] w fun e w' => ∃ p c, e = .returned (tdV 0 default p 0 c) ∧ DidQ w w' Q B G R P l p [] := by
  have H2 := Lib.hid (two_new w #[.int .i64 k, .int .u64 t.a, .int .u64 t.s, .int .i64 t.p, .int .u64 now] #[.int .i64 0, .int .u64 0, .int .u64 0, .int .i64 0, .slice none 0 0] 59 56)
  obtain ⟨⟨lQ, lB⟩, lG, lR⟩ := h.lts
  have H := Lib.hid h
  have k0 : (k == 0) = false := by simpa using h0
  have k1 : (k == 1) = false := by simpa using h1
  have k2 : (k == 2) = false := by simpa using h2
  have k3 : (k == 3) = false := by simpa using h3
  clear h h0 h1 h2 h3
  unfold akV tdV
  simp only [default]
  go_enter Try.func22, Try.ntmps22
  go_upto_region 1 with (fail)
  obtain ⟨W, eW, hB, hz, n0, n1⟩ := H2.out
  rw [eW]
  clear H2 eW
  obtain ⟨b1, e1⟩ : ∃ b, w.heap.size + 1 = b := ⟨_, rfl⟩
  rw [e1] at n1 hz ⊢
  obtain ⟨⟨x0, x1, x2, x3, x4⟩, _⟩ := box5 n0
  have HB := Lib.hid hB
  have HN1 := Lib.hid n1
  have l1 : b1 < W.heap.size := by omega
  clear hB n0 n1
  obtain ⟨⟨y0, y1, y2, y3, y4⟩, g0, g1, g2, g3, g4⟩ := box5 HN1.out
  have o5 := offs5 W b1 (.int .i64 0) (.int .u64 0) (.int .u64 0) (.int .i64 0) (.slice none 0 0)
  have HE : Hid (DidQ w (((((W.setCell ⟨b1, 0, none⟩ (.int .i64 0)).setCell ⟨b1, 1, none⟩ (.int .u64 0)).setCell ⟨b1, 2, none⟩ (.int .u64 0)).setCell ⟨b1, 3, none⟩ (.int .i64 0)).setCell ⟨b1, 4, none⟩ (.slice none 0 0)) Q B G R P l none []) := Lib.hid
    ⟨(H.out.bel HB.out).off o5 (by omega) (by omega) (by omega) (by omega), Off.trans (HB.out.off (Foot G R)) o5 (fun i e => .inr (by omega)), .inl rfl⟩
  clear o5
  go_wp2
  exact bodyPost_ret (v := .agg #[.int .i64 0, .int .u64 0, .int .u64 0, .int .i64 0, .slice none 0 0]) (by simp [results, Try.results22, go_sem, y0, y1, y2, y3, y4]) rfl ⟨none, 0, rfl, HE.out⟩
theorem do_any (Q B G R P : Nat) (l : List T) (a : Ak) (w : World) (h : Qu w Q B G R P l) :
    Calls Try.prog 22 #[.pointer (some ⟨Q, 0, none⟩), akV a.k a.t a.now] w fun e w' => ∃ p c, e = .returned (tdV (stE P l a) (stT l a) p (stD l a).length c) ∧ DidQ w w' Q B G R P (stL P l a) p (stD l a) := by
  obtain ⟨k, t, now⟩ := a
  by_cases h0 : k = 0
  · subst h0; exact do0 Q B G R P l t now w h
  · by_cases h1 : k = 1
    · subst h1; exact do1 Q B G R P l t now w h
    · by_cases h2 : k = 2
      · subst h2; exact do2 Q B G R P l t now w h
      · by_cases h3 : k = 3
        · subst h3; exact do3 Q B G R P l t now w h
        · have e1 : stE P l ⟨k, t, now⟩ = 0 := by unfold stE; simp [h0, h1, h2]
          have e2 : stT l ⟨k, t, now⟩ = default := by unfold stT; simp [h1]
          have e3 : stD l ⟨k, t, now⟩ = [] := by unfold stD; simp [h3]
          have e4 : stL P l ⟨k, t, now⟩ = l := by unfold stL; simp [h0, h1, h2, h3]
          rw [e1, e2, e3, e4]
          exact do9 Q B G R P l k t now w h h0 h1 h2 h3
end Go.Proofs.Ytmkpnojojkgmiaa
