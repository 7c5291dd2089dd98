/-
  Contract of the document's Do: what an act does to its queue, and what it tells.
  A row of marks: how it lies in memory, how it is made and set.
  Contracts of the document's Slots and looked.
  Contracts of the document's wheel: New and Do.
-/
import Derived.Test.YtdoceldofkaapaaGreatDoorXad
import Derived.Test.YtdoceldofkaapaaGreatDoorXaf
import Derived.Test.YtdoceldofkaapaaGreatDoorXac
import Derived.Test.YtdoceldofkaapaaGreatDoorXab
import Derived.BigQuiet
import Derived.OwnWalk
import Derived.Test.YtdoceldofkaapaaGreatDoorXaa
set_option linter.unusedVariables false
set_option linter.unusedSimpArgs false
namespace Go.Proofs.YtdoceldofkaapaaGreatDoor
open Go.RowKit
theorem Lies.wide {f : Nat → Prop} {w W : World} {p : Option Addr} {cs : List Value} (h : Lies f w p cs) (k : Bel w W) : Lies (fun j => f j ∨ w.heap.size ≤ j ∧ j < W.heap.size) W p cs := by
  rcases h with h | ⟨b, off, e, hf, h⟩
  · exact .inl h
  · by_cases h0 : cs = []
    · exact .inl h0
    · have := h.lt h0
      exact .inr ⟨b, off, e, fun e => by rcases e with e | e; exact hf e; omega, h.off (fun e => e) k⟩
theorem off7 (w : World) (S U : Nat) (a b x y z u v : Value) : Off (fun k => k = S ∨ k = U) w (sto5 ((w.setCell ⟨S, 0, none⟩ a).setCell ⟨S, 1, none⟩ b) U x y z u v) :=
  Off.then ((off2 w S a b).mono (fun _ _ e => .inl e)) ((offs5 _ U x y z u v).mono (fun _ _ e => .inr e))
theorem four_new (w : World) (a b c d : Array Value) (ta tb tc td : TypeId) : ∃ W, (((w.alloc (.cells a ta)).alloc (.cells b tb)).alloc (.cells c tc)).alloc (.cells d td) = W ∧ Bel w W ∧ W.heap.size = w.heap.size + 1 + 1 + 1 + 1 ∧
    W.heap[w.heap.size]? = some (.cells a ta (0, 0)) ∧ W.heap[w.heap.size + 1]? = some (.cells b tb (0, 0)) ∧ W.heap[w.heap.size + 1 + 1]? = some (.cells c tc (0, 0)) ∧ W.heap[w.heap.size + 1 + 1 + 1]? = some (.cells d td (0, 0)) := by
  obtain ⟨W, e, h1, h2, h3, h4, h5⟩ := three_new w a b c ta tb tc
  rw [e]
  refine ⟨_, rfl, h1.alloc _ _, by simp [h2], ?_, ?_, ?_, ?_⟩
  · rw [Below.heap_alloc _ _ _ (by omega), h3]
  · rw [Below.heap_alloc _ _ _ (by omega), h4]
  · rw [Below.heap_alloc _ _ _ (by omega), h5]
  · rw [← h2]; exact heap_alloc_new _ _
/-- Behind an act: the document's queue, and what was told. -/
structure DidD (f : Nat → Prop) (w w' : World) (p : Option Addr) (c : Nat) (l : List T) (q : Option Addr) (d : List T) : Prop where
  doc : DocOut f w w' p c l
  fresh : Lies (old w) w' q (encs d)
theorem DidD.mk2 {f : Nat → Prop} {w W w1 w' : World} {p : Option Addr} {c : Nat} {l : List T} {S U : Nat} (hB : Bel w W) (hd : DocOut (fun j => f j ∨ w.heap.size ≤ j ∧ j < W.heap.size) W w1 p c l) (h2 : Off (fun k => k = S ∨ k = U) w1 w') (hS : w.heap.size ≤ S ∧ S < W.heap.size) (hU : w.heap.size ≤ U ∧ U < W.heap.size) : DocOut f w w' p c l := by
  refine ⟨hd.hc, ?_, Off.trans (hB.trans hd.bel) h2 (fun i e => .inr (by rcases e with e | e <;> omega))⟩
  have h3 := hd.lies.off (h2.mono (g := fun j => f j ∨ w.heap.size ≤ j ∧ j < W.heap.size) (fun i _ e => by rcases e with e | e; exact .inr (by omega); exact .inr (by omega))) (fun i e => e)
  exact h3.mono (fun _ _ e => .inl e)
set_option maxHeartbeats 2000000 in
theorem ddo0 (f : Nat → Prop) (P : Nat) (p : Option Addr) (c : Nat) (l : List T) (t : T) (now : Int) (w : World) (hm : l.length ≤ 5000) (hf : ∀ j, f j → j < w.heap.size) (hc : l.length ≤ c) (hl : Lies f w p (encs l)) :
    Calls Tryz.prog 45 #[.agg #[.int .i64 P, .slice p l.length c], akV 0 t now] w fun e w' => ∃ p' c' q k', e = .returned (.tuple #[.agg #[.int .i64 P, .slice p' (insL P l t).length c'], tdV (insE P l t) default q 0 k']) ∧ DidD f w w' p' c' (insL P l t) q [] := by
  have H4 := Lib.hid (four_new w #[.int .i64 P, .slice p l.length c] #[.int .i64 0, .int .u64 t.a, .int .u64 t.s, .int .i64 t.p, .int .u64 now] #[.int .i64 0, .slice none 0 0] #[.int .i64 0, .int .u64 0, .int .u64 0, .int .i64 0, .slice none 0 0] 31 43 31 39)
  have HL := Lib.hid hl
  have HF := Lib.hid hf
  have K := Lib.hid (fun (F : Nat → Prop) w' (hf : ∀ j, F j → j < w'.heap.size) (hl : Lies F w' p (encs l)) => dinsert_any F P p c l t w' hm hf hc hl)
  generalize insE P l t = er at *
  generalize hLe : (insL P l t) = L at *
  simp only [default]
  clear hl hf hLe
  unfold akV tdV
  go_enter Tryz.func45, Tryz.ntmps45
  go_upto_region 1 with (fail)
  obtain ⟨W, eW, hB, hz, n0, n1, n2, n3⟩ := H4.out
  rw [eW]
  clear H4 eW
  obtain ⟨b1, e1⟩ : ∃ b, w.heap.size + 1 = b := ⟨_, rfl⟩
  rw [e1] at n1 n2 n3 hz ⊢
  obtain ⟨b2, e2⟩ : ∃ b, b1 + 1 = b := ⟨_, rfl⟩
  rw [e2] at n2 n3 hz ⊢
  obtain ⟨b3, e3⟩ : ∃ b, b2 + 1 = b := ⟨_, rfl⟩
  rw [e3] at n3 hz ⊢
  have hS : w.heap.size ≤ b2 ∧ b2 < W.heap.size := by omega
  have hU : w.heap.size ≤ b3 ∧ b3 < W.heap.size := by omega
  have n23 : ¬ b2 = b3 := by omega
  have n32 : ¬ b3 = b2 := by omega
  obtain ⟨⟨q0, q1⟩, _⟩ := box2 n0
  obtain ⟨⟨x0, x1, x2, x3, x4⟩, _⟩ := box5 n1
  have HB := Lib.hid hB
  have HN2 := Lib.hid n2
  have HN3 := Lib.hid n3
  have HW := Lib.hid (HL.out.wide hB)
  have HG : Hid (∀ j, (f j ∨ w.heap.size ≤ j ∧ j < W.heap.size) → j < W.heap.size) := Lib.hid (fun j e => by rcases e with e | e; exact Nat.lt_of_lt_of_le (HF.out j e) hB.size; exact e.2)
  clear hB n0 n1 n2 n3 e1 e2 e3 hz
  go_wp2_with fail
  with_reducible refine (K.out _ _ HG.out HW.out).mono ?_
  rintro e w1 ⟨p1, c1, rfl, hd⟩
  have HB3 : Hid (Bel w1 (w1.alloc (.cells #[.int .i64 P, .slice p1 L.length c1] 31))) := Lib.hid ((Bel.refl _).alloc _ _)
  have HM : Hid ((w1.alloc (.cells #[.int .i64 P, .slice p1 L.length c1] 31)).heap[w1.heap.size]? = some (.cells #[.int .i64 P, .slice p1 L.length c1] 31 (0, 0))) := Lib.hid (heap_alloc_new _ _)
  have HD3 : Hid (DocOut (fun j => f j ∨ w.heap.size ≤ j ∧ j < W.heap.size) W (w1.alloc (.cells #[.int .i64 P, .slice p1 L.length c1] 31)) p1 c1 L) := Lib.hid ⟨hd.hc, hd.lies.bel HB3.out, hd.bel.trans HB3.out⟩
  clear hd q0 q1 x0 x1 x2 x3 x4
  go_upto_region 3 with (fail)
  generalize w1.alloc (.cells #[.int .i64 P, .slice p1 L.length c1] 31) = W3 at *
  obtain ⟨⟨m0, m1⟩, _⟩ := box2 HM.out
  obtain ⟨⟨z0, z1⟩, h0, h1⟩ := box2 (HD3.out.bel.heap HN2.out)
  obtain ⟨⟨y0, y1, y2, y3, y4⟩, g0, g1, g2, g3, g4⟩ := box5 (HD3.out.bel.heap HN3.out)
  have o7 := off7 W3 b2 b3 (.int .i64 P) (.slice p1 L.length c1) (.int .i64 er) (.int .u64 0) (.int .u64 0) (.int .i64 0) (.slice none 0 0)
  have HE : Hid (DidD f w (((((((W3.setCell ⟨b2, 0, none⟩ (.int .i64 P)).setCell ⟨b2, 1, none⟩ (.slice p1 L.length c1)).setCell ⟨b3, 0, none⟩ (.int .i64 er)).setCell ⟨b3, 1, none⟩ (.int .u64 0)).setCell ⟨b3, 2, none⟩ (.int .u64 0)).setCell ⟨b3, 3, none⟩ (.int .i64 0)).setCell ⟨b3, 4, none⟩ (.slice none 0 0)) p1 c1 L none []) := Lib.hid ⟨DidD.mk2 HB.out HD3.out o7 hS hU, .inl rfl⟩
  clear o7
  go_wp2
  exact bodyPost_ret (v := .tuple #[.agg #[.int .i64 P, .slice p1 L.length c1], .agg #[.int .i64 er, .int .u64 0, .int .u64 0, .int .i64 0, .slice none 0 0]]) (by simp [results, Tryz.results45, go_sem, z0, z1, y0, y1, y2, y3, y4, n23, n32]) rfl ⟨p1, c1, none, 0, rfl, HE.out⟩
set_option maxHeartbeats 2000000 in
theorem ddo2 (f : Nat → Prop) (P : Nat) (p : Option Addr) (c : Nat) (l : List T) (t : T) (now : Int) (w : World) (hm : l.length ≤ 5000) (hf : ∀ j, f j → j < w.heap.size) (hc : l.length ≤ c) (hl : Lies f w p (encs l)) (hin : hp P t.p = false → fnd l t.p = none) :
    Calls Tryz.prog 45 #[.agg #[.int .i64 P, .slice p l.length c], akV 2 t now] w fun e w' => ∃ p' c' q k', e = .returned (.tuple #[.agg #[.int .i64 P, .slice p' (movL P l t).length c'], tdV (canE P l t.p) default q 0 k']) ∧ DidD f w w' p' c' (movL P l t) q [] := by
  have H4 := Lib.hid (four_new w #[.int .i64 P, .slice p l.length c] #[.int .i64 2, .int .u64 t.a, .int .u64 t.s, .int .i64 t.p, .int .u64 now] #[.int .i64 0, .slice none 0 0] #[.int .i64 0, .int .u64 0, .int .u64 0, .int .i64 0, .slice none 0 0] 31 43 31 39)
  have HL := Lib.hid hl
  have HF := Lib.hid hf
  have K := Lib.hid (fun (F : Nat → Prop) w' (hf : ∀ j, F j → j < w'.heap.size) (hl : Lies F w' p (encs l)) => dmove_any F P p c l t w' hm hf hc hl hin)
  generalize canE P l t.p = er at *
  generalize hLe : (movL P l t) = L at *
  simp only [default]
  clear hl hf hLe hin
  unfold akV tdV
  go_enter Tryz.func45, Tryz.ntmps45
  go_upto_region 1 with (fail)
  obtain ⟨W, eW, hB, hz, n0, n1, n2, n3⟩ := H4.out
  rw [eW]
  clear H4 eW
  obtain ⟨b1, e1⟩ : ∃ b, w.heap.size + 1 = b := ⟨_, rfl⟩
  rw [e1] at n1 n2 n3 hz ⊢
  obtain ⟨b2, e2⟩ : ∃ b, b1 + 1 = b := ⟨_, rfl⟩
  rw [e2] at n2 n3 hz ⊢
  obtain ⟨b3, e3⟩ : ∃ b, b2 + 1 = b := ⟨_, rfl⟩
  rw [e3] at n3 hz ⊢
  have hS : w.heap.size ≤ b2 ∧ b2 < W.heap.size := by omega
  have hU : w.heap.size ≤ b3 ∧ b3 < W.heap.size := by omega
  have n23 : ¬ b2 = b3 := by omega
  have n32 : ¬ b3 = b2 := by omega
  obtain ⟨⟨q0, q1⟩, _⟩ := box2 n0
  obtain ⟨⟨x0, x1, x2, x3, x4⟩, _⟩ := box5 n1
  have HB := Lib.hid hB
  have HN2 := Lib.hid n2
  have HN3 := Lib.hid n3
  have HW := Lib.hid (HL.out.wide hB)
  have HG : Hid (∀ j, (f j ∨ w.heap.size ≤ j ∧ j < W.heap.size) → j < W.heap.size) := Lib.hid (fun j e => by rcases e with e | e; exact Nat.lt_of_lt_of_le (HF.out j e) hB.size; exact e.2)
  clear hB n0 n1 n2 n3 e1 e2 e3 hz
  go_wp2_with fail
  with_reducible refine (K.out _ _ HG.out HW.out).mono ?_
  rintro e w1 ⟨p1, c1, rfl, hd⟩
  have HB3 : Hid (Bel w1 (w1.alloc (.cells #[.int .i64 P, .slice p1 L.length c1] 31))) := Lib.hid ((Bel.refl _).alloc _ _)
  have HM : Hid ((w1.alloc (.cells #[.int .i64 P, .slice p1 L.length c1] 31)).heap[w1.heap.size]? = some (.cells #[.int .i64 P, .slice p1 L.length c1] 31 (0, 0))) := Lib.hid (heap_alloc_new _ _)
  have HD3 : Hid (DocOut (fun j => f j ∨ w.heap.size ≤ j ∧ j < W.heap.size) W (w1.alloc (.cells #[.int .i64 P, .slice p1 L.length c1] 31)) p1 c1 L) := Lib.hid ⟨hd.hc, hd.lies.bel HB3.out, hd.bel.trans HB3.out⟩
  clear hd q0 q1 x0 x1 x2 x3 x4
  go_upto_region 9 with (fail)
  generalize w1.alloc (.cells #[.int .i64 P, .slice p1 L.length c1] 31) = W3 at *
  obtain ⟨⟨m0, m1⟩, _⟩ := box2 HM.out
  obtain ⟨⟨z0, z1⟩, h0, h1⟩ := box2 (HD3.out.bel.heap HN2.out)
  obtain ⟨⟨y0, y1, y2, y3, y4⟩, g0, g1, g2, g3, g4⟩ := box5 (HD3.out.bel.heap HN3.out)
  have o7 := off7 W3 b2 b3 (.int .i64 P) (.slice p1 L.length c1) (.int .i64 er) (.int .u64 0) (.int .u64 0) (.int .i64 0) (.slice none 0 0)
  have HE : Hid (DidD f w (((((((W3.setCell ⟨b2, 0, none⟩ (.int .i64 P)).setCell ⟨b2, 1, none⟩ (.slice p1 L.length c1)).setCell ⟨b3, 0, none⟩ (.int .i64 er)).setCell ⟨b3, 1, none⟩ (.int .u64 0)).setCell ⟨b3, 2, none⟩ (.int .u64 0)).setCell ⟨b3, 3, none⟩ (.int .i64 0)).setCell ⟨b3, 4, none⟩ (.slice none 0 0)) p1 c1 L none []) := Lib.hid ⟨DidD.mk2 HB.out HD3.out o7 hS hU, .inl rfl⟩
  clear o7
  go_wp2
  exact bodyPost_ret (v := .tuple #[.agg #[.int .i64 P, .slice p1 L.length c1], .agg #[.int .i64 er, .int .u64 0, .int .u64 0, .int .i64 0, .slice none 0 0]]) (by simp [results, Tryz.results45, go_sem, z0, z1, y0, y1, y2, y3, y4, n23, n32]) rfl ⟨p1, c1, none, 0, rfl, HE.out⟩
set_option maxHeartbeats 2000000 in
theorem ddo1 (f : Nat → Prop) (P : Nat) (p : Option Addr) (c : Nat) (l : List T) (t : T) (now : Int) (w : World) (hm : l.length ≤ 5000) (hf : ∀ j, f j → j < w.heap.size) (hc : l.length ≤ c) (hl : Lies f w p (encs l)) (hin : hp P t.p = false → fnd l t.p = none) :
    Calls Tryz.prog 45 #[.agg #[.int .i64 P, .slice p l.length c], akV 1 t now] w fun e w' => ∃ p' c' q k', e = .returned (.tuple #[.agg #[.int .i64 P, .slice p' (wo l t.p).length c'], tdV (canE P l t.p) ((fnd l t.p).getD default) q 0 k']) ∧ DidD f w w' p' c' (wo l t.p) q [] := by
  have H4 := Lib.hid (four_new w #[.int .i64 P, .slice p l.length c] #[.int .i64 1, .int .u64 t.a, .int .u64 t.s, .int .i64 t.p, .int .u64 now] #[.int .i64 0, .slice none 0 0] #[.int .i64 0, .int .u64 0, .int .u64 0, .int .i64 0, .slice none 0 0] 31 43 31 39)
  have HL := Lib.hid hl
  have HF := Lib.hid hf
  have K := Lib.hid (fun (F : Nat → Prop) w' (hf : ∀ j, F j → j < w'.heap.size) (hl : Lies F w' p (encs l)) => dcancel_any F P p c l t.p w' hm hf hc hl hin)
  unfold dcV at K
  generalize canE P l t.p = er at *
  generalize hLe : (wo l t.p) = L at *
  clear hl hf hLe hin
  unfold akV tdV
  generalize ((fnd l t.p).getD default).a = ta at *
  generalize ((fnd l t.p).getD default).s = ts at *
  generalize ((fnd l t.p).getD default).p = tp at *
  go_enter Tryz.func45, Tryz.ntmps45
  go_upto_region 1 with (fail)
  obtain ⟨W, eW, hB, hz, n0, n1, n2, n3⟩ := H4.out
  rw [eW]
  clear H4 eW
  obtain ⟨b1, e1⟩ : ∃ b, w.heap.size + 1 = b := ⟨_, rfl⟩
  rw [e1] at n1 n2 n3 hz ⊢
  obtain ⟨b2, e2⟩ : ∃ b, b1 + 1 = b := ⟨_, rfl⟩
  rw [e2] at n2 n3 hz ⊢
  obtain ⟨b3, e3⟩ : ∃ b, b2 + 1 = b := ⟨_, rfl⟩
  rw [e3] at n3 hz ⊢
  have hS : w.heap.size ≤ b2 ∧ b2 < W.heap.size := by omega
  have hU : w.heap.size ≤ b3 ∧ b3 < W.heap.size := by omega
  have n23 : ¬ b2 = b3 := by omega
  have n32 : ¬ b3 = b2 := by omega
  obtain ⟨⟨q0, q1⟩, _⟩ := box2 n0
  obtain ⟨⟨x0, x1, x2, x3, x4⟩, _⟩ := box5 n1
  have HB := Lib.hid hB
  have HN2 := Lib.hid n2
  have HN3 := Lib.hid n3
  have HW := Lib.hid (HL.out.wide hB)
  have HG : Hid (∀ j, (f j ∨ w.heap.size ≤ j ∧ j < W.heap.size) → j < W.heap.size) := Lib.hid (fun j e => by rcases e with e | e; exact Nat.lt_of_lt_of_le (HF.out j e) hB.size; exact e.2)
  clear hB n0 n1 n2 n3 e1 e2 e3 hz
  go_wp2_with fail
  with_reducible refine (K.out _ _ HG.out HW.out).mono ?_
  rintro e w1 ⟨p1, c1, rfl, hd⟩
  have HB3 : Hid (Bel w1 ((w1.alloc (.cells #[.int .i64 P, .slice p1 L.length c1] 31)).alloc (.cells #[.int .u64 ta, .int .u64 ts, .int .i64 tp] 37))) := Lib.hid (((Bel.refl _).alloc _ _).alloc _ _)
  have HM := Lib.hid (two_new w1 #[.int .i64 P, .slice p1 L.length c1] #[.int .u64 ta, .int .u64 ts, .int .i64 tp] 31 37)
  have HD3 : Hid (DocOut (fun j => f j ∨ w.heap.size ≤ j ∧ j < W.heap.size) W ((w1.alloc (.cells #[.int .i64 P, .slice p1 L.length c1] 31)).alloc (.cells #[.int .u64 ta, .int .u64 ts, .int .i64 tp] 37)) p1 c1 L) := Lib.hid ⟨hd.hc, hd.lies.bel HB3.out, hd.bel.trans HB3.out⟩
  have hzz : W.heap.size ≤ w1.heap.size := hd.bel.size
  clear hd q0 q1 x0 x1 x2 x3 x4
  go_upto_region 6 with (fail)
  obtain ⟨W3, eW3, _, hz3, hm0, hm1⟩ := HM.out
  rw [eW3] at HB3 HD3 ⊢
  clear eW3 HM
  obtain ⟨c9, e9⟩ : ∃ b, w1.heap.size + 1 = b := ⟨_, rfl⟩
  rw [e9] at hm1 hz3 ⊢
  obtain ⟨c8, e8⟩ : ∃ b, w1.heap.size = b := ⟨_, rfl⟩
  rw [e8] at hm0 ⊢
  obtain ⟨⟨m0, m1⟩, _⟩ := box2 hm0
  obtain ⟨⟨r0, r1, r2⟩, _⟩ := box3 hm1
  have u1 : ¬ b2 = c8 := by omega
  have u2 : ¬ c8 = b2 := by omega
  have u3 : ¬ b2 = c9 := by omega
  have u4 : ¬ c9 = b2 := by omega
  have u5 : ¬ b3 = c8 := by omega
  have u6 : ¬ c8 = b3 := by omega
  have u7 : ¬ b3 = c9 := by omega
  have u8 : ¬ c9 = b3 := by omega
  clear hm0 hm1 hz3 e9 e8 hzz
  obtain ⟨⟨z0, z1⟩, h0, h1⟩ := box2 (HD3.out.bel.heap HN2.out)
  obtain ⟨⟨y0, y1, y2, y3, y4⟩, g0, g1, g2, g3, g4⟩ := box5 (HD3.out.bel.heap HN3.out)
  have o7 := (off7 W3 b2 b3 (.int .i64 P) (.slice p1 L.length c1) (.int .i64 er) (.int .u64 ta) (.int .u64 ts) (.int .i64 tp) (.slice none 0 0)).drew
  have HE : Hid (DidD f w (((((((W3.setCell ⟨b2, 0, none⟩ (.int .i64 P)).setCell ⟨b2, 1, none⟩ (.slice p1 L.length c1)).setCell ⟨b3, 0, none⟩ (.int .i64 er)).setCell ⟨b3, 1, none⟩ (.int .u64 ta)).setCell ⟨b3, 2, none⟩ (.int .u64 ts)).setCell ⟨b3, 3, none⟩ (.int .i64 tp)).setCell ⟨b3, 4, none⟩ (.slice none 0 0)).drew p1 c1 L none []) := Lib.hid ⟨DidD.mk2 HB.out HD3.out o7 hS hU, .inl rfl⟩
  clear o7
  go_wp2
  go_region
  all_goals
    go_wp2
    exact bodyPost_ret (v := .tuple #[.agg #[.int .i64 P, .slice p1 L.length c1], .agg #[.int .i64 er, .int .u64 ta, .int .u64 ts, .int .i64 tp, .slice none 0 0]]) (by simp [results, Tryz.results45, go_sem, z0, z1, y0, y1, y2, y3, y4, n23, n32]) rfl ⟨p1, c1, none, 0, rfl, HE.out⟩
set_option maxHeartbeats 2000000 in
theorem ddo3 (f : Nat → Prop) (P : Nat) (p : Option Addr) (c : Nat) (l : List T) (t : T) (now : Int) (w : World) (hm : l.length ≤ 5000) (hf : ∀ j, f j → j < w.heap.size) (hc : l.length ≤ c) (hl : Lies f w p (encs l)) :
    Calls Tryz.prog 45 #[.agg #[.int .i64 P, .slice p l.length c], akV 3 t now] w fun e w' => ∃ p' c' q k', e = .returned (.tuple #[.agg #[.int .i64 P, .slice p' (due l now false).length c'], tdV 0 default q (due l now true).length k']) ∧ DidD f w w' p' c' (due l now false) q (due l now true) := by
  have H4 := Lib.hid (four_new w #[.int .i64 P, .slice p l.length c] #[.int .i64 3, .int .u64 t.a, .int .u64 t.s, .int .i64 t.p, .int .u64 now] #[.int .i64 0, .slice none 0 0] #[.int .i64 0, .int .u64 0, .int .u64 0, .int .i64 0, .slice none 0 0] 31 43 31 39)
  have HL := Lib.hid hl
  have HF := Lib.hid hf
  have K := Lib.hid (fun (F : Nat → Prop) w' (hf : ∀ j, F j → j < w'.heap.size) (hl : Lies F w' p (encs l)) => ddue_any F P p c l now w' hm hf hl)
  generalize hLe : due l now false = L at *
  generalize hDe : due l now true = D at *
  simp only [default]
  clear hl hf hLe hDe
  unfold akV tdV
  go_enter Tryz.func45, Tryz.ntmps45
  go_upto_region 1 with (fail)
  obtain ⟨W, eW, hB, hz, n0, n1, n2, n3⟩ := H4.out
  rw [eW]
  clear H4 eW
  obtain ⟨b1, e1⟩ : ∃ b, w.heap.size + 1 = b := ⟨_, rfl⟩
  rw [e1] at n1 n2 n3 hz ⊢
  obtain ⟨b2, e2⟩ : ∃ b, b1 + 1 = b := ⟨_, rfl⟩
  rw [e2] at n2 n3 hz ⊢
  obtain ⟨b3, e3⟩ : ∃ b, b2 + 1 = b := ⟨_, rfl⟩
  rw [e3] at n3 hz ⊢
  have hS : w.heap.size ≤ b2 ∧ b2 < W.heap.size := by omega
  have hU : w.heap.size ≤ b3 ∧ b3 < W.heap.size := by omega
  have n23 : ¬ b2 = b3 := by omega
  have n32 : ¬ b3 = b2 := by omega
  obtain ⟨⟨q0, q1⟩, _⟩ := box2 n0
  obtain ⟨⟨x0, x1, x2, x3, x4⟩, _⟩ := box5 n1
  have HB := Lib.hid hB
  have HN2 := Lib.hid n2
  have HN3 := Lib.hid n3
  have HW := Lib.hid (HL.out.wide hB)
  have HG : Hid (∀ j, (f j ∨ w.heap.size ≤ j ∧ j < W.heap.size) → j < W.heap.size) := Lib.hid (fun j e => by rcases e with e | e; exact Nat.lt_of_lt_of_le (HF.out j e) hB.size; exact e.2)
  clear hB n0 n1 n2 n3 e1 e2 e3 hz
  go_wp2_with fail
  with_reducible refine (K.out _ _ HG.out HW.out).mono ?_
  rintro e w1 ⟨p1, c1, q1', k1, rfl, hd, hh⟩
  have HB3 : Hid (Bel w1 (w1.alloc (.cells #[.int .i64 P, .slice p1 L.length c1] 31))) := Lib.hid ((Bel.refl _).alloc _ _)
  have HM : Hid ((w1.alloc (.cells #[.int .i64 P, .slice p1 L.length c1] 31)).heap[w1.heap.size]? = some (.cells #[.int .i64 P, .slice p1 L.length c1] 31 (0, 0))) := Lib.hid (heap_alloc_new _ _)
  have HD3 : Hid (DocOut (fun j => f j ∨ w.heap.size ≤ j ∧ j < W.heap.size) W (w1.alloc (.cells #[.int .i64 P, .slice p1 L.length c1] 31)) p1 c1 L) := Lib.hid ⟨hd.hc, hd.lies.bel HB3.out, hd.bel.trans HB3.out⟩
  have HH3 : Hid (Lies (old W) (w1.alloc (.cells #[.int .i64 P, .slice p1 L.length c1] 31)) q1' (encs D)) := Lib.hid (hh.bel HB3.out)
  clear hd hh q0 q1 x0 x1 x2 x3 x4
  go_upto_region 12 with (fail)
  generalize w1.alloc (.cells #[.int .i64 P, .slice p1 L.length c1] 31) = W3 at *
  obtain ⟨⟨m0, m1⟩, _⟩ := box2 HM.out
  obtain ⟨⟨z0, z1⟩, h0, h1⟩ := box2 (HD3.out.bel.heap HN2.out)
  obtain ⟨⟨y0, y1, y2, y3, y4⟩, g0, g1, g2, g3, g4⟩ := box5 (HD3.out.bel.heap HN3.out)
  have o7 := off7 W3 b2 b3 (.int .i64 P) (.slice p1 L.length c1) (.int .i64 0) (.int .u64 0) (.int .u64 0) (.int .i64 0) (.slice q1' D.length k1)
  have HE : Hid (DidD f w (((((((W3.setCell ⟨b2, 0, none⟩ (.int .i64 P)).setCell ⟨b2, 1, none⟩ (.slice p1 L.length c1)).setCell ⟨b3, 0, none⟩ (.int .i64 0)).setCell ⟨b3, 1, none⟩ (.int .u64 0)).setCell ⟨b3, 2, none⟩ (.int .u64 0)).setCell ⟨b3, 3, none⟩ (.int .i64 0)).setCell ⟨b3, 4, none⟩ (.slice q1' D.length k1)) p1 c1 L q1' D) := Lib.hid ⟨DidD.mk2 HB.out HD3.out o7 hS hU, (HH3.out.off (o7.mono (g := old W) (fun i _ e => by unfold old; omega)) (fun i e => e)).mono (fun b _ e => Nat.lt_of_lt_of_le e HB.out.size)⟩
  clear o7
  go_wp2
  exact bodyPost_ret (v := .tuple #[.agg #[.int .i64 P, .slice p1 L.length c1], .agg #[.int .i64 0, .int .u64 0, .int .u64 0, .int .i64 0, .slice q1' D.length k1]]) (by simp [results, Tryz.results45, go_sem, z0, z1, y0, y1, y2, y3, y4, n23, n32]) rfl ⟨p1, c1, q1', k1, rfl, HE.out⟩
set_option maxHeartbeats 2000000 in
theorem ddo9 (f : Nat → Prop) (P : Nat) (p : Option Addr) (c : Nat) (l : List T) (k : Int) (t : T) (now : Int) (w : World) (hm : l.length ≤ 5000) (hf : ∀ j, f j → j < w.heap.size) (hc : l.length ≤ c) (hl : Lies f w p (encs l)) (j0 : ¬ k = 0) (j1 : ¬ k = 1) (j2 : ¬ k = 2) (j3 : ¬ k = 3) :
    Calls Tryz.prog 45 #[.agg #[.int .i64 P, .slice p l.length c], akV k t now] w fun e w' => ∃ p' c' q k', e = .returned (.tuple #[.agg #[.int .i64 P, .slice p' l.length c'], tdV 0 default q 0 k']) ∧ DidD f w w' p' c' l q [] := by
  have H4 := Lib.hid (four_new w #[.int .i64 P, .slice p l.length c] #[.int .i64 k, .int .u64 t.a, .int .u64 t.s, .int .i64 t.p, .int .u64 now] #[.int .i64 0, .slice none 0 0] #[.int .i64 0, .int .u64 0, .int .u64 0, .int .i64 0, .slice none 0 0] 31 43 31 39)
  have HL := Lib.hid hl
  have HF := Lib.hid hf
  have k0 : (k == 0) = false := by simpa using j0
  have k1 : (k == 1) = false := by simpa using j1
  have k2 : (k == 2) = false := by simpa using j2
  have k3 : (k == 3) = false := by simpa using j3
  simp only [default]
  clear hl hf j0 j1 j2 j3
  unfold akV tdV
  go_enter Tryz.func45, Tryz.ntmps45
  go_upto_region 1 with (fail)
  obtain ⟨W, eW, hB, hz, n0, n1, n2, n3⟩ := H4.out
  rw [eW]
  clear H4 eW
  obtain ⟨b1, e1⟩ : ∃ b, w.heap.size + 1 = b := ⟨_, rfl⟩
  rw [e1] at n1 n2 n3 hz ⊢
  obtain ⟨b2, e2⟩ : ∃ b, b1 + 1 = b := ⟨_, rfl⟩
  rw [e2] at n2 n3 hz ⊢
  obtain ⟨b3, e3⟩ : ∃ b, b2 + 1 = b := ⟨_, rfl⟩
  rw [e3] at n3 hz ⊢
  have hS : w.heap.size ≤ b2 ∧ b2 < W.heap.size := by omega
  have hU : w.heap.size ≤ b3 ∧ b3 < W.heap.size := by omega
  have n23 : ¬ b2 = b3 := by omega
  have n32 : ¬ b3 = b2 := by omega
  obtain ⟨⟨q0, q1⟩, _⟩ := box2 n0
  obtain ⟨⟨x0, x1, x2, x3, x4⟩, _⟩ := box5 n1
  have HB := Lib.hid hB
  have HN2 := Lib.hid n2
  have HN3 := Lib.hid n3
  have HW := Lib.hid (HL.out.wide hB)
  have HG : Hid (∀ j, (f j ∨ w.heap.size ≤ j ∧ j < W.heap.size) → j < W.heap.size) := Lib.hid (fun j e => by rcases e with e | e; exact Nat.lt_of_lt_of_le (HF.out j e) hB.size; exact e.2)
  clear hB n0 n1 n2 n3 e1 e2 e3 hz
  obtain ⟨⟨z0, z1⟩, h0, h1⟩ := box2 ((Bel.refl W).heap HN2.out)
  obtain ⟨⟨y0, y1, y2, y3, y4⟩, g0, g1, g2, g3, g4⟩ := box5 ((Bel.refl W).heap HN3.out)
  have HD3 : Hid (DocOut (fun j => f j ∨ w.heap.size ≤ j ∧ j < W.heap.size) W W p c l) := Lib.hid ⟨hc, HW.out, Bel.refl _⟩
  have o7 := off7 W b2 b3 (.int .i64 P) (.slice p l.length c) (.int .i64 0) (.int .u64 0) (.int .u64 0) (.int .i64 0) (.slice none 0 0)
  have HE : Hid (DidD f w (((((((W.setCell ⟨b2, 0, none⟩ (.int .i64 P)).setCell ⟨b2, 1, none⟩ (.slice p l.length c)).setCell ⟨b3, 0, none⟩ (.int .i64 0)).setCell ⟨b3, 1, none⟩ (.int .u64 0)).setCell ⟨b3, 2, none⟩ (.int .u64 0)).setCell ⟨b3, 3, none⟩ (.int .i64 0)).setCell ⟨b3, 4, none⟩ (.slice none 0 0)) p c l none []) := Lib.hid ⟨DidD.mk2 HB.out HD3.out o7 hS hU, .inl rfl⟩
  clear o7
  go_wp2
  exact bodyPost_ret (v := .tuple #[.agg #[.int .i64 P, .slice p l.length c], .agg #[.int .i64 0, .int .u64 0, .int .u64 0, .int .i64 0, .slice none 0 0]]) (by simp [results, Tryz.results45, go_sem, z0, z1, y0, y1, y2, y3, y4, n23, n32]) rfl ⟨p, c, none, 0, rfl, HE.out⟩
theorem ddo_any (f : Nat → Prop) (P : Nat) (p : Option Addr) (c : Nat) (l : List T) (a : Ak) (w : World) (hm : l.length ≤ 5000) (hf : ∀ j, f j → j < w.heap.size) (hc : l.length ≤ c) (hl : Lies f w p (encs l)) (hin : ∀ t ∈ l, hp P t.p = true) :
    Calls Tryz.prog 45 #[.agg #[.int .i64 P, .slice p l.length c], akV a.k a.t a.now] w fun e w' => ∃ p' c' q k', e = .returned (.tuple #[.agg #[.int .i64 P, .slice p' (stL P l a).length c'], tdV (stE P l a) (stT l a) q (stD l a).length k']) ∧ DidD f w w' p' c' (stL P l a) q (stD l a) := by
  obtain ⟨k, t, now⟩ := a
  have hin2 : hp P t.p = false → fnd l t.p = none := fun e => by
    cases hx : fnd l t.p with
    | none => rfl
    | some x =>
      obtain ⟨h1, h2⟩ := fnd_some hx
      have := hin x h1
      rw [h2, e] at this
      cases this
  by_cases h0 : k = 0
  · subst h0; exact ddo0 f P p c l t now w hm hf hc hl
  · by_cases h1 : k = 1
    · subst h1; exact ddo1 f P p c l t now w hm hf hc hl hin2
    · by_cases h2 : k = 2
      · subst h2; exact ddo2 f P p c l t now w hm hf hc hl hin2
      · by_cases h3 : k = 3
        · subst h3; exact ddo3 f P p c l t now w hm hf hc hl
        · have e1 : stE P l ⟨k, t, now⟩ = 0 := by unfold stE; simp [h0, h1, h2]
          have e2 : stT l ⟨k, t, now⟩ = default := by unfold stT; simp [h1]
          have e3 : stD l ⟨k, t, now⟩ = [] := by unfold stD; simp [h3]
          have e4 : stL P l ⟨k, t, now⟩ = l := by unfold stL; simp [h0, h1, h2, h3]
          rw [e1, e2, e3, e4]
          exact ddo9 f P p c l k t now w hm hf hc hl h0 h1 h2 h3
end Go.Proofs.YtdoceldofkaapaaGreatDoor
namespace Go.Proofs.YtdoceldofkaapaaGreatDoor
open Go.RowKit
def encB (l : List Bool) : Array Value := (l.map Value.bool).toArray
def Marks (w : World) (M : Nat) (l : List Bool) : Prop := w.heap[M]? = some (.cells (encB l) 4 (0, 0))
theorem marks_get {w : World} {M : Nat} {l : List Bool} (h : Marks w M l) {k : Nat} {b : Bool} (hk : l[k]? = some b) : w.cell? ⟨M, k, none⟩ = some (.bool b) ∧ w.frozen? ⟨M, k, none⟩ = false := by
  refine ⟨?_, frozen_of_row w M k _ 4 h⟩
  rw [cell_of_row w M k _ 4 (0, 0) h]
  unfold encB
  simp [hk]
theorem marks_set {w : World} {M : Nat} {l : List Bool} (h : Marks w M l) (k : Nat) : Marks (w.setCell ⟨M, k, none⟩ (.bool true)) M (l.set k true) ∧ Off (fun j => j = M) w (w.setCell ⟨M, k, none⟩ (.bool true)) := by
  refine ⟨?_, Off.setCell (Off.refl (fun j => j = M) w) (p := ⟨M, k, none⟩) (.inl rfl) _⟩
  unfold Marks
  rw [heap_setCell_same w M k _ 4 _ h]
  congr 2
  unfold encB
  rw [List.map_set]
  simp
theorem info4 : (Tryz.prog.info? 4).map (fun i => (i.zero, i.size, i.bytes)) = some (some (.bool false), 1, 1) := by kernel_rfl
theorem made_marks {w' : World} {n M : Nat} (h : w'.ownsRow 0 4 1 (.slice (some ⟨M, 0, none⟩) n n) n (madeCells #[Value.bool false] n).toList) : Marks w' M (List.replicate n false) := by
  rcases h.2 with ⟨e, _⟩ | ⟨g, cap, cur, e, _, hg, _, _, hs, ht⟩
  · cases e
  · injection e with e1 e2 e3
    injection e1 with e1
    injection e1 with e1
    subst e1 e3
    unfold Marks
    rw [hg]
    congr 2
    unfold encB
    have h1 : cur.toList.take (n * 1) = cur.toList := List.take_of_length_le (by rw [Array.length_toList, hs]; omega)
    rw [h1, toList_madeCells_one] at ht
    apply Array.ext'
    rw [ht]
    simp
end Go.Proofs.YtdoceldofkaapaaGreatDoor
namespace Go.Proofs.YtdoceldofkaapaaGreatDoor
open Go.RowKit
theorem slots_any (b : Nat) (hb : b ≤ 6) (w : World) :
    Calls Tryz.prog 83 #[.int .i64 b] w fun e w' => e = .returned (.int .u64 (slo b)) ∧ w = w' := by
  go_enter Tryz.func83, Tryz.ntmps83
  go_wp2
  go_loopw [3, 4] (fun v i wr => ∃ m : Nat, v = .int .u64 (slo m) ∧ i = .int .i64 m ∧ m ≤ b ∧ wr = w) (fun _ i _ => b - (intOf i).toNat)
  case atStart => exact ⟨0, rfl, rfl, Nat.zero_le _, by trivial⟩
  case round =>
    obtain ⟨m, rfl, rfl, hm, rfl⟩ := hrel
    by_cases h : m < b
    · have h1 : (m : Int) < (b : Int) := by omega
      have hs := slo_step m
      have hz := (slo_le (b := m) (by omega)).2
      generalize slo m = z at *
      have HS := Lib.hid hs
      clear hs
      go_wp2
      go_roundw
      case rel => exact ⟨m + 1, by rw [HS.out]; go_num, by go_num, by omega, by trivial⟩
      case measure => simp [intOf]; omega
    · obtain rfl : m = b := by omega
      go_wp2
      go_ret
      first | exact ⟨rfl, rfl⟩ | exact ⟨rfl, trivial⟩
theorem take_snoc (l : List T) (i : Nat) (h : i < l.length) : l.take (i + 1) = l.take i ++ [l.getD i default] := by
  rw [List.take_succ_eq_append_getElem h]
  have e : l.getD i default = l[i] := by simp [List.getD_eq_getElem?_getD, List.getElem?_eq_getElem h]
  rw [e]
/-- Ticks. -/
def Tk (x : Int) : Prop := 0 ≤ x ∧ x ≤ 18446744073709551615
/-- The base, and how many slots were looked into, behind an act. -/
def stB (s : Int) (a : Ak) : Int := if a.k = 3 then max s a.now else s
def stK (b : Nat) (s lk : Int) (l : List T) (a : Ak) : Int := if a.k = 3 then lks (slo b) s a.now l else lk
end Go.Proofs.YtdoceldofkaapaaGreatDoor
namespace Go.Proofs.YtdoceldofkaapaaGreatDoor
open Go.RowKit
/-- A wheel, as a value. -/
abbrev whV (P : Int) (p : Option Addr) (n c : Nat) (b s lk : Int) : Value := .agg #[.int .i64 P, .slice p n c, .int .i64 b, .int .u64 s, .int .i64 lk]
/-- How many have cascaded, behind an act. -/
def stKh (b : Nat) (s lk : Int) (l : List T) (a : Ak) : Int := if a.k = 3 then lk + csc b s a.now l else lk
theorem wnew_no (P bits base : Int) (w : World) (h : ¬ ((0 ≤ P ∧ P ≤ 1024) ∧ 1 ≤ bits ∧ bits ≤ 6)) :
    Calls Tryz.prog 27 #[.int .i64 P, .int .i64 bits, .int .u64 base] w fun e w' => e = .returned (.tuple #[whV 0 none 0 0 0 0 0, .int .i64 1]) ∧ Bel w w' := by
  have HB0 : Hid (Bel w (w.alloc (.cells #[.int .i64 0, .slice none 0 0, .int .i64 0, .int .u64 0, .int .i64 0] 65))) := Lib.hid ((Bel.refl _).alloc _ _)
  have HN0 : Hid ((w.alloc (.cells #[.int .i64 0, .slice none 0 0, .int .i64 0, .int .u64 0, .int .i64 0] 65)).heap[w.heap.size]? = some (.cells #[.int .i64 0, .slice none 0 0, .int .i64 0, .int .u64 0, .int .i64 0] 65 (0, 0))) := Lib.hid (heap_alloc_new _ _)
  have KY := Lib.hid (fun w' (h : 0 ≤ P ∧ P ≤ 1024) => dnew_yes P w' h)
  have KN := Lib.hid (fun w' (h : ¬ (0 ≤ P ∧ P ≤ 1024)) => dnew_no P w' h)
  have key : ∀ (wz W : World) (hb : Bel W wz) (hB : Bel w W) (b : Nat) (hbz : w.heap.size ≤ b), Bel w (sto5 wz b (.int .i64 0) (.slice none 0 0) (.int .i64 0) (.int .u64 0) (.int .i64 0)) := fun wz W hb hB b hbz => Off.trans (hB.trans hb) (offs5 wz b _ _ _ _ _) (fun i e => .inr (by have : i = b := e; omega))
  by_cases hP : 0 ≤ P ∧ P ≤ 1024
  · have hbits : bits < 1 ∨ ¬ bits < 1 ∧ 6 < bits := by omega
    clear h
    rcases hbits with h1 | ⟨h1, h2⟩
    all_goals
      go_enter Tryz.func27, Tryz.ntmps27
      go_upto_region 1 with (fail)
      obtain ⟨b6, e6⟩ : ∃ b, w.heap.size = b := ⟨_, rfl⟩
      have KEY := Lib.hid key
      rw [e6] at HN0 KEY ⊢
      clear e6 key
      generalize w.alloc (.cells #[.int .i64 0, .slice none 0 0, .int .i64 0, .int .u64 0, .int .i64 0] 65) = W at *
      go_wp2_with fail
      with_reducible refine (KY.out _ hP).mono ?_
      rintro e w1 ⟨rfl, hb⟩
      have HB1 := Lib.hid (hb.alloc #[.int .i64 P, .slice none 0 0] 31)
      clear hb
      go_upto_region 2 with (fail)
      generalize w1.alloc (.cells #[.int .i64 P, .slice none 0 0] 31) = W1 at *
      obtain ⟨⟨y0, y1, y2, y3, y4⟩, f0, f1, f2, f3, f4⟩ := box5 (HB1.out.heap HN0.out)
      have HE := Lib.hid (KEY.out W1 W HB1.out HB0.out b6 (Nat.le_refl _))
      go_wp2
      exact bodyPost_ret (v := .tuple #[whV 0 none 0 0 0 0 0, .int .i64 1]) (by simp [results, Tryz.results27, go_sem, y0, y1, y2, y3, y4]) rfl ⟨rfl, HE.out⟩
  · clear h
    go_enter Tryz.func27, Tryz.ntmps27
    go_upto_region 1 with (fail)
    obtain ⟨b6, e6⟩ : ∃ b, w.heap.size = b := ⟨_, rfl⟩
    have KEY := Lib.hid key
    rw [e6] at HN0 KEY ⊢
    clear e6 key
    generalize w.alloc (.cells #[.int .i64 0, .slice none 0 0, .int .i64 0, .int .u64 0, .int .i64 0] 65) = W at *
    go_wp2_with fail
    with_reducible refine (KN.out _ hP).mono ?_
    rintro e w1 ⟨rfl, hb⟩
    have HB1 := Lib.hid (hb.alloc #[.int .i64 0, .slice none 0 0] 31)
    clear hb
    go_upto_region 2 with (fail)
    generalize w1.alloc (.cells #[.int .i64 0, .slice none 0 0] 31) = W1 at *
    obtain ⟨⟨y0, y1, y2, y3, y4⟩, f0, f1, f2, f3, f4⟩ := box5 (HB1.out.heap HN0.out)
    have HE := Lib.hid (KEY.out W1 W HB1.out HB0.out b6 (Nat.le_refl _))
    go_wp2
    exact bodyPost_ret (v := .tuple #[whV 0 none 0 0 0 0 0, .int .i64 1]) (by simp [results, Tryz.results27, go_sem, y0, y1, y2, y3, y4]) rfl ⟨rfl, HE.out⟩
theorem wnew_yes (P bits base : Int) (w : World) (h : (0 ≤ P ∧ P ≤ 1024) ∧ 1 ≤ bits ∧ bits ≤ 6) :
    Calls Tryz.prog 27 #[.int .i64 P, .int .i64 bits, .int .u64 base] w fun e w' => e = .returned (.tuple #[whV P none 0 0 bits base 0, .int .i64 0]) ∧ Bel w w' := by
  have HB0 : Hid (Bel w (w.alloc (.cells #[.int .i64 0, .slice none 0 0, .int .i64 0, .int .u64 0, .int .i64 0] 65))) := Lib.hid ((Bel.refl _).alloc _ _)
  have HN0 : Hid ((w.alloc (.cells #[.int .i64 0, .slice none 0 0, .int .i64 0, .int .u64 0, .int .i64 0] 65)).heap[w.heap.size]? = some (.cells #[.int .i64 0, .slice none 0 0, .int .i64 0, .int .u64 0, .int .i64 0] 65 (0, 0))) := Lib.hid (heap_alloc_new _ _)
  have KY := Lib.hid (fun w' => dnew_yes P w' h.1)
  have h1 : ¬ bits < 1 := by omega
  have h2 : ¬ 6 < bits := by omega
  have key : ∀ (wz W : World) (hb : Bel W wz) (hB : Bel w W) (b : Nat) (hbz : w.heap.size ≤ b), Bel w (sto5 wz b (.int .i64 P) (.slice none 0 0) (.int .i64 bits) (.int .u64 base) (.int .i64 0)) := fun wz W hb hB b hbz => Off.trans (hB.trans hb) (offs5 wz b _ _ _ _ _) (fun i e => .inr (by have : i = b := e; omega))
  clear h
  go_enter Tryz.func27, Tryz.ntmps27
  go_upto_region 1 with (fail)
  obtain ⟨b6, e6⟩ : ∃ b, w.heap.size = b := ⟨_, rfl⟩
  have KEY := Lib.hid key
  rw [e6] at HN0 KEY ⊢
  clear e6 key
  generalize w.alloc (.cells #[.int .i64 0, .slice none 0 0, .int .i64 0, .int .u64 0, .int .i64 0] 65) = W at *
  go_wp2_with fail
  with_reducible refine (KY.out _).mono ?_
  rintro e w1 ⟨rfl, hb⟩
  have HB1 := Lib.hid (hb.alloc #[.int .i64 P, .slice none 0 0] 31)
  have HM := Lib.hid (heap_alloc_new w1 (.cells #[.int .i64 P, .slice none 0 0] 31))
  clear hb
  go_upto_region 2 with (fail)
  generalize w1.alloc (.cells #[.int .i64 P, .slice none 0 0] 31) = W1 at *
  obtain ⟨⟨m0, m1⟩, _⟩ := box2 HM.out
  obtain ⟨⟨y0, y1, y2, y3, y4⟩, f0, f1, f2, f3, f4⟩ := box5 (HB1.out.heap HN0.out)
  have HE := Lib.hid (KEY.out W1 W HB1.out HB0.out b6 (Nat.le_refl _))
  go_wp2
  exact bodyPost_ret (v := .tuple #[whV P none 0 0 bits base 0, .int .i64 0]) (by simp [results, Tryz.results27, go_sem, y0, y1, y2, y3, y4]) rfl ⟨rfl, HE.out⟩
theorem level_any (s a : Int) (b : Nat) (hb : 1 ≤ b ∧ b ≤ 6) (hs : Tk s) (ha : Tk a) (w : World) :
    Calls Tryz.prog 57 #[.int .u64 s, .int .u64 a, .int .i64 b] w fun e w' => e = .returned (.int .i64 (lv b s a)) ∧ Bel w w' := by
  unfold Tk at hs ha
  exact (D3.rLevel s a b hs.1 (by omega) ha.1 (by omega) b (by unfold wi; omega) w).mono fun e w' h => ⟨h.1, bel_of h.2.2⟩
theorem slot_any (s a : Int) (b : Nat) (hb : 1 ≤ b ∧ b ≤ 6) (hs : Tk s) (ha : Tk a) (w : World) :
    Calls Tryz.prog 60 #[.int .u64 s, .int .u64 a, .int .i64 b] w fun e w' => e = .returned (.int .i64 (sv b s a)) ∧ Bel w w' := by
  unfold Tk at hs ha
  exact (D3.rSlot s a b hs.1 (by omega) ha.1 (by omega) b (by unfold wi; omega) w).mono fun e w' h => ⟨h.1, bel_of h.2.2⟩
/-- Where a timer lies. -/
def whr (b : Nat) (s : Int) : Option T → Value
  | some t => .tuple #[.int .i64 (lv b s t.a), .int .i64 (sv b s t.a), .bool true]
  | none => .tuple #[.int .i64 0, .int .i64 0, .bool false]
set_option maxHeartbeats 2000000 in
set_option maxRecDepth 100000 in
theorem where_any (P : Int) (b : Nat) (s lk : Int) (p : Option Addr) (n c : Nat) (l : List T) (k : Int) (w : World) (hb : 1 ≤ b ∧ b ≤ 6) (hs : Tk s) (hn : l.length = n) (hm : n ≤ 5000) (ht : ∀ t ∈ l, Tk t.a) (hl : Has w p l) :
    Calls Tryz.prog 31 #[whV P p n c b s lk, .int .i64 k] w fun e w' => e = .returned (whr b s (fnd l k)) ∧ Bel w w' := by
  have HB0 : Hid (Bel w (w.alloc (.cells #[.int .i64 P, .slice p n c, .int .i64 b, .int .u64 s, .int .i64 lk] 65))) := Lib.hid ((Bel.refl _).alloc _ _)
  have HN0 : Hid ((w.alloc (.cells #[.int .i64 P, .slice p n c, .int .i64 b, .int .u64 s, .int .i64 lk] 65)).heap[w.heap.size]? = some (.cells #[.int .i64 P, .slice p n c, .int .i64 b, .int .u64 s, .int .i64 lk] 65 (0, 0))) := Lib.hid (heap_alloc_new _ _)
  have K := Lib.hid (fun w' (h : Bel w w') => dget_any P p n c l k w' hn hm (hl.bel h))
  cases hf : fnd l k with
  | none =>
    rw [hf] at K
    unfold ansT at K
    unfold whr
    clear hl hn ht hf
    go_enter Tryz.func31, Tryz.ntmps31
    go_upto_region 1 with (fail)
    generalize w.alloc (.cells #[.int .i64 P, .slice p n c, .int .i64 b, .int .u64 s, .int .i64 lk] 65) = W at *
    generalize w.heap.size = b2 at *
    obtain ⟨⟨y0, y1, y2, y3, y4⟩, _⟩ := box5 HN0.out
    go_wp2_with fail
    with_reducible refine (K.out _ HB0.out).mono ?_
    rintro e w1 ⟨rfl, hb1⟩
    have HE := Lib.hid (HB0.out.trans (hb1.alloc #[.int .u64 0, .int .u64 0, .int .i64 0] 37))
    clear hb1
    go_wp2
    exact bodyPost_ret (v := .tuple #[.int .i64 0, .int .i64 0, .bool false]) (by simp [results, Tryz.results31, go_sem]) rfl ⟨rfl, HE.out⟩
  | some t =>
    obtain ⟨hmem, hpk⟩ := fnd_some hf
    clear hpk
    rw [hf] at K
    unfold ansT at K
    have KL := Lib.hid (fun w' => level_any s t.a b hb hs (ht t hmem) w')
    have KS := Lib.hid (fun w' => slot_any s t.a b hb hs (ht t hmem) w')
    have K := Lib.hid (fun w' (h : Bel w w') => (show Calls Tryz.prog 20 #[.agg #[.int .i64 P, .slice p n c], .int .i64 k] w' fun e w2 => e = .returned (.tuple #[.agg #[.int .u64 t.a, .int .u64 t.s, .int .i64 t.p], .bool true]) ∧ Bel w' w2 from K.out w' h))
    clear hl hn ht hf hmem hs hb
    obtain ⟨lz, elz⟩ : ∃ x, lv b s t.a = x := ⟨_, rfl⟩
    obtain ⟨sz, esz⟩ : ∃ x, sv b s t.a = x := ⟨_, rfl⟩
    have HF : Hid (Ending.returned (.tuple #[.int .i64 lz, .int .i64 sz, .bool true]) = .returned (whr b s (some t))) := Lib.hid (by rw [← elz, ← esz]; rfl)
    rw [elz] at KL
    rw [esz] at KS
    clear elz esz
    generalize t.a = ta at *
    generalize t.s = ts at *
    generalize t.p = tp at *
    go_enter Tryz.func31, Tryz.ntmps31
    go_upto_region 1 with (fail)
    generalize w.alloc (.cells #[.int .i64 P, .slice p n c, .int .i64 b, .int .u64 s, .int .i64 lk] 65) = W at *
    generalize w.heap.size = b2 at *
    obtain ⟨⟨y0, y1, y2, y3, y4⟩, _⟩ := box5 HN0.out
    go_wp2_with fail
    with_reducible refine (K.out _ HB0.out).mono ?_
    rintro e w1 ⟨rfl, hb1⟩
    have HB1 := Lib.hid (hb1.alloc #[.int .u64 ta, .int .u64 ts, .int .i64 tp] 37)
    have HM := Lib.hid (heap_alloc_new w1 (.cells #[.int .u64 ta, .int .u64 ts, .int .i64 tp] 37))
    clear hb1 y0 y1 y2 y3 y4
    go_upto_region 4 with (fail)
    generalize w1.alloc (.cells #[.int .u64 ta, .int .u64 ts, .int .i64 tp] 37) = V at *
    generalize w1.heap.size = b7 at *
    have HC : Hid (∀ w', Bel V w' → (w'.cell? ⟨b2, 2, none⟩ = some (.int .i64 b) ∧ w'.cell? ⟨b2, 3, none⟩ = some (.int .u64 s)) ∧ w'.cell? ⟨b7, 0, none⟩ = some (.int .u64 ta)) := Lib.hid (fun w' h => by
      obtain ⟨_, _, g2, g3, _⟩ := (box5 ((HB1.out.trans h).heap HN0.out)).1
      exact ⟨⟨g2, g3⟩, (box3 (h.heap HM.out)).1.1⟩)
    have HD : Hid (Bel V V.drew) := Lib.hid (Bel.refl V).drew
    have HBV := Lib.hid (HB0.out.trans HB1.out)
    obtain ⟨⟨y2, y3⟩, y7⟩ := HC.out _ (Bel.refl _)
    clear HM HN0 K HB0 HB1
    go_wp2
    go_region_held3 (fun w' => (w'.cell? ⟨b2, 2, none⟩ = some (.int .i64 b) ∧ w'.cell? ⟨b2, 3, none⟩ = some (.int .u64 s)) ∧ w'.cell? ⟨b7, 0, none⟩ = some (.int .u64 ta))
      (first | (with_reducible exact HC.out _ HD.out) | (with_reducible exact HC.out _ (HD.out.trans hg1)) | (with_reducible exact HC.out _ ((HD.out.trans hg1).trans hg2)))
      (first | (go_at_call 57; (with_reducible refine (KL.out _).mono ?_); rintro e w5 ⟨rfl, hg1⟩) | (go_at_call 60; (with_reducible refine (KS.out _).mono ?_); rintro e w6 ⟨rfl, hg2⟩))
    all_goals
      have HE := Lib.hid (HBV.out.trans ((HD.out.trans hg1).trans hg2))
      clear hg1 hg2
      go_wp2
      exact bodyPost_ret (v := .tuple #[.int .i64 lz, .int .i64 sz, .bool true]) (by simp [results, Tryz.results31, go_sem]) rfl ⟨HF.out, HE.out⟩
end Go.Proofs.YtdoceldofkaapaaGreatDoor
