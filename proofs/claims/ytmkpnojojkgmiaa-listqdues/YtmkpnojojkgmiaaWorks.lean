/-
  Contract of the law's works: the document's example holds.
-/
import Derived.Test.YtmkpnojojkgmiaaDo
import Derived.Test.YtmkpnojojkgmiaaQnew
import Derived.Test.YtmkpnojojkgmiaaSame
import Derived.Test.YtmkpnojojkgmiaaDoci
import Derived.Deep.Cut
namespace Go.Proofs.Ytmkpnojojkgmiaa
open Go.RowKit
abbrev xa : T := ⟨5, 2, 0⟩
abbrev xb : T := ⟨3, 1, 1⟩
abbrev xc : T := ⟨5, 1, 2⟩
abbrev xd : T := ⟨9, 1, 2⟩
/-- A timer's box. -/
abbrev tb (t : T) : Obj := .cells #[.int .u64 t.a, .int .u64 t.s, .int .i64 t.p] 38
/-- What holds on the way. -/
structure Wk (w : World) (Q B G R b3 b4 b5 : Nat) (l : List T) (w1 : World) : Prop where
  qu : Qu w1 Q B G R 3 l
  bel : Bel w w1
  ge : w.heap.size ≤ G ∧ w.heap.size ≤ R
  m3 : w1.heap[b3]? = some (tb xa)
  m4 : w1.heap[b4]? = some (tb xb)
  m5 : w1.heap[b5]? = some (tb xc)
  nf : ¬ Foot G R b3 ∧ ¬ Foot G R b4 ∧ ¬ Foot G R b5
theorem Wk.le {w : World} {Q B G R b3 b4 b5 : Nat} {l : List T} {w1 w2 : World} (h : Wk w Q B G R b3 b4 b5 l w1) (k : Bel w1 w2) : Wk w Q B G R b3 b4 b5 l w2 :=
  ⟨h.qu.bel k, h.bel.trans k, h.ge, k.heap h.m3, k.heap h.m4, k.heap h.m5, h.nf⟩
theorem Wk.step {w : World} {Q B G R b3 b4 b5 : Nat} {l l' : List T} {w1 w2 : World} (h : Wk w Q B G R b3 b4 b5 l w1) (hq : Qu w2 Q B G R 3 l') (k : Off (Foot G R) w1 w2) : Wk w Q B G R b3 b4 b5 l' w2 :=
  ⟨hq, Off.trans h.bel k (fun i e => .inr (by have := h.ge; rcases e with e | e <;> omega)), h.ge, (k.block _ (Array.getElem?_eq_some_iff.1 h.m3).1 h.nf.1).trans h.m3, (k.block _ (Array.getElem?_eq_some_iff.1 h.m4).1 h.nf.2.1).trans h.m4, (k.block _ (Array.getElem?_eq_some_iff.1 h.m5).1 h.nf.2.2).trans h.m5, h.nf⟩
/-- The three boxes' cells. -/
def Nine (b3 b4 b5 : Nat) (w' : World) : Prop := (w'.cell? ⟨b3, 0, none⟩ = some (.int .u64 5) ∧ w'.cell? ⟨b3, 1, none⟩ = some (.int .u64 2) ∧ w'.cell? ⟨b3, 2, none⟩ = some (.int .i64 0)) ∧ (w'.cell? ⟨b4, 0, none⟩ = some (.int .u64 3) ∧ w'.cell? ⟨b4, 1, none⟩ = some (.int .u64 1) ∧ w'.cell? ⟨b4, 2, none⟩ = some (.int .i64 1)) ∧ (w'.cell? ⟨b5, 0, none⟩ = some (.int .u64 5) ∧ w'.cell? ⟨b5, 1, none⟩ = some (.int .u64 1) ∧ w'.cell? ⟨b5, 2, none⟩ = some (.int .i64 2))
theorem Wk.nine {w : World} {Q B G R b3 b4 b5 : Nat} {l : List T} {w1 : World} (h : Wk w Q B G R b3 b4 b5 l w1) : Nine b3 b4 b5 w1 := ⟨(box3 h.m3).1, (box3 h.m4).1, (box3 h.m5).1⟩
/-- What lies outside a queue's blocks stays. -/
def KeepB (G R : Nat) (w1 w2 : World) : Prop := w1.heap.size ≤ w2.heap.size ∧ ∀ b, b < w1.heap.size → ¬ Foot G R b → w2.heap[b]? = w1.heap[b]?
theorem KeepB.of {G R : Nat} {w1 w2 : World} (h : Off (Foot G R) w1 w2) : KeepB G R w1 w2 := ⟨h.size, fun b hb hf => h.block b hb hf⟩
theorem KeepB.bel {G R : Nat} {w1 w2 : World} (h : Bel w1 w2) : KeepB G R w1 w2 := KeepB.of (h.off _)
theorem KeepB.trans {G R : Nat} {w1 w2 w3 : World} (h : KeepB G R w1 w2) (k : KeepB G R w2 w3) : KeepB G R w1 w3 := ⟨Nat.le_trans h.1 k.1, fun b hb hf => (k.2 b (Nat.lt_of_lt_of_le hb h.1) hf).trans (h.2 b hb hf)⟩
theorem KeepB.at {G R : Nat} {w1 w2 : World} (h : KeepB G R w1 w2) {b : Nat} {o : Obj} (hf : ¬ Foot G R b) (ho : w1.heap[b]? = some o) : w2.heap[b]? = some o := (h.2 b (Array.getElem?_eq_some_iff.1 ho).1 hf).trans ho
section
variable {w : World} {Q B G R b3 b4 b5 : Nat}
theorem wk_insert {l l' : List T} {t : T} {er : Int} (e1 : insE 3 l t = er) (e2 : insL 3 l t = l') {w1 : World} (h : Wk w Q B G R b3 b4 b5 l w1) :
    Calls Try.prog 18 #[.pointer (some ⟨Q, 0, none⟩), .agg #[.int .u64 t.a, .int .u64 t.s, .int .i64 t.p]] w1 fun e w2 => e = .returned (.int .i64 er) ∧ Wk w Q B G R b3 b4 b5 l' w2 := by
  subst e1 e2
  exact (insert_any Q B G R 3 l t w1 h.qu).mono fun e w2 ⟨he, hq, ho⟩ => ⟨he, h.step hq ho⟩
theorem wk_insert2 {l l' : List T} {t : T} {er : Int} (e1 : insE 3 l t = er) (e2 : insL 3 l t = l') {w1 : World} (h : Wk w Q B G R b3 b4 b5 l w1) :
    Calls Try.prog 18 #[.pointer (some ⟨Q, 0, none⟩), .agg #[.int .u64 t.a, .int .u64 t.s, .int .i64 t.p]] w1 fun e w2 => e = .returned (.int .i64 er) ∧ Wk w Q B G R b3 b4 b5 l' w2 ∧ KeepB G R w1 w2 := by
  subst e1 e2
  exact (insert_any Q B G R 3 l t w1 h.qu).mono fun e w2 ⟨he, hq, ho⟩ => ⟨he, h.step hq ho, .of ho⟩
theorem wk_move {l l' : List T} {t : T} {er : Int} (e1 : canE 3 l t.p = er) (e2 : movL 3 l t = l') {w1 : World} (h : Wk w Q B G R b3 b4 b5 l w1) :
    Calls Try.prog 16 #[.pointer (some ⟨Q, 0, none⟩), .agg #[.int .u64 t.a, .int .u64 t.s, .int .i64 t.p]] w1 fun e w2 => e = .returned (.int .i64 er) ∧ Wk w Q B G R b3 b4 b5 l' w2 ∧ KeepB G R w1 w2 := by
  subst e1 e2
  exact (move_any Q B G R 3 l t w1 h.qu).mono fun e w2 ⟨he, hq, ho⟩ => ⟨he, h.step hq ho, .of ho⟩
theorem wk_cancel {l l' : List T} {k er : Int} {t : T} (e1 : canE 3 l k = er) (e2 : wo l k = l') (e3 : (fnd l k).getD default = t) {w1 : World} (h : Wk w Q B G R b3 b4 b5 l w1) :
    Calls Try.prog 17 #[.pointer (some ⟨Q, 0, none⟩), .int .i64 k] w1 fun e w2 => e = .returned (canV t er) ∧ Wk w Q B G R b3 b4 b5 l' w2 ∧ KeepB G R w1 w2 := by
  subst e1 e2 e3
  exact (cancel_any Q B G R 3 l k w1 h.qu).mono fun e w2 ⟨he, hq, ho⟩ => ⟨he, h.step hq ho, .of ho⟩
theorem wk_due {l l' d : List T} {now : Int} (e1 : due l now true = d) (e2 : due l now false = l') {w1 : World} (h : Wk w Q B G R b3 b4 b5 l w1) :
    Calls Try.prog 11 #[.pointer (some ⟨Q, 0, none⟩), .int .u64 now] w1 fun e w2 => ∃ p c, e = .returned (.slice p d.length c) ∧ Has w2 p d ∧ Wk w Q B G R b3 b4 b5 l' w2 ∧ KeepB G R w1 w2 := by
  subst e1 e2
  exact (due_any Q B G R 3 l now w1 h.qu).mono fun e w2 ⟨⟨p, c, he, _, hl⟩, hq, ho⟩ => ⟨p, c, he, hl.has, h.step hq ho, .of ho⟩
theorem wk_all {l : List T} {w1 : World} (h : Wk w Q B G R b3 b4 b5 l w1) :
    Calls Try.prog 10 #[.pointer (some ⟨Q, 0, none⟩)] w1 fun e w2 => ∃ p c, e = .returned (.slice p l.length c) ∧ Has w2 p l ∧ Bel w1 w2 :=
  (all_any Q B G R 3 l w1 h.qu).mono fun e w2 ⟨⟨p, c, he, _, hl⟩, hb⟩ => ⟨p, c, he, hl.has, hb⟩
theorem wk_min {l : List T} {t : T} (e : l.head? = some t) {w1 : World} (h : Wk w Q B G R b3 b4 b5 l w1) :
    Calls Try.prog 15 #[.pointer (some ⟨Q, 0, none⟩)] w1 fun e w2 => e = .returned (.tuple #[.agg #[.int .u64 t.a, .int .u64 t.s, .int .i64 t.p], .bool true]) ∧ Bel w1 w2 := by
  have k := min_any Q B G R 3 l w1 h.qu
  rw [e] at k
  exact k
theorem wk_get {l : List T} {t : T} {k : Int} (e : fnd l k = some t) {w1 : World} (h : Wk w Q B G R b3 b4 b5 l w1) :
    Calls Try.prog 14 #[.pointer (some ⟨Q, 0, none⟩), .int .i64 k] w1 fun e w2 => e = .returned (.tuple #[.agg #[.int .u64 t.a, .int .u64 t.s, .int .i64 t.p], .bool true]) ∧ Bel w1 w2 := by
  have k := get_any Q B G R 3 l k w1 h.qu
  rw [e] at k
  exact k
theorem wk_len {l : List T} {n : Nat} (e : l.length = n) {w1 : World} (h : Wk w Q B G R b3 b4 b5 l w1) :
    Calls Try.prog 20 #[.pointer (some ⟨Q, 0, none⟩)] w1 fun e w2 => e = .returned (.int .i64 n) ∧ Bel w1 w2 := by
  have k := len_any Q B G R 3 l w1 h.qu
  rw [e] at k
  exact k
end
theorem same_yes (p q : Option Addr) (c d : Nat) (l : List T) (w : World) (hm : l.length ≤ 5000) (h1 : Has w p l) (h2 : Has w q l) :
    Calls Try.prog 12 #[.slice p l.length c, .slice q l.length d] w fun e w' => e = .returned (.bool true) ∧ Bel w w' := by
  have K := same_any p q l.length c d l l w rfl rfl hm h1 h2
  rw [decide_eq_true rfl] at K
  exact K
theorem has_at (w : World) (b : Nat) (hB : w.heap.size = b) (l : List T) (cs : Array Value) (h : cs = (encs l).toArray) (hm : l.length ≤ 5000) : Has (w.alloc (.cells cs 38)) (some ⟨b, 0, none⟩) l := by
  subst hB
  have k := World.ownsRow_lit (base := 0) (e := 38) (size := 3) w cs l.length (Nat.zero_le _) (by unfold maxLen; omega) (by rw [h]; simp [encs_len])
  have e : cs.toList = encs l := by rw [h]
  rw [e] at k
  have hk : OwnT (w.alloc (.cells cs 38)) 0 (.slice (some ⟨w.heap.size, 0, none⟩) l.length l.length) l := k
  obtain ⟨p, cap, e2, _, _, hp⟩ := hk.slice
  injection e2 with e3
  rw [e3]
  exact hp
set_option maxHeartbeats 8000000 in
set_option maxRecDepth 100000 in
theorem works_any (w : World) : Calls Try.prog 7 #[] w fun e w' => e = .returned (.bool true) ∧ Bel w w' := by
  have K0 := Lib.hid (qnew_yes 3 w (by omega))
  have e3 : ((3 : Nat) : Int) = 3 := rfl
  rw [e3] at K0
  clear e3
  go_enter Try.func7, Try.ntmps7
  go_wp2_with fail
  with_reducible refine K0.out.mono ?_
  rintro e w1 ⟨Q, B, G, R, rfl, hF⟩
  have H3 := Lib.hid (three_new w1 #[.int .u64 5, .int .u64 2, .int .i64 0] #[.int .u64 3, .int .u64 1, .int .i64 1] #[.int .u64 5, .int .u64 1, .int .i64 2] 38 38 38)
  have HF := Lib.hid hF
  clear hF
  go_upto_region 5 with (fail)
  obtain ⟨W, eW, hB, hz, n3, n4, n5⟩ := H3.out
  rw [eW]
  clear eW H3
  obtain ⟨b4, e4⟩ : ∃ b, w1.heap.size + 1 = b := ⟨_, rfl⟩
  rw [e4] at n4 n5 hz ⊢
  obtain ⟨b5, e5⟩ : ∃ b, b4 + 1 = b := ⟨_, rfl⟩
  rw [e5] at n5 hz ⊢
  obtain ⟨b3, e3⟩ : ∃ b, w1.heap.size = b := ⟨_, rfl⟩
  rw [e3] at n3 ⊢
  have W0 : Hid (Wk w Q B G R b3 b4 b5 [] W) := Lib.hid (by
    obtain ⟨q, bl, gQ, gB, gG, gR⟩ := HF.out
    have := q.lts
    exact ⟨q.bel hB, bl.trans hB, ⟨gG, gR⟩, n3, n4, n5, ⟨fun e => by rcases e with e | e <;> omega, fun e => by rcases e with e | e <;> omega, fun e => by rcases e with e | e <;> omega⟩⟩)
  have W0d : Hid (Wk w Q B G R b3 b4 b5 [] W.drew) := Lib.hid (W0.out.le (Bel.refl _).drew)
  clear hB n3 n4 n5 e3 e4 e5 hz HF K0
  have NN : Hid (∀ l w', Wk w Q B G R b3 b4 b5 l w' → Nine b3 b4 b5 w') := Lib.hid (fun l w' h => h.nine)
  have K1 : Hid (∀ w1, Wk w Q B G R b3 b4 b5 [] w1 → Calls Try.prog 18 #[.pointer (some ⟨Q, 0, none⟩), .agg #[.int .u64 5, .int .u64 2, .int .i64 0]] w1 fun e w2 => e = .returned (.int .i64 0) ∧ Wk w Q B G R b3 b4 b5 [xa] w2) := Lib.hid (fun w1 h => wk_insert (t := xa) (by decide) (by decide) h)
  have K2 : Hid (∀ w1, Wk w Q B G R b3 b4 b5 [xa] w1 → Calls Try.prog 18 #[.pointer (some ⟨Q, 0, none⟩), .agg #[.int .u64 3, .int .u64 1, .int .i64 1]] w1 fun e w2 => e = .returned (.int .i64 0) ∧ Wk w Q B G R b3 b4 b5 [xb, xa] w2) := Lib.hid (fun w1 h => wk_insert (t := xb) (by decide) (by decide) h)
  have K3 : Hid (∀ w1, Wk w Q B G R b3 b4 b5 [xb, xa] w1 → Calls Try.prog 18 #[.pointer (some ⟨Q, 0, none⟩), .agg #[.int .u64 5, .int .u64 1, .int .i64 2]] w1 fun e w2 => e = .returned (.int .i64 0) ∧ Wk w Q B G R b3 b4 b5 [xb, xc, xa] w2) := Lib.hid (fun w1 h => wk_insert (t := xc) (by decide) (by decide) h)
  go_cut [6, 7, 8] from 20 (fun f g h wx => f = .int .i64 0 ∧ g = .int .i64 0 ∧ h = .int .i64 0 ∧ Wk w Q B G R b3 b4 b5 [xb, xc, xa] wx)
  case first =>
    have nn := NN.out _ _ W0.out
    unfold Nine at *
    obtain ⟨⟨a0, a1, a2⟩, ⟨c0, c1, c2⟩, ⟨d0, d1, d2⟩⟩ := nn
    go_wp2
    go_region_held3 (fun w' => (w'.cell? ⟨b3, 0, none⟩ = some (.int .u64 5) ∧ w'.cell? ⟨b3, 1, none⟩ = some (.int .u64 2) ∧ w'.cell? ⟨b3, 2, none⟩ = some (.int .i64 0)) ∧ (w'.cell? ⟨b4, 0, none⟩ = some (.int .u64 3) ∧ w'.cell? ⟨b4, 1, none⟩ = some (.int .u64 1) ∧ w'.cell? ⟨b4, 2, none⟩ = some (.int .i64 1)) ∧ (w'.cell? ⟨b5, 0, none⟩ = some (.int .u64 5) ∧ w'.cell? ⟨b5, 1, none⟩ = some (.int .u64 1) ∧ w'.cell? ⟨b5, 2, none⟩ = some (.int .i64 2)))
      (first | (with_reducible exact NN.out _ _ W0d.out) | (with_reducible exact NN.out _ _ hw1) | (with_reducible exact NN.out _ _ hw2) | (with_reducible exact NN.out _ _ hw3))
      (first | (go_at_call 18; (with_reducible refine (K1.out _ W0d.out).mono ?_); rintro e w2 ⟨rfl, hw1⟩) | (go_at_call 18; (with_reducible refine (K2.out _ hw1).mono ?_); rintro e w3 ⟨rfl, hw2⟩) | (go_at_call 18; (with_reducible refine (K3.out _ hw2).mono ?_); rintro e w4 ⟨rfl, hw3⟩))
    all_goals
      go_wp2_with fail
      go_meet
      case rel => exact ⟨rfl, rfl, rfl, hw3⟩
  case rest =>
    obtain ⟨rfl, rfl, rfl, hw⟩ := hcut
    clear W0 W0d K1 K2 K3
    have W1 := Lib.hid hw
    clear hw
    go_upto_region 6 with (fail)
    go_cut [9] from 20 (fun v wx => v = .bool true ∧ Wk w Q B G R b3 b4 b5 [xb, xc, xa] wx)
    case first =>
      have NB : Hid (∀ w', Bel wc w' → Bel wc w' ∧ (w'.cell? ⟨b3, 0, none⟩ = some (.int .u64 5) ∧ w'.cell? ⟨b3, 1, none⟩ = some (.int .u64 2) ∧ w'.cell? ⟨b3, 2, none⟩ = some (.int .i64 0)) ∧ (w'.cell? ⟨b4, 0, none⟩ = some (.int .u64 3) ∧ w'.cell? ⟨b4, 1, none⟩ = some (.int .u64 1) ∧ w'.cell? ⟨b4, 2, none⟩ = some (.int .i64 1)) ∧ (w'.cell? ⟨b5, 0, none⟩ = some (.int .u64 5) ∧ w'.cell? ⟨b5, 1, none⟩ = some (.int .u64 1) ∧ w'.cell? ⟨b5, 2, none⟩ = some (.int .i64 2))) := Lib.hid (fun w' hb => ⟨hb, (W1.out.le hb).nine⟩)
      obtain ⟨_, ⟨a0, a1, a2⟩, ⟨c0, c1, c2⟩, ⟨d0, d1, d2⟩⟩ := NB.out _ (Bel.refl _)
      have A1 := Lib.hid (wk_all (W1.out.le (Bel.refl wc).drew))
      have A2 := Lib.hid (wk_all (W1.out.le ((Bel.refl wc).alloc #[.int .u64 3, .int .u64 1, .int .i64 1, .int .u64 5, .int .u64 1, .int .i64 2, .int .u64 5, .int .u64 2, .int .i64 0] 38).drew))
      have E1 : Hid (∀ w3 : World, Has (w3.alloc (.cells #[.int .u64 3, .int .u64 1, .int .i64 1, .int .u64 5, .int .u64 1, .int .i64 2, .int .u64 5, .int .u64 2, .int .i64 0] 38)) (some ⟨w3.heap.size, 0, none⟩) [xb, xc, xa]) := Lib.hid (fun w3 => has_at w3 _ rfl [xb, xc, xa] #[.int .u64 3, .int .u64 1, .int .i64 1, .int .u64 5, .int .u64 1, .int .i64 2, .int .u64 5, .int .u64 2, .int .i64 0] rfl (by decide))
      have E2 : Hid (∀ w3 : World, Bel (wc.alloc (.cells #[.int .u64 3, .int .u64 1, .int .i64 1, .int .u64 5, .int .u64 1, .int .i64 2, .int .u64 5, .int .u64 2, .int .i64 0] 38)).drew w3 → Has w3 (some ⟨wc.heap.size, 0, none⟩) [xb, xc, xa]) := Lib.hid (fun w3 hg => (has_at wc _ rfl [xb, xc, xa] #[.int .u64 3, .int .u64 1, .int .i64 1, .int .u64 5, .int .u64 1, .int .i64 2, .int .u64 5, .int .u64 2, .int .i64 0] rfl (by decide)).bel ((Bel.refl _).drew.trans hg))
      have KS : Hid (∀ p q c d w', Has w' p [xb, xc, xa] → Has w' q [xb, xc, xa] → Calls Try.prog 12 #[.slice p 3 c, .slice q 3 d] w' fun e w2 => e = .returned (.bool true) ∧ Bel w' w2) := Lib.hid (fun p q c d w' h1 h2 => same_yes p q c d [xb, xc, xa] w' (by decide) h1 h2)
      have BD : Hid (Bel wc wc.drew) := Lib.hid (Bel.refl wc).drew
      have BA : Hid (Bel wc (wc.alloc (.cells #[.int .u64 3, .int .u64 1, .int .i64 1, .int .u64 5, .int .u64 1, .int .i64 2, .int .u64 5, .int .u64 2, .int .i64 0] 38)).drew) := Lib.hid ((Bel.refl wc).alloc _ _).drew
      have el : [xb, xc, xa].length = 3 := rfl
      rw [el] at A1 A2
      clear el NN
      go_wp2
      go_region_held3 (fun w' => Bel wc w' ∧ (w'.cell? ⟨b3, 0, none⟩ = some (.int .u64 5) ∧ w'.cell? ⟨b3, 1, none⟩ = some (.int .u64 2) ∧ w'.cell? ⟨b3, 2, none⟩ = some (.int .i64 0)) ∧ (w'.cell? ⟨b4, 0, none⟩ = some (.int .u64 3) ∧ w'.cell? ⟨b4, 1, none⟩ = some (.int .u64 1) ∧ w'.cell? ⟨b4, 2, none⟩ = some (.int .i64 1)) ∧ (w'.cell? ⟨b5, 0, none⟩ = some (.int .u64 5) ∧ w'.cell? ⟨b5, 1, none⟩ = some (.int .u64 1) ∧ w'.cell? ⟨b5, 2, none⟩ = some (.int .i64 2)))
        (first | (with_reducible exact NB.out _ BD.out) | (with_reducible exact NB.out _ BA.out) | exact NB.out _ (Bel.trans (And.left (by assumption)) hg1) | exact NB.out _ (Bel.trans (And.left (by assumption)) hg2) | exact NB.out _ (Bel.alloc (w := w3) (And.left (by assumption)) _ _))
        (first | (go_at_call 10; (with_reducible refine (A1.out).mono ?_); rintro e w3 ⟨q, k, rfl, hq, hg1⟩) | (go_at_call 10; (with_reducible refine (A2.out).mono ?_); rintro e w3 ⟨q, k, rfl, hq, hg1⟩) | (go_at_call 12; (with_reducible refine (KS.out _ _ _ _ _ (hq.bel ((Bel.refl _).alloc _ _)) (E1.out w3)).mono ?_); rintro e w4 ⟨rfl, hg2⟩) | (go_at_call 12; (with_reducible refine (KS.out _ _ _ _ _ hq (E2.out _ hg1)).mono ?_); rintro e w4 ⟨rfl, hg2⟩))
      all_goals
        go_wp2_with fail
        go_meet
        case rel => exact ⟨rfl, W1.out.le (And.left (by assumption))⟩
    case rest =>
      obtain ⟨rfl, hw⟩ := hcut
      clear W1
      have W1 := Lib.hid hw
      clear hw
      go_upto_region 7 with (fail)
      go_cut [10] from 20 (fun v wx => v = .bool true ∧ Wk w Q B G R b3 b4 b5 [xc, xa] wx)
      case first =>
        have NB : Hid (∀ l w', Wk w Q B G R b3 b4 b5 l w' → (w'.cell? ⟨b4, 0, none⟩ = some (.int .u64 3) ∧ w'.cell? ⟨b4, 1, none⟩ = some (.int .u64 1) ∧ w'.cell? ⟨b4, 2, none⟩ = some (.int .i64 1))) := Lib.hid (fun l w' h => h.nine.2.1)
        obtain ⟨c0, c1, c2⟩ := NB.out _ _ W1.out
        have A1 := Lib.hid (wk_due (now := 4) (d := [xb]) (l' := [xc, xa]) (by decide) (by decide) (W1.out.le (Bel.refl wc).drew))
        have A2 := Lib.hid (wk_due (now := 4) (d := [xb]) (l' := [xc, xa]) (by decide) (by decide) (W1.out.le ((Bel.refl wc).alloc #[.int .u64 3, .int .u64 1, .int .i64 1] 38).drew))
        have hlt := W1.out.qu.lts
        have E1 : Hid (∀ w3 : World, Has (w3.alloc (.cells #[.int .u64 3, .int .u64 1, .int .i64 1] 38)) (some ⟨w3.heap.size, 0, none⟩) [xb]) := Lib.hid (fun w3 => has_at w3 _ rfl [xb] #[.int .u64 3, .int .u64 1, .int .i64 1] rfl (by decide))
        have E2 : Hid (∀ w3 : World, KeepB G R (wc.alloc (.cells #[.int .u64 3, .int .u64 1, .int .i64 1] 38)).drew w3 → Has w3 (some ⟨wc.heap.size, 0, none⟩) [xb]) := Lib.hid (fun w3 hk => by
          have h1 := hk.at (b := wc.heap.size) (fun e => by rcases e with e | e <;> omega) (heap_alloc_new wc (.cells #[.int .u64 3, .int .u64 1, .int .i64 1] 38))
          obtain ⟨⟨h2, h3, h4⟩, _⟩ := box3 h1
          refine .inr ⟨_, _, rfl, fun i hi => ?_⟩
          obtain rfl : i = 0 := by simp at hi; exact hi
          exact ⟨by simpa using h2, by simpa using h3, by simpa using h4⟩)
        have KS : Hid (∀ p q c d w', Has w' p [xb] → Has w' q [xb] → Calls Try.prog 12 #[.slice p 1 c, .slice q 1 d] w' fun e w2 => e = .returned (.bool true) ∧ Bel w' w2) := Lib.hid (fun p q c d w' h1 h2 => same_yes p q c d [xb] w' (by decide) h1 h2)
        have el : [xb].length = 1 := rfl
        rw [el] at A1 A2
        clear el NN hlt
        go_wp2
        go_region_with (first | (go_at_call 11; (with_reducible refine (A1.out).mono ?_); rintro e w3 ⟨q, k, rfl, hq, hw3, hk3⟩; have hn3 := NB.out _ _ hw3; obtain ⟨c0, c1, c2⟩ := hn3) | (go_at_call 11; (with_reducible refine (A2.out).mono ?_); rintro e w3 ⟨q, k, rfl, hq, hw3, hk3⟩; have hn3 := NB.out _ _ hw3; obtain ⟨c0, c1, c2⟩ := hn3) | (go_at_call 12; (with_reducible refine (KS.out _ _ _ _ _ (hq.bel ((Bel.refl _).alloc _ _)) (E1.out w3)).mono ?_); rintro e w4 ⟨rfl, hg2⟩; have hw4 := hw3.le ((Bel.alloc (Bel.refl w3) _ _).trans hg2)) | (go_at_call 12; (with_reducible refine (KS.out _ _ _ _ _ hq (E2.out _ hk3)).mono ?_); rintro e w4 ⟨rfl, hg2⟩; have hw4 := hw3.le hg2))
        all_goals
          go_wp2_with fail
          go_meet
          case rel => exact ⟨rfl, hw4⟩
      case rest =>
        obtain ⟨rfl, hw⟩ := hcut
        clear W1
        have W1 := Lib.hid hw
        obtain ⟨⟨lQ, lB⟩, lG, lR⟩ := hw.qu.lts
        clear hw NN
        go_wp2_with fail
        with_reducible refine (wk_min (t := xc) rfl W1.out).mono ?_
        rintro e w2 ⟨rfl, hb⟩
        have W2 := Lib.hid (W1.out.le (hb.alloc #[.int .u64 5, .int .u64 1, .int .i64 2] 38))
        have m11 := Lib.hid (heap_alloc_new w2 (.cells #[.int .u64 5, .int .u64 1, .int .i64 2] 38))
        have n11 : Hid (¬ Foot G R w2.heap.size) := Lib.hid (fun e => by have := hb.size; rcases e with e | e <;> omega)
        have z2 := hb.size
        clear hb
        go_upto_region 9 with (fail)
        generalize w2.alloc (.cells #[.int .u64 5, .int .u64 1, .int .i64 2] 38) = V2 at *
        generalize w2.heap.size = b11 at *
        have l2 : b11 < V2.heap.size := (Array.getElem?_eq_some_iff.1 m11.out).1
        have KM := Lib.hid (wk_move (t := xd) (er := 0) (l' := [xa, xd]) (by decide) (by decide) W2.out)
        go_wp2_with fail
        with_reducible refine (KM.out).mono ?_
        rintro e w3 ⟨rfl, hw, hk⟩
        have W3 := Lib.hid hw
        have m11 := Lib.hid (hk.at n11.out m11.out)
        have z3 := hk.1
        clear hw hk KM
        go_wp2_with fail
        with_reducible refine (wk_min (t := xa) rfl W3.out).mono ?_
        rintro e w4 ⟨rfl, hb⟩
        have W4 := Lib.hid (W3.out.le (hb.alloc #[.int .u64 5, .int .u64 2, .int .i64 0] 38))
        have m14 := Lib.hid (heap_alloc_new w4 (.cells #[.int .u64 5, .int .u64 2, .int .i64 0] 38))
        have m11 := Lib.hid ((hb.alloc #[.int .u64 5, .int .u64 2, .int .i64 0] 38).heap m11.out)
        have n14 : Hid (¬ Foot G R w4.heap.size) := Lib.hid (fun e => by have := hb.size; rcases e with e | e <;> omega)
        have z4 := hb.size
        clear hb
        go_upto_region 11 with (fail)
        generalize w4.alloc (.cells #[.int .u64 5, .int .u64 2, .int .i64 0] 38) = V4 at *
        generalize w4.heap.size = b14 at *
        have l4 : b14 < V4.heap.size := (Array.getElem?_eq_some_iff.1 m14.out).1
        have KC := Lib.hid (wk_cancel (k := 0) (t := xa) (er := 0) (l' := [xd]) (by decide) (by decide) (by decide) W4.out)
        unfold canV at KC
        go_wp2_with fail
        with_reducible refine (KC.out).mono ?_
        rintro e w5 ⟨rfl, hw, hk⟩
        have hkA := hk.trans (.bel ((Bel.refl w5).alloc #[.int .u64 5, .int .u64 2, .int .i64 0] 38))
        have W5 := Lib.hid (hw.le ((Bel.refl w5).alloc #[.int .u64 5, .int .u64 2, .int .i64 0] 38))
        have m16 := Lib.hid (heap_alloc_new w5 (.cells #[.int .u64 5, .int .u64 2, .int .i64 0] 38))
        have m11 := Lib.hid (hkA.at n11.out m11.out)
        have m14 := Lib.hid (hkA.at n14.out m14.out)
        have n16 : Hid (¬ Foot G R w5.heap.size) := Lib.hid (fun e => by have := hk.1; rcases e with e | e <;> omega)
        have z5 := hk.1
        clear hw hk hkA KC
        go_upto_region 12 with (fail)
        generalize w5.alloc (.cells #[.int .u64 5, .int .u64 2, .int .i64 0] 38) = V5 at *
        generalize w5.heap.size = b16 at *
        have l5 : b16 < V5.heap.size := (Array.getElem?_eq_some_iff.1 m16.out).1
        go_wp2_with fail
        with_reducible refine (wk_get (k := 2) (t := xd) (by decide) W5.out).mono ?_
        rintro e w6 ⟨rfl, hb⟩
        have W6 := Lib.hid (W5.out.le (hb.alloc #[.int .u64 9, .int .u64 1, .int .i64 2] 38))
        have m18 := Lib.hid (heap_alloc_new w6 (.cells #[.int .u64 9, .int .u64 1, .int .i64 2] 38))
        have m11 := Lib.hid ((hb.alloc #[.int .u64 9, .int .u64 1, .int .i64 2] 38).heap m11.out)
        have m14 := Lib.hid ((hb.alloc #[.int .u64 9, .int .u64 1, .int .i64 2] 38).heap m14.out)
        have m16 := Lib.hid ((hb.alloc #[.int .u64 9, .int .u64 1, .int .i64 2] 38).heap m16.out)
        have n18 : Hid (¬ Foot G R w6.heap.size) := Lib.hid (fun e => by have := hb.size; rcases e with e | e <;> omega)
        clear hb
        go_upto_region 13 with (fail)
        generalize w6.alloc (.cells #[.int .u64 9, .int .u64 1, .int .i64 2] 38) = V6 at *
        generalize w6.heap.size = b18 at *
        have HS : Hid (∀ w', KeepB G R V6 w' → (w'.cell? ⟨b11, 0, none⟩ = some (.int .u64 5) ∧ w'.cell? ⟨b11, 1, none⟩ = some (.int .u64 1) ∧ w'.cell? ⟨b11, 2, none⟩ = some (.int .i64 2)) ∧ (w'.cell? ⟨b5, 0, none⟩ = some (.int .u64 5) ∧ w'.cell? ⟨b5, 1, none⟩ = some (.int .u64 1) ∧ w'.cell? ⟨b5, 2, none⟩ = some (.int .i64 2)) ∧ (w'.cell? ⟨b14, 0, none⟩ = some (.int .u64 5) ∧ w'.cell? ⟨b14, 1, none⟩ = some (.int .u64 2) ∧ w'.cell? ⟨b14, 2, none⟩ = some (.int .i64 0)) ∧ (w'.cell? ⟨b3, 0, none⟩ = some (.int .u64 5) ∧ w'.cell? ⟨b3, 1, none⟩ = some (.int .u64 2) ∧ w'.cell? ⟨b3, 2, none⟩ = some (.int .i64 0)) ∧ (w'.cell? ⟨b16, 0, none⟩ = some (.int .u64 5) ∧ w'.cell? ⟨b16, 1, none⟩ = some (.int .u64 2) ∧ w'.cell? ⟨b16, 2, none⟩ = some (.int .i64 0)) ∧ (w'.cell? ⟨b18, 0, none⟩ = some (.int .u64 9) ∧ w'.cell? ⟨b18, 1, none⟩ = some (.int .u64 1) ∧ w'.cell? ⟨b18, 2, none⟩ = some (.int .i64 2))) := Lib.hid (fun w' hk =>
          ⟨(box3 (hk.at n11.out m11.out)).1, (box3 (hk.at W6.out.nf.2.2 W6.out.m5)).1, (box3 (hk.at n14.out m14.out)).1, (box3 (hk.at W6.out.nf.1 W6.out.m3)).1, (box3 (hk.at n16.out m16.out)).1, (box3 (hk.at n18.out m18.out)).1⟩)
        have W6d := Lib.hid (W6.out.le (Bel.refl V6).drew)
        have KD : Hid (KeepB G R V6 V6.drew) := Lib.hid (.bel (Bel.refl V6).drew)
        have KL := Lib.hid (wk_len (n := 1) rfl W6.out)
        have KI : Hid (∀ w1, Wk w Q B G R b3 b4 b5 [xd] w1 → Calls Try.prog 18 #[.pointer (some ⟨Q, 0, none⟩), .agg #[.int .u64 9, .int .u64 1, .int .i64 2]] w1 fun e w2 => e = .returned (.int .i64 4) ∧ Wk w Q B G R b3 b4 b5 [xd] w2 ∧ KeepB G R w1 w2) := Lib.hid (fun w1 h => wk_insert2 (t := xd) (by decide) (by decide) h)
        have hs0 := HS.out V6 (.bel (Bel.refl _))
        obtain ⟨⟨r0, r1, r2⟩, ⟨r3, r4, r5⟩, ⟨r6, r7, r8⟩, ⟨r9, r10, r11⟩, ⟨r12, r13, r14⟩, ⟨r15, r16, r17⟩⟩ := hs0
        clear m11 m14 m16 m18 n11 n14 n16 n18 W1 W2 W3 W4 W5 l2 l4 z2 z3 z4 z5 lQ lB lG lR
        go_wp2_with fail
        with_reducible refine (KL.out).mono ?_
        rintro e w7 ⟨rfl, hg1⟩
        clear r0 r1 r2 r3 r4 r5 r6 r7 r8 r9 r10 r11 r12 r13 r14 r15 r16 r17
        have hs1 := HS.out w7 (.bel hg1)
        obtain ⟨_, _, _, _, _, ⟨r15, r16, r17⟩⟩ := hs1
        have W7 := Lib.hid (W6.out.le hg1)
        clear hg1
        go_wp2_with fail
        with_reducible refine (KI.out _ W7.out).mono ?_
        rintro e w8 ⟨rfl, hw8, hk2⟩
        have W8 := Lib.hid hw8.bel
        clear hw8 hk2 r15 r16 r17
        go_wp2
        go_ret
        exact ⟨rfl, W8.out⟩
end Go.Proofs.Ytmkpnojojkgmiaa
