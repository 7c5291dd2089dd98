/-
  Contracts of a queue's fromEnd and of what it hands back: it yields the places from the last one on.
-/
import Derived.Test.YtmkpnojojkgmiaaRead
import Derived.Test.YtmkpnojojkgmiaaDue
namespace Go.Proofs.Ytmkpnojojkgmiaa
open Go.RowKit Go.Shelf
attribute [local go_sem] Oper.semAt_some
/-- What the iterator reads. -/
structure SrcQ (Cb Q B G R P : Nat) (g : Rg) (W : World) : Prop where
  cc : W.heap[Cb]? = some (.cells #[.pointer (some ⟨Q, 0, none⟩)] 24 (0, 0))
  cq : W.heap[Q]? = some (.cells #[.pointer (some ⟨B, 0, none⟩), .slice (some ⟨R, 0, none⟩) P P] 69 (0, 0))
  ch : Chn W B G P 1 g
/-- What a round that goes on keeps. -/
def KpQ (f : Nat → Prop) (n : Nat) (W W' : World) : Prop := ∀ k, k < n → ¬ f k → W'.heap[k]? = W.heap[k]?
theorem kpq_t {f : Nat → Prop} {n : Nat} {X Y Z : World} (h : KpQ f n X Y) (k : KpQ f n Y Z) : KpQ f n X Z := fun i hi hf => (k i hi hf).trans (h i hi hf)
theorem kpq_b {f : Nat → Prop} {n : Nat} (m : Nat) (hm : n ≤ m) (W : World) (l : Nat) (o o' : Obj) (hl : m ≤ l) (ho : W.heap[l]? = some o) (_ : o.isCells = false) (_ : o.isWalk = false) : KpQ f n W (W.putObj l o') :=
  fun k hk _ => (grownBy_putObj' W l o').block k (by have := (Array.getElem?_eq_some_iff.1 ho).1; omega) (by simp; omega)
theorem SrcQ.keep {f : Nat → Prop} {n Cb Q B G R P : Nat} {g : Rg} {W W' : World} (h : SrcQ Cb Q B G R P g W) (k : KpQ f n W W') (hc : Cb < n ∧ ¬ f Cb) (hq : Q < n ∧ ¬ f Q) (hb : B < n ∧ ¬ f B) (hg : G < n ∧ ¬ f G) : SrcQ Cb Q B G R P g W' :=
  ⟨(k Cb hc.1 hc.2).trans h.cc, (k Q hq.1 hq.2).trans h.cq, (k B hb.1 hb.2).trans h.ch.hB, (k G hg.1 hg.2).trans h.ch.hG, h.ch.ne⟩
theorem SrcQ.bel {Cb Q B G R P : Nat} {g : Rg} {W W' : World} (h : SrcQ Cb Q B G R P g W) (k : Bel W W') : SrcQ Cb Q B G R P g W' :=
  ⟨k.heap h.cc, k.heap h.cq, h.ch.bel k⟩
theorem box1 {w : World} {T : Nat} {a : Value} {t : TypeId} (h : w.heap[T]? = some (.cells #[a] t (0, 0))) : w.cell? ⟨T, 0, none⟩ = some a ∧ w.frozen? ⟨T, 0, none⟩ = false := by
  refine ⟨?_, frozen_of_row w T _ _ t h⟩
  rw [cell_of_row w T _ _ t (0, 0) h]
  rfl
theorem fromEnd_any (Q B G R P : Nat) (g : Rg) (r : Nat → T) (w : World) (h : Que w Q B G R P g r) :
    Calls Try.prog 58 #[.pointer (some ⟨Q, 0, none⟩)] w fun e w' => ∃ Cb, e = .returned (.func (.func 62) #[] #[.pointer (some ⟨Cb, 0, none⟩)]) ∧ SrcQ Cb Q B G R P g w' ∧ Bel w w' ∧ w.heap.size ≤ Cb := by
  have HB : Hid (Bel w (w.alloc (.cells #[.pointer (some ⟨Q, 0, none⟩)] 24))) := Lib.hid ((Bel.refl _).alloc _ _)
  have HS : Hid (SrcQ w.heap.size Q B G R P g (w.alloc (.cells #[.pointer (some ⟨Q, 0, none⟩)] 24))) := Lib.hid
    ⟨heap_alloc_new _ _, (h.bel HB.out).hQ, (h.bel HB.out).ch⟩
  clear h
  go_enter Try.func58, Try.ntmps58
  go_wp2
  go_ret
  exact ⟨_, rfl, HS.out, HB.out, Nat.le_refl _⟩
/-- How many are left. -/
def rkq (ys : List Nat) (i s : Value) : Nat := match s with
  | .bool true => rank ys (intOf i)
  | _ => 0
set_option maxRecDepth 100000 in
set_option maxHeartbeats 2000000 in
theorem back1_in (n : Nat) (hn : 1 ≤ n) (lp Cb Q B G R P : Nat) (g : Rg) (f : Nat → Prop) (n0 : Nat) (hP : P ≤ 1024) (hc : Cb < n0 ∧ ¬ f Cb) (hq : Q < n0 ∧ ¬ f Q) (hb : B < n0 ∧ ¬ f B) (hg : G < n0 ∧ ¬ f G)
    (ys : List Nat) (hnd : ys.Nodup) (hys : ∀ y ∈ ys, y < P) (hm : Met (fun i => (g i).ah) P (P + 0) ys) (J Jx : List Nat → World → Prop) (n1 : Nat) (hJ : AbidesFrom n1 J)
    (hY : ∀ pre (x : Nat) W, x < P → J pre W → pre.length < 1025 → YieldAt Fence.wide (n - 1) Try.prog lp #[.int .i64 x] W fun e W' =>
      (e = .returned (.bool true) ∧ J (pre ++ [x]) W' ∧ KpQ f n0 W W') ∨ (e = .returned (.bool false) ∧ Jx (pre ++ [x]) W'))
    (W : World) (hS : SrcQ Cb Q B G R P g W) (h0 : J [] W) :
    CallsIn Fence.wide n Try.prog 62 #[.func (.yield lp) #[] #[], .pointer (some ⟨Cb, 0, none⟩)] W fun e W' => (∃ v, e = .returned v) ∧
      ((∃ zs, zs = ys ∧ J zs W') ∨ (∃ pre, pre <+: ys ∧ Jx pre W')) := by
  have hlen : ys.length ≤ 1024 := Nat.le_trans (nodup_len P ys hnd hys) hP
  have HJ := Lib.hid hJ
  have HY := Lib.hid hY
  have HS := Lib.hid hS
  have H0 := Lib.hid h0
  have KL : Hid (Calls Try.prog 63 #[.pointer (some ⟨B, 0, none⟩), .int .i64 0] W fun e w' => e = .returned (ans ys.head?) ∧ Bel W w') := Lib.hid (last_yes B G P 1 g 0 ys W hS.ch hP (by omega) (by omega) hnd hys hm)
  have HL : Hid (Left (fun i => (g i).ah) P ys [] ys ((g (P + 0)).ah)) := Lib.hid (left_start hm)
  obtain ⟨k0, _⟩ := box1 hS.cc
  obtain ⟨⟨k1, k2⟩, _⟩ := box2 hS.cq
  have HM := Lib.hid hm
  clear hJ hY h0 hm hS
  simp only [ans_eq] at KL
  generalize hv0 : pv ys.head? = v0 at *
  generalize hs0 : ys.head?.isSome = s0 at *
  have HV0 := Lib.hid hv0
  have HS0 := Lib.hid hs0
  clear hv0 hs0
  refine callsIn_wide.2 ?_
  go_enter Try.func62, Try.ntmps62
  go_wp2_with fail
  with_reducible refine KL.out.mono ?_
  rintro e w1 ⟨rfl, hb1⟩
  have HS1 := Lib.hid (HS.out.bel hb1)
  have HJ1 := Lib.hid (abides_bel HJ.out H0.out hb1)
  clear hb1 k0 k1 k2
  go_wp2
  go_loopw [3, 4] (fun i s wr => ∃ pre rest, i = .int .i64 (pv rest.head?) ∧ s = .bool rest.head?.isSome ∧ ys = pre ++ rest ∧ (∀ y r, rest = y :: r → Met (fun i => (g i).ah) P y r) ∧ J pre wr ∧ SrcQ Cb Q B G R P g wr) (fun i s _ => rkq ys i s)
  case atStart => exact ⟨[], ys, by rw [HV0.out], by rw [HS0.out], rfl, fun y r e => by have := HM.out; rw [e] at this; exact this.2.2, HJ1.out, HS1.out⟩
  case round =>
    clear HS1 HJ1 KL
    obtain ⟨pre, rest, rfl, rfl, hal, hme, hj, hs⟩ := hrel
    have HAL := Lib.hid hal
    have HME := Lib.hid hme
    have HJ2 := Lib.hid hj
    have HS2 := Lib.hid hs
    clear hal hme hj hs
    cases rest with
    | nil =>
      simp only [List.head?_nil, pv, Option.getD_none, Option.isSome_none]
      go_wp2
      go_end0
      exact ⟨⟨_, rfl⟩, .inl ⟨_, rfl, by rw [HAL.out]; simpa using HJ2.out⟩⟩
    | cons y rs =>
      have hy : y < P := hys y (by rw [HAL.out]; simp)
      have hpl : pre.length < 1025 := by
        have h1 := congrArg List.length HAL.out
        simp at h1
        omega
      have HPre : Hid (pre ++ [y] <+: ys) := Lib.hid (by rw [HAL.out]; exact ⟨rs, by simp⟩)
      simp only [List.head?_cons, pv, Option.getD_some, Option.isSome_some]
      obtain ⟨fn, tmps, assign, body, hyy, hR⟩ := HY.out pre y _ hy HJ2.out hpl
      have hya : Sem.run Try.prog (Instr.yield lp #[.int .i64 (y : Int)]) wr = .ok (.round lp fn tmps assign body) wr := hyy
      clear hyy
      refine (wpIn_wide (n := n)).1 ?_
      gi_wp2
      refine hR.mono ?_
      rintro e w5 (⟨rfl, hj5, hk5⟩ | ⟨rfl, hx5⟩)
      · have HS5 := Lib.hid (HS2.out.keep hk5 hc hq hb hg)
        have HJ5 := Lib.hid hj5
        have hrs : rs.Nodup ∧ ∀ z ∈ rs, z < P := by
          have h1 := hnd
          have h2 := hys
          rw [HAL.out] at h1 h2
          have h3 := List.nodup_append.1 h1
          exact ⟨(List.nodup_cons.1 h3.2.1).2, fun z hz => h2 z (by simp [hz])⟩
        have KP : Hid (Calls Try.prog 64 #[.pointer (some ⟨B, 0, none⟩), .int .i64 y] w5 fun e w' => e = .returned (ans rs.head?) ∧ Bel w5 w') := Lib.hid (prev_yes B G P 1 g y rs w5 HS5.out.ch hP (by omega) hy hrs.1 hrs.2 (HME.out y rs rfl))
        simp only [ans_eq] at KP
        obtain ⟨k0, _⟩ := box1 HS5.out.cc
        obtain ⟨⟨k1, k2⟩, _⟩ := box2 HS5.out.cq
        have hrk : Hid (rkq ys (.int .i64 (pv rs.head?)) (.bool rs.head?.isSome) < rank ys y) := Lib.hid (by
          have hal := HAL.out
          have e1 : rank ys y = rs.length + 1 := by
            rw [hal]
            refine rank_at y rs pre (fun e => ?_)
            have h1 := hnd
            rw [hal] at h1
            exact (List.nodup_append.1 h1).2.2 y e y (by simp) rfl
          rw [e1]
          cases rs with
          | nil => simp [rkq]
          | cons z t =>
            have e2 : rank ys z = t.length + 1 := by
              rw [hal, show pre ++ y :: z :: t = (pre ++ [y]) ++ z :: t by simp]
              refine rank_at z t (pre ++ [y]) (fun e => ?_)
              have h1 := hnd
              rw [hal, show pre ++ y :: z :: t = (pre ++ [y]) ++ z :: t by simp] at h1
              exact (List.nodup_append.1 h1).2.2 z e z (by simp) rfl
            simp [rkq, pv, intOf, e2])
        have HAL2 : Hid (ys = (pre ++ [y]) ++ rs) := Lib.hid (by rw [HAL.out]; simp)
        have HME2 : Hid (∀ z t, rs = z :: t → Met (fun i => (g i).ah) P z t) := Lib.hid (fun z t e => by have := HME.out y rs rfl; rw [e] at this; exact this.2.2)
        clear hj5 hk5 hya hR hrs
        generalize hv1 : pv rs.head? = v1 at *
        generalize hs1 : rs.head?.isSome = s1 at *
        have HV1 := Lib.hid hv1
        have HS1 := Lib.hid hs1
        clear hv1 hs1
        gi_wp2
        refine ⟨trivial, callsIn_wide.2 ?_⟩
        with_reducible refine KP.out.mono ?_
        rintro e w6 ⟨rfl, hb6⟩
        have HS6 := Lib.hid (HS5.out.bel hb6)
        have HJ6 := Lib.hid (abides_bel HJ.out HJ5.out hb6)
        clear hb6 k0 k1 k2
        gi_wp2
        go_wp2
        go_roundw
        case rel => exact ⟨pre ++ [y], rs, by rw [← HV1.out]; rfl, by rw [HS1.out], HAL2.out, HME2.out, HJ6.out, HS6.out⟩
        case measure => exact hrk.out
      · gi_wp2
        go_wp2
        go_end0
        exact ⟨⟨_, rfl⟩, .inr ⟨_, HPre.out, hx5⟩⟩
theorem back_stopsP (n : Nat) (hn : 1 ≤ n) (Cb Q B G R P : Nat) (g : Rg) (f : Nat → Prop) (n0 : Nat) (hP : P ≤ 1024) (hc : Cb < n0 ∧ ¬ f Cb) (hq : Q < n0 ∧ ¬ f Q) (hb : B < n0 ∧ ¬ f B) (hg : G < n0 ∧ ¬ f G)
    (ys : List Nat) (hnd : ys.Nodup) (hys : ∀ y ∈ ys, y < P) (hm : Met (fun i => (g i).ah) P (P + 0) ys) (w : World) (hS : SrcQ Cb Q B G R P g w) :
    SeqStopsK Fence.wide n Try.prog 62 #[.pointer (some ⟨Cb, 0, none⟩)] (fun x : Fin P => #[Value.int .i64 (x.1 : Nat)]) (KpQ f n0) (fun zs => zs.map (·.1) = ys) (fun pre => pre.map (·.1) <+: ys) 1025 w := fun l J Jx W hW hJ hJx hY h0 => by
  refine (back1_in n hn l Cb Q B G R P g f n0 hP hc hq hb hg ys hnd hys hm (fun pre W => ∃ q : List (Fin P), q.map (·.1) = pre ∧ J q W) (fun pre W => ∃ q : List (Fin P), q.map (·.1) = pre ∧ Jx q W) W.heap.size ?_ ?_ W (hS.bel (bel_of hW)) ⟨[], rfl, h0⟩).mono ?_
  · rintro s W1 W2 row ⟨q, hq, hj⟩ hg hr
    exact ⟨q, hq, hJ q W1 W2 row hj hg hr⟩
  · rintro pre x W1 hx ⟨q, rfl, hj⟩ hlt
    obtain ⟨fn, tmps, assign, body, hyy, hR⟩ := hY q ⟨x, hx⟩ W1 hj (by simpa using hlt)
    refine ⟨fn, tmps, assign, body, hyy, hR.mono ?_⟩
    rintro e W2 (⟨rfl, h1, h2⟩ | ⟨rfl, h1⟩)
    · exact .inl ⟨rfl, ⟨_, by simp, h1⟩, h2⟩
    · exact .inr ⟨rfl, ⟨_, by simp, h1⟩⟩
  · rintro e W2 ⟨hv, (⟨zs, rfl, q, hq, hj⟩ | ⟨pre, hp, q, rfl, hj⟩)⟩
    · exact ⟨hv, .inl ⟨q, hq, hj⟩⟩
    · exact ⟨hv, .inr ⟨q, hp, hj⟩⟩
end Go.Proofs.Ytmkpnojojkgmiaa
