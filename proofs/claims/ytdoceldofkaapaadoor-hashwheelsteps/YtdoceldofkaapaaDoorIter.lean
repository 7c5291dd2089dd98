/-
  Contracts of chain's walk and of what it hands back: it yields just what one meets.
-/
import Derived.Test.YtdoceldofkaapaaDoorNew
import Derived.RangeFuncBox
import Derived.RangeFuncNested
import Derived.RangeFuncBound
import Derived.RangeFuncCalls
import Derived.RangeFuncLeaves
import Derived.Shelf.Abstract
import Derived.OwnWalkIn
import Derived.TacticsInMore
import Derived.LoopNIn
import Derived.LoopIn
import Derived.Maps.AppendAt
set_option linter.unusedVariables false
set_option linter.unusedSimpArgs false
namespace Go.Proofs.YtdoceldofkaapaaDoor
open Go.RowKit Go.Shelf
attribute [local go_sem] Oper.semAt_some

/-- How many are left from a number on. -/
def rank (ys : List Nat) (v : Int) : Nat := (ys.dropWhile fun (y : Nat) => !decide ((y : Int) = v)).length
theorem rank_at (y : Nat) (r : List Nat) : ∀ pre : List Nat, y ∉ pre → rank (pre ++ y :: r) y = r.length + 1
  | [], _ => by simp [rank]
  | a :: p, h => by
    have ih := rank_at y r p (fun e => h (by simp [e]))
    have hne : ¬ (a : Int) = y := fun e => h (by have : a = y := by omega
                                                 simp [this])
    unfold rank at ih ⊢
    simp [hne]
    simpa using ih
theorem rank_none (v : Int) : ∀ ys : List Nat, (∀ y ∈ ys, ¬ (y : Int) = v) → rank ys v = 0
  | [], _ => rfl
  | a :: r, h => by
    have ih := rank_none v r (fun y hy => h y (by simp [hy]))
    have hne := h a (by simp)
    unfold rank at ih ⊢
    rw [List.dropWhile_cons_of_pos (by simp [hne])]
    exact ih
/-- What is left to be met, and what comes next. -/
structure Left (d : Nat → Int) (P : Nat) (ys pre rest : List Nat) (v : Int) : Prop where
  al : ys = pre ++ rest
  no : rest = [] → ¬ (0 ≤ v ∧ v < P)
  yes : ∀ y r, rest = y :: r → v = y ∧ y < P ∧ Met d P y r
theorem Left.next {d : Nat → Int} {P : Nat} {ys pre r : List Nat} {y : Nat} {v : Int} (h : Left d P ys pre (y :: r) v) : Left d P ys (pre ++ [y]) r (d y) := by
  obtain ⟨h1, h2, h3⟩ := h.yes y r rfl
  refine ⟨by rw [h.al]; simp, fun e => ?_, fun z t e => ?_⟩
  · subst e; exact h3
  · subst e; exact h3
theorem left_start {d : Nat → Int} {P s : Nat} {ys : List Nat} (h : Met d P s ys) : Left d P ys [] ys (d s) := by
  refine ⟨rfl, fun e => ?_, fun z t e => ?_⟩
  · subst e; exact h
  · subst e; exact h
theorem Left.rank {d : Nat → Int} {P : Nat} {ys pre rest : List Nat} {v : Int} (h : Left d P ys pre rest v) (hn : ys.Nodup) (hp : ∀ y ∈ ys, y < P) : rank ys v = rest.length := by
  cases rest with
  | nil =>
    have h1 := h.no rfl
    refine rank_none v ys (fun y hy e => h1 ?_)
    have := hp y hy
    omega
  | cons y r =>
    obtain ⟨h1, h2, h3⟩ := h.yes y r rfl
    have ha := h.al
    subst ha
    rw [h1]
    refine rank_at y r pre (fun e => ?_)
    exact (List.nodup_append.1 hn).2.2 y e y (by simp) rfl
/-- What the iterator reads. -/
structure Src (Wb Cb Sb B G P N s wf : Nat) (ga gb : Nat → Int) (W : World) : Prop where
  cw : W.cell? ⟨Wb, 0, none⟩ = some (.func (.func wf) #[] #[])
  cc : W.cell? ⟨Cb, 0, none⟩ = some (.pointer (some ⟨B, 0, none⟩))
  cs : W.cell? ⟨Sb, 0, none⟩ = some (.int .i64 s)
  cp : W.cell? ⟨B, 0, none⟩ = some (.int .i64 P)
  cr : W.cell? ⟨B, 1, none⟩ = some (.slice (some ⟨G, 0, none⟩) N N)
  ca : ∀ i, i < N → W.cell? ⟨G, i * 3, none⟩ = some (.int .i64 (ga i)) ∧ W.cell? ⟨G, i * 3 + 1, none⟩ = some (.int .i64 (gb i))
theorem Src.map {Wb Cb Sb B G P N s wf : Nat} {ga gb : Nat → Int} {W W' : World} (h : Src Wb Cb Sb B G P N s wf ga gb W) (k : ∀ a v, W.cell? a = some v → W'.cell? a = some v) : Src Wb Cb Sb B G P N s wf ga gb W' :=
  ⟨k _ _ h.cw, k _ _ h.cc, k _ _ h.cs, k _ _ h.cp, k _ _ h.cr, fun i hi => ⟨k _ _ (h.ca i hi).1, k _ _ (h.ca i hi).2⟩⟩
theorem Src.bel {Wb Cb Sb B G P N s wf : Nat} {ga gb : Nat → Int} {W W' : World} (h : Src Wb Cb Sb B G P N s wf ga gb W) (k : Bel W W') : Src Wb Cb Sb B G P N s wf ga gb W' := h.map (fun _ _ e => k.cell e)
/-- What a round that goes on keeps. -/
def Kp (Wb Cb Sb B G P N s wf : Nat) (ga gb : Nat → Int) (W W' : World) : Prop := Src Wb Cb Sb B G P N s wf ga gb W → Src Wb Cb Sb B G P N s wf ga gb W'
theorem kp_t {Wb Cb Sb B G P N s wf : Nat} {ga gb : Nat → Int} {X Y Z : World} (h : Kp Wb Cb Sb B G P N s wf ga gb X Y) (k : Kp Wb Cb Sb B G P N s wf ga gb Y Z) : Kp Wb Cb Sb B G P N s wf ga gb X Z := fun s => k (h s)
theorem kp_b {Wb Cb Sb B G P N s wf : Nat} {ga gb : Nat → Int} (n : Nat) (W : World) (l : Nat) (o o' : Obj) (_ : n ≤ l) (hl : W.heap[l]? = some o) (hc : o.isCells = false) (_ : o.isWalk = false) : Kp Wb Cb Sb B G P N s wf ga gb W (W.putObj l o') :=
  fun h => h.map (fun _ _ e => cell_kept e (grownBy_putObj' W l o') (fun r er => by cases er; exact ⟨o, hl, hc⟩))
theorem bel_grown {W W' : World} (h : Bel W W') : W.grownBy W' none := ⟨Off.os h, Off.tape h, Off.output h, Off.size h, fun k hk _ => Off.block h k hk (fun e => e)⟩
theorem abides_bel {β : Type} {n : Nat} {J : β → World → Prop} (h : AbidesFrom n J) {x : β} {W W' : World} (hJ : J x W) (k : Bel W W') : J x W' := h x W W' none hJ (bel_grown k) (fun _ e => by cases e)
/-- The way is one of the two. -/
structure Way2 (wf : Nat) (sel : Int → Int → Int) : Prop where
  go : ∀ a b w, Calls Tryd.prog wf #[.agg #[.int .i64 a, .int .i64 b]] w fun e w' => e = .returned (.int .i64 (sel a b)) ∧ Bel w w'
  en : ∀ args w, (callFunc wf args).run Tryd.prog w = .ok (.enter wf args) w
theorem way_f : Way2 70 (fun _ b => b) := ⟨forward_any, enters_of Tryd.func70 (by kernel_rfl) rfl⟩
set_option maxRecDepth 100000 in
set_option maxHeartbeats 2000000 in
theorem walk1_in (n : Nat) (hn : 1 ≤ n) (l Wb Cb Sb B G P N s wf : Nat) (ga gb : Nat → Int) (sel : Int → Int → Int) (hw : Way2 wf sel) (hs : s < N) (hPN : P ≤ N) (hN : N ≤ 2048) (ys : List Nat) (hnd : ys.Nodup) (hys : ∀ y ∈ ys, y < P)
    (hm : Met (fun i => sel (ga i) (gb i)) P s ys) (J Jx : List Nat → World → Prop) (n0 : Nat) (hJ : AbidesFrom n0 J)
    (hY : ∀ pre (x : Nat) W, x < P → J pre W → pre.length < 1025 → YieldAt Fence.wide (n - 1) Tryd.prog l #[.int .i64 x] W fun e W' =>
      (e = .returned (.bool true) ∧ J (pre ++ [x]) W' ∧ Kp Wb Cb Sb B G P N s wf ga gb W W') ∨ (e = .returned (.bool false) ∧ Jx (pre ++ [x]) W'))
    (W : World) (hS : Src Wb Cb Sb B G P N s wf ga gb W) (h0 : J [] W) (hlen : ys.length ≤ 1024) :
    CallsIn Fence.wide n Tryd.prog 86 #[.func (.yield l) #[] #[], .pointer (some ⟨Wb, 0, none⟩), .pointer (some ⟨Cb, 0, none⟩), .pointer (some ⟨Sb, 0, none⟩)] W fun e W' => (∃ v, e = .returned v) ∧
      ((∃ zs, zs = ys ∧ J zs W') ∨ (∃ pre, pre <+: ys ∧ Jx pre W')) := by
  have HJ := Lib.hid hJ
  have HY := Lib.hid hY
  have HS := Lib.hid hS
  have H0 := Lib.hid h0
  have HM := Lib.hid hm
  obtain ⟨b1, b2, b3, b4, b5, b6⟩ := hS
  obtain ⟨c1, c2⟩ := b6 s hs
  have EN := hw.en
  have KW := Lib.hid (hw.go (ga s) (gb s))
  clear hJ hY h0 hm b6
  have HL : Hid (Left (fun i => sel (ga i) (gb i)) P ys [] ys (sel (ga s) (gb s))) := Lib.hid (left_start HM.out)
  generalize sel (ga s) (gb s) = v0 at *
  generalize ga s = a0 at *
  generalize gb s = a1 at *
  refine callsIn_wide.2 ?_
  go_enter Tryd.func86, Tryd.ntmps86
  go_wp2
  go_still_tail 9, (by kernel_rfl)
  have HSd := Lib.hid (HS.out.bel (Bel.refl W).drew)
  have HJd := Lib.hid (abides_bel HJ.out H0.out (Bel.refl W).drew)
  change wpList _ _ _ _ _ W.drew
  generalize W.drew = W2 at *
  go_wp2_with fail
  with_reducible refine (KW.out _).mono ?_
  rintro e w3 ⟨rfl, hb⟩
  have HS3 := Lib.hid (HSd.out.bel hb)
  have HJ3 := Lib.hid (abides_bel HJ.out HJd.out hb)
  clear hb b1 b2 b3 b4 b5 c1 c2 KW HS HSd HJd H0 HM
  go_wp2
  go_loopw [5] (fun i wr => ∃ v pre rest, i = .int .i64 v ∧ Left (fun i => sel (ga i) (gb i)) P ys pre rest v ∧ J pre wr ∧ Src Wb Cb Sb B G P N s wf ga gb wr) (fun i _ => rank ys (intOf i))
  case atStart => exact ⟨v0, [], ys, rfl, HL.out, HJ3.out, HS3.out⟩
  case round =>
    clear HS3 HJ3 HL
    obtain ⟨v, pre, rest, rfl, hl, hj, hs2⟩ := hrel
    have HL := Lib.hid hl
    have HJ2 := Lib.hid hj
    have HS2 := Lib.hid hs2
    have KP := Lib.hid (hasPlace_any B P v wr hs2.cp)
    obtain ⟨b1, b2, b3, b4, b5, b6⟩ := hs2
    clear hl hj
    cases rest with
    | nil =>
      rw [hp_no (HL.out.no rfl)] at KP
      have HE : Hid (pre = ys) := Lib.hid (by rw [HL.out.al]; simp)
      clear b6
      go_wp2_with fail
      with_reducible refine (KP.out).mono ?_
      rintro e w4 ⟨rfl, rfl⟩
      go_wp2
      go_end0
      exact ⟨⟨_, rfl⟩, .inl ⟨_, rfl, by rw [← HE.out]; exact HJ2.out⟩⟩
    | cons y r =>
      obtain ⟨rfl, hy, _⟩ := HL.out.yes y r rfl
      rw [hp_yes hy] at KP
      have hyN : y < N := by omega
      have hpl : pre.length < 1025 := by
        have h1 := congrArg List.length HL.out.al
        simp at h1
        omega
      have HPre : Hid (pre ++ [y] <+: ys) := Lib.hid (by rw [HL.out.al]; exact ⟨r, by simp⟩)
      clear b6
      go_wp2_with fail
      with_reducible refine (KP.out).mono ?_
      rintro e w4 ⟨rfl, rfl⟩
      go_upto_region 3 with (fail)
      obtain ⟨fn, tmps, assign, body, hyy, hR⟩ := HY.out pre y _ hy HJ2.out hpl
      have hya : Sem.run Tryd.prog (Instr.yield l #[.int .i64 (y : Int)]) wr = .ok (.round l fn tmps assign body) wr := hyy
      clear hyy b1 b2 b3 b4 b5
      refine (wpIn_wide (n := n)).1 ?_
      gi_wp2
      refine hR.mono ?_
      rintro e w5 (⟨rfl, hj5, hk5⟩ | ⟨rfl, hx5⟩)
      · have HS5 := Lib.hid (hk5 HS2.out)
        have HJ5 := Lib.hid hj5
        clear hj5 hk5 hya hR
        obtain ⟨b1, b2, b3, b4, b5, b6⟩ := HS5.out
        obtain ⟨c1, c2⟩ := b6 y hyN
        have KW := Lib.hid (hw.go (ga y) (gb y))
        have HLn := Lib.hid HL.out.next
        clear b6
        have hrk : Hid (rank ys (sel (ga y) (gb y)) < rank ys y) := Lib.hid (by
          rw [HLn.out.rank hnd hys, HL.out.rank hnd hys]
          simp)
        generalize sel (ga y) (gb y) = v1 at *
        generalize ga y = a0 at *
        generalize gb y = a1 at *
        gi_wp2
        go_wp2
        go_still_tail 9, (by kernel_rfl)
        have HSd := Lib.hid (HS5.out.bel (Bel.refl w5).drew)
        have HJd := Lib.hid (abides_bel HJ.out HJ5.out (Bel.refl w5).drew)
        change wpList _ _ _ _ _ w5.drew
        generalize w5.drew = W6 at *
        go_wp2_with fail
        with_reducible refine (KW.out _).mono ?_
        rintro e w7 ⟨rfl, hb⟩
        have HS7 := Lib.hid (HSd.out.bel hb)
        have HJ7 := Lib.hid (abides_bel HJ.out HJd.out hb)
        clear hb b1 b2 b3 b4 b5 c1 c2
        go_wp2
        go_roundw
        case rel => exact ⟨_, _, _, rfl, HLn.out, HJ7.out, HS7.out⟩
        case measure => exact hrk.out
      · gi_wp2
        go_wp2
        refine bodyPost_ret (results_none rfl _ _ _) rfl ?_
        exact ⟨⟨_, rfl⟩, .inr ⟨_, HPre.out, hx5⟩⟩
/-- chain's walk: what it captures is boxed. -/
theorem walk_new (B G P L : Nat) (g : Rg) (s : Nat) (wf : Nat) (w : World) (h : Chn w B G P L g) :
    Calls Tryd.prog 69 #[.pointer (some ⟨B, 0, none⟩), .int .i64 s, .func (.func wf) #[] #[]] w fun e w' =>
      ∃ Wb Cb Sb, e = .returned (.func (.func 86) #[] #[.pointer (some ⟨Wb, 0, none⟩), .pointer (some ⟨Cb, 0, none⟩), .pointer (some ⟨Sb, 0, none⟩)]) ∧ Src Wb Cb Sb B G P (P + L) s wf (fun i => (g i).ah) (fun i => (g i).bh) w' ∧ Bel w w' ∧ w.heap.size ≤ Wb ∧ w.heap.size ≤ Cb ∧ w.heap.size ≤ Sb := by
  have HB : Hid (Bel w (((w.alloc (.cells #[.pointer (some ⟨B, 0, none⟩)] 76)).alloc (.cells #[.int .i64 s] 3)).alloc (.cells #[.func (.func wf) #[] #[]] 114))) := Lib.hid ((((Bel.refl _).alloc _ _).alloc _ _).alloc _ _)
  have HS : Hid (Src (w.heap.size + 1 + 1) w.heap.size (w.heap.size + 1) B G P (P + L) s wf (fun i => (g i).ah) (fun i => (g i).bh) (((w.alloc (.cells #[.pointer (some ⟨B, 0, none⟩)] 76)).alloc (.cells #[.int .i64 s] 3)).alloc (.cells #[.func (.func wf) #[] #[]] 114))) := Lib.hid (by
    have h2 := h.bel HB.out
    exact ⟨by simp [go_sem], by simp [go_sem], by simp [go_sem], h2.head.1, h2.head.2, fun i hi => ⟨(h2.at hi).1, (h2.at hi).2.1⟩⟩)
  clear h
  go_enter Tryd.func69, Tryd.ntmps69
  go_wp2
  go_ret
  exact ⟨_, _, _, rfl, HS.out, HB.out, by omega, by omega, by omega⟩
theorem walk_any (B G P L : Nat) (g : Rg) (s : Nat) (wf : Nat) (w : World) (h : Chn w B G P L g) :
    Calls Tryd.prog 69 #[.pointer (some ⟨B, 0, none⟩), .int .i64 s, .func (.func wf) #[] #[]] w fun e w' =>
      ∃ Wb Cb Sb, e = .returned (.func (.func 86) #[] #[.pointer (some ⟨Wb, 0, none⟩), .pointer (some ⟨Cb, 0, none⟩), .pointer (some ⟨Sb, 0, none⟩)]) ∧ Src Wb Cb Sb B G P (P + L) s wf (fun i => (g i).ah) (fun i => (g i).bh) w' ∧ Bel w w' :=
  (walk_new B G P L g s wf w h).mono fun _ _ ⟨Wb, Cb, Sb, h1, h2, h3, _⟩ => ⟨Wb, Cb, Sb, h1, h2, h3⟩
theorem walk_stops (n : Nat) (hn : 1 ≤ n) (Wb Cb Sb B G P N s wf : Nat) (ga gb : Nat → Int) (sel : Int → Int → Int) (hw : Way2 wf sel) (hs : s < N) (hPN : P ≤ N) (hN : N ≤ 2048) (ys : List Nat) (hnd : ys.Nodup) (hys : ∀ y ∈ ys, y < P)
    (hm : Met (fun i => sel (ga i) (gb i)) P s ys) (hlen : ys.length ≤ 1024) (w : World) (hS : Src Wb Cb Sb B G P N s wf ga gb w) :
    SeqStopsK Fence.wide n Tryd.prog 86 #[.pointer (some ⟨Wb, 0, none⟩), .pointer (some ⟨Cb, 0, none⟩), .pointer (some ⟨Sb, 0, none⟩)] (fun x : Nat => #[Value.int .i64 x]) (Kp Wb Cb Sb B G P N s wf ga gb) (fun zs => zs = ys) (fun pre => pre <+: ys) 1025 w := fun l J Jx W hW hJ _ hY h0 =>
  walk1_in n hn l Wb Cb Sb B G P N s wf ga gb sel hw hs hPN hN ys hnd hys hm J Jx W.heap.size hJ (fun pre x W1 _ => hY pre x W1) W (hS.bel (bel_of hW)) h0 hlen
theorem walk_stopsP (n : Nat) (hn : 1 ≤ n) (Wb Cb Sb B G P N s wf : Nat) (ga gb : Nat → Int) (sel : Int → Int → Int) (hw : Way2 wf sel) (hs : s < N) (hPN : P ≤ N) (hN : N ≤ 2048) (ys : List Nat) (hnd : ys.Nodup) (hys : ∀ y ∈ ys, y < P)
    (hm : Met (fun i => sel (ga i) (gb i)) P s ys) (hlen : ys.length ≤ 1024) (w : World) (hS : Src Wb Cb Sb B G P N s wf ga gb w) :
    SeqStopsK Fence.wide n Tryd.prog 86 #[.pointer (some ⟨Wb, 0, none⟩), .pointer (some ⟨Cb, 0, none⟩), .pointer (some ⟨Sb, 0, none⟩)] (fun x : Fin P => #[Value.int .i64 (x.1 : Nat)]) (Kp Wb Cb Sb B G P N s wf ga gb) (fun zs => zs.map (·.1) = ys) (fun pre => pre.map (·.1) <+: ys) 1025 w := fun l J Jx W hW hJ hJx hY h0 => by
  refine (walk1_in n hn l Wb Cb Sb B G P N s wf ga gb sel hw hs hPN hN ys hnd hys hm (fun pre W => ∃ q : List (Fin P), q.map (·.1) = pre ∧ J q W) (fun pre W => ∃ q : List (Fin P), q.map (·.1) = pre ∧ Jx q W) W.heap.size ?_ ?_ W (hS.bel (bel_of hW)) ⟨[], rfl, h0⟩ hlen).mono ?_
  · rintro s W1 W2 row ⟨q, hq, hj⟩ hg hr
    exact ⟨q, hq, hJ q W1 W2 row hj hg hr⟩
  · rintro pre x W1 hx ⟨q, rfl, hj⟩ hlt
    obtain ⟨fn, tmps, assign, body, hyy, hR⟩ := hY q ⟨x, hx⟩ W1 hj (by simpa using hlt)
    refine ⟨fn, tmps, assign, body, hyy, hR.mono ?_⟩
    rintro e W2 (⟨rfl, h1, h2⟩ | ⟨rfl, h1⟩)
    · exact .inl ⟨rfl, ⟨_, by simp, h1⟩, h2⟩
    · exact .inr ⟨rfl, ⟨_, by simp, h1⟩⟩
  · rintro e W2 ⟨hv, (⟨zs, rfl, q, hq, hj⟩ | ⟨pre, hp, q, rfl, hj⟩)⟩
    · exact ⟨hv, .inl ⟨q, hq, hj⟩⟩
    · exact ⟨hv, .inr ⟨q, hp, hj⟩⟩
end Go.Proofs.YtdoceldofkaapaaDoor
