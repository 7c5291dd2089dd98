/-
  Contracts of below and of slices.Backward as iterators; a deferred function that holds a range over a function.
-/
import Derived.Test.YtdlfppdekllloaaTold
set_option linter.unusedVariables false
set_option linter.unusedSimpArgs false
namespace Go.Proofs.Ytdlfppdekllloaa
open Go.RowKit Go.Shelf
attribute [local go_sem] Oper.semAt_some
theorem bel_grown {W W' : World} (h : Bel W W') : W.grownBy W' none := ⟨Off.os h, Off.tape h, Off.output h, Off.size h, fun k hk _ => Off.block h k hk (fun e => e)⟩
theorem abides_bel {β : Type} {n : Nat} {J : β → World → Prop} (h : AbidesFrom n J) {x : β} {W W' : World} (hJ : J x W) (k : Bel W W') : J x W' := h x W W' none hJ (bel_grown k) (fun _ e => by cases e)
/-- Which node a pointer is to. -/
def addrOf : Value → Option Nat
  | .pointer (some a) => some a.block
  | _ => none
/-- How many are left from a node on. -/
def rankK (ks : List Nat) (v : Value) : Nat := (ks.dropWhile fun y => !decide (some y = addrOf v)).length
theorem rankK_at (y : Nat) (r : List Nat) : ∀ pre : List Nat, y ∉ pre → rankK (pre ++ y :: r) (ptv (some y)) = r.length + 1
  | [], _ => by simp [rankK, addrOf, ptv]
  | a :: p, h => by
    have ih := rankK_at y r p (fun e => h (by simp [e]))
    have hne : ¬ a = y := fun e => h (by simp [e])
    unfold rankK at ih ⊢
    simp [addrOf, ptv] at ih ⊢
    simp [hne]
    exact ih
theorem rankK_nil (ks : List Nat) : rankK ks (ptv none) = 0 := by
  unfold rankK
  rw [List.length_eq_zero_iff]
  induction ks with
  | nil => rfl
  | cons a r ih => simpa [addrOf, ptv] using ih
theorem rankK_rest {pre rest : List Nat} (hn : (pre ++ rest).Nodup) : rankK (pre ++ rest) (ptv rest.head?) = rest.length := by
  cases rest with
  | nil => exact rankK_nil _
  | cons y r => exact rankK_at y r pre (fun e => (List.nodup_append.1 hn).2.2 y e y (by simp) rfl)
/-- What below finds between two rounds. -/
structure KidsR (Nb n : Nat) (ks pre : List Nat) (W : World) : Prop where
  box : W.cell? ⟨Nb, 0, none⟩ = some (pt n)
  first : pre = [] → W.cell? ⟨n, 3, none⟩ = some (ptv ks.head?)
  next : ∀ y r, ks = pre ++ y :: r → W.cell? ⟨y, 4, none⟩ = some (ptv r.head?)
set_option maxRecDepth 100000 in
set_option maxHeartbeats 2000000 in
theorem below_tells (m : Nat) (hm : 1 ≤ m) (Nb n : Nat) (ks : List Nat) (hn : ks.Nodup) : Tells m 83 #[pt Nb] (fun x : Nat => #[pt x]) (fun pre x => ∃ r, ks = pre ++ x :: r) (KidsR Nb n ks) (fun xs => xs = ks) := by
  intro l J W hJ hR hY h0
  have HR := Lib.hid hR
  have HY := Lib.hid hY
  have H0 := Lib.hid h0
  have HN := Lib.hid hn
  obtain ⟨b0, b1, _⟩ := hR [] W h0
  have b1 := b1 rfl
  clear hR hY h0 hJ hn
  refine callsIn_wide.2 ?_
  go_enter Try.func83, Try.ntmps83
  go_wp2
  go_loopw [3] (fun v wr => ∃ pre rest, v = ptv rest.head? ∧ ks = pre ++ rest ∧ J pre wr) (fun v _ => rankK ks v)
  case atStart => exact ⟨[], ks, rfl, rfl, H0.out⟩
  case round =>
    clear H0 b0 b1
    obtain ⟨pre, rest, rfl, hks, hj⟩ := hrel
    have HJ := Lib.hid hj
    have HS := Lib.hid hks
    clear hj hks
    cases rest with
    | nil =>
      rw [show ptv ([] : List Nat).head? = pn from rfl]
      go_wp2
      go_end0
      exact ⟨⟨_, rfl⟩, pre, by rw [HS.out]; simp, HJ.out⟩
    | cons y r =>
      have c4 := (HR.out pre wr HJ.out).next y r HS.out
      have HL : Hid (rankK ks (ptv r.head?) < rankK ks (pt y)) := Lib.hid (by
        have e1 := rankK_rest (pre := pre) (rest := y :: r) (by rw [← HS.out]; exact HN.out)
        have e2 := rankK_rest (pre := pre ++ [y]) (rest := r) (by rw [List.append_assoc, List.singleton_append, ← HS.out]; exact HN.out)
        rw [List.append_assoc, List.singleton_append, ← HS.out] at e2
        rw [← HS.out] at e1
        have e1 : rankK ks (pt y) = (y :: r).length := e1
        rw [e1, e2]
        simp)
      rw [show ptv (y :: r).head? = pt y from rfl]
      obtain ⟨nv, hnv⟩ : ∃ v, ptv r.head? = v := ⟨_, rfl⟩
      rw [hnv] at HL c4
      have HV := Lib.hid hnv
      clear hnv
      go_upto_region 3 with (fail)
      obtain ⟨fn, tmps, assign, body, hyy, hRd⟩ := HY.out pre y wr ⟨r, HS.out⟩ HJ.out
      have hya : Sem.run Try.prog (Instr.yield l #[pt y]) wr = .ok (.round l fn tmps assign body) wr := hyy
      clear hyy c4
      refine (wpIn_wide (n := m)).1 ?_
      gi_wp2
      refine hRd.mono ?_
      rintro e w5 ⟨rfl, hj5⟩
      have HJ5 := Lib.hid hj5
      clear hj5 hya hRd
      gi_wp2
      go_wp2
      go_roundw
      case rel => exact ⟨pre ++ [y], r, HV.out.symm, by rw [HS.out]; simp, HJ5.out⟩
      case measure => exact HL.out
/-- A row of pointers to nodes. -/
def encP (l : List (Option Nat)) : List Value := l.map ptv
theorem encP_len (l : List (Option Nat)) : (encP l).length = l.length := by unfold encP; simp
theorem encP_get (l : List (Option Nat)) (i : Nat) (x : Option Nat) (h : l[i]? = some x) : (encP l)[i]? = some (ptv x) := by unfold encP; simp [h]
theorem encP_append (l m : List (Option Nat)) : encP (l ++ m) = encP l ++ encP m := by unfold encP; simp
theorem encP_one (l : List (Option Nat)) : ∀ u ∈ encP l, u.oneCell' = true := by
  intro u hu
  unfold encP at hu
  rw [List.mem_map] at hu
  obtain ⟨x, _, rfl⟩ := hu
  cases x <;> rfl
/-- What Backward finds between two rounds. -/
structure RowR (Sb : Nat) (p : Option Addr) (c : Nat) (ls : List (Option Nat)) (W : World) : Prop where
  box : W.cell? ⟨Sb, 0, none⟩ = some (.slice p ls.length c)
  row : Lies nof W p (encP ls)
set_option maxRecDepth 100000 in
set_option maxHeartbeats 2000000 in
theorem backward_tells (m : Nat) (hm : 1 ≤ m) (Sb : Nat) (p : Option Addr) (c : Nat) (ls : List (Option Nat)) (N : Nat) (hN : ls.length = N) (hs : N ≤ 4096) :
    Tells m 82 #[pt Sb] (fun x : Nat × Option Nat => #[.int .i64 x.1, ptv x.2]) (fun pre x => pre.length + x.1 + 1 = N ∧ ls[x.1]? = some x.2) (fun _ W => RowR Sb p c ls W) (fun xs => xs.length = N) := by
  intro l J W hJ hR hY h0
  have HR := Lib.hid hR
  have HY := Lib.hid hY
  have H0 := Lib.hid h0
  have HN := Lib.hid hN
  have b0 := (hR [] W h0).box
  rw [hN] at b0
  clear hR hY h0 hJ hN
  have hw0 : IntKind.i64.wrap ((N : Int) - 1) = (N : Int) - 1 := i64_in _ (by omega) (by omega)
  refine callsIn_wide.2 ?_
  go_enter Try.func82, Try.ntmps82
  go_wp2
  go_loopw [3] (fun v wr => ∃ pre, v = .int .i64 ((N : Int) - 1 - pre.length) ∧ pre.length ≤ N ∧ J pre wr) (fun v _ => (intOf v + 1).toNat)
  case atStart => exact ⟨[], by simp [hw0], Nat.zero_le _, H0.out⟩
  case round =>
    clear H0 b0
    obtain ⟨pre, rfl, hle, hj⟩ := hrel
    have HJ := Lib.hid hj
    clear hj
    by_cases hk : pre.length = N
    · have e : (N : Int) - 1 - pre.length = -1 := by omega
      rw [e]
      go_wp2
      go_end0
      exact ⟨⟨_, rfl⟩, pre, hk, HJ.out⟩
    · obtain ⟨i, hi⟩ : ∃ i : Nat, pre.length + i + 1 = N := ⟨N - pre.length - 1, by omega⟩
      have e : (N : Int) - 1 - pre.length = i := by omega
      rw [e]
      obtain ⟨x, hx⟩ : ∃ x, ls[i]? = some x := ⟨_, List.getElem?_eq_getElem (by rw [HN.out]; omega)⟩
      obtain ⟨c0, hrow⟩ := HR.out pre wr HJ.out
      obtain ⟨b, off, rfl, _, hrow⟩ := hrow.row (fun e => by have := encP_len ls; rw [e, HN.out] at this; simp at this; omega)
      have c1 := hrow i _ (encP_get ls i x hx)
      rw [HN.out] at c0
      have b1 : (i : Int) < (N : Int) := by omega
      have hw1 : IntKind.i64.wrap ((i : Int) - 1) = (i : Int) - 1 := i64_in _ (by omega) (by omega)
      have HX := Lib.hid hx
      have HI := Lib.hid hi
      clear hrow hx e hi
      go_upto_region 3 with (fail)
      obtain ⟨fn, tmps, assign, body, hyy, hRd⟩ := HY.out pre (i, x) wr ⟨HI.out, HX.out⟩ HJ.out
      have hya : Sem.run Try.prog (Instr.yield l #[.int .i64 (i : Int), ptv x]) wr = .ok (.round l fn tmps assign body) wr := hyy
      clear hyy
      refine (wpIn_wide (n := m)).1 ?_
      gi_wp2
      refine hRd.mono ?_
      rintro e w5 ⟨rfl, hj5⟩
      have HJ5 := Lib.hid hj5
      clear hj5 hya hRd c0 c1
      gi_wp2
      go_wp2
      go_roundw
      case rel => exact ⟨pre ++ [(i, x)], by have := HI.out; simp; omega, by have := HI.out; simp; omega, HJ5.out⟩
      case measure => simp [intOf]
/-- A deferred function whose body is a range over a function. -/
def markPost (fn : Func) (R : World → Prop) : Exit → Act → World → Prop
  | .normal, a, W => ∃ D W' v, a.defers = [{ target := .collected D, args := #[] }] ∧ (Instr.takeDeferred D).run Try.prog W = .ok [] W' ∧ (results fn a.tmps).run Try.prog W' = .ok v W' ∧ R W'
  | _, _, _ => False
theorem callsD_marks {n : Nat} {f : FuncId} {fn : Func} {c : Code} {args : Array Value} {u : FrameMode} {w : World} {R : World → Prop} (hf : Try.prog.funcs[f]? = some fn) (hb : fn.body = some c)
    (h : c.wpIn Fence.wide n Try.prog (markPost fn R) { tmps := args ++ Array.replicate (fn.ntmps - args.size) undef, defers := [] } w) : CallsDIn Fence.wide n Try.prog f args u w fun e u' w' => u' = u ∧ (∃ v, e = .returned v) ∧ R w' := by
  refine ⟨trivial, fun c₀ cs hu hr => ?_⟩
  let b : Frame := { (default : Frame) with fn := f, kind := .deferred, roundOf := none }
  have henter : Frame.enter Try.prog f args .deferred = b.atR { tmps := args ++ Array.replicate (fn.ntmps - args.size) undef, defers := [] } [.code c] := by
    simp [Frame.enter, Frame.atR, hf, hb, b]
  have hc : ({ c₀ with mode := u } : Frame) = c₀ := by subst hu; rfl
  obtain ⟨e, a', w', hq, harr⟩ := h b [] (c₀ :: cs) rfl trivial hr
  rw [← henter] at harr
  cases e with
  | normal =>
    obtain ⟨D, W', v, hd, ht, hres, hR⟩ := hq
    have s1 := step_collected (P := Try.prog) (fr := { b.atR a' [] with mode := .returning }) (cs := c₀ :: cs) (w := w') (by simp) hd rfl ht
    have i1 : (lone { b.atR a' [] with mode := .returning } (c₀ :: cs) w').fenced Try.prog Fence.wide := fenced_out (n := n) trivial hr (by simp) hd (fun g hg => by simp [Target.leads] at hg)
    have s0 := StepsIn.trans harr (.one (fenced_calm (fr := b.atR a' []) trivial hr rfl) (stepR_end rfl))
    exact ⟨.returned v, u, W', _, ⟨rfl, ⟨v, rfl⟩, hR⟩, (by rw [hc]; exact StepsIn.trans s0 (.one i1 s1)), rfl, rfl, rfl, rfl, fn, hf, hres⟩
  | ret => exact hq.elim
  | panic chain => exact hq.elim
  | exit id => exact hq.elim
  | goto l => exact hq.elim
  | outgrown => exact hq.elim
theorem below_new (n : Nat) (w : World) : Calls Try.prog 71 #[pt n] w fun e w' => ∃ Nb, e = .returned (.func (.func 83) #[] #[pt Nb]) ∧ Boxed w' Nb 69 (pt n) ∧ w.heap.size ≤ Nb ∧ Bel w w' := by
  have HX : Hid (Boxed (w.alloc (.cells #[pt n] 69)) w.heap.size 69 (pt n) ∧ Bel w (w.alloc (.cells #[pt n] 69))) := Lib.hid ⟨Boxed.new w 69 _, (Bel.refl w).alloc _ _⟩
  go_enter Try.func71, Try.ntmps71
  go_wp2
  go_ret
  exact ⟨_, rfl, HX.out.1, Nat.le_refl _, HX.out.2⟩
theorem backward_new (p : Option Addr) (m c : Nat) (w : World) : Calls Try.prog 70 #[.slice p m c] w fun e w' => ∃ Sb, e = .returned (.func (.func 82) #[] #[pt Sb]) ∧ Boxed w' Sb 68 (.slice p m c) ∧ w.heap.size ≤ Sb ∧ Bel w w' := by
  have HX : Hid (Boxed (w.alloc (.cells #[.slice p m c] 68)) w.heap.size 68 (.slice p m c) ∧ Bel w (w.alloc (.cells #[.slice p m c] 68))) := Lib.hid ⟨Boxed.new w 68 _, (Bel.refl w).alloc _ _⟩
  go_enter Try.func70, Try.ntmps70
  go_wp2
  go_ret
  exact ⟨_, rfl, HX.out.1, Nat.le_refl _, HX.out.2⟩
end Go.Proofs.Ytdlfppdekllloaa
