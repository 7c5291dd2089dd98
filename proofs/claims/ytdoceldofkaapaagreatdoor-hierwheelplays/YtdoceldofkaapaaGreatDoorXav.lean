/-
  The slots of a wheel of four levels, told one by one: two loops in a function that is ranged over.
  Contracts of tick.Sub and tick.First.
  Small facts on boxes, rows of the call's own, and an append in a drawn region.
  Contracts of a wheel of four levels: foremost, Min.
  A law for a statement that draws its order, within a round: what holds while its operations come up, one by one, whatever the order.
-/
import Derived.Test.YtdoceldofkaapaaGreatDoorXau
import Derived.Test.YtdoceldofkaapaaGreatDoorXam
import Derived.BigRegion
import Derived.BigQuiet
import Derived.Shelf.Spec.BitsCarry
import Derived.Test.YtdoceldofkaapaaGreatDoorXap
import Derived.Test.YtdoceldofkaapaaGreatDoorXaq
import Derived.RangeFuncBox
import Derived.Deep.Cut
import Derived.Orders
import Derived.OrdersIn
set_option linter.unusedVariables false
set_option linter.unusedSimpArgs false
namespace Go.Proofs.YtdoceldofkaapaaGreatDoor
open Go.RowKit Go.Shelf
attribute [local go_sem] Oper.semAt_some
theorem rslots_new (Q : Nat) (w : World) :
    Calls Tryz.prog 97 #[.pointer (some ⟨Q, 0, none⟩)] w fun e w' =>
      ∃ Bq, e = .returned (.func (.func 131) #[] #[.pointer (some ⟨Bq, 0, none⟩)]) ∧ w'.heap[Bq]? = some (.cells #[.pointer (some ⟨Q, 0, none⟩)] 61 (0, 0)) ∧ Bel w w' ∧ w.heap.size ≤ Bq := by
  have HX : Hid ((w.alloc (.cells #[.pointer (some ⟨Q, 0, none⟩)] 61)).heap[w.heap.size]? = some (.cells #[.pointer (some ⟨Q, 0, none⟩)] 61 (0, 0))) := Lib.hid (heap_alloc_new _ _)
  go_enter Tryz.func97, Tryz.ntmps97
  go_wp2
  go_ret
  exact ⟨_, rfl, HX.out, (Bel.refl _).alloc _ _, by simp⟩
/-- The slots of a level from a on that have something. -/
def cu (F : Nat → Nat → Nat) (m a : Nat) : List (Nat × Nat) := (sg (F m) a 256).map fun i => (m, i)
/-- Those of the levels from m on. -/
def prs (F : Nat → Nat → Nat) (m : Nat) : List (Nat × Nat) := ((List.range 4).drop m).flatMap fun n => cu F n 0
theorem prs_cur (F : Nat → Nat → Nat) {m : Nat} (h : m < 4) : prs F m = cu F m 0 ++ prs F (m + 1) := by
  have : m = 0 ∨ m = 1 ∨ m = 2 ∨ m = 3 := by omega
  rcases this with rfl | rfl | rfl | rfl <;> rfl
theorem prs_end (F : Nat → Nat → Nat) : prs F 4 = [] := rfl
/-- What the function reads: its box, and the levels' bits. -/
structure Sr (Bq Q : Nat) (F : Nat → Nat → Nat) (V : World) : Prop where
  cq : V.cell? ⟨Bq, 0, none⟩ = some (.pointer (some ⟨Q, 0, none⟩))
  cl : ∀ m, m ≤ 3 → V.cell? ⟨Q, 1 + m * 5 + 1, none⟩ = some (.int .u64 (F m 0)) ∧ V.cell? ⟨Q, 1 + m * 5 + 1 + 1, none⟩ = some (.int .u64 (F m 1)) ∧ V.cell? ⟨Q, 1 + m * 5 + 1 + 2, none⟩ = some (.int .u64 (F m 2)) ∧ V.cell? ⟨Q, 1 + m * 5 + 1 + 3, none⟩ = some (.int .u64 (F m 3))
  tab : Bm.Tab V
  wd : ∀ m, m ≤ 3 → Bm.Wd (F m)
/-- What is left in the bits behind k slots. -/
def Mr (Bq Q : Nat) (F0 : Nat → Nat → Nat) (ys : List (Nat × Nat)) (k : Nat) (V : World) : Prop :=
  ∃ F, Sr Bq Q F V ∧ (∀ m, m ≤ 3 → ∀ i, i < 256 → Bm.tb (F m) i = true → Bm.tb (F0 m) i = true) ∧ ∀ j y, k ≤ j → ys[j]? = some y → Bm.tb (F y.1) y.2 = true
theorem nx_none {F F0 : Nat → Nat} {a : Nat} (h : sg F0 a 256 = []) (hsub : ∀ i, i < 256 → Bm.tb F i = true → Bm.tb F0 i = true) : nx F a = none := by
  rcases nx_miss h hsub with h | ⟨i, _, h1, h2⟩
  · exact h
  · omega
/-- Where a level's loop stands: at its slot y, or past its last one. -/
def St (F0 : Nat → Nat → Nat) (t a : Nat) (pre : List (Nat × Nat)) (v4 v5 : Value) : Prop :=
  (∃ y : Nat, v4 = .int .i64 y ∧ v5 = .bool true ∧ a ≤ y ∧ y < 256 ∧ prs F0 0 = pre ++ ((t, y) :: (cu F0 t (y + 1) ++ prs F0 (t + 1)))) ∨ (v5 = .bool false ∧ prs F0 0 = pre ++ prs F0 (t + 1))
def ms (v4 v5 : Value) : Nat := match v5 with | .bool true => 257 - (intOf v4).toNat | _ => 0
theorem next_st {Bq Q : Nat} {F0 : Nat → Nat → Nat} {t a : Nat} {pre : List (Nat × Nat)} {V : World} (ht : t < 4) (ha : a ≤ 256) (hys : prs F0 0 = pre ++ (cu F0 t a ++ prs F0 (t + 1))) (h : Mr Bq Q F0 (prs F0 0) pre.length V) :
    ∃ F, Sr Bq Q F V ∧ Calls Tryz.prog 88 #[.agg #[.int .u64 (F t 0), .int .u64 (F t 1), .int .u64 (F t 2), .int .u64 (F t 3)], .int .i64 a] V fun e W' => (∃ v4 v5, e = .returned (.tuple #[v4, v5]) ∧ St F0 t a pre v4 v5) ∧ Bel V W' := by
  obtain ⟨F, hsl, hsub, hon⟩ := h
  refine ⟨F, hsl, ?_⟩
  refine (Bm.next_any (F t) (hsl.wd t (by omega)) a (by omega) V hsl.tab).mono ?_
  rintro e W' ⟨rfl, hb⟩
  refine ⟨?_, bm_bel hb⟩
  rw [Int.toNat_natCast]
  cases hc : sg (F0 t) a 256 with
  | nil =>
    have h1 := nx_none hc (hsub t (by omega))
    unfold nx at h1
    rw [h1]
    refine ⟨_, _, rfl, .inr ⟨rfl, ?_⟩⟩
    rw [hys]
    unfold cu
    rw [hc]
    rfl
  | cons y r =>
    obtain ⟨h2, h3, h4, h5, h6⟩ := sg_cons hc
    have hys2 : prs F0 0 = pre ++ ((t, y) :: (cu F0 t (y + 1) ++ prs F0 (t + 1))) := by
      rw [hys]
      unfold cu
      rw [hc, h6]
      rfl
    have h1 : nx (F t) a = some y := by
      refine nx_hit h2 h3 (hon pre.length (t, y) (Nat.le_refl _) ?_) h5 (hsub t (by omega))
      rw [hys2]
      simp
    unfold nx at h1
    rw [h1]
    exact ⟨_, _, rfl, .inl ⟨y, rfl, rfl, h2, h3, hys2⟩⟩
set_option maxRecDepth 100000 in
set_option maxHeartbeats 4000000 in
theorem rslots_feeds (n : Nat) (hn : 1 ≤ n) (Bq Q : Nat) (F0 : Nat → Nat → Nat) (w : World) :
    Feeds Fence.wide n Tryz.prog 131 #[.pointer (some ⟨Bq, 0, none⟩)] (fun y : Nat × Nat => #[Value.int .i64 (y.1 : Nat), Value.int .i64 (y.2 : Nat)]) (prs F0 0) (Mr Bq Q F0 (prs F0 0)) w := by
  intro l J Jx W _ hJ hM hY hJ0
  have HJ := Lib.hid hJ
  have HM := Lib.hid hM
  have HY := Lib.hid hY
  have H0 := Lib.hid hJ0
  clear hJ hM hY hJ0
  refine callsIn_wide.2 ?_
  go_enter Tryz.func131, Tryz.ntmps131
  go_wp2
  go_loopw [6] (fun v wr => ∃ (t : Nat) (pre : List (Nat × Nat)), v = .int .i64 t ∧ t ≤ 4 ∧ prs F0 0 = pre ++ prs F0 t ∧ J pre wr) (fun v _ => 4 - (intOf v).toNat)
  case atStart => exact ⟨0, [], rfl, by omega, rfl, H0.out⟩
  case round =>
    obtain ⟨t, pre, rfl, ht, hys, hj⟩ := hrel
    have HYS := Lib.hid hys
    have HJ1 := Lib.hid hj
    clear hys hj H0
    by_cases hlt : t < 4
    · obtain ⟨F, hsl, kn⟩ := next_st (a := 0) hlt (by omega) (by rw [← prs_cur F0 hlt]; exact HYS.out) (HM.out pre wr HJ1.out)
      obtain ⟨q1, q2, q3, q4⟩ := hsl
      obtain ⟨c0, c1, c2, c3⟩ := q2 t (by omega)
      rw [show ((0 : Nat) : Int) = 0 from rfl] at kn
      have KN := Lib.hid kn
      have b0 : (0 : Int) ≤ (t : Int) := by omega
      have b1 : (t : Int) < 4 := by omega
      clear kn q2 q3 q4
      go_wp2_with fail
      with_reducible refine KN.out.mono ?_
      rintro e w3 ⟨⟨v4, v5, rfl, hst⟩, hb⟩
      have HST := Lib.hid hst
      have HJ3 := Lib.hid (abides_bel HJ.out HJ1.out hb)
      clear hst hb KN q1 c0 c1 c2 c3 HJ1
      go_wp2
      go_loopw [4, 5] (fun v4 v5 wr => ∃ (a : Nat) (pre : List (Nat × Nat)), St F0 t a pre v4 v5 ∧ J pre wr) (fun v4 v5 _ => ms v4 v5)
      case atStart => exact ⟨0, pre, HST.out, HJ3.out⟩
      case round =>
        clear HST HJ3
        obtain ⟨a, pre, hst, hj⟩ := hrel
        have HJ4 := Lib.hid hj
        clear hj
        rcases hst with ⟨y, rfl, rfl, hay, hy, hys⟩ | ⟨rfl, hys⟩
        · have HPre : Hid (pre ++ [(t, y)] <+: prs F0 0) := Lib.hid (by rw [hys]; exact ⟨cu F0 t (y + 1) ++ prs F0 (t + 1), by simp⟩)
          have HYN : Hid (prs F0 0 = (pre ++ [(t, y)]) ++ (cu F0 t (y + 1) ++ prs F0 (t + 1))) := Lib.hid (by rw [hys]; simp)
          clear hys
          go_upto_region 5 with (fail)
          obtain ⟨fn, tmps, assign, body, hyy, hR⟩ := HY.out pre (t, y) _ HPre.out HJ4.out
          have hya : Sem.run Tryz.prog (Instr.yield l #[.int .i64 (t : Int), .int .i64 (y : Int)]) wr = .ok (.round l fn tmps assign body) wr := hyy
          clear hyy
          refine (wpIn_wide (n := n)).1 ?_
          gi_wp2
          refine hR.mono ?_
          rintro e w5 (⟨rfl, hj5⟩ | ⟨rfl, hx5⟩)
          · have HJ5 := Lib.hid hj5
            obtain ⟨F, hsl, kn⟩ := next_st (a := y + 1) (pre := pre ++ [(t, y)]) hlt (by omega) HYN.out (HM.out _ w5 hj5)
            obtain ⟨q1, q2, q3, q4⟩ := hsl
            obtain ⟨c0, c1, c2, c3⟩ := q2 t (by omega)
            rw [Int.natCast_add, show ((1 : Nat) : Int) = 1 from rfl] at kn
            have KN := Lib.hid kn
            have hw1 : IntKind.i64.wrap ((y : Int) + 1) = (y : Int) + 1 := by rw [IntKind.wrap_i64]; omega
            clear kn q2 q3 q4 hj5 hya hR
            gi_wp2
            go_wp2_with fail
            with_reducible refine KN.out.mono ?_
            rintro e w6 ⟨⟨v4, v5, rfl, hst⟩, hb⟩
            have HJ6 := Lib.hid (abides_bel HJ.out HJ5.out hb)
            have HST := Lib.hid hst
            clear hst hb KN q1 c0 c1 c2 c3 HJ5
            go_wp2
            go_roundw
            case rel => exact ⟨y + 1, pre ++ [(t, y)], HST.out, HJ6.out⟩
            case measure =>
              rcases HST.out with ⟨y2, rfl, rfl, h1, h2, _⟩ | ⟨rfl, _⟩
              · simp [ms, intOf]; omega
              · simp [ms, intOf]; omega
          · gi_wp2
            go_wp2
            refine bodyPost_ret (results_none rfl _ _ _) rfl ?_
            exact ⟨⟨_, rfl⟩, .inr ⟨_, HPre.out, hx5⟩⟩
        · have HYE := Lib.hid hys
          clear hys
          go_wp2
          go_roundw
          case rel => exact ⟨t + 1, pre, by go_num, by omega, HYE.out, HJ4.out⟩
          case measure => simp [intOf]; omega
    · obtain rfl : t = 4 := by omega
      have HE : Hid (pre = prs F0 0) := Lib.hid (by rw [HYS.out, prs_end]; simp)
      go_wp2
      try rw [Exit.noGoto_normal]
      try rw [Exit.noGoto_ret]
      go_end0
      exact ⟨⟨_, rfl⟩, .inl (by rw [← HE.out]; exact HJ1.out)⟩
end Go.Proofs.YtdoceldofkaapaaGreatDoor
namespace Go.Proofs.YtdoceldofkaapaaGreatDoor
open Go.RowKit
theorem sub64_fit (x y : Int) (hx : x < 18446744073709551616) (hy : 0 ≤ y) (h : y ≤ x) (w : World) : (callFunc 111 #[.int .u64 x, .int .u64 y, .int .u64 0]).run Tryz.prog w =
    .ok (.value (.tuple #[.int .u64 (x - y), .int .u64 0])) w := by
  obtain ⟨x, rfl⟩ := Int.eq_ofNat_of_zero_le (by omega : 0 ≤ x)
  obtain ⟨y, rfl⟩ := Int.eq_ofNat_of_zero_le hy
  rw [run_callFunc_extern Tryz.func111 (by kernel_rfl) (by kernel_rfl) (by kernel_rfl) (e := sub64Entry) (by kernel_rfl)]
  have := run_sub64 (P := Tryz.prog) x y 0 (by omega) w
  simp only [Int.natCast_zero] at this
  rw [this]
  have e1 : (((x + 18446744073709551616 - y - 0) % 18446744073709551616 : Nat) : Int) = (x : Int) - y := by omega
  rw [e1, if_neg (by omega)]
  rfl
theorem sub64_low (x y : Int) (hx : 0 ≤ x) (hy : y < 18446744073709551616) (h : x < y) (w : World) : (callFunc 111 #[.int .u64 x, .int .u64 y, .int .u64 0]).run Tryz.prog w =
    .ok (.value (.tuple #[.int .u64 (x - y + 18446744073709551616), .int .u64 1])) w := by
  obtain ⟨x, rfl⟩ := Int.eq_ofNat_of_zero_le hx
  obtain ⟨y, rfl⟩ := Int.eq_ofNat_of_zero_le (by omega : 0 ≤ y)
  rw [run_callFunc_extern Tryz.func111 (by kernel_rfl) (by kernel_rfl) (by kernel_rfl) (e := sub64Entry) (by kernel_rfl)]
  have := run_sub64 (P := Tryz.prog) x y 0 (by omega) w
  simp only [Int.natCast_zero] at this
  rw [this]
  have e1 : (((x + 18446744073709551616 - y - 0) % 18446744073709551616 : Nat) : Int) = (x : Int) - y + 18446744073709551616 := by omega
  rw [e1, if_pos (by omega)]
  rfl
/-- How far one tick is behind another one. -/
def gap (t d : Int) : Int := if d ≤ t then t - d else 0
theorem sub_any (t d : Int) (ht : 0 ≤ t ∧ t ≤ 18446744073709551615) (hd : 0 ≤ d ∧ d ≤ 18446744073709551615) (w : World) :
    Calls Tryz.prog 77 #[.int .u64 t, .int .u64 d] w fun e w' => e = .returned (.int .u64 (gap t d)) ∧ w = w' := by
  unfold gap
  by_cases h : d ≤ t
  · rw [if_pos h]
    have k := sub64_fit t d (by omega) hd.1 h
    go_enter Tryz.func77, Tryz.ntmps77
    go_wp2_with (simp only [k])
    go_ret
    exact ⟨rfl, rfl⟩
  · rw [if_neg h]
    have k := sub64_low t d ht.1 (by omega) (by omega)
    go_enter Tryz.func77, Tryz.ntmps77
    go_wp2_with (simp only [k])
    go_ret
    exact ⟨rfl, rfl⟩
theorem box3_set {w : World} {b : Nat} {x y z x' y' z' : Value} {t : TypeId} (h : w.heap[b]? = some (.cells #[x, y, z] t (0, 0))) : (((w.setCell ⟨b, 0, none⟩ x').setCell ⟨b, 1, none⟩ y').setCell ⟨b, 2, none⟩ z').heap[b]? = some (.cells #[x', y', z'] t (0, 0)) := by
  have e1 := heap_setCell_same w b 0 _ t x' h
  have e2 := heap_setCell_same _ b 1 _ t y' e1
  have e3 := heap_setCell_same _ b 2 _ t z' e2
  exact e3
/-- The first of timers. -/
def mn : List T → Option T
  | [] => none
  | x :: r => some (r.foldl (fun m y => if lt y m = true then y else m) x)
def fd (x : T) (r : List T) : T := r.foldl (fun m y => if lt y m = true then y else m) x
theorem fd_snoc (x : T) (r : List T) (y : T) : fd x (r ++ [y]) = if lt y (fd x r) = true then y else fd x r := by unfold fd; rw [List.foldl_append]; rfl
theorem fd_spec (x : T) : ∀ (n : Nat) (r : List T), r.length = n → fd x r ∈ x :: r ∧ ∀ y ∈ x :: r, lt y (fd x r) = false := by
  intro n
  induction n with
  | zero => intro r h; have : r = [] := List.length_eq_zero_iff.1 h; subst this; simp [fd, lt_irrefl]
  | succ n ih =>
    intro r h
    have hne : r ≠ [] := fun e => by subst e; simp at h
    obtain ⟨m, y, rfl⟩ : ∃ m y, r = m ++ [y] := ⟨r.dropLast, r.getLast hne, (List.dropLast_concat_getLast hne).symm⟩
    obtain ⟨h1, h2⟩ := ih m (by simp at h; exact h)
    rw [fd_snoc]
    by_cases e : lt y (fd x m) = true
    · rw [if_pos e]
      refine ⟨by simp, fun z hz => ?_⟩
      have hz2 : z ∈ x :: m ∨ z = y := by
        rcases List.mem_cons.1 hz with q | q
        · exact .inl (by simp [q])
        · rcases List.mem_append.1 q with q | q
          · exact .inl (by simp [q])
          · exact .inr (by simpa using q)
      rcases hz2 with q | rfl
      · exact lt_ntrans (h2 z q) (lt_asymm e)
      · exact lt_irrefl _
    · have e2 : lt y (fd x m) = false := by simpa using e
      rw [if_neg e]
      refine ⟨?_, fun z hz => ?_⟩
      · rcases List.mem_cons.1 h1 with q | q
        · rw [q]; simp
        · simp [q]
      · rcases List.mem_cons.1 hz with q | q
        · exact h2 z (by simp [q])
        · rcases List.mem_append.1 q with q | q
          · exact h2 z (by simp [q])
          · have : z = y := by simpa using q
            rw [this]; exact e2
theorem mn_cons (x : T) (r : List T) : mn (x :: r) = some (fd x r) := rfl
theorem mn_spec {l : List T} {m : T} (h : mn l = some m) : m ∈ l ∧ ∀ y ∈ l, lt y m = false := by
  cases l with
  | nil => cases h
  | cons x r =>
    rw [mn_cons] at h
    cases h
    exact fd_spec x _ r rfl
theorem mn_of {l : List T} {m : T} (hm : m ∈ l) (h : ∀ y ∈ l, lt y m = false) : mn l = some m := by
  cases l with
  | nil => simp at hm
  | cons x r =>
    obtain ⟨h1, h2⟩ := mn_spec (mn_cons x r)
    rw [mn_cons, lt_total (h2 m hm) (h _ h1)]
theorem first_none (p : Option Addr) (c : Nat) (w : World) :
    Calls Tryz.prog 49 #[.slice p 0 c] w fun e w' => e = .returned (ansT none) ∧ Bel w w' := by
  go_enter Tryz.func49, Tryz.ntmps49
  go_wp2
  exact bodyPost_ret (v := ansT none) (by simp [results, Tryz.results49, go_sem, ansT]) rfl ⟨rfl, (Bel.refl _).alloc _ _⟩
theorem held7 {w0 w w' : World} {b0 b1 b2 c0 c1 c2 : Addr} {x0 x1 x2 y0 y1 y2 : Value} (hg : Bel w w')
    (h : Bel w0 w ∧ w.cell? b0 = some x0 ∧ w.cell? b1 = some x1 ∧ w.cell? b2 = some x2 ∧ w.cell? c0 = some y0 ∧ w.cell? c1 = some y1 ∧ w.cell? c2 = some y2) :
    Bel w0 w' ∧ w'.cell? b0 = some x0 ∧ w'.cell? b1 = some x1 ∧ w'.cell? b2 = some x2 ∧ w'.cell? c0 = some y0 ∧ w'.cell? c1 = some y1 ∧ w'.cell? c2 = some y2 :=
  ⟨h.1.trans hg, hg.cell h.2.1, hg.cell h.2.2.1, hg.cell h.2.2.2.1, hg.cell h.2.2.2.2.1, hg.cell h.2.2.2.2.2.1, hg.cell h.2.2.2.2.2.2⟩
set_option maxHeartbeats 2000000 in
theorem first_some (x : T) (r : List T) (n c : Nat) (p : Option Addr) (w : World) (hn : (x :: r).length = n) (hm : n ≤ 5000) (hl : Has w p (x :: r)) :
    Calls Tryz.prog 49 #[.slice p n c] w fun e w' => e = .returned (ansT (some (fd x r))) ∧ Bel w w' := by
  obtain ⟨b, off, rfl, hr⟩ := hl.row (by simp)
  have h0 : ((n : Int) == 0) = false := by simp at hn ⊢; omega
  have h1 : 1 ≤ n := by simp at hn; omega
  have HR := Lib.hid hr
  obtain ⟨a0, s0, p0⟩ := hr 0 (by simp)
  simp only [Nat.zero_mul, Nat.add_zero, List.getD_cons_zero] at a0 s0 p0
  have hb : b < w.heap.size := World.block_lt_of_cell? w _ a0
  have HN := Lib.hid hn
  have HW : Hid (∀ c0 c1, Bel w ((w.alloc (.cells c0 37)).alloc (.cells c1 37))) := Lib.hid (fun _ _ => ((Bel.refl _).alloc _ _).alloc _ _)
  clear hr hl hn
  go_enter Tryz.func49, Tryz.ntmps49
  go_wp2
  clear a0 s0 p0
  go_loopw [5, 15] (fun _ i wr => ∃ k : Nat, k ≤ n ∧ i = .int .i64 k ∧ Bel w wr ∧
      wr.heap[w.heap.size]? = some (.cells #[.int .u64 0, .int .u64 0, .int .i64 0] 37 (0, 0)) ∧
      wr.heap[w.heap.size + 1]? = some (.cells #[.int .u64 (fd x (r.take (k - 1))).a, .int .u64 (fd x (r.take (k - 1))).s, .int .i64 (fd x (r.take (k - 1))).p] 37 (0, 0))) (fun _ i _ => n - (intOf i).toNat)
  case atStart =>
    refine ⟨0, by omega, rfl, HW.out _ _, ?_, ?_⟩
    · rw [Below.heap_alloc _ _ _ (by simp), heap_alloc_new]
    · have := heap_alloc_new (w.alloc (.cells #[.int .u64 0, .int .u64 0, .int .i64 0] 37)) (.cells #[.int .u64 x.a, .int .u64 x.s, .int .i64 x.p] 37)
      rw [World.size_alloc] at this
      exact this
  case round =>
    obtain ⟨k, hk, rfl, hb1, hr0, hr1⟩ := hrel
    have HB := Lib.hid hb1
    have HR0 := Lib.hid hr0
    have HR1 := Lib.hid hr1
    obtain ⟨m, hm'⟩ : ∃ m, fd x (r.take (k - 1)) = m := ⟨_, rfl⟩
    rw [hm'] at hr1 HR1
    obtain ⟨⟨f0, f1, f2⟩, z0, z1, z2⟩ := box3 hr1
    obtain ⟨⟨g0, g1, g2⟩, y0, y1, y2⟩ := box3 hr0
    have HM := Lib.hid hm'
    have hsz := hb1.size
    have hlt1 : w.heap.size + 1 < wr.heap.size := (Array.getElem?_eq_some_iff.1 hr1).1
    clear hm' hr1 hr0
    by_cases hlt : k < n
    · obtain ⟨y, hy⟩ : ∃ y, (x :: r)[k]? = some y := ⟨_, List.getElem?_eq_getElem (by rw [HN.out]; exact hlt)⟩
      have hyd : (x :: r).getD k default = y := by rw [List.getD_eq_getElem?_getD, hy]; rfl
      obtain ⟨ak, sk, pk⟩ := (HR.out.bel hb1) k (by rw [HN.out]; exact hlt)
      rw [hyd] at ak sk pk
      have HNX : Hid (fd x (r.take (k + 1 - 1)) = if lt y m = true then y else m) := Lib.hid (by
        rw [Nat.add_sub_cancel]
        cases k with
        | zero =>
          have e : y = x := by simpa using hy.symm
          have e2 : m = x := by have := HM.out; simp [fd] at this; exact this.symm
          rw [e, e2, if_neg (by rw [lt_irrefl]; simp)]
          simp [fd]
        | succ k =>
          have h5 : r[k]? = some y := by simpa using hy
          obtain ⟨h6, h7⟩ := List.getElem?_eq_some_iff.1 h5
          have := HM.out
          rw [Nat.add_sub_cancel] at this
          rw [List.take_succ_eq_append_getElem h6, h7, fd_snoc, this])
      have KC := Lib.hid (compare_any y m)
      have HC : Hid (lt y m = decide (cf y m < 0)) := Lib.hid rfl
      generalize cf y m = c0 at *
      clear hb1 hy hyd
      by_cases hc : c0 < 0
      · have HE : Hid (lt y m = true) := Lib.hid (by rw [HC.out]; simpa using hc)
        go_wp2
        go_region_held3 (fun w' => Bel wr w' ∧ w'.cell? ⟨b, off + k * 3, none⟩ = some (.int .u64 y.a) ∧ w'.cell? ⟨b, off + k * 3 + 1, none⟩ = some (.int .u64 y.s) ∧ w'.cell? ⟨b, off + k * 3 + 2, none⟩ = some (.int .i64 y.p) ∧
            w'.cell? ⟨w.heap.size + 1, 0, none⟩ = some (.int .u64 m.a) ∧ w'.cell? ⟨w.heap.size + 1, 1, none⟩ = some (.int .u64 m.s) ∧ w'.cell? ⟨w.heap.size + 1, 2, none⟩ = some (.int .i64 m.p)) (first | exact ⟨(Bel.refl _).drew, ak, sk, pk, f0, f1, f2⟩ | exact held7 hg1 ‹_›)
          (first | (go_at_call 53; (with_reducible refine (KC.out _).mono ?_); rintro e w1 ⟨rfl, hg1⟩))
        rename_i hheld
        obtain ⟨hbb, ak1, sk1, pk1, g0, g1, g2⟩ := hheld
        have HB1 := Lib.hid (HB.out.trans hbb)
        have HQ0 := Lib.hid (hbb.heap HR0.out)
        have HQ1 := Lib.hid (hbb.heap HR1.out)
        obtain ⟨_, z0, z1, z2⟩ := box3 HQ1.out
        have hsz1 := HB1.out.size
        clear hbb hg1 ak sk pk f0 f1 f2
        go_wp2
        go_roundw
        case rel =>
          refine ⟨k + 1, by omega, by go_num, bel3 HB1.out (by omega) _ _ _, ?_, ?_⟩
          · exact ((off3 _ (w.heap.size + 1) _ _ _).block _ (Array.getElem?_eq_some_iff.1 HQ0.out).1 (by omega)).trans HQ0.out
          · rw [HNX.out, if_pos HE.out]
            exact box3_set HQ1.out
        case measure => simp [intOf]; omega
      · have HE : Hid (¬ lt y m = true) := Lib.hid (by rw [HC.out]; simpa using hc)
        go_wp2
        go_region_held3 (fun w' => Bel wr w' ∧ w'.cell? ⟨b, off + k * 3, none⟩ = some (.int .u64 y.a) ∧ w'.cell? ⟨b, off + k * 3 + 1, none⟩ = some (.int .u64 y.s) ∧ w'.cell? ⟨b, off + k * 3 + 2, none⟩ = some (.int .i64 y.p) ∧
            w'.cell? ⟨w.heap.size + 1, 0, none⟩ = some (.int .u64 m.a) ∧ w'.cell? ⟨w.heap.size + 1, 1, none⟩ = some (.int .u64 m.s) ∧ w'.cell? ⟨w.heap.size + 1, 2, none⟩ = some (.int .i64 m.p)) (first | exact ⟨(Bel.refl _).drew, ak, sk, pk, f0, f1, f2⟩ | exact held7 hg1 ‹_›)
          (first | (go_at_call 53; (with_reducible refine (KC.out _).mono ?_); rintro e w1 ⟨rfl, hg1⟩))
        rename_i hheld
        obtain ⟨hbb, ak1, sk1, pk1, g0, g1, g2⟩ := hheld
        have HB1 := Lib.hid (HB.out.trans hbb)
        have HQ0 := Lib.hid (hbb.heap HR0.out)
        have HQ1 := Lib.hid (hbb.heap HR1.out)
        clear hbb hg1 ak sk pk f0 f1 f2
        go_wp2
        go_roundw
        case rel => exact ⟨k + 1, by omega, by go_num, HB1.out, HQ0.out, by rw [HNX.out, if_neg HE.out]; exact HQ1.out⟩
        case measure => simp [intOf]; omega
    · have hkn : k = n := by omega
      have HM2 : Hid (fd x r = m) := Lib.hid (by
        have := HM.out
        have h5 := HN.out
        simp at h5
        rw [List.take_of_length_le (by omega)] at this
        exact this)
      have HBE := Lib.hid (bel3 HB.out (Nat.le_refl _) (.int .u64 m.a) (.int .u64 m.s) (.int .i64 m.p))
      clear hkn hb1
      go_wp2
      refine bodyPost_ret (v := ansT (some m)) (by simp [results, Tryz.results49, go_sem, g0, g1, g2, ansT]) rfl ⟨by rw [HM2.out], HBE.out⟩
theorem first_any (l : List T) (n c : Nat) (p : Option Addr) (w : World) (hn : l.length = n) (hm : n ≤ 5000) (hl : Has w p l) :
    Calls Tryz.prog 49 #[.slice p n c] w fun e w' => e = .returned (ansT (mn l)) ∧ Bel w w' := by
  cases l with
  | nil => subst hn; exact first_none p c w
  | cons x r => rw [mn_cons]; exact first_some x r n c p w hn hm hl
end Go.Proofs.YtdoceldofkaapaaGreatDoor
namespace Go.Proofs.YtdoceldofkaapaaGreatDoor
open Go.RowKit
theorem box1 {w : World} {T : Nat} {a : Value} {t : TypeId} (h : w.heap[T]? = some (.cells #[a] t (0, 0))) : w.cell? ⟨T, 0, none⟩ = some a ∧ w.frozen? ⟨T, 0, none⟩ = false :=
  ⟨by rw [cell_of_row w T _ _ t (0, 0) h]; rfl, frozen_of_row w T _ _ t h⟩
/-- A row of the call's own stays where no row of cells turns. -/
theorem OwnT.cells {w : World} {base : Nat} {v : Value} {l : List T} (h : OwnT w base v l) {k : Nat} (e : v.ownBlock = some k) : ∃ c, w.heap[k]? = some (.cells c 37 (0, 0)) := by
  rcases h.2 with ⟨rfl, _⟩ | ⟨g, cap, cur, rfl, hb, hg, _⟩
  · cases e
  · cases e; exact ⟨_, hg⟩
theorem OwnT.off2 {f : Nat → Prop} {w w' : World} {base : Nat} {v : Value} {l : List T} (h : OwnT w base v l) (hb : Off f w w') (hf : ∀ k, v.ownBlock = some k → ¬ f k) : OwnT w' base v l := by
  refine ⟨h.1, ?_⟩
  rcases h.2 with hn | ⟨g, cap, cur, rfl, hbb, hgg, rest⟩
  · exact .inl hn
  · exact .inr ⟨g, cap, cur, rfl, hbb, (hb.block g (Array.getElem?_eq_some_iff.1 hgg).1 (hf g rfl)).trans hgg, rest⟩
theorem own_has {w : World} {base n c : Nat} {p : Option Addr} {l : List T} (h : OwnT w base (.slice p n c) l) : Has w p l := by
  obtain ⟨p2, c2, e, _, _, h2⟩ := h.slice
  cases e
  exact h2
/-- Behind the lists V: the wheel is what is left; in the box D is what was taken. -/
theorem ty_ne {wr : World} {i j : Nat} {x y : Array Value} {a c : TypeId} (h : wr.heap[i]? = some (.cells x a (0, 0))) (k : wr.heap[j]? = some (.cells y c (0, 0))) (hne : a ≠ c) : i ≠ j := fun e => by
  subst e
  rw [h] at k
  injection k with k
  injection k with _ k _
  exact hne k
end Go.Proofs.YtdoceldofkaapaaGreatDoor
namespace Go.Proofs.YtdoceldofkaapaaGreatDoor
open Go.RowKit Go.Shelf
attribute [local go_sem] Oper.semAt_some
/-- The slots that have something, as the bits tell them. -/
theorem sls_of {b P : Nat} {s : Int} {ls : Ls} {r : Nat → T} {F : Nat → Nat → Nat} {l : List T} (h : Fh b ls F) (hb : b ≤ 6) (hi : Is P (2 + 4 * 2 ^ b) (lw b s) ls r l) : Sls b s l (prs F 0) := by
  have hp := pow_le hb
  have he : prs F 0 = cu F 0 0 ++ (cu F 1 0 ++ (cu F 2 0 ++ (cu F 3 0 ++ []))) := rfl
  have hm : ∀ n (y : Nat × Nat), y ∈ cu F n 0 ↔ y.1 = n ∧ y.2 < 256 ∧ Bm.tb (F n) y.2 = true := fun n y => by
    unfold cu
    rw [List.mem_map]
    constructor
    · rintro ⟨i, h1, rfl⟩
      obtain ⟨h2, h3, h4⟩ := sg_mem.1 h1
      exact ⟨rfl, h2, h4⟩
    · rintro ⟨h1, h2, h3⟩
      exact ⟨y.2, sg_mem.2 ⟨h2, Nat.zero_le _, h3⟩, by rw [← h1]⟩
  have hc : ∀ n, (cu F n 0).Pairwise fun y z => y.1 < z.1 ∨ y.1 = z.1 ∧ y.2 < z.2 := fun n => by
    unfold cu
    rw [List.pairwise_map]
    exact (sg_lt (F n) 0 256).imp (fun h => .inr ⟨rfl, h⟩)
  constructor
  · rw [he]
    refine List.pairwise_append.2 ⟨hc 0, List.pairwise_append.2 ⟨hc 1, List.pairwise_append.2 ⟨hc 2, by simpa using hc 3, ?_⟩, ?_⟩, ?_⟩
    all_goals
      intro y hy z hz
      simp only [List.mem_append, List.not_mem_nil, or_false, hm] at hy hz
      omega
  · intro m i
    have h1 : (m, i) ∈ prs F 0 ↔ m ≤ 3 ∧ i < 256 ∧ Bm.tb (F m) i = true := by
      rw [he]
      simp only [List.mem_append, List.not_mem_nil, or_false, hm]
      constructor
      · rintro (⟨rfl, h⟩ | ⟨rfl, h⟩ | ⟨rfl, h⟩ | ⟨rfl, h⟩) <;> exact ⟨by omega, h⟩
      · rintro ⟨h, h2⟩
        have : m = 0 ∨ m = 1 ∨ m = 2 ∨ m = 3 := by omega
        rcases this with rfl | rfl | rfl | rfl
        · exact .inl ⟨rfl, h2⟩
        · exact .inr (.inl ⟨rfl, h2⟩)
        · exact .inr (.inr (.inl ⟨rfl, h2⟩))
        · exact .inr (.inr (.inr ⟨rfl, h2⟩))
    rw [h1]
    constructor
    · rintro ⟨h2, _, h3⟩
      obtain ⟨h4, h5⟩ := (h.on m h2 i).1 h3
      refine ⟨h2, h4, ?_⟩
      obtain ⟨j, hj⟩ := List.exists_mem_of_ne_nil _ h5
      obtain ⟨x, hx, _, e⟩ := hi.al _ (code_lt h2 h4) j hj
      obtain ⟨_, e1, e2⟩ := (lw_slot h4).1 e
      exact ⟨x, hx, e1, e2⟩
    · rintro ⟨h2, h3, x, hx, e1, e2⟩
      refine ⟨h2, by omega, (h.on m h2 i).2 ⟨h3, fun e => ?_⟩⟩
      have h4 := (hi.tm x hx).2.2.2.2
      rw [(lw_slot h3).2 ⟨h2, e1, e2⟩, e] at h4
      cases h4
/-- Which spot is the foremost. -/
def FV (ls : Ls) (F : Nat → Nat → Nat) (v u : Int) : Prop :=
  (ls 0 ≠ [] ∧ v = -1 ∧ u = 0) ∨ (ls 0 = [] ∧ ∃ (m i : Nat) (rest : List (Nat × Nat)), prs F 0 = (m, i) :: rest ∧ v = m ∧ u = i) ∨ (ls 0 = [] ∧ prs F 0 = [] ∧ v = 4 ∧ u = 0)
section
variable {Q Z B G R P b : Nat} {s k : Int} {l : List T} {ls : Ls} {r : Nat → T} {F : Nat → Nat → Nat}
set_option maxHeartbeats 1000000 in
theorem fore_ready (w : World) (q1 : Qw w Q Z B G R P (2 + 4 * 2 ^ b) (lw b s) ls r 78 (rcells Z b (fst4 b) F s k) l) (h : ls 0 ≠ []) :
    Calls Tryz.prog 62 #[.pointer (some ⟨Q, 0, none⟩)] w fun e w' => e = .returned (spV (-1) 0) ∧ Bel w w' := by
  have HB0 : Hid (Bel w (w.alloc (.cells #[.int .i64 0, .int .i64 0] 109))) := Lib.hid ((Bel.refl _).alloc _ _)
  have HN : Hid ((w.alloc (.cells #[.int .i64 0, .int .i64 0] 109)).heap[w.heap.size]? = some (.cells #[.int .i64 0, .int .i64 0] 109 (0, 0))) := Lib.hid (heap_alloc_new _ _)
  have K1 := Lib.hid (some_any (t := 0) (by omega) _ (q1.ql.bel HB0.out))
  have h1 : has1 (ls 0) = true := by
    unfold has1
    cases e : ls 0 with
    | nil => exact absurd e h
    | cons y ys => rfl
  rw [h1, show ((0 : Nat) : Int) = 0 from rfl] at K1
  have c0 : w.cell? ⟨Q, 0, none⟩ = some (.pointer (some ⟨Z, 0, none⟩)) := q1.cell rfl
  have lQ := q1.ltQ
  clear q1 h h1
  go_enter Tryz.func62, Tryz.ntmps62
  go_wp2_with fail
  with_reducible refine K1.out.mono ?_
  rintro e w1 ⟨rfl, hb⟩
  obtain ⟨⟨b0, b1⟩, f0, f1⟩ := box2 (hb.heap HN.out)
  have HE := Lib.hid ((HB0.out.trans hb).setCell (p := ⟨w.heap.size, 0, none⟩) (Nat.le_refl _) (.int .i64 (-1)))
  have HE2 := Lib.hid (HE.out.setCell (p := ⟨w.heap.size, 1, none⟩) (Nat.le_refl _) (.int .i64 0))
  clear hb
  go_wp2
  exact bodyPost_ret (v := spV (-1) 0) (by simp [results, Tryz.results62, go_sem, b0, b1]) rfl ⟨rfl, HE2.out⟩
set_option maxRecDepth 100000 in
set_option maxHeartbeats 4000000 in
theorem fore_loop (w : World) (q1 : Qw w Q Z B G R P (2 + 4 * 2 ^ b) (lw b s) ls r 78 (rcells Z b (fst4 b) F s k) l) (q2 : Fh b ls F) (q3 : Rest w Q Z B G R b s l) (h : ls 0 = []) :
    Calls Tryz.prog 62 #[.pointer (some ⟨Q, 0, none⟩)] w fun e w' => (∃ v u, e = .returned (spV v u) ∧ FV ls F v u) ∧ Bel w w' := by
  have HB0 : Hid (Bel w (w.alloc (.cells #[.int .i64 0, .int .i64 0] 109))) := Lib.hid ((Bel.refl _).alloc _ _)
  have HN : Hid ((w.alloc (.cells #[.int .i64 0, .int .i64 0] 109)).heap[w.heap.size]? = some (.cells #[.int .i64 0, .int .i64 0] 109 (0, 0))) := Lib.hid (heap_alloc_new _ _)
  have K1 := Lib.hid (some_any (t := 0) (by omega) _ (q1.ql.bel HB0.out))
  rw [h, show has1 [] = false from rfl, show ((0 : Nat) : Int) = 0 from rfl] at K1
  have c0 : w.cell? ⟨Q, 0, none⟩ = some (.pointer (some ⟨Z, 0, none⟩)) := q1.cell rfl
  have lQ := q1.ltQ
  have HSR : Hid (∀ w' Bq, Bel w w' → w'.cell? ⟨Bq, 0, none⟩ = some (.pointer (some ⟨Q, 0, none⟩)) → Sr Bq Q F w') := Lib.hid (fun w' Bq hb hc => ⟨hc, fun m hm => by
    have hcs : m = 0 ∨ m = 1 ∨ m = 2 ∨ m = 3 := by omega
    have q := q1.bel hb
    rcases hcs with rfl | rfl | rfl | rfl <;> exact ⟨q.cell rfl, q.cell rfl, q.cell rfl, q.cell rfl⟩, (q3.off hb (fun e => e)).tab, q2.wd⟩)
  have HON : Hid (∀ j (y : Nat × Nat), (prs F 0)[j]? = some y → Bm.tb (F y.1) y.2 = true) := Lib.hid (fun j y hy => by
    have hm := List.mem_of_getElem? hy
    have he : prs F 0 = cu F 0 0 ++ (cu F 1 0 ++ (cu F 2 0 ++ (cu F 3 0 ++ []))) := rfl
    rw [he] at hm
    unfold cu at hm
    simp only [List.mem_append, List.not_mem_nil, or_false, List.mem_map] at hm
    rcases hm with ⟨i, h1, rfl⟩ | ⟨i, h1, rfl⟩ | ⟨i, h1, rfl⟩ | ⟨i, h1, rfl⟩ <;> exact (sg_mem.1 h1).2.2)
  have H0 := Lib.hid h
  clear q1 q2 q3 h
  refine (callsIn_wide (n := 4)).1 ?_
  have hro : Fence.wide.round = none := rfl
  refine callsIn_of_wp_marks Tryz.func62 rfl trivial ?_ hro
  simp only [Tryz.ntmps62, List.size_toArray, List.length_cons, List.length_nil, Nat.reduceAdd, Nat.reduceSub, Array.replicate_succ, Array.replicate_zero, List.push_toArray, List.append_toArray, List.nil_append, List.cons_append]
  refine wpIn_wide.2 ?_
  go_wp2_with fail
  with_reducible refine K1.out.mono ?_
  rintro e w1 ⟨rfl, hb⟩
  have HB1 := Lib.hid (HB0.out.trans hb)
  have HN1 := Lib.hid (hb.heap HN.out)
  clear hb c0
  have KN := Lib.hid (fun w' => rslots_new Q w')
  go_wp2_with fail
  with_reducible refine (KN.out _).mono ?_
  rintro e w2 ⟨Bq, rfl, hbx, hb2, hgx⟩
  have HB2 := Lib.hid (HB1.out.trans hb2)
  have HN2 := Lib.hid (hb2.heap HN1.out)
  have HBX := Lib.hid hbx
  have HGX : Hid (w.heap.size ≤ Bq) := Lib.hid (by have := HB1.out.size; omega)
  have HLT : Hid (w.heap.size < w2.heap.size) := Lib.hid (Array.getElem?_eq_some_iff.1 HN2.out).1
  clear hbx hb2 hgx
  go_wp2
  refine (wpIn_wide (n := 4)).1 ?_
  have HFE : Hid (∀ n w', 1 ≤ n → Feeds Fence.wide n Tryz.prog 131 #[.pointer (some ⟨Bq, 0, none⟩)] (fun y : Nat × Nat => #[Value.int .i64 (y.1 : Nat), Value.int .i64 (y.2 : Nat)]) (prs F 0) (Mr Bq Q F (prs F 0)) w') := Lib.hid (fun n w' hn => rslots_feeds n hn Bq Q F w')
  generalize hys : prs F 0 = ys at *
  have HYS := Lib.hid hys
  clear hys
  refine range_any hro (by omega) (gf := 131) (lb := #[.pointer (some ⟨Bq, 0, none⟩)]) rfl trivial (enters_of Tryz.func131 (by kernel_rfl) rfl) (HFE.out 3 w2 (by omega)) (fun _ => rfl)
    (fun pre V => pre = [] ∧ Bel w V ∧ V.heap[w.heap.size]? = some (.cells #[.int .i64 0, .int .i64 0] 109 (0, 0)) ∧ V.heap[Bq]? = some (.cells #[.pointer (some ⟨Q, 0, none⟩)] 61 (0, 0)))
    (fun c pre V => c = .ret ∧ ∃ m i : Nat, pre = [(m, i)] ∧ Bel w V ∧ V.heap[w.heap.size]? = some (.cells #[.int .i64 m, .int .i64 i] 109 (0, 0)))
    ?hI ?hIx ?hM ⟨rfl, HB2.out, HN2.out, HBX.out⟩ ?a1 ?assign ?body ?done ?stop
  case hI =>
    rintro pre A B' row ⟨h1, h2, h3, h4⟩ hg hr
    have o : Off (fun k => row = some k) A B' := Off.grown (Off.refl _ A) hg (fun k e => .inl e)
    have hn : ∀ {i : Nat} {c : Array Value} {t : TypeId}, A.heap[i]? = some (.cells c t (0, 0)) → ¬ row = some i := fun e e2 => by
      obtain ⟨_, ob, h2, h3⟩ := hr _ e2
      rw [h2] at e
      cases e
      cases h3
    refine ⟨h1, o.bel h2 (fun i e => by have := (hr i e).1; have := HLT.out; omega), (o.block _ (Array.getElem?_eq_some_iff.1 h3).1 (hn h3)).trans h3, (o.block _ (Array.getElem?_eq_some_iff.1 h4).1 (hn h4)).trans h4⟩
  case hIx =>
    rintro c pre A B' row ⟨h1, m, i, h2, h3, h4⟩ hg hr
    have o : Off (fun k => row = some k) A B' := Off.grown (Off.refl _ A) hg (fun k e => .inl e)
    refine ⟨h1, m, i, h2, o.bel h3 (fun i e => by have := (hr i e).1; have := HLT.out; omega), (o.block _ (Array.getElem?_eq_some_iff.1 h4).1 (fun e2 => by
      obtain ⟨_, ob, h5, h6⟩ := hr _ e2
      rw [h5] at h4
      cases h4
      cases h6)).trans h4⟩
  case hM =>
    rintro pre V ⟨rfl, h2, h3, h4⟩
    exact ⟨F, HSR.out V Bq h2 (box1 h4).1, fun _ _ _ _ e => e, fun j y _ hy => HON.out j y hy⟩
  case assign =>
    intro lp x V K hK
    gi_wp2
    exact hK
  case body =>
    rintro lp pre ⟨m, i⟩ V hpx ⟨rfl, h2, h3, h4⟩
    obtain ⟨⟨b0, b1⟩, f0, f1⟩ := box2 h3
    have H3 := Lib.hid h3
    have H2 := Lib.hid h2
    clear h3 h2 h4
    gi_wp2
    refine ⟨⟨(off2 V w.heap.size (.int .i64 m) (.int .i64 i)).size, fun j ob hj e hc => ?_⟩, rfl, m, i, rfl, (H2.out.setCell (p := ⟨w.heap.size, 0, none⟩) (Nat.le_refl _) _).setCell (p := ⟨w.heap.size, 1, none⟩) (Nat.le_refl _) _, ?_⟩
    · refine ((off2 V w.heap.size (.int .i64 m) (.int .i64 i)).block j (Array.getElem?_eq_some_iff.1 e).1 (fun e2 => ?_)).trans e
      have : j = w.heap.size := e2
      subst this
      rw [H3.out] at e
      cases e
      cases hc
    · have e1 := heap_setCell_same V w.heap.size 0 _ 109 (.int .i64 m) H3.out
      have e2 := heap_setCell_same _ w.heap.size 1 _ 109 (.int .i64 i) e1
      exact e2
  case done =>
    rintro D' V hD' ⟨hp, h2, h3, h4⟩ hK
    have hDV : D' < V.heap.size := (Array.getElem?_eq_some_iff.1 hK).1
    have nD : ¬ D' = w.heap.size := fun e => by rw [← e, hK] at h3; cases h3
    have HEND : Hid (∀ X : World, Off (fun k => k = w.heap.size) V X → ∀ x0 x1, X.heap[w.heap.size]? = some (.cells #[x0, x1] 109 (0, 0)) → X.heap[D']? = some (.deferred (some [])) ∧ Bel w (X.putObj D' (.deferred none)) ∧ (X.putObj D' (.deferred none)).heap[w.heap.size]? = some (.cells #[x0, x1] 109 (0, 0))) := Lib.hid (fun X o x0 x1 hx => by
      have oD : Off (fun i => i = D') X (X.putObj D' (.deferred none)) := Off.grown (Off.refl (fun i => i = D') X) (grownBy_putObj' X D' (.deferred none)) (fun i e => .inl (by cases e; rfl))
      have hz := HLT.out
      exact ⟨(o.block D' hDV nD).trans hK, oD.bel (o.bel h2 (fun i e => by have : i = w.heap.size := e; omega)) (fun i e => by have : i = D' := e; omega), (oD.block w.heap.size (Array.getElem?_eq_some_iff.1 hx).1 (fun e => nD e.symm)).trans hx⟩)
    obtain ⟨⟨b0, b1⟩, f0, f1⟩ := box2 h3
    have HX : Hid (((V.setCell ⟨w.heap.size, 0, none⟩ (.int .i64 4)).setCell ⟨w.heap.size, 1, none⟩ (.int .i64 0)).heap[w.heap.size]? = some (.cells #[.int .i64 4, .int .i64 0] 109 (0, 0))) := Lib.hid (by
      have e1 := heap_setCell_same V w.heap.size 0 _ 109 (.int .i64 4) h3
      exact heap_setCell_same _ w.heap.size 1 _ 109 (.int .i64 0) e1)
    clear hK h2 h3 h4
    go_wp2
    obtain ⟨k1, k2, k3⟩ := HEND.out _ (off2 V w.heap.size (.int .i64 4) (.int .i64 0)) _ _ HX.out
    refine ⟨by simp, .inl ⟨_, _, rfl, run_takeDeferred k1, ?_⟩⟩
    obtain ⟨⟨x0, x1⟩, _⟩ := box2 k3
    refine ⟨spV 4 0, ?_, ⟨4, 0, rfl, .inr (.inr ⟨H0.out, by rw [HYS.out, hp], rfl, rfl⟩)⟩, k2⟩
    simp [results, Tryz.f62, go_sem, x0, x1]
  case stop =>
    rintro D' c pre V hD' hpre ⟨rfl, m, i, rfl, h2, h3⟩ hK
    refine wpIn_wide.2 ?_
    have hDV : D' < V.heap.size := (Array.getElem?_eq_some_iff.1 hK).1
    have nD : ¬ D' = w.heap.size := fun e => by rw [← e, hK] at h3; cases h3
    have HEND : Hid (∀ X : World, Off (fun k => k = w.heap.size) V X → ∀ x0 x1, X.heap[w.heap.size]? = some (.cells #[x0, x1] 109 (0, 0)) → X.heap[D']? = some (.deferred (some [])) ∧ Bel w (X.putObj D' (.deferred none)) ∧ (X.putObj D' (.deferred none)).heap[w.heap.size]? = some (.cells #[x0, x1] 109 (0, 0))) := Lib.hid (fun X o x0 x1 hx => by
      have oD : Off (fun i => i = D') X (X.putObj D' (.deferred none)) := Off.grown (Off.refl (fun i => i = D') X) (grownBy_putObj' X D' (.deferred none)) (fun i e => .inl (by cases e; rfl))
      have hz := HLT.out
      exact ⟨(o.block D' hDV nD).trans hK, oD.bel (o.bel h2 (fun i e => by have : i = w.heap.size := e; omega)) (fun i e => by have : i = D' := e; omega), (oD.block w.heap.size (Array.getElem?_eq_some_iff.1 hx).1 (fun e => nD e.symm)).trans hx⟩)
    have HP := Lib.hid hpre
    have HX := Lib.hid h3
    clear hK h2 h3 hpre
    go_wp2
    obtain ⟨k1, k2, k3⟩ := HEND.out V (Off.refl _ _) _ _ HX.out
    refine ⟨by simp, .inl ⟨_, _, rfl, run_takeDeferred k1, ?_⟩⟩
    obtain ⟨⟨x0, x1⟩, _⟩ := box2 k3
    obtain ⟨rest, hrest⟩ := HP.out
    refine ⟨spV m i, ?_, ⟨m, i, rfl, .inr (.inl ⟨H0.out, m, i, rest, by rw [HYS.out, ← hrest]; rfl, rfl, rfl⟩)⟩, k2⟩
    simp [results, Tryz.f62, go_sem, x0, x1]
end
end Go.Proofs.YtdoceldofkaapaaGreatDoor
namespace Go.Proofs.YtdoceldofkaapaaGreatDoor
open Go.RowKit
/-- How many are still to come. -/
def toCome (n : Nat) (listed : Array Bool) : Nat := ((List.range n).filter fun i => !listed.getD i true).length
theorem toCome_set (n : Nat) (listed : Array Bool) (i : Nat) (hi : i < n) (hl : listed.getD i true = false) (hs : i < listed.size) : toCome n (listed.setIfInBounds i true) < toCome n listed := by
  unfold toCome
  rw [← List.countP_eq_length_filter, ← List.countP_eq_length_filter]
  have hp : ∀ j, (!(listed.setIfInBounds i true).getD j true) = true → (!listed.getD j true) = true := by
    intro j hj
    by_cases hij : i = j
    · subst hij
      simp [hs] at hj
    · rw [getD_set_ne true hij] at hj
      exact hj
  obtain ⟨s, t, hst⟩ := List.append_of_mem (List.mem_range.2 hi)
  rw [hst, List.countP_append, List.countP_append, List.countP_cons, List.countP_cons]
  have h1 := List.countP_mono_left (l := s) (p := fun j => !(listed.setIfInBounds i true).getD j true) (q := fun j => !listed.getD j true) (fun j _ => hp j)
  have h2 := List.countP_mono_left (l := t) (p := fun j => !(listed.setIfInBounds i true).getD j true) (q := fun j => !listed.getD j true) (fun j _ => hp j)
  have h3 : (!(listed.setIfInBounds i true).getD i true) = false := by simp [hs]
  rw [h3, hl]
  simp only [Bool.false_eq_true, if_false, Bool.not_false, if_true]
  omega
theorem toCome_none {ops : Array Oper} {listed : Array Bool} (h : toCome ops.size listed = 0) : Region.ready .any ops listed = [] := by
  unfold toCome at h
  have h0 := List.eq_nil_of_length_eq_zero h
  rw [List.filter_eq_nil_iff] at h0
  unfold Region.ready
  rw [List.filter_eq_nil_iff]
  intro i hi
  have := h0 i hi
  simp only [Bool.not_eq_true', Bool.not_eq_false] at this
  rw [this]
  simp
theorem wpAnyIn_inv {F : Fence} {n : Nat} {P : Program} {ops : Array Oper} {Q : Exit → Act → World → Prop} (J : Array Bool → Act → World → Prop) (hsz : ∀ listed a w, J listed a w → listed.size = ops.size)
    (hstep : ∀ listed a w i o, J listed a w → listed.getD i true = false → ops[i]? = some o → (∀ e ∈ o.after, Region.binds .any e = true → listed.getD e.on false = true) → ∀ K : Act → World → Prop, (∀ a' w', J (listed.setIfInBounds i true) a' w' → K a' w') →
      if Region.wanted o (yielded ops a.tmps) = true then Oper.wpIn F n P o a w K Q else (∀ f, o.about P w a.eval = some f → F.fn f) ∧ K (a.put o.dst undef) w)
    (hend : ∀ listed a w, J listed a w → Region.ready .any ops listed = [] → Q .normal a w) :
    ∀ (fuel : Nat) (listed : Array Bool) (a : Act) (w : World), toCome ops.size listed ≤ fuel → J listed a w → wpAnyIn F n P .any ops Q fuel listed a w := by
  intro fuel
  induction fuel with
  | zero =>
    intro listed a w hc hJ
    have hr := toCome_none (ops := ops) (listed := listed) (by omega)
    exact ⟨hr, hend listed a w hJ hr⟩
  | succ fuel ih =>
    intro listed a w hc hJ
    refine ⟨fun h0 => hend listed a w hJ h0, fun i hi => ?_⟩
    obtain ⟨hl, o, ho, hafter⟩ := mem_ready.1 hi
    have hi2 : i < ops.size := by
      rcases Nat.lt_or_ge i ops.size with h | h
      · exact h
      · rw [Array.getElem?_eq_none h] at ho; cases ho
    refine wpOpIn_step ho (fun K hK => hstep listed a w i o hJ hl ho (fun e he hb => ?_) K (fun a' w' hJ' => hK a' w' (ih _ a' w' ?_ hJ')))
    · exact hafter e he hb
    · have := toCome_set ops.size listed i hi2 hl (by rw [hsz listed a w hJ]; exact hi2)
      omega
theorem ready_not {ops : Array Oper} {listed : Array Bool} {j : Nat} {o : Oper} (hr : Region.ready .any ops listed = []) (ho : ops[j]? = some o) (ha : ∀ e ∈ o.after, Region.binds .any e = true → listed.getD e.on false = true) : listed.getD j true ≠ false := by
  intro h
  have : j ∈ Region.ready .any ops listed := mem_ready.2 ⟨h, o, ho, ha⟩
  rw [hr] at this
  cases this
theorem put_ne {a : Act} {d t : Nat} {v : Value} (h : t ≠ d) : (a.put (some d) v).eval (.tmp t) = a.eval (.tmp t) := by
  unfold Act.put Act.eval
  simp only
  rw [Array.getD_eq_getD_getElem?, Array.getD_eq_getD_getElem?, Array.getElem?_setIfInBounds_ne (by omega)]
theorem put_eq {a : Act} {d : Nat} {v : Value} (h : d < a.tmps.size) : (a.put (some d) v).eval (.tmp d) = v := by
  unfold Act.put Act.eval
  simp [h]
theorem put_size {a : Act} {d : Nat} {v : Value} : (a.put (some d) v).tmps.size = a.tmps.size := by
  unfold Act.put
  simp
end Go.Proofs.YtdoceldofkaapaaGreatDoor
