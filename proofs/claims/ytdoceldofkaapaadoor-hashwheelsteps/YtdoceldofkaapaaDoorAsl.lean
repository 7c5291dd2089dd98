/-
  The wheel's slots, told one by one: a labelled loop in a function that is ranged over.
-/
import Derived.Test.YtdoceldofkaapaaDoorXan
import Derived.Test.YtdoceldofkaapaaDoorRng
import Derived.Test.YtdoceldofkaapaaDoorIter
import Derived.BigRegion
import Derived.BigQuiet
set_option linter.unusedVariables false
set_option linter.unusedSimpArgs false
namespace Go.Proofs.YtdoceldofkaapaaDoor.Ha
open Go.RowKit Go.Shelf
attribute [local go_sem] Oper.semAt_some
theorem slots_new (Q n : Nat) (w : World) :
    Calls Tryd.prog 28 #[.pointer (some ⟨Q, 0, none⟩), .int .i64 n] w fun e w' =>
      ∃ Bq Bn, e = .returned (.func (.func 41) #[] #[.pointer (some ⟨Bq, 0, none⟩), .pointer (some ⟨Bn, 0, none⟩)]) ∧ w'.heap[Bq]? = some (.cells #[.pointer (some ⟨Q, 0, none⟩)] 25 (0, 0)) ∧ w'.heap[Bn]? = some (.cells #[.int .i64 n] 3 (0, 0)) ∧ Bel w w' ∧ w.heap.size ≤ Bq ∧ w.heap.size ≤ Bn := by
  have HX : Hid (((w.alloc (.cells #[.pointer (some ⟨Q, 0, none⟩)] 25)).alloc (.cells #[.int .i64 n] 3)).heap[w.heap.size]? = some (.cells #[.pointer (some ⟨Q, 0, none⟩)] 25 (0, 0)) ∧ ((w.alloc (.cells #[.pointer (some ⟨Q, 0, none⟩)] 25)).alloc (.cells #[.int .i64 n] 3)).heap[w.heap.size + 1]? = some (.cells #[.int .i64 n] 3 (0, 0))) := Lib.hid (by
    refine ⟨by rw [Below.heap_alloc _ _ _ (by simp), heap_alloc_new], ?_⟩
    have := heap_alloc_new (w.alloc (.cells #[.pointer (some ⟨Q, 0, none⟩)] 25)) (.cells #[.int .i64 n] 3)
    rw [World.size_alloc] at this; exact this)
  go_enter Tryd.func28, Tryd.ntmps28
  go_wp2
  go_ret
  exact ⟨_, _, rfl, HX.out.1, HX.out.2, ((Bel.refl _).alloc _ _).alloc _ _, by simp, by simp⟩
/-- What the function reads: its two boxes, and the wheel. -/
structure Sl (Bq Bn Q S n : Nat) (s : Int) (F : Nat → Nat) (V : World) : Prop where
  cq : V.cell? ⟨Bq, 0, none⟩ = some (.pointer (some ⟨Q, 0, none⟩))
  cn : V.cell? ⟨Bn, 0, none⟩ = some (.int .i64 n)
  c2 : V.cell? ⟨Q, 1, none⟩ = some (.int .i64 S)
  c3 : V.cell? ⟨Q, 2, none⟩ = some (.int .u64 s)
  c4 : V.cell? ⟨Q, 3, none⟩ = some (.int .u64 (F 0))
  c5 : V.cell? ⟨Q, 3 + 1, none⟩ = some (.int .u64 (F 1))
  c6 : V.cell? ⟨Q, 3 + 2, none⟩ = some (.int .u64 (F 2))
  c7 : V.cell? ⟨Q, 3 + 3, none⟩ = some (.int .u64 (F 3))
  tab : Bm.Tab V
  wd : Bm.Wd F
theorem Sl.bel {Bq Bn Q S n : Nat} {s : Int} {F : Nat → Nat} {V V' : World} (h : Sl Bq Bn Q S n s F V) (k : Bel V V') : Sl Bq Bn Q S n s F V' :=
  ⟨k.cell h.cq, k.cell h.cn, k.cell h.c2, k.cell h.c3, k.cell h.c4, k.cell h.c5, k.cell h.c6, k.cell h.c7, fun j hj => k.cell (h.tab j hj), h.wd⟩
/-- What is left in the bits behind k slots. -/
def Ms (Bq Bn Q S n : Nat) (s : Int) (F0 : Nat → Nat) (ys : List Nat) (k : Nat) (V : World) : Prop :=
  ∃ F, Sl Bq Bn Q S n s F V ∧ (∀ i, i < 256 → Bm.tb F i = true → Bm.tb F0 i = true) ∧ ∀ j y, k ≤ j → ys[j]? = some y → Bm.tb F y = true
theorem fs_eqs {S : Nat} {s : Int} (h0 : 4 ≤ S) (h1 : S ≤ 256) (hs : Tk s) : ∃ u : Int, IntKind.u64.wrap (s + 1) = u ∧ (S : Int) ≠ 0 ∧ IntKind.u64.wrap (S : Int) = S ∧ u.tmod (S : Int) = (fs S s : Nat) ∧ IntKind.u64.wrap ((fs S s : Nat) : Int) = (fs S s : Nat) ∧ IntKind.i64.wrap ((fs S s : Nat) : Int) = (fs S s : Nat) := by
  have hf := fs_lt (S := S) (by omega) s
  obtain ⟨s0, s1⟩ := hs
  by_cases h : s = 18446744073709551615
  · subst h
    have e : fs S 18446744073709551615 = 0 := by unfold fs; rw [if_pos rfl]
    rw [e]
    refine ⟨0, by decide, by omega, by rw [IntKind.wrap_u64]; omega, by simp, by decide, by decide⟩
  · have e : ((fs S s : Nat) : Int) = (s + 1) % (S : Int) := by
      unfold fs
      rw [if_neg h]
      have h2 := Int.emod_nonneg (s + 1) (b := (S : Int)) (by omega)
      omega
    refine ⟨s + 1, by rw [IntKind.wrap_u64]; omega, by omega, by rw [IntKind.wrap_u64]; omega, by rw [Int.tmod_eq_emod_of_nonneg (by omega), e], by rw [IntKind.wrap_u64]; omega, by rw [IntKind.wrap_i64]; omega⟩
set_option maxRecDepth 100000 in
set_option maxHeartbeats 2000000 in
theorem slots_feeds (m : Nat) (hm : 1 ≤ m) (Bq Bn Q S n : Nat) (s : Int) (F0 : Nat → Nat) (h0 : 4 ≤ S) (h1 : S ≤ 256) (hn : n ≤ S) (hs : Tk s) (hz : ∀ i, Bm.tb F0 i = true → i < S) (w : World) :
    Feeds Fence.wide m Tryd.prog 41 #[.pointer (some ⟨Bq, 0, none⟩), .pointer (some ⟨Bn, 0, none⟩)] (fun x => #[Value.int .i64 (x : Nat)]) (yss F0 S (fs S s) n) (Ms Bq Bn Q S n s F0 (yss F0 S (fs S s) n)) w := by
  intro l J Jx W _ hJ hM hY hJ0
  obtain ⟨u, u0, u1, u2, u3, u4, u5⟩ := fs_eqs h0 h1 hs
  have hf := fs_lt (S := S) (by omega) s
  generalize fs S s = f at *
  have HJ := Lib.hid hJ
  have HM := Lib.hid hM
  have HY := Lib.hid hY
  have H0 := Lib.hid hJ0
  obtain ⟨F, hsl, _, _⟩ := hM [] W hJ0
  obtain ⟨q1, q2, q3, q4, q5, q6, q7, q8, _, _⟩ := hsl
  clear hJ hM hY hJ0
  have HS4 := Lib.hid h0
  refine callsIn_wide.2 ?_
  go_enter Tryd.func41, Tryd.ntmps41
  go_wp2
  go_step3
  go_wp2
  go_quiet (fail)
  have HJd := Lib.hid (abides_bel HJ.out H0.out ((Bel.refl W).drewN nq))
  generalize W.drewN nq = W1 at *
  clear q1 q2 q3 q4 q5 q6 q7 q8 u0 u1 u2 u3 u4 u5 H0
  go_wp2
  go_step3
  go_wp2
  go_loopw [22] (fun v wr => ∃ (t : Nat) (pre : List Nat), v = .int .i64 t ∧ t ≤ 2 ∧ yss F0 S f n = pre ++ tlq F0 S f n t ∧ J pre wr) (fun v _ => 2 - (intOf v).toNat)
  case atStart => exact ⟨0, [], rfl, by omega, rfl, HJd.out⟩
  case round =>
    obtain ⟨t, pre, rfl, ht, hys, hj⟩ := hrel
    have HYS := Lib.hid hys
    have HJ1 := Lib.hid hj
    clear hys hj HJd
    by_cases hlt : t < 2
    · obtain ⟨F, hsl, _, _⟩ := HM.out pre wr HJ1.out
      obtain ⟨q1, q2, q3, q4, q5, q6, q7, q8, _, _⟩ := hsl
      clear q4 q5 q6 q7 q8
      have hmul : (t : Int) * (S : Int) = 0 ∨ (t : Int) * (S : Int) = S := by
        have : t = 0 ∨ t = 1 := by omega
        rcases this with rfl | rfl
        · exact .inl (by simp)
        · exact .inr (by simp)
      have HCU : Hid (tlq F0 S f n t = sg F0 ((f : Int) - (t : Int) * (S : Int)).toNat (((f + n : Nat) : Int) - (t : Int) * (S : Int)).toNat ++ tlq F0 S f n (t + 1)) := Lib.hid (tlq_cur hlt)
      obtain ⟨m1, hm1⟩ : ∃ m1, (t : Int) * (S : Int) = m1 := ⟨_, rfl⟩
      obtain ⟨a0, ha0⟩ : ∃ a0, (f : Int) - m1 = a0 := ⟨_, rfl⟩
      obtain ⟨b0, hb0⟩ : ∃ b0, ((f + n : Nat) : Int) = b0 := ⟨_, rfl⟩
      obtain ⟨z0, hz0⟩ : ∃ z0, b0 - m1 = z0 := ⟨_, rfl⟩
      rw [hm1, hb0, ha0, hz0] at HCU
      rw [hm1] at hmul
      have e1 : IntKind.i64.wrap ((t : Int) * (S : Int)) = m1 := by rw [hm1, IntKind.wrap_i64]; omega
      have e2 : IntKind.i64.wrap ((f : Int) - m1) = a0 := by rw [IntKind.wrap_i64]; omega
      have e3 : IntKind.i64.wrap ((f : Int) + (n : Int)) = b0 := by rw [IntKind.wrap_i64]; omega
      have e4 : IntKind.i64.wrap (b0 - m1) = z0 := by rw [IntKind.wrap_i64]; omega
      have hab : -256 ≤ a0 ∧ a0 ≤ 256 := by omega
      have hzb : -256 ≤ z0 ∧ z0 ≤ 512 := by omega
      clear hm1 ha0 hb0 hz0
      have hd : decide ((t : Int) < 2) = true := decide_eq_true (by omega)
      go_wp2
      go_quiet (fail)
      have HJd := Lib.hid (abides_bel HJ.out HJ1.out ((Bel.refl wr).drewN nq))
      generalize wr.drewN nq = W2 at *
      clear q1 q2 q3 e1 e2 e3 e4 hmul HJ1
      go_wp2
      go_loopw [6] (fun v wr => ∃ (a : Int) (pre : List Nat), v = .int .i64 a ∧ (-256 ≤ a ∧ a ≤ 256) ∧ yss F0 S f n = pre ++ (sg F0 a.toNat z0.toNat ++ tlq F0 S f n (t + 1)) ∧ J pre wr) (fun v _ => 257 - (intOf v).toNat)
      case atStart => exact ⟨a0, pre, rfl, hab, by rw [HYS.out, HCU.out], HJd.out⟩
      case round =>
        clear HJd HYS HCU
        obtain ⟨a, pre, rfl, ha, hys, hj⟩ := hrel
        have HYS := Lib.hid hys
        have HJ1 := Lib.hid hj
        obtain ⟨F, hsl, hsub, hon⟩ := HM.out pre _ hj
        have HSL := Lib.hid hsl
        have KN := Lib.hid (Bm.next_any F hsl.wd a (by omega) _ hsl.tab)
        obtain ⟨q1, q2, q3, q4, q5, q6, q7, q8, _, _⟩ := hsl
        clear hys hj
        cases hc : sg F0 a.toNat z0.toNat with
        | nil =>
          have HYE : Hid (yss F0 S f n = pre ++ tlq F0 S f n (t + 1)) := Lib.hid (by rw [HYS.out, hc]; rfl)
          rcases nx_miss hc hsub with hx | ⟨i, hx, hi1, hi2⟩
          · unfold nx at hx
            rw [hx] at KN
            unfold Bm.ans at KN
            clear hc hx hsub hon HYS
            go_wp2_with fail
            with_reducible refine KN.out.mono ?_
            rintro e w3 ⟨rfl, hb⟩
            have HJ3 := Lib.hid (abides_bel HJ.out HJ1.out (bm_bel hb))
            clear hb KN
            go_wp2
            go_roundw
            case rel => exact ⟨t + 1, pre, by go_num, by omega, HYE.out, HJ3.out⟩
            case measure => simp [intOf]; omega
          · unfold nx at hx
            rw [hx] at KN
            unfold Bm.ans at KN
            have hge : z0 ≤ (i : Int) := by omega
            clear hc hx hsub hon HYS
            go_wp2_with fail
            with_reducible refine KN.out.mono ?_
            rintro e w3 ⟨rfl, hb⟩
            have HJ3 := Lib.hid (abides_bel HJ.out HJ1.out (bm_bel hb))
            clear hb KN
            go_wp2
            go_roundw
            case rel => exact ⟨t + 1, pre, by go_num, by omega, HYE.out, HJ3.out⟩
            case measure => simp [intOf]; omega
        | cons y r =>
          obtain ⟨h2, h3, h4, h5, h6⟩ := sg_cons hc
          have hyS := hz y h4
          have hpl : (yss F0 S f n)[pre.length]? = some y := by rw [HYS.out, hc]; simp
          have hx := nx_hit h2 (by omega) (hon _ y (Nat.le_refl _) hpl) h5 hsub
          unfold nx at hx
          rw [hx] at KN
          unfold Bm.ans at KN
          have hlt2 : (y : Int) < z0 := by omega
          have HPre : Hid (pre ++ [y] <+: yss F0 S f n) := Lib.hid (by rw [HYS.out, hc]; exact ⟨r ++ tlq F0 S f n (t + 1), by simp⟩)
          have HYN : Hid (yss F0 S f n = (pre ++ [y]) ++ (sg F0 ((y : Int) + 1).toNat z0.toNat ++ tlq F0 S f n (t + 1))) := Lib.hid (by
            have e : ((y : Int) + 1).toNat = y + 1 := by omega
            rw [HYS.out, hc, e, ← h6]
            simp)
          have HA2 : Hid (257 - ((y : Int) + 1).toNat < 257 - a.toNat) := Lib.hid (by omega)
          clear hc hx hsub hon HYS hpl h5 h6
          go_wp2_with fail
          with_reducible refine KN.out.mono ?_
          rintro e w3 ⟨rfl, hb⟩
          have HJ3 := Lib.hid (abides_bel HJ.out HJ1.out (bm_bel hb))
          clear hb KN q1 q2 q3 q4 q5 q6 q7 q8
          go_upto_region 7 with (fail)
          obtain ⟨fn, tmps, assign, body, hyy, hR⟩ := HY.out pre y _ HPre.out HJ3.out
          have hya : Sem.run Tryd.prog (Instr.yield l #[.int .i64 (y : Int)]) w3 = .ok (.round l fn tmps assign body) w3 := hyy
          clear hyy
          refine (wpIn_wide (n := m)).1 ?_
          gi_wp2
          refine hR.mono ?_
          rintro e w5 (⟨rfl, hj5⟩ | ⟨rfl, hx5⟩)
          · have HJ5 := Lib.hid hj5
            clear hj5 hya hR
            gi_wp2
            go_wp2
            go_roundw
            case rel => exact ⟨(y : Int) + 1, pre ++ [y], by go_num, by omega, HYN.out, HJ5.out⟩
            case measure => exact HA2.out
          · gi_wp2
            go_wp2
            try rw [Exit.noGoto_normal]
            try rw [Exit.noGoto_ret]
            go_end0
            exact ⟨⟨_, rfl⟩, .inr ⟨_, HPre.out, hx5⟩⟩
    · obtain rfl : t = 2 := by omega
      have HE : Hid (pre = yss F0 S f n) := Lib.hid (by rw [HYS.out, tlq_two]; simp)
      go_wp2
      try rw [Exit.noGoto_normal]
      try rw [Exit.noGoto_ret]
      go_end0
      exact ⟨⟨_, rfl⟩, .inl (by rw [← HE.out]; exact HJ1.out)⟩
end Go.Proofs.YtdoceldofkaapaaDoor.Ha
