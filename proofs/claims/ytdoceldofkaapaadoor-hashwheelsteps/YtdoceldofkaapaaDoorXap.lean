/-
  Contract of a wheel's cut: those of a list that are due are taken out.
  Contracts of tick.Sub and tick.First.
-/
import Derived.Test.YtdoceldofkaapaaDoorAop
import Derived.Shelf.Spec.BitsCarry
import Derived.Test.YtdoceldofkaapaaDoorXal
set_option linter.unusedVariables false
set_option linter.unusedSimpArgs false
namespace Go.Proofs.YtdoceldofkaapaaDoor.Ha
open Go.RowKit
section
variable {Q Z B G R P b : Nat} {s k : Int} {l : List T}
set_option maxHeartbeats 2000000 in
theorem cut_any {t : Nat} (now : Int) (w : World) (q : Wh w Q Z B G R P b s k l) (ht : t < slo b + 1) :
    Calls Tryd.prog 25 #[.pointer (some ⟨Q, 0, none⟩), .int .i64 t, .int .u64 now] w fun e w' => (∃ d v, d.Perm (dueIn (slo b) s now t l) ∧ e = .returned v ∧ OwnT w' w.heap.size v d) ∧ Wh w' Q Z B G R P b s k (leftIn (slo b) s now t l) ∧ Off (Fo Q G R) w w' := by
  obtain ⟨⟨ls, r, F, q1, q2⟩, q3⟩ := q
  have K1 : Hid (Calls Tryd.prog 39 #[.pointer (some ⟨Z, 0, none⟩), .int .i64 t, .int .u64 now] w fun e w' => (∃ d v, d.Perm (dueIn (slo b) s now t l) ∧ e = .returned v ∧ OwnT w' w.heap.size v d) ∧ (∃ ls' r', Qp w' Z B G R P (slo b + 1) (lof (slo b) s) ls' r' (leftIn (slo b) s now t l) ∧ Sb (slo b + 1) ls r ls' r' ∧ ∀ u, u ≠ t → ls' u = ls u) ∧ Off (Fo2 G R) w w') := Lib.hid (pcut_any ht now w q1.ql)
  have HQ := Lib.hid q1
  have c0 : w.cell? ⟨Q, 0, none⟩ = some (.pointer (some ⟨Z, 0, none⟩)) := q1.cell rfl
  have HF : Hid (∀ i, Fo Q G R i → i < w.heap.size) := Lib.hid (fun i e => by obtain ⟨a1, a2, a3, a4, a5⟩ := q1.lt; rcases e with e | e | e <;> omega)
  have K2 : Hid (∀ w1 ls' r', Qw w1 Q Z B G R P (slo b + 1) (lof (slo b) s) ls' r' 34 (hcells Z (slo b) s F k) (leftIn (slo b) s now t l) → (∀ u, u ≠ t → ls' u = ls u) → Rest w1 Q Z B G R b s (leftIn (slo b) s now t l) →
      Calls Tryd.prog 33 #[.pointer (some ⟨Q, 0, none⟩), .int .i64 t] w1 fun e w' => e = .returned (.tuple #[]) ∧ Wh w' Q Z B G R P b s k (leftIn (slo b) s now t l) ∧ Off (Fo Q G R) w1 w') :=
    Lib.hid (fun w1 ls' r' h1 h2 h3 => mark_wh w1 h1 q2 ht h2 h3)
  have KR : Hid (∀ w1, Off (Fo2 G R) w w1 → Rest w1 Q Z B G R b s (leftIn (slo b) s now t l)) := Lib.hid (fun w1 ho => (q3.sub leftIn_sub).off ho q3.fo2)
  have lQ := q1.ltQ
  clear q1 q2 q3
  go_enter Tryd.func25, Tryd.ntmps25
  go_wp2_with fail
  with_reducible refine K1.out.mono ?_
  rintro e w1 ⟨⟨d, v, hd, rfl, hv⟩, ⟨ls', r', hq, hsb, hls⟩, ho⟩
  have KX := Lib.hid (K2.out w1 ls' r' (HQ.out.put ho hq) hls (KR.out w1 ho))
  have HD := Lib.hid hd
  have HV := Lib.hid hv
  have HO := Lib.hid ho
  clear hd hv hq hsb hls ho K1
  go_wp2_with fail
  with_reducible refine KX.out.mono ?_
  rintro e w2 ⟨rfl, hq2, ho2⟩
  have HQ2 := Lib.hid hq2
  have HV2 := Lib.hid (HV.out.off ho2 HF.out)
  have HO2 : Hid (Off (Fo Q G R) w w2) := Lib.hid (HO.out.foG.then ho2)
  clear hq2 ho2
  go_wp2
  go_ret
  exact ⟨⟨_, _, HD.out, rfl, HV2.out⟩, HQ2.out, HO2.out⟩
end
end Go.Proofs.YtdoceldofkaapaaDoor.Ha
namespace Go.Proofs.YtdoceldofkaapaaDoor
open Go.RowKit
theorem sub64_fit (x y : Int) (hx : x < 18446744073709551616) (hy : 0 ≤ y) (h : y ≤ x) (w : World) : (callFunc 40 #[.int .u64 x, .int .u64 y, .int .u64 0]).run Tryd.prog w =
    .ok (.value (.tuple #[.int .u64 (x - y), .int .u64 0])) w := by
  obtain ⟨x, rfl⟩ := Int.eq_ofNat_of_zero_le (by omega : 0 ≤ x)
  obtain ⟨y, rfl⟩ := Int.eq_ofNat_of_zero_le hy
  rw [run_callFunc_extern Tryd.func40 (by kernel_rfl) (by kernel_rfl) (by kernel_rfl) (e := sub64Entry) (by kernel_rfl)]
  have := run_sub64 (P := Tryd.prog) x y 0 (by omega) w
  simp only [Int.natCast_zero] at this
  rw [this]
  have e1 : (((x + 18446744073709551616 - y - 0) % 18446744073709551616 : Nat) : Int) = (x : Int) - y := by omega
  rw [e1, if_neg (by omega)]
  rfl
theorem sub64_low (x y : Int) (hx : 0 ≤ x) (hy : y < 18446744073709551616) (h : x < y) (w : World) : (callFunc 40 #[.int .u64 x, .int .u64 y, .int .u64 0]).run Tryd.prog w =
    .ok (.value (.tuple #[.int .u64 (x - y + 18446744073709551616), .int .u64 1])) w := by
  obtain ⟨x, rfl⟩ := Int.eq_ofNat_of_zero_le hx
  obtain ⟨y, rfl⟩ := Int.eq_ofNat_of_zero_le (by omega : 0 ≤ y)
  rw [run_callFunc_extern Tryd.func40 (by kernel_rfl) (by kernel_rfl) (by kernel_rfl) (e := sub64Entry) (by kernel_rfl)]
  have := run_sub64 (P := Tryd.prog) x y 0 (by omega) w
  simp only [Int.natCast_zero] at this
  rw [this]
  have e1 : (((x + 18446744073709551616 - y - 0) % 18446744073709551616 : Nat) : Int) = (x : Int) - y + 18446744073709551616 := by omega
  rw [e1, if_pos (by omega)]
  rfl
/-- How far one tick is behind another one. -/
def gap (t d : Int) : Int := if d ≤ t then t - d else 0
theorem sub_any (t d : Int) (ht : 0 ≤ t ∧ t ≤ 18446744073709551615) (hd : 0 ≤ d ∧ d ≤ 18446744073709551615) (w : World) :
    Calls Tryd.prog 27 #[.int .u64 t, .int .u64 d] w fun e w' => e = .returned (.int .u64 (gap t d)) ∧ w = w' := by
  unfold gap
  by_cases h : d ≤ t
  · rw [if_pos h]
    have k := sub64_fit t d (by omega) hd.1 h
    go_enter Tryd.func27, Tryd.ntmps27
    go_wp2_with (simp only [k])
    go_ret
    exact ⟨rfl, rfl⟩
  · rw [if_neg h]
    have k := sub64_low t d ht.1 (by omega) (by omega)
    go_enter Tryd.func27, Tryd.ntmps27
    go_wp2_with (simp only [k])
    go_ret
    exact ⟨rfl, rfl⟩
theorem box3_set {w : World} {b : Nat} {x y z x' y' z' : Value} {t : TypeId} (h : w.heap[b]? = some (.cells #[x, y, z] t (0, 0))) : (((w.setCell ⟨b, 0, none⟩ x').setCell ⟨b, 1, none⟩ y').setCell ⟨b, 2, none⟩ z').heap[b]? = some (.cells #[x', y', z'] t (0, 0)) := by
  have e1 := heap_setCell_same w b 0 _ t x' h
  have e2 := heap_setCell_same _ b 1 _ t y' e1
  have e3 := heap_setCell_same _ b 2 _ t z' e2
  exact e3
/-- The first of timers. -/
def mn : List T → Option T
  | [] => none
  | x :: r => some (r.foldl (fun m y => if lt y m = true then y else m) x)
def fd (x : T) (r : List T) : T := r.foldl (fun m y => if lt y m = true then y else m) x
theorem fd_snoc (x : T) (r : List T) (y : T) : fd x (r ++ [y]) = if lt y (fd x r) = true then y else fd x r := by unfold fd; rw [List.foldl_append]; rfl
theorem fd_spec (x : T) : ∀ (n : Nat) (r : List T), r.length = n → fd x r ∈ x :: r ∧ ∀ y ∈ x :: r, lt y (fd x r) = false := by
  intro n
  induction n with
  | zero => intro r h; have : r = [] := List.length_eq_zero_iff.1 h; subst this; simp [fd, lt_irrefl]
  | succ n ih =>
    intro r h
    have hne : r ≠ [] := fun e => by subst e; simp at h
    obtain ⟨m, y, rfl⟩ : ∃ m y, r = m ++ [y] := ⟨r.dropLast, r.getLast hne, (List.dropLast_concat_getLast hne).symm⟩
    obtain ⟨h1, h2⟩ := ih m (by simp at h; exact h)
    rw [fd_snoc]
    by_cases e : lt y (fd x m) = true
    · rw [if_pos e]
      refine ⟨by simp, fun z hz => ?_⟩
      have hz2 : z ∈ x :: m ∨ z = y := by
        rcases List.mem_cons.1 hz with q | q
        · exact .inl (by simp [q])
        · rcases List.mem_append.1 q with q | q
          · exact .inl (by simp [q])
          · exact .inr (by simpa using q)
      rcases hz2 with q | rfl
      · exact lt_ntrans (h2 z q) (lt_asymm e)
      · exact lt_irrefl _
    · have e2 : lt y (fd x m) = false := by simpa using e
      rw [if_neg e]
      refine ⟨?_, fun z hz => ?_⟩
      · rcases List.mem_cons.1 h1 with q | q
        · rw [q]; simp
        · simp [q]
      · rcases List.mem_cons.1 hz with q | q
        · exact h2 z (by simp [q])
        · rcases List.mem_append.1 q with q | q
          · exact h2 z (by simp [q])
          · have : z = y := by simpa using q
            rw [this]; exact e2
theorem mn_cons (x : T) (r : List T) : mn (x :: r) = some (fd x r) := rfl
theorem mn_spec {l : List T} {m : T} (h : mn l = some m) : m ∈ l ∧ ∀ y ∈ l, lt y m = false := by
  cases l with
  | nil => cases h
  | cons x r =>
    rw [mn_cons] at h
    cases h
    exact fd_spec x _ r rfl
theorem mn_of {l : List T} {m : T} (hm : m ∈ l) (h : ∀ y ∈ l, lt y m = false) : mn l = some m := by
  cases l with
  | nil => simp at hm
  | cons x r =>
    obtain ⟨h1, h2⟩ := mn_spec (mn_cons x r)
    rw [mn_cons, lt_total (h2 m hm) (h _ h1)]
theorem first_none (p : Option Addr) (c : Nat) (w : World) :
    Calls Tryd.prog 34 #[.slice p 0 c] w fun e w' => e = .returned (ansT none) ∧ Bel w w' := by
  go_enter Tryd.func34, Tryd.ntmps34
  go_wp2
  exact bodyPost_ret (v := ansT none) (by simp [results, Tryd.results34, go_sem, ansT]) rfl ⟨rfl, (Bel.refl _).alloc _ _⟩
theorem held7 {w0 w w' : World} {b0 b1 b2 c0 c1 c2 : Addr} {x0 x1 x2 y0 y1 y2 : Value} (hg : Bel w w')
    (h : Bel w0 w ∧ w.cell? b0 = some x0 ∧ w.cell? b1 = some x1 ∧ w.cell? b2 = some x2 ∧ w.cell? c0 = some y0 ∧ w.cell? c1 = some y1 ∧ w.cell? c2 = some y2) :
    Bel w0 w' ∧ w'.cell? b0 = some x0 ∧ w'.cell? b1 = some x1 ∧ w'.cell? b2 = some x2 ∧ w'.cell? c0 = some y0 ∧ w'.cell? c1 = some y1 ∧ w'.cell? c2 = some y2 :=
  ⟨h.1.trans hg, hg.cell h.2.1, hg.cell h.2.2.1, hg.cell h.2.2.2.1, hg.cell h.2.2.2.2.1, hg.cell h.2.2.2.2.2.1, hg.cell h.2.2.2.2.2.2⟩
set_option maxHeartbeats 2000000 in
theorem first_some (x : T) (r : List T) (n c : Nat) (p : Option Addr) (w : World) (hn : (x :: r).length = n) (hm : n ≤ 5000) (hl : Has w p (x :: r)) :
    Calls Tryd.prog 34 #[.slice p n c] w fun e w' => e = .returned (ansT (some (fd x r))) ∧ Bel w w' := by
  obtain ⟨b, off, rfl, hr⟩ := hl.row (by simp)
  have h0 : ((n : Int) == 0) = false := by simp at hn ⊢; omega
  have h1 : 1 ≤ n := by simp at hn; omega
  have HR := Lib.hid hr
  obtain ⟨a0, s0, p0⟩ := hr 0 (by simp)
  simp only [Nat.zero_mul, Nat.add_zero, List.getD_cons_zero] at a0 s0 p0
  have hb : b < w.heap.size := World.block_lt_of_cell? w _ a0
  have HN := Lib.hid hn
  have HW : Hid (∀ c0 c1, Bel w ((w.alloc (.cells c0 41)).alloc (.cells c1 41))) := Lib.hid (fun _ _ => ((Bel.refl _).alloc _ _).alloc _ _)
  clear hr hl hn
  go_enter Tryd.func34, Tryd.ntmps34
  go_wp2
  clear a0 s0 p0
  go_loopw [5, 15] (fun _ i wr => ∃ k : Nat, k ≤ n ∧ i = .int .i64 k ∧ Bel w wr ∧
      wr.heap[w.heap.size]? = some (.cells #[.int .u64 0, .int .u64 0, .int .i64 0] 41 (0, 0)) ∧
      wr.heap[w.heap.size + 1]? = some (.cells #[.int .u64 (fd x (r.take (k - 1))).a, .int .u64 (fd x (r.take (k - 1))).s, .int .i64 (fd x (r.take (k - 1))).p] 41 (0, 0))) (fun _ i _ => n - (intOf i).toNat)
  case atStart =>
    refine ⟨0, by omega, rfl, HW.out _ _, ?_, ?_⟩
    · rw [Below.heap_alloc _ _ _ (by simp), heap_alloc_new]
    · have := heap_alloc_new (w.alloc (.cells #[.int .u64 0, .int .u64 0, .int .i64 0] 41)) (.cells #[.int .u64 x.a, .int .u64 x.s, .int .i64 x.p] 41)
      rw [World.size_alloc] at this
      exact this
  case round =>
    obtain ⟨k, hk, rfl, hb1, hr0, hr1⟩ := hrel
    have HB := Lib.hid hb1
    have HR0 := Lib.hid hr0
    have HR1 := Lib.hid hr1
    obtain ⟨m, hm'⟩ : ∃ m, fd x (r.take (k - 1)) = m := ⟨_, rfl⟩
    rw [hm'] at hr1 HR1
    obtain ⟨⟨f0, f1, f2⟩, z0, z1, z2⟩ := box3 hr1
    obtain ⟨⟨g0, g1, g2⟩, y0, y1, y2⟩ := box3 hr0
    have HM := Lib.hid hm'
    have hsz := hb1.size
    have hlt1 : w.heap.size + 1 < wr.heap.size := (Array.getElem?_eq_some_iff.1 hr1).1
    clear hm' hr1 hr0
    by_cases hlt : k < n
    · obtain ⟨y, hy⟩ : ∃ y, (x :: r)[k]? = some y := ⟨_, List.getElem?_eq_getElem (by rw [HN.out]; exact hlt)⟩
      have hyd : (x :: r).getD k default = y := by rw [List.getD_eq_getElem?_getD, hy]; rfl
      obtain ⟨ak, sk, pk⟩ := (HR.out.bel hb1) k (by rw [HN.out]; exact hlt)
      rw [hyd] at ak sk pk
      have HNX : Hid (fd x (r.take (k + 1 - 1)) = if lt y m = true then y else m) := Lib.hid (by
        rw [Nat.add_sub_cancel]
        cases k with
        | zero =>
          have e : y = x := by simpa using hy.symm
          have e2 : m = x := by have := HM.out; simp [fd] at this; exact this.symm
          rw [e, e2, if_neg (by rw [lt_irrefl]; simp)]
          simp [fd]
        | succ k =>
          have h5 : r[k]? = some y := by simpa using hy
          obtain ⟨h6, h7⟩ := List.getElem?_eq_some_iff.1 h5
          have := HM.out
          rw [Nat.add_sub_cancel] at this
          rw [List.take_succ_eq_append_getElem h6, h7, fd_snoc, this])
      have KC := Lib.hid (compare_any y m)
      have HC : Hid (lt y m = decide (cf y m < 0)) := Lib.hid rfl
      generalize cf y m = c0 at *
      clear hb1 hy hyd
      by_cases hc : c0 < 0
      · have HE : Hid (lt y m = true) := Lib.hid (by rw [HC.out]; simpa using hc)
        go_wp2
        go_region_held3 (fun w' => Bel wr w' ∧ w'.cell? ⟨b, off + k * 3, none⟩ = some (.int .u64 y.a) ∧ w'.cell? ⟨b, off + k * 3 + 1, none⟩ = some (.int .u64 y.s) ∧ w'.cell? ⟨b, off + k * 3 + 2, none⟩ = some (.int .i64 y.p) ∧
            w'.cell? ⟨w.heap.size + 1, 0, none⟩ = some (.int .u64 m.a) ∧ w'.cell? ⟨w.heap.size + 1, 1, none⟩ = some (.int .u64 m.s) ∧ w'.cell? ⟨w.heap.size + 1, 2, none⟩ = some (.int .i64 m.p)) (first | exact ⟨(Bel.refl _).drew, ak, sk, pk, f0, f1, f2⟩ | exact held7 hg1 ‹_›)
          (first | (go_at_call 36; (with_reducible refine (KC.out _).mono ?_); rintro e w1 ⟨rfl, hg1⟩))
        rename_i hheld
        obtain ⟨hbb, ak1, sk1, pk1, g0, g1, g2⟩ := hheld
        have HB1 := Lib.hid (HB.out.trans hbb)
        have HQ0 := Lib.hid (hbb.heap HR0.out)
        have HQ1 := Lib.hid (hbb.heap HR1.out)
        obtain ⟨_, z0, z1, z2⟩ := box3 HQ1.out
        have hsz1 := HB1.out.size
        clear hbb hg1 ak sk pk f0 f1 f2
        go_wp2
        go_roundw
        case rel =>
          refine ⟨k + 1, by omega, by go_num, bel3 HB1.out (by omega) _ _ _, ?_, ?_⟩
          · exact ((off3 _ (w.heap.size + 1) _ _ _).block _ (Array.getElem?_eq_some_iff.1 HQ0.out).1 (by omega)).trans HQ0.out
          · rw [HNX.out, if_pos HE.out]
            exact box3_set HQ1.out
        case measure => simp [intOf]; omega
      · have HE : Hid (¬ lt y m = true) := Lib.hid (by rw [HC.out]; simpa using hc)
        go_wp2
        go_region_held3 (fun w' => Bel wr w' ∧ w'.cell? ⟨b, off + k * 3, none⟩ = some (.int .u64 y.a) ∧ w'.cell? ⟨b, off + k * 3 + 1, none⟩ = some (.int .u64 y.s) ∧ w'.cell? ⟨b, off + k * 3 + 2, none⟩ = some (.int .i64 y.p) ∧
            w'.cell? ⟨w.heap.size + 1, 0, none⟩ = some (.int .u64 m.a) ∧ w'.cell? ⟨w.heap.size + 1, 1, none⟩ = some (.int .u64 m.s) ∧ w'.cell? ⟨w.heap.size + 1, 2, none⟩ = some (.int .i64 m.p)) (first | exact ⟨(Bel.refl _).drew, ak, sk, pk, f0, f1, f2⟩ | exact held7 hg1 ‹_›)
          (first | (go_at_call 36; (with_reducible refine (KC.out _).mono ?_); rintro e w1 ⟨rfl, hg1⟩))
        rename_i hheld
        obtain ⟨hbb, ak1, sk1, pk1, g0, g1, g2⟩ := hheld
        have HB1 := Lib.hid (HB.out.trans hbb)
        have HQ0 := Lib.hid (hbb.heap HR0.out)
        have HQ1 := Lib.hid (hbb.heap HR1.out)
        clear hbb hg1 ak sk pk f0 f1 f2
        go_wp2
        go_roundw
        case rel => exact ⟨k + 1, by omega, by go_num, HB1.out, HQ0.out, by rw [HNX.out, if_neg HE.out]; exact HQ1.out⟩
        case measure => simp [intOf]; omega
    · have hkn : k = n := by omega
      have HM2 : Hid (fd x r = m) := Lib.hid (by
        have := HM.out
        have h5 := HN.out
        simp at h5
        rw [List.take_of_length_le (by omega)] at this
        exact this)
      have HBE := Lib.hid (bel3 HB.out (Nat.le_refl _) (.int .u64 m.a) (.int .u64 m.s) (.int .i64 m.p))
      clear hkn hb1
      go_wp2
      refine bodyPost_ret (v := ansT (some m)) (by simp [results, Tryd.results34, go_sem, g0, g1, g2, ansT]) rfl ⟨by rw [HM2.out], HBE.out⟩
theorem first_any (l : List T) (n c : Nat) (p : Option Addr) (w : World) (hn : l.length = n) (hm : n ≤ 5000) (hl : Has w p l) :
    Calls Tryd.prog 34 #[.slice p n c] w fun e w' => e = .returned (ansT (mn l)) ∧ Bel w w' := by
  cases l with
  | nil => subst hn; exact first_none p c w
  | cons x r => rw [mn_cons]; exact first_some x r n c p w hn hm hl
end Go.Proofs.YtdoceldofkaapaaDoor
