/-
  Contract of a wheel of four levels: Min.
  Contracts of a wheel of four levels: Where, Base, Cascades.
  A wheel of four levels is what the laws want of a queue.
-/
import Derived.Test.YtdoceldofkaapaaGreatDoorXav
import Derived.Test.YtdoceldofkaapaaGreatDoorXau
import Derived.Test.YtdoceldofkaapaaGreatDoorXax
import Derived.Test.YtdoceldofkaapaaGreatDoorXaw
import Derived.Test.YtdoceldofkaapaaGreatDoorXaj
set_option linter.unusedVariables false
set_option linter.unusedSimpArgs false
namespace Go.Proofs.YtdoceldofkaapaaGreatDoor
open Go.RowKit
theorem head_of {l : List T} (h : So l) {x : T} (hx : x ∈ l) (hm : ∀ y ∈ l, lt y x = false) : l.head? = some x := by
  cases l with
  | nil => simp at hx
  | cons z r =>
    rw [List.head?_cons]
    congr 1
    have h1 := hm z (by simp)
    rcases List.mem_cons.1 hx with e | e
    · exact e.symm
    · exact lt_total h1 ((List.pairwise_cons.1 h).1 x e)
/-- In a list ahead of all others stands the first one. -/
theorem mn_head {P L : Nat} {lo : T → Nat} {ls : Ls} {r : Nat → T} {l : List T} (hi : Is P L lo ls r l) {t : Nat} (ht : t < L) (hne : ls t ≠ [] ∨ l = []) (hf : ∀ x ∈ l, lo x = t → ∀ y ∈ l, lo y ≠ t → lt y x = false) : mn ((ls t).map r) = l.head? := by
  cases e : mn ((ls t).map r) with
  | none =>
    have h0 : ls t = [] := by
      cases h : ls t with
      | nil => rfl
      | cons a q => rw [h, List.map_cons, mn_cons] at e; cases e
    rcases hne with h | h
    · exact absurd h0 h
    · rw [h]; rfl
  | some m =>
    obtain ⟨h1, h2⟩ := mn_spec e
    obtain ⟨h3, h4⟩ := (hi.mem_list ht m).1 h1
    refine (head_of hi.so h3 fun y hy => ?_).symm
    by_cases h5 : lo y = t
    · exact h2 y ((hi.mem_list ht y).2 ⟨hy, h5⟩)
    · exact hf m h3 h4 y hy h5
theorem fv_head {b P : Nat} {s : Int} {ls : Ls} {r : Nat → T} {F : Nat → Nat → Nat} {l : List T} {v u : Int} (hi : Is P (2 + 4 * 2 ^ b) (lw b s) ls r l) (hF : Fh b ls F) (hb : b ≤ 6) (h : FV ls F v u) :
    mn ((ls (lsn b v u)).map r) = l.head? ∧ lsn b v u < 2 + 4 * 2 ^ b ∧ (v = -1 ∨ v = 4 ∨ ∃ m i : Nat, m ≤ 3 ∧ i < 2 ^ b ∧ v = m ∧ u = i) := by
  have hs := sls_of hF hb hi
  have hp := pow_le hb
  have none0 : ls 0 = [] → ∀ x ∈ l, lw b s x ≠ 0 := fun h0 x hx e => by
    have h1 := (hi.tm x hx).2.2.2.2
    rw [e, h0] at h1
    cases h1
  rcases h with ⟨h0, rfl, rfl⟩ | ⟨h0, m, i, rest, h1, rfl, rfl⟩ | ⟨h0, h1, rfl, rfl⟩
  · have e : lsn b (-1) 0 = 0 := rfl
    rw [e]
    exact ⟨mn_head hi (by omega) (.inl h0) (fun x hx ex y hy ey => ahead_ready (l := l) ex ey), by omega, .inl rfl⟩
  · rw [h1] at hs
    obtain ⟨k1, k2, x, hx, k3, k4⟩ := (hs.me m i).1 (by simp)
    have ex : lw b s x = 2 + m * 2 ^ b + i := (lw_slot k2).2 ⟨k1, k3, k4⟩
    rw [lsn_slot b m i k1]
    refine ⟨mn_head hi (code_lt k1 k2) (.inl fun e => ?_) (fun x hx ex y hy ey => ahead_slot hs (none0 h0) hx hy ex ey), code_lt k1 k2, .inr (.inr ⟨m, i, k1, k2, rfl, rfl⟩)⟩
    have h2 := (hi.tm x hx).2.2.2.2
    rw [ex, e] at h2
    cases h2
  · have e : lsn b 4 0 = 1 := rfl
    rw [h1] at hs
    rw [e]
    refine ⟨mn_head hi (by omega) ?_ (fun x hx ex y hy ey => absurd (all_far hs (none0 h0) hy) ey), by omega, .inr (.inl rfl)⟩
    cases l with
    | nil => exact .inr rfl
    | cons y q =>
      refine .inl fun e2 => ?_
      have h2 := (hi.tm y (by simp)).2.2.2.2
      rw [all_far hs (none0 h0) (by simp), e2] at h2
      cases h2
theorem ansT_eq' (m : Option T) : ansT m = .tuple #[.agg #[.int .u64 (m.getD default).a, .int .u64 (m.getD default).s, .int .i64 (m.getD default).p], .bool m.isSome] := by cases m <;> rfl
section
variable {Q Z B G R P b : Nat} {s k : Int} {l : List T}
theorem fore_any {ls : Ls} {r : Nat → T} {F : Nat → Nat → Nat} (w : World) (q1 : Qw w Q Z B G R P (2 + 4 * 2 ^ b) (lw b s) ls r 78 (rcells Z b (fst4 b) F s k) l) (q2 : Fh b ls F) (q3 : Rest w Q Z B G R b s l) :
    Calls Tryz.prog 62 #[.pointer (some ⟨Q, 0, none⟩)] w fun e w' => (∃ v u, e = .returned (spV v u) ∧ FV ls F v u) ∧ Bel w w' := by
  by_cases h : ls 0 = []
  · exact fore_loop w q1 q2 q3 h
  · exact (fore_ready w q1 h).mono fun e w' ⟨h1, h2⟩ => ⟨⟨-1, 0, h1, .inl ⟨h, rfl, rfl⟩⟩, h2⟩
set_option maxHeartbeats 2000000 in
theorem rmin_any (w : World) (q : Wr w Q Z B G R P b s k l) :
    Calls Tryz.prog 34 #[.pointer (some ⟨Q, 0, none⟩)] w fun e w' => e = .returned (ansT l.head?) ∧ Bel w w' := by
  obtain ⟨⟨ls, r, F, q1, q2, q4⟩, q3⟩ := q
  have hb := q3.hb.2
  have KF : Hid (∀ w', Bel w w' → Calls Tryz.prog 62 #[.pointer (some ⟨Q, 0, none⟩)] w' fun e w2 => (∃ v u, e = .returned (spV v u) ∧ FV ls F v u) ∧ Bel w' w2) := Lib.hid (fun w' hw => fore_any w' (q1.bel hw) q2 (q3.off hw (fun e => e)))
  have KL : Hid (∀ w' v u, FV ls F v u → Bel w w' → Calls Tryz.prog 61 #[.pointer (some ⟨Q, 0, none⟩), spV v u] w' fun e w2 => e = .returned (.int .i64 (lsn b v u : Nat)) ∧ Bel w' w2) := Lib.hid (fun w' v u h hw => list_any hb w' (q1.bel hw) (fv_head q1.ql.is q2 hb h).2.2)
  have KI : Hid (∀ w' v u, FV ls F v u → Bel w w' → Calls Tryz.prog 50 #[.pointer (some ⟨Z, 0, none⟩), .int .i64 (lsn b v u : Nat)] w' fun e w2 => ∃ p n c, e = .returned (.slice p n c) ∧ ((ls (lsn b v u)).map r).length = n ∧ Has w2 p ((ls (lsn b v u)).map r) ∧ Bel w' w2) :=
    Lib.hid (fun w' v u h hw => (in_any (fv_head q1.ql.is q2 hb h).2.1 w' (q1.ql.bel hw)).mono fun e w2 ⟨⟨p, c, a1, _, a3⟩, a4⟩ => ⟨p, _, c, a1, rfl, a3.has, a4⟩)
  have KT : Hid (∀ w' v u p n c, FV ls F v u → ((ls (lsn b v u)).map r).length = n → Has w' p ((ls (lsn b v u)).map r) → Calls Tryz.prog 49 #[.slice p n c] w' fun e w2 => e = .returned (ansT l.head?) ∧ Bel w' w2) :=
    Lib.hid (fun w' v u p n c h hn hh => by
      obtain ⟨h1, h2, _⟩ := fv_head q1.ql.is q2 hb h
      rw [← h1]
      refine first_any _ n c p w' hn ?_ hh
      have := q1.ql.lslen h2
      rw [List.length_map] at hn
      omega)
  have HA : Hid (ansT l.head? = .tuple #[.agg #[.int .u64 (l.head?.getD default).a, .int .u64 (l.head?.getD default).s, .int .i64 (l.head?.getD default).p], .bool l.head?.isSome]) := Lib.hid (ansT_eq' _)
  have HAV : Hid (∀ X, X = ansT l.head? → X = ansT l.head?) := Lib.hid (fun _ e => e)
  rw [HA.out] at KT ⊢
  generalize (l.head?.getD default).a = xa at *
  generalize (l.head?.getD default).s = xs at *
  generalize (l.head?.getD default).p = xp at *
  generalize l.head?.isSome = z at *
  have HB0 : Hid (Bel w (w.alloc (.cells #[.int .u64 0, .int .u64 0, .int .i64 0] 37)).drew) := Lib.hid ((Bel.refl _).alloc _ _).drew
  have HN : Hid ((w.alloc (.cells #[.int .u64 0, .int .u64 0, .int .i64 0] 37)).drew.heap[w.heap.size]? = some (.cells #[.int .u64 0, .int .u64 0, .int .i64 0] 37 (0, 0))) := Lib.hid (heap_alloc_new _ _)
  have lQ := q1.ltQ
  have HX : Hid (∀ w', Off (fun k => k = w.heap.size) (w.alloc (.cells #[.int .u64 0, .int .u64 0, .int .i64 0] 37)).drew w' → w'.cell? ⟨Q, 0, none⟩ = some (.pointer (some ⟨Z, 0, none⟩))) := Lib.hid (fun w' hw => hw.cell (p := ⟨Q, 0, none⟩) (by simp; omega) ((q1.bel HB0.out).cell rfl))
  have HZ : Hid (∀ w', Bel (w.alloc (.cells #[.int .u64 0, .int .u64 0, .int .i64 0] 37)).drew w' → (w'.cell? ⟨w.heap.size, 0, none⟩ = some (.int .u64 0) ∧ w'.cell? ⟨w.heap.size, 1, none⟩ = some (.int .u64 0) ∧ w'.cell? ⟨w.heap.size, 2, none⟩ = some (.int .i64 0)) ∧ (w'.frozen? ⟨w.heap.size, 0, none⟩ = false ∧ w'.frozen? ⟨w.heap.size, 1, none⟩ = false ∧ w'.frozen? ⟨w.heap.size, 2, none⟩ = false)) := Lib.hid (fun w' hw => box3 (hw.heap HN.out))
  clear q1 q2 q3 q4 HA HAV hb
  go_enter Tryz.func34, Tryz.ntmps34
  go_wp2
  go_region_held3 (fun w' => w'.cell? ⟨Q, 0, none⟩ = some (.pointer (some ⟨Z, 0, none⟩)))
    (first | (with_reducible exact HX.out _ (Off.refl _ _)) | (with_reducible exact HX.out _ (hb1.off _)) | (with_reducible exact HX.out _ ((hb1.trans hb2).off _)) | (with_reducible exact HX.out _ (((hb1.trans hb2).trans hb3).off _)) | (with_reducible exact HX.out _ ((((hb1.trans hb2).trans hb3).trans hb4).off _)) | exact HX.out _ (((((hb1.trans hb2).trans hb3).trans hb4).off _).then (off3 _ _ _ _ _)))
    (first
      | (go_at_call 62; (with_reducible refine (KF.out _ HB0.out).mono ?_); rintro e w1 ⟨⟨v, u, rfl, hfv⟩, hb1⟩)
      | (go_at_call 61; (with_reducible refine (KL.out _ v u hfv (HB0.out.trans hb1)).mono ?_); rintro e w2 ⟨rfl, hb2⟩)
      | (go_at_call 50; (with_reducible refine (KI.out _ v u hfv ((HB0.out.trans hb1).trans hb2)).mono ?_); rintro e w3 ⟨p, n, c, rfl, hn, hh, hb3⟩)
      | (go_at_call 49; (with_reducible refine (KT.out _ v u p n c hfv hn hh).mono ?_); rintro e w4 ⟨rfl, hb4⟩; obtain ⟨⟨z0, z1, z2⟩, z3, z4, z5⟩ := HZ.out w4 (((hb1.trans hb2).trans hb3).trans hb4)))
  all_goals
    have HE : Hid (Bel w w4) := Lib.hid (HB0.out.trans (((hb1.trans hb2).trans hb3).trans hb4))
    go_wp2
    refine bodyPost_ret (v := .tuple #[.agg #[.int .u64 xa, .int .u64 xs, .int .i64 xp], .bool z]) (by simp [results, Tryz.results34, go_sem, z0, z1, z2]) rfl ⟨rfl, bel3 HE.out (Nat.le_refl _) _ _ _⟩
end
end Go.Proofs.YtdoceldofkaapaaGreatDoor
namespace Go.Proofs.YtdoceldofkaapaaGreatDoor
open Go.RowKit
section
variable {Q Z B G R P b : Nat} {s k : Int} {l : List T}
theorem hbase_any (w : World) (q : Wr w Q Z B G R P b s k l) :
    Calls Tryz.prog 32 #[.pointer (some ⟨Q, 0, none⟩)] w fun e w' => e = .returned (.int .u64 s) ∧ Bel w w' := by
  obtain ⟨c0, c21, c22, c23, fz⟩ := q.cells
  have lQ := q.lt.1
  clear q fz
  go_enter Tryz.func32, Tryz.ntmps32
  go_wp2
  go_ret
  exact ⟨rfl, Bel.refl _⟩
theorem hcasc_any (w : World) (q : Wr w Q Z B G R P b s k l) :
    Calls Tryz.prog 33 #[.pointer (some ⟨Q, 0, none⟩)] w fun e w' => e = .returned (.int .i64 k) ∧ Bel w w' := by
  obtain ⟨c0, c21, c22, c23, fz⟩ := q.cells
  have lQ := q.lt.1
  clear q fz
  go_enter Tryz.func33, Tryz.ntmps33
  go_wp2
  go_ret
  exact ⟨rfl, Bel.refl _⟩
/-- What told hands on. -/
def toldV (b : Nat) (s : Int) : Option T → Value
  | none => .tuple #[.agg #[.int .i64 0, .int .i64 0], .bool false]
  | some x => .tuple #[spV (lv b s x.a) (sv b s x.a), .bool true]
/-- Where a timer lies. -/
def wrV (b : Nat) (s : Int) : Option T → Value
  | some t => .tuple #[.int .i64 (lv b s t.a), .int .i64 (sv b s t.a), .bool true]
  | none => .tuple #[.int .i64 0, .int .i64 0, .bool false]
theorem told_any (p : Int) (w : World) (q : Wr w Q Z B G R P b s k l) :
    Calls Tryz.prog 58 #[.pointer (some ⟨Q, 0, none⟩), .int .i64 p, .func (.func 59) #[.pointer (some ⟨Q, 0, none⟩)] #[]] w fun e w' => e = .returned (toldV b s (fnd l p)) ∧ Bel w w' := by
  have HQ := Lib.hid q
  obtain ⟨c0, c21, c22, c23, fz⟩ := q.cells
  have lQ := q.lt.1
  have HB0 : Hid (Bel w (w.alloc (.cells #[.int .i64 0, .int .i64 0] 109))) := Lib.hid ((Bel.refl _).alloc _ _)
  have HN : Hid ((w.alloc (.cells #[.int .i64 0, .int .i64 0] 109)).heap[w.heap.size]? = some (.cells #[.int .i64 0, .int .i64 0] 109 (0, 0))) := Lib.hid (heap_alloc_new _ _)
  have K1 : Hid (∀ w', Bel w w' → Calls Tryz.prog 19 #[.pointer (some ⟨Z, 0, none⟩), .int .i64 p] w' fun e w2 => e = .returned (ansT (fnd l p)) ∧ Bel w' w2) := Lib.hid (fun w' hb => by
    obtain ⟨⟨ls, r, F, q1, q2, q4⟩, q3⟩ := HQ.out.bel hb
    exact get_any p w' q1.ql)
  clear q fz
  cases hf : fnd l p with
  | none =>
    rw [hf] at K1
    go_enter Tryz.func58, Tryz.ntmps58
    go_wp2_with fail
    with_reducible refine (K1.out _ HB0.out).mono ?_
    rintro e w1 ⟨rfl, hb⟩
    have HB1 := Lib.hid ((HB0.out.trans hb).alloc #[.int .u64 0, .int .u64 0, .int .i64 0] 37)
    have HN1 := Lib.hid ((hb.alloc #[.int .u64 0, .int .u64 0, .int .i64 0] 37).heap HN.out)
    clear hb
    unfold ansT
    go_upto_region 2 with (fail)
    generalize w1.alloc (.cells #[.int .u64 0, .int .u64 0, .int .i64 0] 37) = W2 at *
    generalize w1.heap.size = N2 at *
    obtain ⟨⟨y0, y1⟩, f0, f1⟩ := box2 HN1.out
    have HE : Hid (Bel w ((W2.setCell ⟨w.heap.size, 0, none⟩ (.int .i64 0)).setCell ⟨w.heap.size, 1, none⟩ (.int .i64 0))) := Lib.hid ((HB1.out.setCell (p := ⟨w.heap.size, 0, none⟩) (by simp) _).setCell (p := ⟨w.heap.size, 1, none⟩) (by simp) _)
    go_wp2
    exact bodyPost_ret (v := toldV b s none) (by simp [results, Tryz.results58, go_sem, y0, y1, toldV]) rfl ⟨rfl, HE.out⟩
  | some x =>
    rw [hf] at K1
    unfold toldV
    have K2 : Hid (∀ w', Bel w w' → Calls Tryz.prog 59 #[.pointer (some ⟨Q, 0, none⟩), .agg #[.int .u64 x.a, .int .u64 x.s, .int .i64 x.p]] w' fun e w2 => e = .returned (spV (lv b s x.a) (sv b s x.a)) ∧ Bel w' w2) := Lib.hid (fun w' hb => by
      obtain ⟨_, d21, d22, _, _⟩ := (HQ.out.bel hb).cells
      exact spot_at Q b s x w' HQ.out.re.ts (HQ.out.re.tl x (fnd_some hf).1) HQ.out.re.hb d21 d22)
    obtain ⟨v, hv⟩ : ∃ v, lv b s x.a = v := ⟨_, rfl⟩
    obtain ⟨u, hu⟩ : ∃ u, sv b s x.a = u := ⟨_, rfl⟩
    rw [hv, hu] at K2
    simp only [hv, hu]
    clear hv hu
    go_enter Tryz.func58, Tryz.ntmps58
    go_wp2_with fail
    with_reducible refine (K1.out _ HB0.out).mono ?_
    rintro e w1 ⟨rfl, hb⟩
    have HB1 := Lib.hid ((HB0.out.trans hb).alloc #[.int .u64 x.a, .int .u64 x.s, .int .i64 x.p] 37)
    have HN1 := Lib.hid ((hb.alloc #[.int .u64 x.a, .int .u64 x.s, .int .i64 x.p] 37).heap HN.out)
    have HM1 : Hid ((w1.alloc (.cells #[.int .u64 x.a, .int .u64 x.s, .int .i64 x.p] 37)).heap[w1.heap.size]? = some (.cells #[.int .u64 x.a, .int .u64 x.s, .int .i64 x.p] 37 (0, 0))) := Lib.hid (heap_alloc_new _ _)
    clear hb
    unfold ansT
    go_upto_region 4 with (fail)
    generalize w1.alloc (.cells #[.int .u64 x.a, .int .u64 x.s, .int .i64 x.p] 37) = W2 at *
    generalize w1.heap.size = N2 at *
    obtain ⟨⟨x0, x1, x2⟩, _⟩ := box3 HM1.out
    go_wp2_with fail
    with_reducible refine (K2.out _ HB1.out).mono ?_
    rintro e w2 ⟨rfl, hb2⟩
    obtain ⟨⟨y0, y1⟩, f0, f1⟩ := box2 (hb2.heap HN1.out)
    have HB2 := Lib.hid (HB1.out.trans hb2)
    have HE : Hid (Bel w ((w2.setCell ⟨w.heap.size, 0, none⟩ (.int .i64 v)).setCell ⟨w.heap.size, 1, none⟩ (.int .i64 u))) := Lib.hid ((HB2.out.setCell (p := ⟨w.heap.size, 0, none⟩) (by simp) _).setCell (p := ⟨w.heap.size, 1, none⟩) (by simp) _)
    clear hb2 x0 x1 x2
    go_wp2
    exact bodyPost_ret (v := .tuple #[spV v u, .bool true]) (by simp [results, Tryz.results58, go_sem, y0, y1, spV]) rfl ⟨rfl, HE.out⟩
theorem hwhere_any (p : Int) (w : World) (q : Wr w Q Z B G R P b s k l) :
    Calls Tryz.prog 30 #[.pointer (some ⟨Q, 0, none⟩), .int .i64 p] w fun e w' => e = .returned (wrV b s (fnd l p)) ∧ Bel w w' := by
  have K := Lib.hid (told_any p w q)
  clear q
  cases hf : fnd l p with
  | none =>
    rw [hf] at K
    unfold toldV at K
    go_enter Tryz.func30, Tryz.ntmps30
    go_wp2_with fail
    with_reducible refine K.out.mono ?_
    rintro e w1 ⟨rfl, hb⟩
    have HB := Lib.hid (hb.alloc #[.int .i64 0, .int .i64 0] 109)
    clear hb
    go_wp2
    go_region
    all_goals
      go_wp2
      exact bodyPost_ret (v := .tuple #[.int .i64 0, .int .i64 0, .bool false]) (by simp [results, Tryz.results30, go_sem]) rfl ⟨rfl, HB.out.drew⟩
  | some x =>
    rw [hf] at K
    unfold toldV at K
    unfold wrV
    obtain ⟨v, hv⟩ : ∃ v, lv b s x.a = v := ⟨_, rfl⟩
    obtain ⟨u, hu⟩ : ∃ u, sv b s x.a = u := ⟨_, rfl⟩
    simp only [hv, hu] at K ⊢
    clear hv hu
    go_enter Tryz.func30, Tryz.ntmps30
    go_wp2_with fail
    with_reducible refine K.out.mono ?_
    rintro e w1 ⟨rfl, hb⟩
    have HB := Lib.hid (hb.alloc #[.int .i64 v, .int .i64 u] 109)
    clear hb
    go_wp2
    go_region
    all_goals
      go_wp2
      exact bodyPost_ret (v := .tuple #[.int .i64 v, .int .i64 u, .bool true]) (by simp [results, Tryz.results30, go_sem]) rfl ⟨rfl, HB.out.drew⟩
end
end Go.Proofs.YtdoceldofkaapaaGreatDoor
namespace Go.Proofs.YtdoceldofkaapaaGreatDoor
open Go.RowKit
/-- A wheel, its five blocks in f. -/
def Qu : QT := fun f w Q P b s k l => ∃ Z B G R, Wr w Q Z B G R P b s (IntKind.i64.wrap k) l ∧ f = Fo5 Q Z B G R
theorem foI {Q Z B G R : Nat} {a b : World} (h : Off (Fo Q G R) a b) : Off (Fo5 Q Z B G R) a b := h.mono (fun _ _ e => by
  rcases e with e | e | e
  · exact .inl e
  · exact .inr (.inr (.inr (.inl e)))
  · exact .inr (.inr (.inr (.inr e))))
theorem wr_lt {w : World} {Q Z B G R P b : Nat} {s k : Int} {l : List T} (q : Wr w Q Z B G R P b s k l) {j : Nat} (hj : Fo5 Q Z B G R j) : j < w.heap.size := by
  obtain ⟨l1, l2, l3, l4, l5⟩ := q.lt
  rcases hj with rfl | rfl | rfl | rfl | rfl <;> assumption
theorem grw_same (f : Nat → Prop) (w w' : World) : Grw f f w w' := fun _ e => .inl e
theorem wrap_add (a b : Int) : IntKind.i64.wrap (IntKind.i64.wrap a + b) = IntKind.i64.wrap (a + b) := by
  rw [IntKind.wrap_i64, IntKind.wrap_i64, IntKind.wrap_i64]; omega
theorem ptr_one {w : World} {Q Z Z' : Nat} (h : w.cell? ⟨Q, 0, none⟩ = some (.pointer (some ⟨Z, 0, none⟩))) (k : w.cell? ⟨Q, 0, none⟩ = some (.pointer (some ⟨Z', 0, none⟩))) : Z = Z' := by
  rw [h] at k
  injection k with k
  injection k with k
  injection k with k
  injection k
theorem con : Con Qu where
  off := by
    rintro f g w w' Q P b s k l ⟨Z, B, G, R, h, rfl⟩ o hf h0
    exact ⟨Z, B, G, R, h.off o hf h0, rfl⟩
  lt_ := by
    rintro f w Q P b s k l ⟨Z, B, G, R, h, rfl⟩ j hj
    exact wr_lt h hj
  z := by
    rintro f w Q P b s k l ⟨Z, B, G, R, h, rfl⟩ e
    obtain ⟨z1, z2, z3, z4, z5⟩ := h.re.zs
    rcases e with e | e | e | e | e <;> omega
  pos := by
    rintro f w Q P b s k l ⟨Z, B, G, R, h, rfl⟩
    have := h.lt.1
    omega
  so := by
    rintro f w Q P b s k l ⟨Z, B, G, R, h, rfl⟩
    exact h.so
  len := by
    rintro f w Q P b s k l ⟨Z, B, G, R, ⟨⟨ls, r, F, q1, q2, q4⟩, q3⟩, rfl⟩
    exact q1.ql.is.len
  hP := by
    rintro f w Q P b s k l ⟨Z, B, G, R, ⟨⟨ls, r, F, q1, q2, q4⟩, q3⟩, rfl⟩
    exact q1.ql.hP
  hb := by
    rintro f w Q P b s k l ⟨Z, B, G, R, h, rfl⟩
    exact h.re.hb
  base := by
    rintro f w Q P b s k l ⟨Z, B, G, R, h, rfl⟩
    exact h.re.ts
  ticks := by
    rintro f w Q P b s k l ⟨Z, B, G, R, h, rfl⟩
    exact h.re.tl
  places := by
    rintro f w Q P b s k l ⟨Z, B, G, R, h, rfl⟩
    obtain ⟨h1, h2, _⟩ := h.plc
    refine ⟨h1, fun t ht => ?_⟩
    obtain ⟨j, e, hj⟩ := h2 t ht
    unfold hp
    rw [e]
    simp [hj]
  zp := by
    rintro f w Q P b s k l ⟨Z, B, G, R, h, rfl⟩
    exact ⟨Z, h.cells.1⟩
  qnew_no := hnew_no
  qnew_yes := by
    intro P b s w hP hb hs hT
    refine (hnew_yes P b s w hP hb hs hT).mono ?_
    rintro e w' ⟨Q, Z, B, G, R, h1, h2, h3, h4⟩
    exact ⟨Q, Fo5 Q Z B G R, h1, ⟨Z, B, G, R, h2, rfl⟩, h3, h4⟩
  insert := by
    rintro f Q P b s k l t w ⟨Z, B, G, R, h, rfl⟩ ht
    refine (rins_any t w h ht).mono ?_
    rintro e w' ⟨h1, h2, h3⟩
    exact ⟨h1, _, grw_same _ _ _, ⟨Z, B, G, R, h2, rfl⟩, foI h3⟩
  cancel := by
    rintro f Q P b s k l p w ⟨Z, B, G, R, h, rfl⟩
    refine (rcan_any p w h).mono ?_
    rintro e w' ⟨h1, h2, h3⟩
    exact ⟨h1, _, grw_same _ _ _, ⟨Z, B, G, R, h2, rfl⟩, foI h3⟩
  move := by
    rintro f Q P b s k l t w ⟨Z, B, G, R, h, rfl⟩ ht
    refine (rmov_any t w h ht).mono ?_
    rintro e w' ⟨h1, h2, h3⟩
    exact ⟨h1, _, grw_same _ _ _, ⟨Z, B, G, R, h2, rfl⟩, foI h3⟩
  due := by
    rintro f Q P b s k l now w ⟨Z, B, G, R, h, rfl⟩ hn
    refine (hdue_any now w h hn).mono ?_
    rintro e w' ⟨⟨p, c, h1, h2, h5⟩, h3, h4⟩
    rw [wrap_add] at h3
    refine ⟨p, c, _, h1, h2, h5.mono ?_, grw_same _ _ _, ⟨Z, B, G, R, h3, rfl⟩, foI h4⟩
    rintro j _ (e | e)
    · exact e
    · exact wr_lt h e
  get := by
    rintro f Q Z' P b s k l p w ⟨Z, B, G, R, ⟨⟨ls, r, F, q1, q2, q4⟩, q3⟩, rfl⟩ hz
    obtain rfl := ptr_one hz (q1.cell rfl)
    exact get_any p w q1.ql
  min := by
    rintro f Q P b s k l w ⟨Z, B, G, R, h, rfl⟩
    exact rmin_any w h
  count := by
    rintro f Q Z' P b s k l w ⟨Z, B, G, R, ⟨⟨ls, r, F, q1, q2, q4⟩, q3⟩, rfl⟩ hz
    obtain rfl := ptr_one hz (q1.cell rfl)
    exact count_any w q1.ql
  all := by
    rintro f Q Z' P b s k l w ⟨Z, B, G, R, ⟨⟨ls, r, F, q1, q2, q4⟩, q3⟩, rfl⟩ hz
    obtain rfl := ptr_one hz (q1.cell rfl)
    refine (all_any w q1.ql).mono ?_
    rintro e w' ⟨⟨p, c, h1, h2, h5⟩, h4⟩
    exact ⟨p, c, h1, h2, h5, h4⟩
  based := by
    rintro f Q P b s k l w ⟨Z, B, G, R, h, rfl⟩
    exact hbase_any w h
  cascades := by
    rintro f Q P b s k l w ⟨Z, B, G, R, h, rfl⟩ k0 k9
    have K := hcasc_any w h
    rw [show IntKind.i64.wrap k = k by rw [IntKind.wrap_i64]; omega] at K
    exact K
  where_ := by
    rintro f Q P b s k l p w ⟨Z, B, G, R, h, rfl⟩
    refine (hwhere_any p w h).mono ?_
    rintro e w' ⟨h1, h2⟩
    refine ⟨h1.trans ?_, h2⟩
    cases fnd l p <;> rfl
end Go.Proofs.YtdoceldofkaapaaGreatDoor
