/-
  Contracts of a queue's line, Insert and Move.
-/
import Derived.Test.YtmkpnojojkgmiaaBehind
import Derived.Test.YtmkpnojojkgmiaaCancel
namespace Go.Proofs.Ytmkpnojojkgmiaa
open Go.RowKit
set_option maxHeartbeats 1000000 in
theorem line_gen (Q B G R P : Nat) (l : List T) (t : T) (er : Int) (Rl : World → World → Prop) (w : World) (h : Qu w Q B G R P l)
    (K1 : ∀ w', Bel w w' → (pls (l.drop (cnt l t))).head? = none → Calls Try.prog 52 #[.pointer (some ⟨B, 0, none⟩), .int .i64 0, .int .i64 t.p] w' fun e w2 => e = .returned (.int .i64 er) ∧ Rl w' w2)
    (K2 : ∀ w' (b : Nat), Bel w w' → (pls (l.drop (cnt l t))).head? = some b → Calls Try.prog 53 #[.pointer (some ⟨B, 0, none⟩), .int .i64 t.p, .int .i64 b] w' fun e w2 => e = .returned (.int .i64 er) ∧ Rl w' w2) :
    Calls Try.prog 36 #[.pointer (some ⟨Q, 0, none⟩), .agg #[.int .u64 t.a, .int .u64 t.s, .int .i64 t.p]] w fun e w2 => ∃ w', Bel w w' ∧ e = .returned (.int .i64 er) ∧ Rl w' w2 := by
  have HB0 : Hid (Bel w (w.alloc (.cells #[.int .u64 t.a, .int .u64 t.s, .int .i64 t.p] 38))) := Lib.hid ((Bel.refl _).alloc _ _)
  have HN : Hid ((w.alloc (.cells #[.int .u64 t.a, .int .u64 t.s, .int .i64 t.p] 38)).heap[w.heap.size]? = some (.cells #[.int .u64 t.a, .int .u64 t.s, .int .i64 t.p] 38 (0, 0))) := Lib.hid (heap_alloc_new _ _)
  have KB := Lib.hid (behind_any Q B G R P l t _ (h.bel HB0.out))
  have HQ : Hid (∀ w', Bel w w' → w'.cell? ⟨Q, 0, none⟩ = some (.pointer (some ⟨B, 0, none⟩))) := Lib.hid (fun w' hb => by
    obtain ⟨⟨g, r, h1, _⟩, _⟩ := h
    exact (h1.bel hb).head.1)
  have L1 := Lib.hid K1
  have L2 := Lib.hid K2
  clear K1 K2 h
  generalize (pls (l.drop (cnt l t))).head? = o at *
  go_enter Try.func36, Try.ntmps36
  go_wp2_with fail
  with_reducible refine KB.out.mono ?_
  rintro e w1 ⟨rfl, hb⟩
  have HB1 := Lib.hid (HB0.out.trans hb)
  have HBd : Hid (Bel w w1.drew) := Lib.hid (HB0.out.trans hb).drew
  obtain ⟨⟨x0, x1, x2⟩, _⟩ := box3 (hb.heap HN.out)
  have c0 := HQ.out _ HB1.out
  clear hb
  cases o with
  | none =>
    have M1 := Lib.hid (L1.out _ HBd.out rfl)
    clear L1 L2
    unfold ans
    go_wp2
    go_region_with (go_at_call 52; (with_reducible refine (M1.out).mono ?_); rintro e w3 ⟨rfl, hr⟩)
    all_goals
      go_wp2
      go_ret
      exact ⟨_, HBd.out, rfl, hr⟩
  | some b =>
    have M2 := Lib.hid (L2.out _ b HBd.out rfl)
    clear L1 L2
    unfold ans
    go_wp2
    go_region_with (go_at_call 53; (with_reducible refine (M2.out).mono ?_); rintro e w3 ⟨rfl, hr⟩)
    all_goals
      go_wp2
      go_ret
      exact ⟨_, HBd.out, rfl, hr⟩
theorem insE_cases (P : Nat) (l : List T) (t : T) : (insE P l t = 1 ∧ hp P t.p = false) ∨ (∃ k : Nat, t.p = k ∧ k < P ∧ ((insE P l t = 4 ∧ ∃ x, fnd l k = some x) ∨ (insE P l t = 0 ∧ fnd l k = none))) := by
  unfold insE
  cases hk : hp P t.p with
  | false => exact .inl ⟨rfl, rfl⟩
  | true =>
    obtain ⟨k, e, hk2⟩ := hp_nat hk
    refine .inr ⟨k, e, hk2, ?_⟩
    rw [e]
    cases hf : fnd l k with
    | none => exact .inr ⟨rfl, rfl⟩
    | some x => exact .inl ⟨rfl, x, rfl⟩
theorem line_no (Q B G R P : Nat) (l : List T) (t : T) (w : World) (h : Qu w Q B G R P l) (hn : ¬ insE P l t = 0) :
    Calls Try.prog 36 #[.pointer (some ⟨Q, 0, none⟩), .agg #[.int .u64 t.a, .int .u64 t.s, .int .i64 t.p]] w fun e w' => e = .returned (.int .i64 (insE P l t)) ∧ Bel w w' := by
  have h0 := h
  obtain ⟨⟨g, r, h, hi⟩, hP⟩ := h
  refine (line_gen Q B G R P l t (insE P l t) (fun w' w2 => Bel w' w2) w h0 (fun w' hb hy => ?_) (fun w' b hb hy => ?_)).mono fun e w2 ⟨w', hb, he, hr⟩ => ⟨he, hb.trans hr⟩
  · rcases insE_cases P l t with ⟨e, hk⟩ | ⟨k, e, hk, ⟨e2, x, hf⟩ | ⟨e2, _⟩⟩
    · rw [e]; exact append_arg B G P 1 g 0 t.p w' (h.bel hb).ch hP (by omega) (by rw [hk]; simp)
    · rw [e2, e]; exact append_in B G P 1 g 0 k w' (h.bel hb).ch hP (by omega) (by omega) hk (by rw [(hi.inn hf).2.2.2]; omega)
    · exact absurd e2 hn
  · have hbP : b < P := by
      have h1 : b ∈ pls (l.drop (cnt l t)) := List.mem_of_mem_head? (by rw [hy]; rfl)
      obtain ⟨x, hx, rfl⟩ := List.mem_map.1 h1
      exact (hi.tm x (List.mem_of_mem_drop hx)).2.1
    rcases insE_cases P l t with ⟨e, hk⟩ | ⟨k, e, hk, ⟨e2, x, hf⟩ | ⟨e2, _⟩⟩
    · rw [e]; exact insert_arg B G P 1 g t.p b w' (h.bel hb).ch (by rw [hk]; simp)
    · rw [e2, e]; exact insert_in B G P 1 g k b w' (h.bel hb).ch hP (by omega) hk hbP (by rw [(hi.inn hf).2.2.2]; omega)
    · exact absurd e2 hn
theorem line_ok (Q B G R P : Nat) (g : Rg) (r : Nat → T) (l : List T) (t : T) (k : Nat) (w : World) (h : Que w Q B G R P g r) (hi : Is P g r l) (hP : P ≤ 1024) (e : t.p = k) (hk : k < P) (hf : fnd l k = none) :
    Calls Try.prog 36 #[.pointer (some ⟨Q, 0, none⟩), .agg #[.int .u64 t.a, .int .u64 t.s, .int .i64 t.p]] w fun e w' => e = .returned (.int .i64 0) ∧ Que w' Q B G R P (putG g k (lst (P + 0) (pls (l.take (cnt l t)))) (fst (P + 0) (pls (l.drop (cnt l t))))) r ∧ Off (Only G) w w' := by
  have hl : pls l = pls (l.take (cnt l t)) ++ pls (l.drop (cnt l t)) := by unfold pls; rw [← List.map_append, List.take_append_drop]
  obtain ⟨hm, ha⟩ := hi.out hk hf
  refine (line_gen Q B G R P l t 0 (fun w' w2 => Chn w2 B G P 1 (putG g k (lst (P + 0) (pls (l.take (cnt l t)))) (fst (P + 0) (pls (l.drop (cnt l t))))) ∧ Off (Only G) w' w2) w ⟨⟨g, r, h, hi⟩, hP⟩ (fun w' hb hy => ?_) (fun w' b hb hy => ?_)).mono fun e w2 ⟨w', hb, he, hr1, hr2⟩ => ⟨he, (h.bel hb).chain hr2 hr1, (hb.off _).then hr2⟩
  · have e0 : pls (l.drop (cnt l t)) = [] := List.head?_eq_none_iff.1 hy
    rw [e0, List.append_nil] at hl
    rw [e0, ← hl, e]
    exact append_ok B G P 1 g 0 k (lst (P + 0) (pls l)) w' (h.bel hb).ch hP (by omega) (by omega) hk (by rw [ha]) (hi.rep.lst_lt (t := 0) (by omega) (fun i hi => hi)) (hi.rep.endah (t := 0) (by omega))
  · obtain ⟨y, e0⟩ : ∃ y, pls (l.drop (cnt l t)) = b :: y := by
      cases hd : pls (l.drop (cnt l t)) with
      | nil => rw [hd] at hy; simp at hy
      | cons a y => rw [hd] at hy; simp at hy; subst hy; exact ⟨y, rfl⟩
    rw [e0] at hl
    have hbm : b ∈ pls l := by rw [hl]; simp
    have e1 : fst (P + 0) (b :: y) = b := rfl
    rw [e0, e1, e]
    exact insert_ok B G P 1 g k b (lst (P + 0) (pls (l.take (cnt l t)))) w' (h.bel hb).ch hP (by omega) hk (hi.lt b hbm) (by rw [ha]) (by rw [hi.rep.li 0 (by omega) b hbm]; omega) (hi.rep.lst_lt (t := 0) (by omega) (fun i hi => by rw [hl]; simp [hi])) (hi.rep.ahead (t := 0) (by omega) hl)
set_option maxHeartbeats 1000000 in
theorem insert_no7 (Q B G R P : Nat) (l : List T) (t : T) (w : World) (h : Qu w Q B G R P l) (hn : ¬ insE P l t = 0) :
    Calls Try.prog 18 #[.pointer (some ⟨Q, 0, none⟩), .agg #[.int .u64 t.a, .int .u64 t.s, .int .i64 t.p]] w fun e w' => e = .returned (.int .i64 (insE P l t)) ∧ Bel w w' := by
  have HB0 : Hid (Bel w (w.alloc (.cells #[.int .u64 t.a, .int .u64 t.s, .int .i64 t.p] 38))) := Lib.hid ((Bel.refl _).alloc _ _)
  have KL := Lib.hid (line_no Q B G R P l t _ (h.bel HB0.out) hn)
  have hn2 : (insE P l t == 0) = false := by simpa using hn
  clear h hn
  generalize insE P l t = er at *
  go_enter Try.func18, Try.ntmps18
  go_wp2_with fail
  with_reducible refine KL.out.mono ?_
  rintro e w1 ⟨rfl, hb⟩
  have HB1 := Lib.hid (HB0.out.trans hb)
  clear hb
  go_wp2
  go_ret
  exact ⟨rfl, HB1.out⟩
set_option maxHeartbeats 1000000 in
theorem insert_ok7 (Q B G R P : Nat) (l : List T) (t : T) (k : Nat) (w : World) (h : Qu w Q B G R P l) (e : t.p = k) (hk : k < P) (hf : fnd l k = none) :
    Calls Try.prog 18 #[.pointer (some ⟨Q, 0, none⟩), .agg #[.int .u64 t.a, .int .u64 t.s, .int .i64 t.p]] w fun e w' => e = .returned (.int .i64 0) ∧ Qu w' Q B G R P (put l t) ∧ Off (Foot G R) w w' := by
  obtain ⟨⟨g, r, h, hi⟩, hP⟩ := h
  have HB0 : Hid (Bel w (w.alloc (.cells #[.int .u64 t.a, .int .u64 t.s, .int .i64 t.p] 38))) := Lib.hid ((Bel.refl _).alloc _ _)
  have HN : Hid ((w.alloc (.cells #[.int .u64 t.a, .int .u64 t.s, .int .i64 t.p] 38)).heap[w.heap.size]? = some (.cells #[.int .u64 t.a, .int .u64 t.s, .int .i64 t.p] 38 (0, 0))) := Lib.hid (heap_alloc_new _ _)
  have KL := Lib.hid (line_ok Q B G R P g r l t k _ (h.bel HB0.out) hi hP e hk hf)
  have HI := Lib.hid (hi.put hk e hf)
  generalize putG g k (lst (P + 0) (pls (l.take (cnt l t)))) (fst (P + 0) (pls (l.drop (cnt l t)))) = g1 at *
  have lQ := h.ltQ
  have lR := h.ltR
  have lB := h.ch.ltB
  have lG := h.ch.ltG
  have hnG : ¬ w.heap.size = G := by omega
  have hnR : ¬ w.heap.size = R := by omega
  have hRn : ¬ R = w.heap.size := by omega
  have nQR := h.nQR
  have HE := Lib.hid e
  clear h hi hf e
  obtain ⟨ta, ts, tp⟩ := t
  simp only at *
  obtain rfl : tp = (k : Int) := HE.out
  clear HE
  go_enter Try.func18, Try.ntmps18
  go_wp2_with fail
  with_reducible refine KL.out.mono ?_
  rintro e w1 ⟨rfl, hq, ho⟩
  have hb1 : w1.heap[w.heap.size]? = some (.cells #[.int .u64 ta, .int .u64 ts, .int .i64 (k : Int)] 38 (0, 0)) := (ho.block _ (by simp) hnG).trans HN.out
  obtain ⟨⟨x0, x1, x2⟩, _⟩ := box3 hb1
  obtain ⟨c0, c1⟩ := hq.head
  obtain ⟨⟨y0, y1, y2⟩, fz⟩ := hq.at hk
  have z0 := fz (k * 3)
  have z1 := fz (k * 3 + 1)
  have z2 := fz (k * 3 + 2)
  have HD : Hid (Que w1.drew Q B G R P g1 r) := Lib.hid (hq.bel (Bel.refl _).drew)
  have HO : Hid (Off (Foot G R) w w1.drew) := Lib.hid ((HB0.out.off (Only G)).then ho).footG.drew
  obtain ⟨q2, o2⟩ := HD.out.put hk ⟨ta, ts, k⟩
  have FIN : Hid (Qu (((w1.drew.setCell ⟨R, k * 3, none⟩ (.int .u64 ta)).setCell ⟨R, k * 3 + 1, none⟩ (.int .u64 ts)).setCell ⟨R, k * 3 + 2, none⟩ (.int .i64 (k : Int))) Q B G R P (put l ⟨ta, ts, k⟩) ∧ Off (Foot G R) w (((w1.drew.setCell ⟨R, k * 3, none⟩ (.int .u64 ta)).setCell ⟨R, k * 3 + 1, none⟩ (.int .u64 ts)).setCell ⟨R, k * 3 + 2, none⟩ (.int .i64 (k : Int)))) :=
    Lib.hid ⟨⟨⟨_, _, q2, HI.out⟩, hP⟩, HO.out.then o2.footR⟩
  clear hq ho fz q2 o2 hb1
  generalize (r k).a = r0 at *
  generalize (r k).s = r1 at *
  generalize (r k).p = r2 at *
  go_wp2
  go_region
  all_goals
    go_wp2
    go_ret
    exact ⟨rfl, FIN.out⟩
theorem insert_any (Q B G R P : Nat) (l : List T) (t : T) (w : World) (h : Qu w Q B G R P l) :
    Calls Try.prog 18 #[.pointer (some ⟨Q, 0, none⟩), .agg #[.int .u64 t.a, .int .u64 t.s, .int .i64 t.p]] w fun e w' => e = .returned (.int .i64 (insE P l t)) ∧ Qu w' Q B G R P (insL P l t) ∧ Off (Foot G R) w w' := by
  unfold insL
  by_cases hn : insE P l t = 0
  · rcases insE_cases P l t with ⟨e, hk⟩ | ⟨k, e, hk, ⟨e2, x, hf⟩ | ⟨e2, hf⟩⟩
    · omega
    · omega
    · rw [if_pos hn, hn]
      exact insert_ok7 Q B G R P l t k w h e hk hf
  · rw [if_neg hn]
    exact (insert_no7 Q B G R P l t w h hn).mono fun e w' ⟨he, hb⟩ => ⟨he, h.bel hb, hb.off _⟩
end Go.Proofs.Ytmkpnojojkgmiaa
