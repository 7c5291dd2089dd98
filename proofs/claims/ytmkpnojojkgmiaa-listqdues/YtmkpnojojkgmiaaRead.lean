/-
  Contracts of a queue's calls that only tell: Get, Min, Len.
-/
import Derived.Test.YtmkpnojojkgmiaaQue
namespace Go.Proofs.Ytmkpnojojkgmiaa
open Go.RowKit
theorem which_all (Q B G R P : Nat) (g : Rg) (r : Nat → T) (l : List T) (k : Int) (w : World) (h : Que w Q B G R P g r) (hi : Is P g r l) (hP : P ≤ 1024) :
    Calls Try.prog 34 #[.pointer (some ⟨B, 0, none⟩), .int .i64 k] w fun e w' => e = .returned (.tuple #[.int .i64 0, .bool (fnd l k).isSome]) ∧ Bel w w' := by
  cases hk : hp P k with
  | false =>
    rw [hi.outside hk]
    exact which_no B G P 1 g k w h.ch hk
  | true =>
    obtain ⟨k, rfl, hk2⟩ := hp_nat hk
    cases hf : fnd l k with
    | none => exact which_none B G P 1 g k w h.ch hP (by omega) hk2 (by rw [(hi.out hk2 hf).2])
    | some t => exact which_some B G P 1 g k 0 w h.ch hP (by omega) hk2 (hi.inn hf).2.2.2
theorem first_all (Q B G R P : Nat) (g : Rg) (r : Nat → T) (l : List T) (w : World) (h : Que w Q B G R P g r) (hi : Is P g r l) (hP : P ≤ 1024) :
    Calls Try.prog 30 #[.pointer (some ⟨B, 0, none⟩), .int .i64 0] w fun e w' => e = .returned (ans (pls l).head?) ∧ Bel w w' :=
  first_yes B G P 1 g 0 (pls l) w h.ch hP (by omega) (by omega) hi.nodup hi.lt (hi.rep.fwd (t := 0) (by omega))
set_option maxHeartbeats 1000000 in
theorem get_any (Q B G R P : Nat) (l : List T) (k : Int) (w : World) (h : Qu w Q B G R P l) :
    Calls Try.prog 14 #[.pointer (some ⟨Q, 0, none⟩), .int .i64 k] w fun e w' => e = .returned (ansT (fnd l k)) ∧ Bel w w' := by
  obtain ⟨⟨g, r, h, hi⟩, hP⟩ := h
  have HA := Lib.hid h
  obtain ⟨c0, c1⟩ := h.head
  have lQ := h.ltQ
  have K1 := Lib.hid (fun w' (h : Que w' Q B G R P g r) => which_all Q B G R P g r l k w' h hi hP)
  have HB0 : Hid (Bel w (w.alloc (.cells #[.int .u64 0, .int .u64 0, .int .i64 0] 38))) := Lib.hid ((Bel.refl _).alloc _ _)
  have HN : Hid ((w.alloc (.cells #[.int .u64 0, .int .u64 0, .int .i64 0] 38)).heap[w.heap.size]? = some (.cells #[.int .u64 0, .int .u64 0, .int .i64 0] 38 (0, 0))) := Lib.hid (heap_alloc_new _ _)
  cases hf : fnd l k with
  | none =>
    rw [hf] at K1
    clear h hi hf
    go_enter Try.func14, Try.ntmps14
    go_wp2_with fail
    with_reducible refine (K1.out _ (HA.out.bel HB0.out)).mono ?_
    rintro e w1 ⟨rfl, hb⟩
    obtain ⟨⟨b0, b1, b2⟩, f0, f1, f2⟩ := box3 (hb.heap HN.out)
    have HE := Lib.hid (bel3 (HB0.out.trans hb) (Nat.le_refl _) (.int .u64 0) (.int .u64 0) (.int .i64 0))
    clear hb
    go_wp2
    exact bodyPost_ret (v := ansT none) (by simp [results, Try.results14, go_sem, b0, b1, b2, ansT]) rfl ⟨rfl, HE.out⟩
  | some t =>
    obtain ⟨k, rfl⟩ : ∃ j : Nat, k = j := ⟨k.toNat, by obtain ⟨h1, h2⟩ := fnd_some hf; have := (hi.tm t h1).1; omega⟩
    obtain ⟨hk, hr, _, _⟩ := hi.inn hf
    rw [hf] at K1
    have K2 := Lib.hid (fun w' (h : Que w' Q B G R P g r) => at_any Q B G R P g r k w' h hk hP)
    rw [hr] at K2
    clear h hi hf hr
    go_enter Try.func14, Try.ntmps14
    go_wp2_with fail
    with_reducible refine (K1.out _ (HA.out.bel HB0.out)).mono ?_
    rintro e w1 ⟨rfl, hb⟩
    have HB1 := Lib.hid (HB0.out.trans hb)
    have HN1 := Lib.hid (hb.heap HN.out)
    clear hb
    go_wp2_with fail
    with_reducible refine (K2.out _ (HA.out.bel HB1.out)).mono ?_
    rintro e w2 ⟨rfl, hb⟩
    obtain ⟨⟨b0, b1, b2⟩, f0, f1, f2⟩ := box3 (hb.heap HN1.out)
    have HE := Lib.hid (bel3 (HB1.out.trans hb) (Nat.le_refl _) (.int .u64 t.a) (.int .u64 t.s) (.int .i64 t.p))
    clear hb
    go_wp2
    exact bodyPost_ret (v := ansT (some t)) (by simp [results, Try.results14, go_sem, b0, b1, b2, ansT]) rfl ⟨rfl, HE.out⟩
set_option maxHeartbeats 1000000 in
theorem min_any (Q B G R P : Nat) (l : List T) (w : World) (h : Qu w Q B G R P l) :
    Calls Try.prog 15 #[.pointer (some ⟨Q, 0, none⟩)] w fun e w' => e = .returned (ansT l.head?) ∧ Bel w w' := by
  obtain ⟨⟨g, r, h, hi⟩, hP⟩ := h
  have HA := Lib.hid h
  obtain ⟨c0, c1⟩ := h.head
  have lQ := h.ltQ
  have K1 := Lib.hid (fun w' (h : Que w' Q B G R P g r) => first_all Q B G R P g r l w' h hi hP)
  have HB0 : Hid (Bel w (w.alloc (.cells #[.int .u64 0, .int .u64 0, .int .i64 0] 38))) := Lib.hid ((Bel.refl _).alloc _ _)
  have HN : Hid ((w.alloc (.cells #[.int .u64 0, .int .u64 0, .int .i64 0] 38)).heap[w.heap.size]? = some (.cells #[.int .u64 0, .int .u64 0, .int .i64 0] 38 (0, 0))) := Lib.hid (heap_alloc_new _ _)
  cases l with
  | nil =>
    simp only [pls, List.map_nil, List.head?_nil, ans] at K1
    clear h hi
    go_enter Try.func15, Try.ntmps15
    go_wp2_with fail
    with_reducible refine (K1.out _ (HA.out.bel HB0.out)).mono ?_
    rintro e w1 ⟨rfl, hb⟩
    obtain ⟨⟨b0, b1, b2⟩, f0, f1, f2⟩ := box3 (hb.heap HN.out)
    have HE := Lib.hid (bel3 (HB0.out.trans hb) (Nat.le_refl _) (.int .u64 0) (.int .u64 0) (.int .i64 0))
    clear hb
    go_wp2
    exact bodyPost_ret (v := ansT none) (by simp [results, Try.results15, go_sem, b0, b1, b2, ansT]) rfl ⟨rfl, HE.out⟩
  | cons t m =>
    obtain ⟨-, hk, hr⟩ := hi.tm t (by simp)
    have K2 := Lib.hid (fun w' (h : Que w' Q B G R P g r) => at_any Q B G R P g r (pl t) w' h hk hP)
    rw [hr] at K2
    simp only [pls, List.map_cons, List.head?_cons, ans] at K1
    clear h hi hr
    generalize pl t = k at *
    go_enter Try.func15, Try.ntmps15
    go_wp2_with fail
    with_reducible refine (K1.out _ (HA.out.bel HB0.out)).mono ?_
    rintro e w1 ⟨rfl, hb⟩
    have HB1 := Lib.hid (HB0.out.trans hb)
    have HN1 := Lib.hid (hb.heap HN.out)
    clear hb
    go_wp2_with fail
    with_reducible refine (K2.out _ (HA.out.bel HB1.out)).mono ?_
    rintro e w2 ⟨rfl, hb⟩
    obtain ⟨⟨b0, b1, b2⟩, f0, f1, f2⟩ := box3 (hb.heap HN1.out)
    have HE := Lib.hid (bel3 (HB1.out.trans hb) (Nat.le_refl _) (.int .u64 t.a) (.int .u64 t.s) (.int .i64 t.p))
    clear hb
    go_wp2
    exact bodyPost_ret (v := ansT (some t)) (by simp [results, Try.results15, go_sem, b0, b1, b2, ansT]) rfl ⟨rfl, HE.out⟩
theorem places_any (Q B G R P : Nat) (g : Rg) (r : Nat → T) (l : List T) (w : World) (h : Que w Q B G R P g r) (hi : Is P g r l) (hP : P ≤ 1024) :
    Calls Try.prog 28 #[.pointer (some ⟨B, 0, none⟩), .int .i64 0] w fun e w' => ∃ p c, e = .returned (.slice p l.length c) ∧ l.length ≤ c ∧ Lies (old w) w' p (encI (pls l)) ∧ Bel w w' := by
  have k := all_yes B G P 1 g 0 (pls l) w h.ch hP (by omega) (by omega) hi.nodup hi.lt (hi.rep.fwd (t := 0) (by omega))
  have e : (pls l).length = l.length := by simp [pls]
  rw [e] at k
  exact k
theorem len_any (Q B G R P : Nat) (l : List T) (w : World) (h : Qu w Q B G R P l) :
    Calls Try.prog 20 #[.pointer (some ⟨Q, 0, none⟩)] w fun e w' => e = .returned (.int .i64 l.length) ∧ Bel w w' := by
  obtain ⟨⟨g, r, h, hi⟩, hP⟩ := h
  obtain ⟨c0, c1⟩ := h.head
  have K1 := Lib.hid (places_any Q B G R P g r l w h hi hP)
  clear h hi
  go_enter Try.func20, Try.ntmps20
  go_wp2_with fail
  with_reducible refine K1.out.mono ?_
  rintro e w1 ⟨p, c, rfl, hc, _, hb⟩
  go_wp2
  go_ret
  exact ⟨rfl, hb⟩
end Go.Proofs.Ytmkpnojojkgmiaa
