/-
  Contracts of the document's Beside and New.
-/
import Derived.Test.YtdeiknfaehpheaaRef
namespace Go.Proofs.Ytdeiknfaehpheaa
open Go.RowKit
set_option maxHeartbeats 1000000 in
theorem beside_out (P : Nat) (p : Option Addr) (L c : Nat) (ls : Ls) (x d : Int) (w : World) (hR : RefIn nof w p L ls) (hP : P ≤ 1024) (hL : L ≤ 1024) (hg : Good P L ls) (hx : ∀ t, t < L → ∀ z ∈ ls t, ¬ (z : Int) = x) :
    Calls Try.prog 48 #[rv P p L c, .int .i64 x, .int .i64 d] w fun e w' => e = .returned (ans none) ∧ Bel w w' := by
  have K1 := Lib.hid (fun w' (h : RefIn nof w' p L ls) => rwhich_out P p L c ls x w' h hP hL hg hx)
  have K2 := Lib.hid (fun w' => ris_any P p L c x w')
  have HR := Lib.hid (hR.bel ((Bel.refl w).alloc #[.int .i64 P, .slice p L c] 27))
  unfold rv at *
  clear hR hg hx
  cases hpx : hp P x
  all_goals
    rw [hpx] at K2
    go_enter Try.func48, Try.ntmps48
    go_wp2_with fail
    with_reducible refine (K1.out _ HR.out).mono ?_
    rintro e w1 ⟨rfl, hb⟩
    have HB : Hid (Bel w w1) := Lib.hid (((Bel.refl _).alloc _ _).trans hb)
    have d0 : w1.cell? ⟨w.heap.size, 0, none⟩ = some (.int .i64 P) := hb.cell (by simp [go_sem])
    have d1 : w1.cell? ⟨w.heap.size, 1, none⟩ = some (.slice p L c) := hb.cell (by simp [go_sem])
    clear hb
    go_wp2_with fail
    with_reducible refine (K2.out _).mono ?_
    rintro e w2 ⟨rfl, hb⟩
    have HB2 : Hid (Bel w w2) := Lib.hid (HB.out.trans hb)
    clear hb d0 d1
    go_wp2
    go_ret2
    exact ⟨rfl, HB2.out⟩
/-- What is so far from the place at which x ends. -/
def bes (l x : List Nat) (d : Int) : Option Nat := if (x.length : Int) + d < 0 then none else l[((x.length : Int) + d).toNat]?
set_option maxHeartbeats 2000000 in
theorem beside_in (P : Nat) (p : Option Addr) (L c : Nat) (ls : Ls) (x y : List Nat) (i t : Nat) (d : Int) (w : World) (hR : RefIn nof w p L ls) (hP : P ≤ 1024) (hL : L ≤ 1024) (hg : Good P L ls) (ht : t < L) (hl : ls t = x ++ i :: y) (hd : d = 1 ∨ d = -1) :
    Calls Try.prog 48 #[rv P p L c, .int .i64 i, .int .i64 d] w fun e w' => e = .returned (ans (bes (ls t) x d)) ∧ Bel w w' := by
  have hi : i ∈ ls t := by rw [hl]; simp
  have K1 := Lib.hid (fun w' (h : RefIn nof w' p L ls) => rwhich_in P p L c ls i t w' h hP hL hg ht hi)
  have K2 := Lib.hid (fun w' => ris_any P p L c i w')
  rw [hp_yes (hg.pl t ht i hi)] at K2
  have hxi : i ∉ x := fun e => by
    have := hg.nd t ht
    rw [hl] at this
    exact (List.nodup_append.1 this).2.2 i e i (by simp) rfl
  have hlen := hg.len ht
  have hxl : x.length < (ls t).length := by rw [hl]; simp
  have HR := Lib.hid (hR.bel ((Bel.refl w).alloc #[.int .i64 P, .slice p L c] 27))
  obtain ⟨b, off, q, cq, rfl, _, x0, hcq, hq⟩ := hR.at ht
  have K3 := Lib.hid (fun w' (h : Bel w w') => rindex_in q (ls t).length cq (ls t) x y i w' rfl (by omega) (hq.bel h) hl hxi)
  have HQ := Lib.hid hq
  unfold rv bes at *
  clear hR hg hi hxi hl hq
  generalize ls t = l at *
  obtain ⟨n, hn⟩ : ∃ n, l.length = n := ⟨_, rfl⟩
  obtain ⟨k, hk⟩ : ∃ k, x.length = k := ⟨_, rfl⟩
  rw [hk] at K3 hxl ⊢
  rw [hn] at x0 hcq K3 hlen hxl
  have HN := Lib.hid hn
  clear hn hk
  have fin : ∀ r, (if (k : Int) + d < 0 then none else l[((k : Int) + d).toNat]?) = r → Calls Try.prog 48 #[.agg #[.int .i64 P, .slice (some ⟨b, off, none⟩) L c], .int .i64 i, .int .i64 d] w fun e w' => e = .returned (ans r) ∧ Bel w w' := by
    intro r hr
    have w1' : IntKind.i64.wrap ((k : Int) + d) = (k : Int) + d := i64_in _ (by omega) (by omega)
    obtain ⟨m, hm⟩ : ∃ m, (k : Int) + d = m := ⟨_, rfl⟩
    rw [hm] at hr w1'
    have hmb : -1 ≤ m ∧ m ≤ 1024 := by omega
    have HM := Lib.hid hr
    clear hr
    go_enter Try.func48, Try.ntmps48
    go_wp2_with fail
    with_reducible refine (K1.out _ HR.out).mono ?_
    rintro e w1 ⟨rfl, hb⟩
    have HB : Hid (Bel w w1) := Lib.hid (((Bel.refl _).alloc _ _).trans hb)
    have d0 : w1.cell? ⟨w.heap.size, 0, none⟩ = some (.int .i64 P) := hb.cell (by simp [go_sem])
    have d1 : w1.cell? ⟨w.heap.size, 1, none⟩ = some (.slice (some ⟨b, off, none⟩) L c) := hb.cell (by simp [go_sem])
    clear hb
    go_wp2_with fail
    with_reducible refine (K2.out _).mono ?_
    rintro e w2 ⟨rfl, hb⟩
    have HB2 : Hid (Bel w w2) := Lib.hid (HB.out.trans hb)
    have d1 := hb.cell d1
    have x1 := HB2.out.cell x0
    clear hb d0
    go_wp2_with fail
    with_reducible refine (K3.out _ HB2.out).mono ?_
    rintro e w3 ⟨rfl, rfl⟩
    by_cases h0 : m < 0
    · have HE : Hid (r = none) := Lib.hid (by rw [← HM.out, if_pos h0])
      go_wp2
      go_ret2
      rw [HE.out]
      exact ⟨rfl, HB2.out⟩
    · obtain ⟨j, rfl⟩ : ∃ j : Nat, m = j := ⟨m.toNat, by omega⟩
      have HE : Hid (l[j]? = r) := Lib.hid (by have := HM.out; rw [if_neg h0] at this; simpa using this)
      by_cases h1 : j < n
      · obtain ⟨z, hz⟩ : ∃ z, l[j]? = some z := ⟨_, List.getElem?_eq_getElem (by have := HN.out; omega)⟩
        obtain ⟨b2, off2, rfl, _, hrow⟩ := lies_int HQ.out (i := j) (by have := HN.out; omega)
        have y0 := HB2.out.cell (row_int hrow hz)
        have HZ : Hid (r = some z) := Lib.hid (by rw [← HE.out, hz])
        clear hrow hz HE HM
        go_wp2
        go_ret2
        rw [HZ.out]
        exact ⟨rfl, HB2.out⟩
      · have HZ : Hid (r = none) := Lib.hid (by rw [← HE.out]; exact List.getElem?_eq_none (by have := HN.out; omega))
        have hd1 : decide ((n : Int) ≤ j) = true := decide_eq_true (by omega)
        clear HE HM
        go_wp2
        go_ret2
        rw [HZ.out]
        exact ⟨rfl, HB2.out⟩
  exact fin _ rfl
theorem bes_next (x y : List Nat) (i : Nat) : bes (x ++ i :: y) x 1 = y.head? := by
  unfold bes
  rw [if_neg (by omega)]
  have e : ((x.length : Int) + 1).toNat = x.length + 1 := by omega
  rw [e, List.getElem?_append_right (by omega)]
  have e2 : x.length + 1 - x.length = 1 := by omega
  rw [e2]
  cases y <;> rfl
theorem bes_prev (x y : List Nat) (i : Nat) : bes (x ++ i :: y) x (-1) = x.getLast? := by
  unfold bes
  rcases List.eq_nil_or_concat x with rfl | ⟨r, a, rfl⟩
  · simp
  · have e : ((r.concat a).length : Int) + -1 = r.length := by simp; omega
    rw [e, if_neg (by omega), Int.toNat_natCast]
    simp
theorem made36 (N : Nat) : madeCells (Value.slice none 0 0).cells (N * 1) = (encS (List.replicate N ⟨none, 0, 0⟩)).toArray := by
  apply Array.toList_inj.1
  have h := toList_madeCells_one (.slice none 0 0) (N * 1)
  have e : (Value.slice none 0 0).cells = #[.slice none 0 0] := rfl
  rw [e, h]
  unfold encS
  simp
theorem make25 (N : Nat) (hN : N ≤ 2048) (w : World) : (Instr.makeSlice 25 (.int .i64 (N : Int)) (.int .i64 (N : Int))).run Try.prog w = .ok (.slice (some ⟨w.heap.size, 0, none⟩) N N) (w.alloc (.cells (encS (List.replicate N ⟨none, 0, 0⟩)).toArray 36)) := by
  obtain ⟨i, hi, hz, hs, hb⟩ := info_parts info36
  have h := run_make (P := Try.prog) w 25 36 i _ Try.underlying25 hi hz .i64 .i64 (N : Int) (N : Int) (by omega) (Int.le_refl _) (by rw [hb]; omega) (by omega)
  rw [hs, Int.toNat_natCast, made36] at h
  exact h
theorem rnew_no (P L : Int) (w : World) (h : ¬ (0 ≤ P ∧ P ≤ 1024 ∧ 0 ≤ L ∧ L ≤ 1024)) :
    Calls Try.prog 25 #[.int .i64 P, .int .i64 L] w fun e w' => e = .returned (.tuple #[.agg #[.int .i64 0, .slice none 0 0], .int .i64 1]) ∧ Bel w w' := by
  by_cases a0 : P < 0
  · go_enter Try.func25, Try.ntmps25
    go_wp2
    exact bodyPost_ret (v := .tuple #[.agg #[.int .i64 0, .slice none 0 0], .int .i64 1]) (by simp [results, Try.results25, go_sem]) rfl ⟨rfl, (Bel.refl _).alloc _ _⟩
  · by_cases a1 : 1024 < P
    · go_enter Try.func25, Try.ntmps25
      go_wp2
      exact bodyPost_ret (v := .tuple #[.agg #[.int .i64 0, .slice none 0 0], .int .i64 1]) (by simp [results, Try.results25, go_sem]) rfl ⟨rfl, (Bel.refl _).alloc _ _⟩
    · by_cases a2 : L < 0
      · go_enter Try.func25, Try.ntmps25
        go_wp2
        exact bodyPost_ret (v := .tuple #[.agg #[.int .i64 0, .slice none 0 0], .int .i64 1]) (by simp [results, Try.results25, go_sem]) rfl ⟨rfl, (Bel.refl _).alloc _ _⟩
      · have a3 : 1024 < L := by omega
        clear h
        go_enter Try.func25, Try.ntmps25
        go_wp2
        exact bodyPost_ret (v := .tuple #[.agg #[.int .i64 0, .slice none 0 0], .int .i64 1]) (by simp [results, Try.results25, go_sem]) rfl ⟨rfl, (Bel.refl _).alloc _ _⟩
theorem rnew_yes (P L : Nat) (w : World) (hP : P ≤ 1024) (hL : L ≤ 1024) :
    Calls Try.prog 25 #[.int .i64 P, .int .i64 L] w fun e w' => ∃ p c, e = .returned (.tuple #[rv P p L c, .int .i64 0]) ∧ L ≤ c ∧ RefIn (old w) w' p L (fun _ => []) ∧ Bel w w' := by
  have a0 : ¬ (P : Int) < 0 := by omega
  have a1 : ¬ (1024 : Int) < P := by omega
  have a2 : ¬ (L : Int) < 0 := by omega
  have a3 : ¬ (1024 : Int) < L := by omega
  have hmk := make25 L (by omega)
  obtain ⟨cs, hcs⟩ : ∃ cs, (encS (List.replicate L ⟨none, 0, 0⟩)).toArray = cs := ⟨_, rfl⟩
  have HCS := Lib.hid hcs
  rw [hcs] at hmk
  clear hcs
  go_enter Try.func25, Try.ntmps25
  go_wp2
  refine bodyPost_ret (v := .tuple #[rv P (some ⟨w.heap.size + 1, 0, none⟩) L L, .int .i64 0]) (by simp [results, Try.results25, go_sem]) rfl ⟨_, _, rfl, Nat.le_refl _, ?_, ((Bel.refl _).alloc _ _).alloc _ _⟩
  have hh := heap_alloc_new (w.alloc (.cells #[.int .i64 P, .slice (some ⟨w.heap.size + 1, 0, none⟩) L L] 27)) (.cells cs 36)
  rw [World.size_alloc] at hh
  refine ⟨List.replicate L ⟨none, 0, 0⟩, by simp, ⟨.inr ⟨_, _, rfl, fun e => by unfold old at e; omega, fun j u hu => ?_⟩, .inr ⟨_, _, _, _, rfl, hh⟩⟩, fun t s hs => ?_⟩
  · rw [cell_of_row _ _ _ _ 36 (0, 0) hh, ← HCS.out, List.getElem?_toArray, Nat.zero_add]
    exact hu
  · have e : s = ⟨none, 0, 0⟩ := by
      have := List.mem_of_getElem? hs
      exact (List.mem_replicate.1 this).2
    subst e
    exact ⟨rfl, Nat.le_refl _, .inl rfl, .inl rfl⟩
end Go.Proofs.Ytdeiknfaehpheaa
