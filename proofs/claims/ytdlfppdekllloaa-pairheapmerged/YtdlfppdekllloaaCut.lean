/-
  Contracts of order.Cut's closure and of order.Cut.
-/
import Derived.Test.YtdlfppdekllloaaSort
import Derived.Shelf.SlSorted.Search
import Derived.Deep.QuietTactic
import Derived.BigQuiet
import Derived.IntWalk
set_option linter.unusedVariables false
set_option linter.unusedSimpArgs false
namespace Go.Proofs.Ytdlfppdekllloaa
open Go.RowKit Go.Shelf
def searchL_ren : Go.Shelf.Ren := ⟨fun | 16 => 48 | n => n, fun | 3 => 3 | 35 => 90 | 4 => 4 | 38 => 106 | n => n, fun | n => n⟩
theorem searchL : Go.Proofs.SlLaysO.n16 Try.prog searchL_ren := {
  mixed := by kernel_rfl
  f16 := Try.func48.trans (congrArg some (by kernel_rfl))
  t3 := Try.underlying3
  a3 := Try.isAgg3
  z3 := Try.sizeOf3
  v3 := Try.zeroValue3
  t4 := Try.underlying4
  a4 := Try.isAgg4
  z4 := Try.sizeOf4
  v4 := Try.zeroValue4
  t35 := Try.underlying90
  a35 := Try.isAgg90
  z35 := Try.sizeOf90
  v35 := Try.zeroValue90
  t38 := Try.underlying106
  a38 := Try.isAgg106
  z38 := Try.sizeOf106
  v38 := Try.zeroValue106 }
theorem getD_mem (l : List T) (k : Nat) (h : k < l.length) : l.getD k default = l[k] := by simp [List.getD_eq_getElem?_getD, List.getElem?_eq_getElem h]
theorem so_mono {l : List T} (h : So l) {a b : Nat} (hab : a ≤ b) (hb : b < l.length) : lt (l.getD b default) (l.getD a default) = false := by
  rcases Nat.lt_or_eq_of_le hab with hlt | rfl
  · have k := List.pairwise_iff_getElem.1 h a b (by omega) hb hlt
    rwa [getD_mem l a (by omega), getD_mem l b hb]
  · exact lt_irrefl _
/-- Where the search stands: those ahead of i are before t, those from j on are not. -/
def Mid (l : List T) (t : T) (i j : Nat) : Prop := i ≤ j ∧ j ≤ l.length ∧ (∀ k, k < i → lt (l.getD k default) t = true) ∧ ∀ k, j ≤ k → k < l.length → lt (l.getD k default) t = false
theorem count_places (l : List T) (f : T → Bool) (n : Nat) (hn : l.length = n) : (List.range n).countP (fun i => f (l.getD i default)) = l.countP f := by
  have e : (List.range n).map (fun i => l.getD i default) = l := by
    refine List.ext_getElem (by simp [hn]) fun i h1 h2 => ?_
    simp [List.getD_eq_getElem?_getD, List.getElem?_eq_getElem h2]
  conv => rhs; rw [← e]
  rw [List.countP_map]
  rfl
theorem later_closure (B0 B1 b off n cap i : Nat) (x : T) (now : Int) (W : World) (hi : i < n) (h0 : W.cell? ⟨B0, 0, none⟩ = some (.slice (some ⟨b, off, none⟩) n cap)) (h1 : W.cell? ⟨B1, 0, none⟩ = some (.int .u64 now)) (hc : W.cell? ⟨b, off + i * 3, none⟩ = some (.int .u64 x.a)) :
    Calls Try.prog 49 (#[.int .i64 i] ++ #[.pointer (some ⟨B0, 0, none⟩), .pointer (some ⟨B1, 0, none⟩)]) W fun e w' => e = .returned (.bool (decide (now < x.a))) ∧ ∃ q, w' = W.drewN q := by
  have b0 : (0 : Int) ≤ (i : Int) := by omega
  have b1 : (i : Int) < (n : Int) := by omega
  go_enter Try.func49, Try.ntmps49
  go_wp2
  go_quiet (fail)
  go_wp2
  go_ret
  exact ⟨rfl, nq, rfl⟩
theorem enters49 : ∀ args w, (callFunc 49 args).run Try.prog w = .ok (.enter 49 args) w := enters_of Try.func49 (by kernel_rfl) rfl
theorem search_cut (p : Option Addr) (n cap : Nat) (l : List T) (now : Int) (B0 B1 : Nat) (W : World) (hn : l.length = n) (hm : n ≤ 1000) (hs : So l) (hl : Has W p l) (h0 : W.cell? ⟨B0, 0, none⟩ = some (.slice p n cap)) (h1 : W.cell? ⟨B1, 0, none⟩ = some (.int .u64 now)) :
    Calls Try.prog 48 #[.int .i64 n, .func (.func 49) #[] #[.pointer (some ⟨B0, 0, none⟩), .pointer (some ⟨B1, 0, none⟩)]] W fun e w' => e = .returned (.int .i64 (l.countP (fun x => decide (x.a ≤ now)) : Nat)) ∧ Bel W w' := by
  have K := Any.sort_Search searchL 49 #[.pointer (some ⟨B0, 0, none⟩), .pointer (some ⟨B1, 0, none⟩)] n (fun i => decide (now < (l.getD i default).a)) W enters49 (by omega)
    (fun m os i hi => by
      obtain ⟨b, off, rfl, hr⟩ := hl.row (by omega)
      have hb := bel_grow W m os
      refine (later_closure B0 B1 b off n cap i (l.getD i default) now _ hi (hb.cell h0) (hb.cell h1) (hb.cell (hr i (by omega)).1)).mono fun e w' ⟨he, q, hq⟩ => ⟨he, q, #[], by rw [hq, Go.Sort.grow_empty]⟩)
    (fun a b hab hb h => by
      have k := so_mono hs hab (by omega)
      rw [lt_no] at k
      unfold Lt at k
      generalize l.getD a default = x at k h
      generalize l.getD b default = y at k ⊢
      simp at h ⊢
      omega)
  have ec : (List.range n).countP (fun i => !decide (now < (l.getD i default).a)) = l.countP (fun x => decide (x.a ≤ now)) := by
    rw [← count_places l _ n hn]
    congr 1
    funext i
    rw [Bool.eq_iff_iff]
    simp
  rw [ec] at K
  exact K.mono fun e w' ⟨he, q, os, hw⟩ => ⟨he, by rw [hw]; exact bel_grow W q os⟩
theorem held1 {w w1 w2 : World} {B : Nat} {v : Value} (k : Bel w1 w2) (h : Bel w w1 ∧ w1.cell? ⟨B, 0, none⟩ = some v) : Bel w w2 ∧ w2.cell? ⟨B, 0, none⟩ = some v := ⟨h.1.trans k, k.cell h.2⟩
set_option maxHeartbeats 1000000 in
theorem cut_yes (p : Option Addr) (n cap : Nat) (l : List T) (now : Int) (w : World) (hn : l.length = n) (hm : n ≤ 1000) (hcap : n ≤ cap) (hs : So l) (hl : Has w p l) :
    Calls Try.prog 22 #[.slice p n cap, .int .u64 now] w fun e w' => (∃ q1 q2 n1 n2 k1 k2, e = .returned (.tuple #[.slice q1 n1 k1, .slice q2 n2 k2, .int .i64 0]) ∧ (due l now true).length = n1 ∧ (due l now false).length = n2 ∧ n1 ≤ k1 ∧ n2 ≤ k2 ∧ Lies (old w) w' q1 (encs (due l now true)) ∧ Has w' q2 (due l now false)) ∧ Bel w w' := by
  have HL := Lib.hid hl
  have HN := Lib.hid hn
  have HS := Lib.hid hs
  have hle : l.countP (fun x => decide (x.a ≤ now)) ≤ n := by rw [← hn]; exact List.countP_le_length
  have KS := Lib.hid (fun w h => sorted_any p n cap l w HN.out (by omega) h)
  rw [(so_iff l).2 HS.out] at KS
  have KC := Lib.hid (fun B0 B1 W h1 h2 h3 => search_cut p n cap l now B0 B1 W HN.out hm HS.out h1 h2 h3)
  have D1 := Lib.hid (hs.due now).1
  have D2 := Lib.hid (hs.due now).2
  clear hl hn hs
  obtain ⟨c, hc⟩ : ∃ c, l.countP (fun x => decide (x.a ≤ now)) = c := ⟨_, rfl⟩
  rw [hc] at hle KC D1 D2
  clear hc
  have ht : (l.take c).length = c := by have := HN.out; simp; omega
  have hd : (l.drop c).length = n - c := by have := HN.out; simp; omega
  have HT := Lib.hid ht
  have HD := Lib.hid hd
  clear ht hd
  have b0 : (0 : Int) ≤ (c : Int) := by omega
  have b1 : (c : Int) ≤ (n : Int) := by omega
  have b2 : (c : Int) ≤ (cap : Int) := by omega
  have b3 : (n : Int) ≤ (cap : Int) := by omega
  have KA : Hid (∀ w' k, Bel w w' → Calls Try.prog 42 #[.slice p c k] w' fun e w2 => ∃ v, e = .returned v ∧ OwnT w2 w'.heap.size v (due l now true) ∧ Bel w' w2) := Lib.hid (fun w' k hb => by
    rw [← D1.out]
    exact (fresh_own p c k (l.take c) w' HT.out (by omega) ((HL.out.bel hb).take c)).mono fun e w2 ⟨v, h1, h2, h3, _⟩ => ⟨v, h1, h2, h3⟩)
  by_cases hcc : cap = c
  · have HD0 : Hid ((l.drop c).length = 0) := Lib.hid (by have := HD.out; omega)
    obtain rfl : c = cap := hcc.symm
    have KB : Hid (∀ w' k, Bel w w' → Calls Try.prog 42 #[.slice p 0 k] w' fun e w2 => ∃ v, e = .returned v ∧ OwnT w2 w'.heap.size v (due l now false) ∧ Bel w' w2) := Lib.hid (fun w' k _ => by
      rw [← D2.out]
      exact (fresh_own p 0 k (l.drop c) w' HD0.out (by omega) (.inl (List.eq_nil_of_length_eq_zero HD0.out))).mono fun e w2 ⟨v, h1, h2, h3, _⟩ => ⟨v, h1, h2, h3⟩)
    go_enter Try.func22, Try.ntmps22
    go_wp2_with fail
    with_reducible refine (KS.out _ (HL.out.bel (((Bel.refl _).alloc _ _).alloc _ _))).mono ?_
    rintro e w1 ⟨rfl, hb⟩
    have y0 : w1.cell? ⟨w.heap.size, 0, none⟩ = some (.slice p n c) := hb.cell (by simp [go_sem])
    have y1 : w1.cell? ⟨w.heap.size + 1, 0, none⟩ = some (.int .u64 now) := hb.cell (by simp [go_sem])
    have HB : Hid (Bel w w1) := Lib.hid ((((Bel.refl _).alloc _ _).alloc _ _).trans hb)
    clear hb
    go_wp2_with fail
    with_reducible refine (KC.out _ _ _ (HL.out.bel HB.out) y0 y1).mono ?_
    rintro e w2 ⟨rfl, hb2⟩
    have y0 := hb2.cell y0
    clear y1
    have HB2 := Lib.hid (HB.out.trans hb2)
    clear hb2
    go_wp2
    go_region_held3 (fun w' => Bel w w' ∧ w'.cell? ⟨w.heap.size, 0, none⟩ = some (.slice p n c)) (first | exact ⟨HB2.out.drew, y0⟩ | exact held1 hg1 ‹_› | exact held1 hg2 ‹_›)
      (first | (go_at_call 42; (with_reducible refine (KA.out _ _ (And.left (by assumption))).mono ?_); rintro e w3 ⟨v1, rfl, ho1, hg1⟩) | (go_at_call 42; (with_reducible refine (KB.out _ _ (And.left (by assumption))).mono ?_); rintro e w4 ⟨v2, rfl, ho2, hg2⟩))
    obtain ⟨q1, k1, rfl, hk1, hq1⟩ := (ho1.bel hg2).lies (w := w) HB2.out.size
    obtain ⟨q2, k2, rfl, hk2, _, hq2⟩ := ho2.slice
    have HQ1 := Lib.hid hq1
    have HQ2 := Lib.hid hq2
    have HG := Lib.hid ((HB2.out.drew.trans hg1).trans hg2)
    obtain ⟨m1, hm1⟩ : ∃ m, (due l now true).length = m := ⟨_, rfl⟩
    obtain ⟨m2, hm2⟩ : ∃ m, (due l now false).length = m := ⟨_, rfl⟩
    rw [hm1] at hk1 ⊢
    rw [hm2] at hk2 ⊢
    have HM1 := Lib.hid hm1
    have HM2 := Lib.hid hm2
    clear ho1 ho2 hg1 hg2 hq1 hq2 hm1 hm2
    go_wp2
    refine bodyPost_ret (v := .tuple #[.slice q1 m1 k1, .slice q2 m2 k2, .int .i64 0]) (by simp [results, Try.results22, go_sem]) rfl ⟨⟨q1, q2, m1, m2, k1, k2, rfl, HM1.out, HM2.out, hk1, hk2, HQ1.out, HQ2.out⟩, HG.out⟩
  · have KB : Hid (∀ w' k, Bel w w' → Calls Try.prog 42 #[.slice (p.map (fun x => x.add (c * 3))) (n - c) k] w' fun e w2 => ∃ v, e = .returned v ∧ OwnT w2 w'.heap.size v (due l now false) ∧ Bel w' w2) := Lib.hid (fun w' k hb => by
      rw [← D2.out]
      exact (fresh_own _ (n - c) k (l.drop c) w' HD.out (by omega) ((HL.out.bel hb).drop c)).mono fun e w2 ⟨v, h1, h2, h3, _⟩ => ⟨v, h1, h2, h3⟩)
    go_enter Try.func22, Try.ntmps22
    go_wp2_with fail
    with_reducible refine (KS.out _ (HL.out.bel (((Bel.refl _).alloc _ _).alloc _ _))).mono ?_
    rintro e w1 ⟨rfl, hb⟩
    have y0 : w1.cell? ⟨w.heap.size, 0, none⟩ = some (.slice p n cap) := hb.cell (by simp [go_sem])
    have y1 : w1.cell? ⟨w.heap.size + 1, 0, none⟩ = some (.int .u64 now) := hb.cell (by simp [go_sem])
    have HB : Hid (Bel w w1) := Lib.hid ((((Bel.refl _).alloc _ _).alloc _ _).trans hb)
    clear hb
    go_wp2_with fail
    with_reducible refine (KC.out _ _ _ (HL.out.bel HB.out) y0 y1).mono ?_
    rintro e w2 ⟨rfl, hb2⟩
    have y0 := hb2.cell y0
    clear y1
    have HB2 := Lib.hid (HB.out.trans hb2)
    clear hb2
    go_wp2
    go_region_held3 (fun w' => Bel w w' ∧ w'.cell? ⟨w.heap.size, 0, none⟩ = some (.slice p n cap)) (first | exact ⟨HB2.out.drew, y0⟩ | exact held1 hg1 ‹_› | exact held1 hg2 ‹_›)
      (first | (go_at_call 42; (with_reducible refine (KA.out _ _ (And.left (by assumption))).mono ?_); rintro e w3 ⟨v1, rfl, ho1, hg1⟩) | (go_at_call 42; (with_reducible refine (KB.out _ _ (And.left (by assumption))).mono ?_); rintro e w4 ⟨v2, rfl, ho2, hg2⟩))
    obtain ⟨q1, k1, rfl, hk1, hq1⟩ := (ho1.bel hg2).lies (w := w) HB2.out.size
    obtain ⟨q2, k2, rfl, hk2, _, hq2⟩ := ho2.slice
    have HQ1 := Lib.hid hq1
    have HQ2 := Lib.hid hq2
    have HG := Lib.hid ((HB2.out.drew.trans hg1).trans hg2)
    obtain ⟨m1, hm1⟩ : ∃ m, (due l now true).length = m := ⟨_, rfl⟩
    obtain ⟨m2, hm2⟩ : ∃ m, (due l now false).length = m := ⟨_, rfl⟩
    rw [hm1] at hk1 ⊢
    rw [hm2] at hk2 ⊢
    have HM1 := Lib.hid hm1
    have HM2 := Lib.hid hm2
    clear ho1 ho2 hg1 hg2 hq1 hq2 hm1 hm2
    go_wp2
    refine bodyPost_ret (v := .tuple #[.slice q1 m1 k1, .slice q2 m2 k2, .int .i64 0]) (by simp [results, Try.results22, go_sem]) rfl ⟨⟨q1, q2, m1, m2, k1, k2, rfl, HM1.out, HM2.out, hk1, hk2, HQ1.out, HQ2.out⟩, HG.out⟩
theorem cut_no (p : Option Addr) (n cap : Nat) (l : List T) (now : Int) (w : World) (hn : l.length = n) (hm : n ≤ 1000) (hs : ¬ So l) (hl : Has w p l) :
    Calls Try.prog 22 #[.slice p n cap, .int .u64 now] w fun e w' => e = .returned (.tuple #[.slice none 0 0, .slice none 0 0, .int .i64 12]) ∧ Bel w w' := by
  have HL := Lib.hid hl
  have KS := Lib.hid (fun w h => sorted_any p n cap l w hn (by omega) h)
  rw [(so_no l).2 hs] at KS
  clear hl hn hs
  go_enter Try.func22, Try.ntmps22
  go_wp2_with fail
  with_reducible refine (KS.out _ (HL.out.bel (((Bel.refl _).alloc _ _).alloc _ _))).mono ?_
  rintro e w1 ⟨rfl, hb⟩
  have HB : Hid (Bel w w1) := Lib.hid ((((Bel.refl _).alloc _ _).alloc _ _).trans hb)
  clear hb
  go_wp2
  refine bodyPost_ret (v := .tuple #[.slice none 0 0, .slice none 0 0, .int .i64 12]) (by simp [results, Try.results22, go_sem]) rfl ⟨rfl, HB.out⟩
end Go.Proofs.Ytdlfppdekllloaa
