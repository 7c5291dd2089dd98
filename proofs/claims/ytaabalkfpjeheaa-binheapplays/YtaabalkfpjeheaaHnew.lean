/-
  Contracts of math/bits' Mul and of slices.Repeat, as New uses them, and of New.
-/
import Derived.Test.YtaabalkfpjeheaaHq
import Derived.Test.YtaabalkfpjeheaaAkt
import Derived.Laws.CopyOwn
import Derived.Deep.RegionLaw
import Derived.Shelf.Bits.Mul64
namespace Go.Proofs.Ytaabalkfpjeheaa
open Go.RowKit
theorem made3 (N : Nat) : madeCells (Value.int .i64 0).cells (N * 1) = (encW N (fun _ => 0)).toArray := by
  apply Array.toList_inj.1
  rw [List.toList_toArray]
  apply List.ext_getElem?
  intro k
  unfold madeCells
  rw [Array.getElem?_toList, Array.getElem?_map, Array.getElem?_range, Nat.mul_one]
  by_cases hk : k < N
  · rw [encW_get N _ k hk]
    simp only [hk, if_true, Option.map_some]
    simp [Value.cells, Nat.mod_one]
  · rw [List.getElem?_eq_none (by rw [encW_len]; omega)]
    simp [hk]
theorem make76 (N : Nat) (hN : N ≤ 2048) (w : World) : (Instr.makeSlice 76 (.int .i64 (N : Int)) (.int .i64 (N : Int))).run Try.prog w = .ok (.slice (some ⟨w.heap.size, 0, none⟩) N N) (w.alloc (.cells (encW N (fun _ => 0)).toArray 3)) := by
  obtain ⟨i, hi, hz, hs, hb⟩ := info_parts info3
  have h := run_make (P := Try.prog) w 76 3 i _ Try.underlying76 hi hz .i64 .i64 (N : Int) (N : Int) (by omega) (Int.le_refl _) (by rw [hb]; omega) (by omega)
  rw [hs, Int.toNat_natCast, made3] at h
  exact h
theorem mul64_one (n : Nat) (hn : n ≤ 1024) (w : World) : Calls Try.prog 60 #[.int .u64 1, .int .u64 n] w fun e w' => e = .returned (.tuple #[.int .u64 0, .int .u64 n]) ∧ w = w' := by
  have m1 : bits .and .u64 (n : Int) 4294967295 = n := by
    have := Mul64.maskN n (by omega)
    rw [Nat.mod_eq_of_lt (by omega)] at this
    exact this
  have m2 : bits .and .u64 1 4294967295 = 1 := by decide
  have m3 : bits .and .u64 0 4294967295 = 0 := by decide
  have d1 : (n : Int) / 4294967296 = 0 := by omega
  have hn1 : (n : Int) ≤ 1024 := by omega
  go_enter Try.func60, Try.ntmps60
  go_wp2
  exact bodyPost_ret (v := .tuple #[.int .u64 0, .int .u64 n]) (by simp [results, Try.results60, go_sem]) rfl ⟨rfl, rfl⟩
theorem mul_one' (n : Nat) (hn : n ≤ 1024) (w : World) : Calls Try.prog 47 #[.int .u64 1, .int .u64 n] w fun e w' => e = .returned (.tuple #[.int .u64 0, .int .u64 n]) ∧ w = w' := by
  have K := Lib.hid (mul64_one n hn w)
  go_enter Try.func47, Try.ntmps47
  go_wp2_with fail
  with_reducible refine K.out.mono ?_
  rintro e w1 ⟨rfl, rfl⟩
  go_wp2
  exact bodyPost_ret (v := .tuple #[.int .u64 0, .int .u64 n]) (by simp [results, Try.results47, go_sem]) rfl ⟨rfl, rfl⟩
/-- The first c are filled. -/
def fl (c : Nat) : Nat → Int := fun k => if k < c then -1 else 0
theorem encW_congr {P : Nat} {a b : Nat → Int} (h : ∀ k, k < P → a k = b k) : encW P a = encW P b := by
  unfold encW
  apply List.map_congr_left
  intro k hk
  rw [h k (by simpa using hk)]
theorem splice_fl (P c m : Nat) (h : c + m ≤ P) : splice (encW P (fl c)) c (List.replicate m (.int .i64 (-1))) = encW P (fl (c + m)) := by
  unfold splice
  apply List.ext_getElem?
  intro k
  by_cases hk : k < P
  · rw [encW_get P _ k hk]
    by_cases h1 : k < c
    · rw [List.getElem?_append_left (by simp [encW_len]; omega), List.getElem?_take, if_pos h1, encW_get P _ k hk]
      unfold fl
      rw [if_pos h1, if_pos (by omega)]
    · rw [List.getElem?_append_right (by simp [encW_len]; omega)]
      have e : (List.take c (encW P (fl c))).length = c := by simp [encW_len]; omega
      rw [e]
      by_cases h2 : k < c + m
      · rw [List.getElem?_append_left (by simp; omega), List.getElem?_replicate, if_pos (by omega)]
        unfold fl
        rw [if_pos h2]
      · rw [List.getElem?_append_right (by simp; omega), List.length_replicate, List.getElem?_drop, show c + m + (k - c - m) = k by omega, encW_get P _ k hk]
        unfold fl
        rw [if_neg h1, if_neg h2]
  · rw [List.getElem?_eq_none (by simp [encW_len]; omega), List.getElem?_eq_none (by rw [encW_len]; omega)]
theorem size3 : (Try.prog.info? 3).map (·.size) = some 1 := by kernel_rfl
theorem step_fill {ops : Array Oper} {o : Oper} {a : Act} {w : World} {K : Act → World → Prop} {Q : Exit → Act → World → Prop} {E : Prop} (hgd : o.guard = none) (d s : Operand)
    (ho : o.op = .call { callee := .builtin .copy, args := #[d, s], argTypes := #[76, 76] }) (S c P m q : Nat) (w0 : World) (hd : a.eval d = .slice (some ⟨S, c, none⟩) q q) (hs : a.eval s = .slice (some ⟨S, 0, none⟩) c P)
    (hg : w.heap[S]? = some (.cells (encW P (fl c)).toArray 3 (0, 0))) (hm : Nat.min c q = m) (hm2 : c + m ≤ P) (hm3 : m ≤ c) (hb : Bel w0 w) (hS : w0.heap.size ≤ S)
    (h : ∀ w', w'.heap[S]? = some (.cells (encW P (fl (c + m))).toArray 3 (0, 0)) → Bel w0 w' → K (a.put o.dst (.int .i64 m)) w') :
    if Region.wanted o (yielded ops a.tmps) = true then Oper.wp Try.prog o a w K Q else E := by
  refine step_copy_splice hgd d s 76 76 ho 3 Try.underlying76 size3 _ _ _ _ _ _ hd hs S c (encW P (fl c)) 3 hg (List.replicate m (.int .i64 (-1))) (by rw [List.length_replicate]; exact hm.symm) (fun _ => ⟨rfl, _, rfl, fun j v hv => ?_⟩) (by rw [List.length_replicate, encW_len]; exact hm2) (fun v hv => by rw [List.eq_of_mem_replicate hv]; rfl) w0.heap.size w0 hb.below hS (fun w' h1 h2 => ?_)
  · rw [List.getElem?_replicate] at hv
    split at hv
    · rw [addr_add, Nat.zero_add, cell_of_row w S _ _ 3 (0, 0) hg, List.getElem?_toArray, encW_get P _ j (by omega), ← Option.some.inj hv]
      unfold fl
      rw [if_pos (by omega)]
    · cases hv
  · have h1 := h1.out
    rw [splice_fl P c m hm2] at h1
    rw [List.length_replicate]
    exact h w' h1 (bel_of h2)
set_option maxHeartbeats 1000000 in
theorem repeat_any (b P : Nat) (w : World) (hP : P ≤ 1024) (hb : w.cell? ⟨b, 0, none⟩ = some (.int .i64 (-1))) :
    Calls Try.prog 34 #[.slice (some ⟨b, 0, none⟩) 1 1, .int .i64 P] w fun e w' => e = .returned (.slice (some ⟨w.heap.size, 0, none⟩) P P) ∧ w'.heap[w.heap.size]? = some (.cells (encW P (fun _ => -1)).toArray 3 (0, 0)) ∧ Bel w w' := by
  have K := Lib.hid (mul_one' P hP w)
  have hmk := make76 P (by omega)
  have hP1 : (P : Int) ≤ 1024 := by omega
  have hP0 : ¬ (P : Int) < 0 := by omega
  have hP2 : decide ((9223372036854775807 : Int) < (P : Int)) = false := decide_eq_false (by omega)
  have HB : Hid (Bel w (w.alloc (.cells (encW P (fun _ => 0)).toArray 3))) := Lib.hid ((Bel.refl _).alloc _ _)
  have HN : Hid ((w.alloc (.cells (encW P (fun _ => 0)).toArray 3)).heap[w.heap.size]? = some (.cells (encW P (fun _ => 0)).toArray 3 (0, 0))) := Lib.hid (heap_alloc_new _ _)
  generalize hc : (encW P (fun _ => 0)).toArray = C0 at *
  have HC := Lib.hid hc
  clear hc
  go_enter Try.func34, Try.ntmps34
  go_wp2_with fail
  with_reducible refine K.out.mono ?_
  rintro e w1 ⟨rfl, rfl⟩
  go_upto_region 7 with (fail)
  generalize w.alloc (.cells C0 3) = W at *
  obtain ⟨S, eS⟩ : ∃ s, w.heap.size = s := ⟨_, rfl⟩
  have HS := Lib.hid eS
  rw [eS] at HN ⊢
  have h0 : W.heap[S]? = some (.cells (encW P (fl 0)).toArray 3 (0, 0)) := by
    rw [HN.out, ← HC.out]
    rfl
  have H0 := Lib.hid h0
  have x0 := HB.out.cell hb
  obtain ⟨c, hc, hc0, hcP⟩ : ∃ c : Nat, Nat.min 1 P = c ∧ (c = 0 → P = 0) ∧ c ≤ P := ⟨Nat.min 1 P, rfl, fun e => by have e : min 1 P = 0 := e; omega, Nat.min_le_right _ _⟩
  have hc1 : c ≤ 1 := by rw [← hc]; exact Nat.min_le_left _ _
  have HCC := Lib.hid hc
  have HC0 := Lib.hid hc0
  have hone : ∀ v ∈ List.replicate c (Value.int .i64 (-1)), v.oneCell' = true := fun v hv => by
    rw [List.eq_of_mem_replicate hv]; rfl
  have hsrc : 0 < (List.replicate c (Value.int .i64 (-1))).length → (some ⟨S, 0, none⟩ : Option Addr) = some ⟨S, 0, none⟩ ∧ ∃ ad, (some ⟨b, 0, none⟩ : Option Addr) = some ad ∧ ∀ j v, (List.replicate c (Value.int .i64 (-1)))[j]? = some v → W.cell? (ad.add j) = some v := fun _ => by
    refine ⟨rfl, _, rfl, fun j v hv => ?_⟩
    rw [List.getElem?_replicate] at hv
    split at hv
    · obtain rfl : j = 0 := by omega
      rw [addr_add]
      rw [← Option.some.inj hv]
      exact x0
    · cases hv
  have HONE := Lib.hid hone
  have HSRC := Lib.hid hsrc
  clear hc hc0 hone hsrc h0 hb x0
  go_wp2_with (with_reducible refine wpList_copy_splice rfl (.tmp 31) (.tmp 32) 76 76 rfl 3 Try.underlying76 size3 _ _ P P 1 1 rfl rfl S 0 (encW P (fl 0)) 3 H0.out (List.replicate c (.int .i64 (-1))) (by rw [List.length_replicate]; exact HCC.out.symm) HSRC.out (by rw [List.length_replicate, encW_len]; omega) HONE.out w.heap.size w HB.out.below (by rw [HS.out]; exact Nat.le_refl _) ?_)
  intro w4 hg4 hb4
  have HG4 : Hid (w4.heap[S]? = some (.cells (encW P (fl c)).toArray 3 (0, 0))) := Lib.hid (by
    have := hg4.out
    rw [splice_fl P 0 c (by omega), Nat.zero_add] at this
    exact this)
  have HB4 : Hid (Bel w w4) := Lib.hid (bel_of (by rw [HS.out]; exact hb4))
  clear hg4 hb4 HSRC
  go_wp2
  go_loopw [8] (fun v wr => ∃ c : Nat, v = .int .i64 c ∧ c ≤ P ∧ (c = 0 → P = 0) ∧ wr.heap[S]? = some (.cells (encW P (fl c)).toArray 3 (0, 0)) ∧ Bel w wr) (fun v _ => P - (intOf v).toNat)
  case atStart => exact ⟨c, rfl, hcP, HC0.out, HG4.out, HB4.out⟩
  case round =>
    obtain ⟨c, rfl, hcP, hc0, hg, hbl⟩ := hrel
    have HG := Lib.hid hg
    have HBL := Lib.hid hbl
    by_cases h : c < P
    · obtain ⟨m, hm, hm1, hm2, hm3⟩ : ∃ m : Nat, Nat.min c (P - c) = m ∧ 1 ≤ m ∧ c + m ≤ P ∧ m ≤ c := by
        have h9 : ¬ c = 0 := fun e => by have := hc0 e; omega
        have e : Nat.min c (P - c) = min c (P - c) := rfl
        exact ⟨min c (P - c), e, by omega, by omega, by omega⟩
      obtain ⟨q, hq⟩ : ∃ q, P - c = q := ⟨_, rfl⟩
      rw [hq] at hm
      have HMM := Lib.hid hm
      have HC1 : Hid (c = 0 → P = 0) := Lib.hid hc0
      have HSS : Hid (w.heap.size ≤ S) := Lib.hid (by rw [HS.out]; exact Nat.le_refl _)
      have b1 : (c : Int) < P := by omega
      have b2 : (c : Int) ≤ P := by omega
      have b3 : (0 : Int) ≤ c := by omega
      have b4 : ¬ P = c := by omega
      clear hm hc0 hg hbl hmk
      go_wp2
      go_region_law ((refine step_fill (by rfl) (.tmp 41) (.tmp 44) (by rfl) S c P m q w (by simp [go_sem]) (by simp [go_sem]) HG.out HMM.out hm2 hm3 HBL.out.drew HSS.out ?_; intro w5 hg5 hb5))
      all_goals
        have HG5 := Lib.hid hg5
        have HB5 := Lib.hid hb5
        have hw9 : IntKind.i64.wrap ((c : Int) + m) = (c : Int) + m := i64_in _ (by omega) (by omega)
        clear hg5 hb5
        go_simp
        go_wp2
        go_roundw
        case rel => exact ⟨c + m, by go_num, hm2, fun e => by omega, HG5.out, HB5.out⟩
        case measure => simp [intOf]; omega
    · obtain rfl : c = P := by omega
      have HE : Hid (wr.heap[S]? = some (.cells (encW c (fun _ => -1)).toArray 3 (0, 0))) := Lib.hid (by
        rw [HG.out, encW_congr (a := fl c) (b := fun _ => -1) (fun k hk => by unfold fl; rw [if_pos hk])])
      clear hg hbl hc0
      go_wp2
      go_ret
      refine ⟨?_, by rw [HS.out]; exact HE.out, HBL.out⟩
      rw [HS.out]
      rfl
theorem qnew_no (P : Int) (w : World) (h : ¬ (0 ≤ P ∧ P ≤ 1024)) :
    Calls Try.prog 21 #[.int .i64 P] w fun e w' => e = .returned (.tuple #[.pointer none, .int .i64 1]) ∧ w = w' := by
  by_cases a0 : P < 0
  · clear h
    go_enter Try.func21, Try.ntmps21
    go_wp2
    exact bodyPost_ret (v := .tuple #[.pointer none, .int .i64 1]) (by simp [results, Try.results21, go_sem]) rfl ⟨rfl, rfl⟩
  · have a1 : 1024 < P := by omega
    clear h
    go_enter Try.func21, Try.ntmps21
    go_wp2
    exact bodyPost_ret (v := .tuple #[.pointer none, .int .i64 1]) (by simp [results, Try.results21, go_sem]) rfl ⟨rfl, rfl⟩
set_option maxHeartbeats 1000000 in
theorem qnew_yes (P : Nat) (w : World) (hP : P ≤ 1024) :
    Calls Try.prog 21 #[.int .i64 P] w fun e w' => ∃ Q f, e = .returned (.tuple #[.pointer (some ⟨Q, 0, none⟩), .int .i64 0]) ∧ Qu f w' Q P [] ∧ (∀ k, f k → w.heap.size ≤ k) ∧ Bel w w' := by
  have HB : Hid (Bel w (w.alloc (.cells #[.int .i64 (-1)] 3))) := Lib.hid ((Bel.refl _).alloc _ _)
  have K := Lib.hid (repeat_any w.heap.size P (w.alloc (.cells #[.int .i64 (-1)] 3)) hP (by simp [go_sem]))
  have a0 : ¬ (P : Int) < 0 := by omega
  have a1 : ¬ 1024 < (P : Int) := by omega
  go_enter Try.func21, Try.ntmps21
  go_wp2_with fail
  with_reducible refine K.out.mono ?_
  rintro e w1 ⟨rfl, hs, hb⟩
  have HB1 := Lib.hid (HB.out.trans hb)
  have HS : Hid (w1.heap[w.heap.size + 1]? = some (.cells (encW P (fun _ => -1)).toArray 3 (0, 0))) := Lib.hid (by simpa using hs)
  have HT := Lib.hid (two_new w1 #[.slice none 0 0, .nilFunc, .slice (some ⟨w.heap.size + 1, 0, none⟩) P P] #[.pointer (some ⟨w1.heap.size, 0, none⟩)] 78 29)
  clear hs hb
  go_upto_region 4 with (fail)
  obtain ⟨W, eW, hB, hz, n0, n1⟩ := HT.out
  rw [eW]
  clear HT eW
  obtain ⟨S, eS⟩ : ∃ b, w.heap.size + 1 = b := ⟨_, rfl⟩
  rw [eS] at n0 HS ⊢
  obtain ⟨C, eC⟩ : ∃ b, w1.heap.size + 1 = b := ⟨_, rfl⟩
  rw [eC] at n1 hz ⊢
  obtain ⟨Q, eQ⟩ : ∃ b, w1.heap.size = b := ⟨_, rfl⟩
  rw [eQ] at n0 n1 ⊢
  have lw := HB1.out.size
  have hS : w.heap.size ≤ S := by omega
  have hQ : w.heap.size ≤ Q := by omega
  have hC : w.heap.size ≤ C := by omega
  obtain ⟨⟨q0, q1, q2⟩, f0, f1, f2⟩ := box3 n0
  have c0 : W.cell? ⟨C, 0, none⟩ = some (.pointer (some ⟨Q, 0, none⟩)) := by
    rw [cell_of_row W C _ _ 29 (0, 0) n1]
    rfl
  have nQC : ¬ Q = C := by omega
  have nCQ : ¬ C = Q := by omega
  have lS : S < w1.heap.size := (Array.getElem?_eq_some_iff.1 HS.out).1
  have nSQ : ¬ S = Q := by omega
  have nSC : ¬ S = C := by omega
  have hSW := hB.heap HS.out
  have o : Off (Only Q) W (W.setCell ⟨Q, 1, none⟩ (.func (.func 35) #[] #[.pointer (some ⟨C, 0, none⟩)])) := Off.setCell (Off.refl (Only Q) W) (p := ⟨Q, 1, none⟩) (.inl rfl) _
  have HBW := Lib.hid (HB1.out.trans hB)
  have HE : Hid (Qu (fun k => w.heap.size ≤ k ∧ k < W.heap.size) (W.setCell ⟨Q, 1, none⟩ (.func (.func 35) #[] #[.pointer (some ⟨C, 0, none⟩)])) Q P [] ∧ Bel w (W.setCell ⟨Q, 1, none⟩ (.func (.func 35) #[] #[.pointer (some ⟨C, 0, none⟩)]))) := Lib.hid (by
    have e1 := heap_setCell_same W Q 1 _ 78 (.func (.func 35) #[] #[.pointer (some ⟨C, 0, none⟩)]) n0
    have lC := (Array.getElem?_eq_some_iff.1 n1).1
    have lQ := (Array.getElem?_eq_some_iff.1 n0).1
    have lS2 := (Array.getElem?_eq_some_iff.1 hSW).1
    refine ⟨⟨⟨C, S, none, 0, [], fun _ => -1, ⟨e1, (o.block C lC nCQ).trans n1, (o.block S lS2 nSQ).trans hSW, OwnT.nil _ _, ⟨hQ, lQ⟩, ⟨hC, lC⟩, ⟨hS, lS2⟩, fun a e => by cases e⟩, Wh.new P, fun k _ h => by simp at h, rfl⟩, hP, fun k e => by have := o.size; omega⟩, HBW.out.setCell (p := ⟨Q, 1, none⟩) hQ _⟩)
  clear hB hz n0 n1 hSW o eS eC eQ
  go_wp2
  exact bodyPost_ret (v := .tuple #[.pointer (some ⟨Q, 0, none⟩), .int .i64 0]) (by simp [results, Try.results21, go_sem]) rfl ⟨Q, _, rfl, HE.out.1, fun k e => e.1, HE.out.2⟩
end Go.Proofs.Ytaabalkfpjeheaa
