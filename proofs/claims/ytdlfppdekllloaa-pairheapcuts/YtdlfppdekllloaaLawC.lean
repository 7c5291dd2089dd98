/-
  The walk of PairheapCuts.
-/
import Derived.Test.YtdlfppdekllloaaFi
import Derived.Test.YtdlfppdekllloaaInts
import Derived.Test.YtdlfppdekllloaaBehind
import Derived.BigQuiet
set_option linter.unusedVariables false
set_option linter.unusedSimpArgs false
namespace Go.Proofs.Ytdlfppdekllloaa
open Go.RowKit
theorem cuts_long (P : Int) (pa : Option Addr) (N ca : Nat) (pb : Option Addr) (M cb : Nat) (w : World) (h : 60 < N ∨ 60 < M) :
    Calls Try.prog 6 #[.int .i64 P, .slice pa N ca, .slice pb M cb] w fun e w' => e = .returned (.bool true) ∧ Bel w w' := by
  have K := Lib.hid (works_any w)
  by_cases h0 : (60 : Int) < N
  · clear h
    go_enter Try.func6, Try.ntmps6
    go_wp2_with fail
    with_reducible refine K.out.mono ?_
    rintro e w1 ⟨rfl, hb⟩
    have HB := Lib.hid hb
    clear hb
    go_wp2
    go_ret
    exact ⟨rfl, HB.out⟩
  · have h1 : (60 : Int) < M := by omega
    clear h
    go_enter Try.func6, Try.ntmps6
    go_wp2_with fail
    with_reducible refine K.out.mono ?_
    rintro e w1 ⟨rfl, hb⟩
    have HB := Lib.hid hb
    clear hb
    go_wp2
    go_ret
    exact ⟨rfl, HB.out⟩
theorem cuts_no (P : Int) (pa : Option Addr) (N ca : Nat) (pb : Option Addr) (M cb : Nat) (w : World) (hN : N ≤ 60) (hM : M ≤ 60) (h : ¬ (0 ≤ P ∧ P ≤ 1024)) :
    Calls Try.prog 6 #[.int .i64 P, .slice pa N ca, .slice pb M cb] w fun e w' => e = .returned (.bool true) ∧ Bel w w' := by
  have K := Lib.hid (works_any w)
  have KB := Lib.hid (fun w' => built_no P pa N ca w' h)
  have h0 : ¬ (60 : Int) < N := by omega
  have h1 : ¬ (60 : Int) < M := by omega
  clear h hN hM
  go_enter Try.func6, Try.ntmps6
  go_wp2_with fail
  with_reducible refine K.out.mono ?_
  rintro e w1 ⟨rfl, hb⟩
  have HB := Lib.hid hb
  clear hb
  go_wp2_with fail
  with_reducible refine (KB.out _).mono ?_
  rintro e w2 ⟨rfl, rfl⟩
  go_wp2
  go_ret
  exact ⟨rfl, HB.out⟩
/-- Another list takes the list's place. -/
theorem Fi.re {w w1 w2 : World} {Q P : Nat} {l C D : List T} {pc pd : Option Addr} (h : Fi w w1 Q P l pc C) (k : Bel w1 w2) (hd : Lies (old w1) w2 pd (encs D)) : Fi w w2 Q P l pd D := by
  obtain ⟨⟨f, h1, h2, h3⟩, h4⟩ := h
  exact ⟨⟨f, h1.bel k, h2, hd.mono (fun b _ e => h1.lt_ b e)⟩, h4.trans k⟩
/-- Is one of the first ones at that place? -/
def inn (l : List T) (k : Int) : Bool := l.any fun t => decide (t.p = k)
theorem inn_take (l : List T) (k : Int) (m : Nat) (h : m < l.length) : inn (l.take (m + 1)) k = (inn (l.take m) k || decide ((l.getD m default).p = k)) := by
  unfold inn
  rw [List.take_succ_eq_append_getElem h, List.any_append]
  have e : l.getD m default = l[m] := by simp [List.getD_eq_getElem?_getD, List.getElem?_eq_getElem h]
  rw [e]
  simp
theorem inn_fnd (l : List T) (k : Int) : inn l k = (fnd l k).isSome := by
  unfold inn fnd
  rw [Bool.eq_iff_iff, List.any_eq_true, List.find?_isSome]
theorem can_inn {P : Nat} {l : List T} {k : Int} (h : ∀ t ∈ l, hp P t.p = true) : (inn l k = true ∧ canE P l k = 0 ∧ ∃ x, fnd l k = some x ∧ x.p = k) ∨ (inn l k = false ∧ ¬ canE P l k = 0) := by
  rw [inn_fnd]
  cases e : fnd l k with
  | none =>
    refine .inr ⟨rfl, ?_⟩
    unfold canE
    rw [e]
    split <;> simp
  | some x =>
    obtain ⟨h1, h2⟩ := fnd_some e
    refine .inl ⟨rfl, ?_, x, rfl, h2⟩
    unfold canE
    rw [← h2, h x h1, h2, e]
    rfl
theorem getD_in (l : List Int) (j : Nat) (h : j < l.length) : ∃ d, l[j]? = some d := ⟨l[j], List.getElem?_eq_getElem h⟩
set_option maxRecDepth 100000 in
set_option maxHeartbeats 8000000 in
theorem cuts_yes (P : Nat) (pa : Option Addr) (N ca : Nat) (al : List Ak) (pb : Option Addr) (M cb : Nat) (bl : List Int) (w : World) (hN : N ≤ 60) (hM : M ≤ 60) (hl : al.length = N) (hl2 : bl.length = M) (hA : Lies nof w pa (encK al)) (hA2 : Lies nof w pb (encZ bl)) (hP : P ≤ 1024) :
    Calls Try.prog 6 #[.int .i64 P, .slice pa N ca, .slice pb M cb] w fun e w' => e = .returned (.bool true) ∧ Bel w w' := by
  have K := Lib.hid (works_any w)
  have KB := Lib.hid (fun w' (h : Bel w w') => built_yes P pa N ca al w' hP hl hN (hA.bel h))
  have HZ := Lib.hid hA2
  have HZL := Lib.hid hl2
  have h0 : ¬ (60 : Int) < N := by omega
  have h1 : ¬ (60 : Int) < M := by omega
  clear hN hA hl hA2 hl2
  generalize pla P al = L at *
  go_enter Try.func6, Try.ntmps6
  go_wp2_with fail
  with_reducible refine K.out.mono ?_
  rintro e w1 ⟨rfl, hb⟩
  have HB1 := Lib.hid hb
  clear hb K
  go_wp2_with fail
  with_reducible refine (KB.out _ HB1.out).mono ?_
  rintro e w2 ⟨Q, rfl, hbu⟩
  have KA := Lib.hid (bu_all hbu)
  clear hbu KB
  go_wp2_with fail
  with_reducible refine KA.out.mono ?_
  rintro e w3 ⟨p, c, rfl, hc, hfi⟩
  have F0 : Hid (Fi w1 w3 Q P L p L) := Lib.hid hfi
  clear hfi KA hc
  go_wp2
  go_loopw [10, 11, 12, 13, 14, 15, 16] (fun s v _ _ _ _ _ wr => ∃ (i : Nat) (l : List T) (p : Option Addr) (c : Nat), s = .slice p l.length c ∧ v = .int .i64 i ∧ i ≤ M ∧ Fi w1 wr Q P l p l) (fun _ v _ _ _ _ _ _ => M - (intOf v).toNat)
  case atStart => exact ⟨0, L, p, c, rfl, rfl, Nat.zero_le _, F0.out⟩
  case round =>
    clear F0
    rename World => wx
    obtain ⟨i, l, p, c, rfl, rfl, hi, hfi⟩ := hrel
    have HF := Lib.hid hfi
    clear hfi
    have HPL := Lib.hid HF.out.nodup.2
    have hlen : l.length ≤ 1024 := by
      obtain ⟨⟨f, q1, _⟩, _⟩ := HF.out
      exact Nat.le_trans q1.len q1.hP
    by_cases h : i < M
    · obtain ⟨d, hd⟩ := getD_in bl i (by rw [HZL.out]; exact h)
      obtain ⟨b, off, rfl, _, hr⟩ := lies_z HZ.out (i := i) (by rw [HZL.out]; exact h)
      have c0 := row_z hr hd
      have HD : Hid (∀ w', Bel w1 w' → w'.cell? ⟨b, off + i, none⟩ = some (.int .i64 d)) := Lib.hid (fun w' hb => (HB1.out.trans hb).cell c0)
      clear c0 hr hd
      have b1 : (i : Int) < (M : Int) := by omega
      obtain ⟨n, en⟩ : ∃ n, l.length = n := ⟨_, rfl⟩
      have HN := Lib.hid en
      rw [en] at hlen ⊢
      clear en
      have HNt : Hid (l.take n = l) := Lib.hid (List.take_of_length_le (by have := HN.out; omega))
      go_wp2
      go_loopw [12, 13, 14] (fun r s v wr => ∃ m : Nat, v = .int .i64 m ∧ m ≤ n ∧ s = .bool (inn (l.take m) d) ∧ OwnT wr wx.heap.size r (wo (l.take m) d) ∧ Bel wx wr) (fun _ _ v _ => n - (intOf v).toNat)
      case atStart => exact ⟨0, rfl, Nat.zero_le _, rfl, OwnT.nil _ _, Bel.refl _⟩
      case round =>
        obtain ⟨m, rfl, hm, rfl, ho, hb⟩ := hrel
        have HO := Lib.hid ho
        have HB := Lib.hid hb
        clear ho hb
        by_cases h2 : m < n
        · obtain ⟨b2, off2', rfl, hr⟩ := HF.out.has.row (by have := HN.out; omega)
          obtain ⟨x, hx⟩ : ∃ x, l.getD m default = x := ⟨_, rfl⟩
          have cx := (hr.bel HB.out) m (by have := HN.out; omega)
          rw [hx] at cx
          obtain ⟨x0, x1, x2⟩ := cx
          have HS := Lib.hid (wo_take l d m (by have := HN.out; omega))
          have HI := Lib.hid (inn_take l d m (by have := HN.out; omega))
          rw [hx] at HS HI
          have c0 := HD.out _ (HF.out.bel.trans HB.out)
          have b3 : (m : Int) < (n : Int) := by omega
          have HSL : Hid ((wo (l.take m) d).length ≤ m) := Lib.hid (Nat.le_trans (wo_len _ _) (by simp; omega))
          clear hx hr h
          by_cases hk : x.p = d
          · have HE : Hid (wo (List.take (m + 1) l) d = wo (List.take m l) d) := Lib.hid (by rw [HS.out, if_pos hk, List.append_nil])
            have HI2 : Hid (inn (List.take (m + 1) l) d = true) := Lib.hid (by rw [HI.out, decide_eq_true hk]; simp)
            have hk2 : (x.p == d) = true := by simpa using hk
            generalize x.p = xp at *
            clear hk
            go_wp2
            go_quiet (fail)
            go_wp2
            go_roundw
            case rel => exact ⟨m + 1, by go_num, by omega, by rw [HI2.out], by rw [HE.out]; exact HO.out.bel ((Bel.refl _).drewN nq), HB.out.drewN nq⟩
            case measure => simp [intOf]; omega
          · have HE : Hid (wo (List.take (m + 1) l) d = wo (List.take m l) d ++ [x]) := Lib.hid (by rw [HS.out, if_neg hk])
            have HI2 : Hid (inn (List.take (m + 1) l) d = inn (List.take m l) d) := Lib.hid (by rw [HI.out, decide_eq_false hk]; simp)
            have hk2 : (x.p == d) = false := by simpa using hk
            clear hk
            go_wp2
            go_quiet (fail)
            have z0 := ((Bel.refl wr).drewN nq).cell x0
            have z1 := ((Bel.refl wr).drewN nq).cell x1
            have z2 := ((Bel.refl wr).drewN nq).cell x2
            have HBd := Lib.hid (HB.out.drewN nq)
            have HOd := Lib.hid (HO.out.bel ((Bel.refl wr).drewN nq))
            clear x0 x1 x2 HB HO c0
            generalize wr.drewN nq = V at *
            have HB3 : Hid (Bel V (V.alloc (.cells #[.int .u64 x.a, .int .u64 x.s, .int .i64 x.p] 35))) := Lib.hid ((Bel.refl _).alloc _ _)
            have HO3 := Lib.hid (HOd.out.bel HB3.out)
            have HS3 := Lib.hid (HBd.out.trans HB3.out)
            go_wp2_with (at_builtin; refine wpList_append_any rfl (.tmp 67) (.tmp 72) rfl wx.heap.size _ (wo (l.take m) d) rfl HO3.out _ 1 _ [x] rfl rfl (has_one V x) (by have := HSL.out; omega) HS3.out.size ?_)
            intro v5 w5 hown5 hgrow5 hnil5
            have HO5 : Hid (OwnT w5 wx.heap.size v5 (wo (l.take (m + 1)) d)) := Lib.hid (by rw [HE.out]; exact hown5)
            have HB5 : Hid (Bel wx w5) := Lib.hid (OwnT.grown HS3.out HO3.out HS3.out.size hgrow5)
            clear hown5 hgrow5 hnil5 z0 z1 z2
            go_wp2
            go_roundw
            case rel => exact ⟨m + 1, by go_num, by omega, by rw [HI2.out], HO5.out, HB5.out⟩
            case measure => simp [intOf]; omega
        · obtain rfl : m = n := by omega
          have ho := HO.out
          rw [HNt.out] at ho ⊢
          obtain ⟨p', c', rfl, hc', hl'⟩ := ho.lies (w := wx) (Nat.le_refl _)
          have HF2 : Hid (Fi w1 wr Q P l p' (wo l d)) := Lib.hid (HF.out.re HB.out hl')
          have KC := Lib.hid (fi_cancel (k := d) HF2.out)
          have c0 := HD.out _ HF2.out.bel
          have hb2 : ¬ (m : Int) < (m : Int) := by omega
          clear ho hl' hc' HO HB HF h2 HNt HN hm hlen
          rcases can_inn HPL.out (k := d) with ⟨e1, e2, x, e3, e4⟩ | ⟨e1, e2⟩
          · rw [e1]
            rw [e2, e3] at KC
            unfold canV at KC
            simp only [Option.getD_some] at KC
            rw [e4] at KC
            clear e1 e2 e3 e4
            generalize wo l d = l2 at *
            generalize x.a = y0 at *
            generalize x.s = y1 at *
            go_wp2_with fail
            with_reducible refine KC.out.mono ?_
            rintro e w4 ⟨rfl, hf4⟩
            have HB5 : Hid (Bel w4 (w4.alloc (.cells #[.int .u64 y0, .int .u64 y1, .int .i64 d] 35))) := Lib.hid ((Bel.refl _).alloc _ _)
            have HF5 := Lib.hid (hf4.le HB5.out)
            have HNn := Lib.hid (heap_alloc_new w4 (.cells #[.int .u64 y0, .int .u64 y1, .int .i64 d] 35))
            clear hf4 KC HF2 c0
            go_upto_region 22 with (fail)
            generalize w4.alloc (.cells #[.int .u64 y0, .int .u64 y1, .int .i64 d] 35) = W5 at *
            generalize w4.heap.size = b15 at *
            obtain ⟨⟨d0, d1, d2⟩, _⟩ := box3 HNn.out
            have c0 := HD.out _ HF5.out.bel
            go_wp2
            go_quiet (fail)
            go_wp2
            go_roundw
            case rel => exact ⟨i + 1, l2, p', c', rfl, by go_num, by omega, HF5.out.le ((Bel.refl W5).drewN nq)⟩
            case measure => simp [intOf]; omega
          · rw [e1]
            unfold canV at KC
            have hce : (canE P l d == 0) = false := by simpa using e2
            generalize canE P l d = er at *
            generalize ((fnd l d).getD default).a = y0 at *
            generalize ((fnd l d).getD default).s = y1 at *
            generalize ((fnd l d).getD default).p = y2 at *
            generalize wo l d = l2 at *
            clear e1 e2
            go_wp2_with fail
            with_reducible refine KC.out.mono ?_
            rintro e w4 ⟨rfl, hf4⟩
            have HB5 : Hid (Bel w4 (w4.alloc (.cells #[.int .u64 y0, .int .u64 y1, .int .i64 y2] 35))) := Lib.hid ((Bel.refl _).alloc _ _)
            have HF5 := Lib.hid (hf4.le HB5.out)
            have HNn := Lib.hid (heap_alloc_new w4 (.cells #[.int .u64 y0, .int .u64 y1, .int .i64 y2] 35))
            clear hf4 KC HF2 c0
            go_upto_region 22 with (fail)
            generalize w4.alloc (.cells #[.int .u64 y0, .int .u64 y1, .int .i64 y2] 35) = W5 at *
            generalize w4.heap.size = b15 at *
            obtain ⟨⟨d0, d1, d2⟩, _⟩ := box3 HNn.out
            have c0 := HD.out _ HF5.out.bel
            go_wp2
            go_quiet (fail)
            go_wp2
            go_roundw
            case rel => exact ⟨i + 1, l2, p', c', rfl, by go_num, by omega, HF5.out.le ((Bel.refl W5).drewN nq)⟩
            case measure => simp [intOf]; omega
    · have b1 : ¬ (i : Int) < (M : Int) := by omega
      have KA := Lib.hid (fi_all HF.out)
      obtain ⟨n, en⟩ : ∃ n, l.length = n := ⟨_, rfl⟩
      have KS : Hid (∀ q e w', Has w' q l → Bel wx w' → Calls Try.prog 23 #[.slice q n e, .slice p n c] w' fun e w2 => e = .returned (.bool true) ∧ Bel w' w2) := Lib.hid (fun q e w' h1 hb => by
        have k := same_yes q p e c l w' (by omega) h1 (HF.out.has.bel hb)
        rw [en] at k
        exact k)
      have KL : Hid (∀ w', Bel wx w' → Calls Try.prog 21 #[.pointer (some ⟨Q, 0, none⟩)] w' fun e w2 => e = .returned (.int .i64 n) ∧ Bel w' w2) := Lib.hid (fun w' hb => by
        have k := fi_len (HF.out.le hb)
        rw [en] at k
        exact k)
      rw [en] at KA ⊢
      have HBw : Hid (Bel w wx) := Lib.hid (HB1.out.trans HF.out.bel)
      clear HF HPL hlen en h
      go_wp2_with fail
      with_reducible refine KA.out.mono ?_
      rintro e w4 ⟨q, dd, rfl, hq, hb4⟩
      have HB4 := Lib.hid hb4
      have KS4 := Lib.hid (KS.out q dd _ hq hb4)
      clear hq hb4 KS KA
      go_wp2_with fail
      with_reducible refine KS4.out.mono ?_
      rintro e w5 ⟨rfl, hb5⟩
      have HB5 := Lib.hid (HB4.out.trans hb5)
      have KL5 := Lib.hid (KL.out _ HB5.out)
      clear hb5 KS4 KL
      go_wp2_with fail
      with_reducible refine KL5.out.mono ?_
      rintro e w6 ⟨rfl, hb6⟩
      have HE := Lib.hid (HBw.out.trans (HB5.out.trans hb6))
      clear hb6
      go_wp2
      go_ret
      exact ⟨rfl, HE.out⟩
end Go.Proofs.Ytdlfppdekllloaa
