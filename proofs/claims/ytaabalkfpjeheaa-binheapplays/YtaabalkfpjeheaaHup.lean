/-
  Contracts of the heap's up, down and settle.
-/
import Derived.Test.YtaabalkfpjeheaaHswap
namespace Go.Proofs.Ytaabalkfpjeheaa
open Go.RowKit
/-- Behind a step of the heap: the same timers, in whatever order. -/
structure St (f : Nat → Prop) (w wr : World) (Q C S P : Nat) (p : Option Addr) (cap : Nat) (l l' : List T) (wh' : Nat → Int) : Prop where
  hm : Hm f wr Q C S P p cap l' wh'
  off : Off f w wr
  wh : Wh P l' wh'
  perm : l'.Perm l
theorem St.len {f : Nat → Prop} {w wr : World} {Q C S P : Nat} {p : Option Addr} {cap : Nat} {l l' : List T} {wh' : Nat → Int} (h : St f w wr Q C S P p cap l l' wh') : l'.length = l.length := h.perm.length_eq
theorem St.bel {f : Nat → Prop} {w wr w2 : World} {Q C S P : Nat} {p : Option Addr} {cap : Nat} {l l' : List T} {wh' : Nat → Int} (h : St f w wr Q C S P p cap l l' wh') (k : Bel wr w2) : St f w w2 Q C S P p cap l l' wh' :=
  ⟨h.hm.bel k, h.off.thenB k, h.wh, h.perm⟩
theorem St.before {f : Nat → Prop} {w wr : World} {Q C S P : Nat} {p : Option Addr} {cap : Nat} {l l' : List T} {wh' : Nat → Int} (h : St f w wr Q C S P p cap l l' wh') {i j : Nat} (hi : i < l.length) (hj : j < l.length) :
    Calls Try.prog 77 #[.pointer (some ⟨Q, 0, none⟩), .int .i64 i, .int .i64 j] wr fun e w' => e = .returned (.bool (lt (gt l' i) (gt l' j))) ∧ St f w w' Q C S P p cap l l' wh' :=
  (hbefore_any f Q C S P p cap l' wh' i j wr h.hm (by rw [h.len]; exact hi) (by rw [h.len]; exact hj)).mono fun _ _ ⟨e, b⟩ => ⟨e, h.bel b⟩
theorem St.swap {f : Nat → Prop} {w wr : World} {Q C S P : Nat} {p : Option Addr} {cap : Nat} {l l' : List T} {wh' : Nat → Int} (h : St f w wr Q C S P p cap l l' wh') {i j : Nat} (hi : i < l.length) (hj : j < l.length) :
    Calls Try.prog 49 #[.pointer (some ⟨Q, 0, none⟩), .int .i64 i, .int .i64 j] wr fun e w' => e = .returned (.tuple #[]) ∧ ∃ wh2, St f w w' Q C S P p cap l (swp l' i j) wh2 := by
  have hi' : i < l'.length := by rw [h.len]; exact hi
  have hj' : j < l'.length := by rw [h.len]; exact hj
  obtain ⟨a, a1, a2, _⟩ := h.wh.at_ i hi'
  obtain ⟨b, b1, b2, _⟩ := h.wh.at_ j hj'
  exact (swap_any f Q C S P p cap l' wh' i j a b wr h.hm hi' hj' a1 b1 a2 b2).mono fun _ _ ⟨e, k1, k2⟩ => ⟨e, _, k1, h.off.then k2, h.wh.swap hi' hj' a1 b1, (swp_perm l' i j hi' hj').trans h.perm⟩
theorem half (m : Nat) : (m : Int).tdiv 2 = ((par (m + 1) : Nat) : Int) := by
  unfold par
  rw [Int.tdiv_eq_ediv_of_nonneg (by omega)]
  omega
set_option maxHeartbeats 1000000 in
theorem up_any (f : Nat → Prop) (Q C S P : Nat) (p : Option Addr) (cap : Nat) (l : List T) (wh : Nat → Int) (i : Nat) (w : World) (h : Hm f w Q C S P p cap l wh) (hw : Wh P l wh) (hP : P ≤ 1024) (hi : i < l.length) (ha : Al l i) :
    Calls Try.prog 62 #[.pointer (some ⟨Q, 0, none⟩), .int .i64 i] w fun e w' => ∃ (k : Nat) (l' : List T) (wh' : Nat → Int), e = .returned (.int .i64 k) ∧ k < l.length ∧ Dn l' k ∧ St f w w' Q C S P p cap l l' wh' := by
  have hn : l.length ≤ 1024 := Nat.le_trans hw.len hP
  have H0 : Hid (St f w w Q C S P p cap l l wh) := Lib.hid ⟨h, Off.refl f w, hw, List.Perm.refl l⟩
  have HA := Lib.hid ha
  obtain ⟨n, en⟩ : ∃ n, l.length = n := ⟨_, rfl⟩
  rw [en] at hi hn ⊢
  have HN := Lib.hid en
  clear h hw ha en
  go_enter Try.func62, Try.ntmps62
  go_wp2
  go_step3
  go_wp2
  go_step3
  go_wp2
  go_loopw [1] (fun v wr => ∃ (k : Nat) (l' : List T) (wh' : Nat → Int), v = .int .i64 k ∧ k < n ∧ Al l' k ∧ St f w wr Q C S P p cap l l' wh') (fun v _ => (intOf v).toNat)
  case atStart => exact ⟨i, l, wh, rfl, hi, HA.out, H0.out⟩
  case round =>
    obtain ⟨k, l', wh', rfl, hk, hal, hst⟩ := hrel
    have HA2 := Lib.hid hal
    have HS := Lib.hid hst
    clear hal hst HA H0
    by_cases h0 : 0 < k
    · obtain ⟨m, hmk, hk1⟩ : ∃ m : Nat, (k : Int) - 1 = m ∧ k = m + 1 := ⟨k - 1, by omega, by omega⟩
      obtain ⟨q, hq, hqm⟩ : ∃ q : Nat, (m : Int).tdiv 2 = q ∧ q = par k := ⟨par k, by rw [hk1]; exact half m, rfl⟩
      clear hk1
      have hqk : q < k := by rw [hqm]; exact par_lt h0
      have KB := Lib.hid (fun W (h : St f w W Q C S P p cap l l' wh') => h.before (i := k) (j := q) (by rw [HN.out]; omega) (by rw [HN.out]; omega))
      have KS := Lib.hid (fun W (h : St f w W Q C S P p cap l l' wh') => h.swap (i := k) (j := q) (by rw [HN.out]; omega) (by rw [HN.out]; omega))
      have HQ := Lib.hid hqm
      clear hqm
      cases hb : lt (gt l' k) (gt l' q) with
      | false =>
        rw [hb] at KB
        have HD : Hid (Dn l' k) := Lib.hid (HA2.out.done (fun _ => by rw [← HQ.out]; exact hb))
        clear hb
        go_wp2_with fail
        with_reducible refine (KB.out _ HS.out).mono ?_
        rintro e w1 ⟨rfl, hs1⟩
        have HS1 := Lib.hid hs1
        clear hs1
        go_wp2
        try rw [Exit.noGoto_ret]
        go_ret
        exact ⟨k, l', wh', rfl, hk, HD.out, HS1.out⟩
      | true =>
        rw [hb] at KB
        have HD : Hid (Al (swp l' k q) q) := Lib.hid (by
          have := HA2.out.up h0 (by rw [HS.out.len, HN.out]; exact hk) (by rw [← HQ.out]; exact hb)
          rw [← HQ.out] at this
          exact this)
        clear hb
        go_wp2_with fail
        with_reducible refine (KB.out _ HS.out).mono ?_
        rintro e w1 ⟨rfl, hs1⟩
        have HS1 := Lib.hid hs1
        clear hs1
        go_wp2_with fail
        with_reducible refine (KS.out _ HS1.out).mono ?_
        rintro e w2 ⟨rfl, wh2, hs2⟩
        have HS2 := Lib.hid hs2
        clear hs2
        go_wp2
        go_roundw
        case rel => exact ⟨q, _, wh2, rfl, by omega, HD.out, HS2.out⟩
        case measure => simp [intOf]; omega
    · obtain rfl : k = 0 := by omega
      have HD : Hid (Dn l' 0) := Lib.hid (HA2.out.done (fun h => by omega))
      go_wp2
      try rw [Exit.noGoto_ret]
      go_ret
      exact ⟨0, l', wh', rfl, hk, HD.out, HS.out⟩
end Go.Proofs.Ytaabalkfpjeheaa
