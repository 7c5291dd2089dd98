/-
  Contracts of the heap's down and settle.
-/
import Derived.Test.YtaabalkfpjeheaaHup
namespace Go.Proofs.Ytaabalkfpjeheaa
open Go.RowKit
/-- The first of the one at k and those below it that were looked at. -/
structure Fi (l : List T) (n k fi b : Nat) : Prop where
  lo : 2 * k + 1 ≤ b
  hi : b ≤ 2 * k + 3
  lt_ : fi < n
  is_ : fi = k ∨ 0 < fi ∧ par fi = k ∧ lt (gt l fi) (gt l k) = true
  no : ∀ m, 2 * k + 1 ≤ m → m < b → m < n → lt (gt l m) (gt l fi) = false
theorem Fi.start {l : List T} {n k : Nat} (hk : k < n) : Fi l n k k (2 * k + 1) := ⟨by omega, by omega, hk, .inl rfl, fun m h1 h2 _ => by omega⟩
theorem Fi.keep {l : List T} {n k fi b : Nat} (h : Fi l n k fi b) (hb : b ≤ 2 * k + 2) (hl : lt (gt l b) (gt l fi) = false) : Fi l n k fi (b + 1) :=
  ⟨by have := h.lo; omega, by omega, h.lt_, h.is_, fun m h1 h2 h3 => by
    by_cases e : m = b
    · subst e; exact hl
    · exact h.no m h1 (by omega) h3⟩
theorem Fi.turn {l : List T} {n k fi b : Nat} (h : Fi l n k fi b) (hb : b ≤ 2 * k + 2) (hn : b < n) (hl : lt (gt l b) (gt l fi) = true) : Fi l n k b (b + 1) := by
  have h0 := h.lo
  refine ⟨by omega, by omega, hn, .inr ⟨by omega, by unfold par; omega, ?_⟩, fun m h1 h2 h3 => ?_⟩
  · rcases h.is_ with e | ⟨_, _, e⟩
    · rw [← e]; exact hl
    · exact lt_trans hl e
  · by_cases e : m = b
    · subst e; exact lt_irrefl _
    · exact lt_ntrans (h.no m h1 (by omega) h3) (lt_asymm hl)
theorem Fi.all {l : List T} {n k fi b : Nat} (h : Fi l n k fi b) (hb : ¬ (b ≤ 2 * k + 2 ∧ b < n)) (m : Nat) (m0 : 0 < m) (hm : m < n) (e : par m = k) : lt (gt l m) (gt l fi) = false := by
  have h0 := h.lo
  unfold par at e
  exact h.no m (by omega) (by omega) hm
set_option maxHeartbeats 2000000 in
theorem down_any (f : Nat → Prop) (Q C S P : Nat) (p : Option Addr) (cap : Nat) (l : List T) (l0 : List T) (wh0 : Nat → Int) (i : Nat) (w w0 : World) (h : St f w w0 Q C S P p cap l l0 wh0) (hP : P ≤ 1024) (hi : i < l.length) (ha : Dn l0 i) :
    Calls Try.prog 61 #[.pointer (some ⟨Q, 0, none⟩), .int .i64 i] w0 fun e w' => e = .returned (.tuple #[]) ∧ ∃ (l' : List T) (wh' : Nat → Int), Hp l' ∧ St f w w' Q C S P p cap l l' wh' := by
  have hn : l.length ≤ 1024 := by rw [← h.len]; exact Nat.le_trans h.wh.len hP
  have H0 := Lib.hid h
  have HA := Lib.hid ha
  obtain ⟨n, en⟩ : ∃ n, l.length = n := ⟨_, rfl⟩
  rw [en] at hi hn
  have HN := Lib.hid en
  have HC : Hid (∀ (l' : List T) wh' W, St f w W Q C S P p cap l l' wh' → W.cell? ⟨Q, 0, none⟩ = some (.slice p n cap)) := Lib.hid (fun l' wh' W h => by
    have := h.hm.head.1
    rw [h.len, HN.out] at this
    exact this)
  clear h ha en
  go_enter Try.func61, Try.ntmps61
  go_wp2
  go_step3
  go_wp2
  go_step3
  go_wp2
  go_loopw [1] (fun v wr => ∃ (k : Nat) (l' : List T) (wh' : Nat → Int), v = .int .i64 k ∧ k < n ∧ Dn l' k ∧ St f w wr Q C S P p cap l l' wh') (fun v _ => n - (intOf v).toNat)
  case atStart => exact ⟨i, l0, wh0, rfl, hi, HA.out, H0.out⟩
  case round =>
    obtain ⟨k, l', wh', rfl, hk, hdn, hst⟩ := hrel
    have HD := Lib.hid hdn
    have HS := Lib.hid hst
    clear hdn hst HA H0 hi
    go_wp2
    go_loopw [4, 5] (fun u v wr => ∃ (fi b : Nat), u = .int .i64 fi ∧ v = .int .i64 b ∧ b ≤ 2 * k + 3 ∧ Fi l' n k fi b ∧ St f w wr Q C S P p cap l l' wh') (fun _ v _ => 2 * k + 3 - (intOf v).toNat)
    case atStart => exact ⟨k, 2 * k + 1, rfl, by go_num, by omega, Fi.start hk, HS.out⟩
    case round =>
      obtain ⟨fi, b, rfl, rfl, hb3, hfi, hst⟩ := hrel
      have HF := Lib.hid hfi
      have HS2 := Lib.hid hst
      have c0 := HC.out _ _ _ hst
      have hfn := hfi.lt_
      clear hfi hst HS
      by_cases h1 : b ≤ 2 * k + 2
      · by_cases h2 : b < n
        · have KB := Lib.hid (fun W (h : St f w W Q C S P p cap l l' wh') => h.before (i := b) (j := fi) (by rw [HN.out]; omega) (by rw [HN.out]; omega))
          cases hb : lt (gt l' b) (gt l' fi) with
          | false =>
            rw [hb] at KB
            have HF2 := Lib.hid (HF.out.keep h1 hb)
            clear hb
            go_wp2_with fail
            with_reducible refine (KB.out _ HS2.out).mono ?_
            rintro e w1 ⟨rfl, hs1⟩
            have HS1 := Lib.hid hs1
            clear hs1 c0
            go_wp2
            go_roundw
            case rel => exact ⟨fi, b + 1, rfl, by go_num, by omega, HF2.out, HS1.out⟩
            case measure => simp [intOf]; omega
          | true =>
            rw [hb] at KB
            have HF2 := Lib.hid (HF.out.turn h1 h2 hb)
            clear hb
            go_wp2_with fail
            with_reducible refine (KB.out _ HS2.out).mono ?_
            rintro e w1 ⟨rfl, hs1⟩
            have HS1 := Lib.hid hs1
            clear hs1 c0
            go_wp2
            go_roundw
            case rel => exact ⟨b, b + 1, rfl, by go_num, by omega, HF2.out, HS1.out⟩
            case measure => simp [intOf]; omega
        · have HE := Lib.hid (HF.out.all (fun e => h2 e.2))
          by_cases e : fi = k
          · subst e
            have HH : Hid (Hp l') := Lib.hid (HD.out.done (fun m m0 m1 m2 => HE.out m m0 (by rw [HS2.out.len, HN.out] at m1; exact m1) m2))
            go_wp2
            try rw [Exit.noGoto_normal]
            go_end0
            exact ⟨rfl, l', wh', HH.out, HS2.out⟩
          · have hr : 0 < fi ∧ par fi = k ∧ lt (gt l' fi) (gt l' k) = true := by
              rcases HF.out.is_ with e2 | e2
              · exact absurd e2 e
              · exact e2
            have hlt : k < fi := by rw [← hr.2.1]; exact par_lt hr.1
            have HD2 : Hid (Dn (swp l' k fi) fi) := Lib.hid (HD.out.down (by rw [HS2.out.len, HN.out]; exact hfn) hr.1 hr.2.1 hr.2.2 (fun m m0 m1 m2 => HE.out m m0 (by rw [HS2.out.len, HN.out] at m1; exact m1) m2))
            have KS := Lib.hid (fun W (h : St f w W Q C S P p cap l l' wh') => h.swap (i := k) (j := fi) (by rw [HN.out]; omega) (by rw [HN.out]; omega))
            have e2 : ((fi : Int) == (k : Int)) = false := by simp; omega
            clear hr e
            go_wp2_with fail
            with_reducible refine (KS.out _ HS2.out).mono ?_
            rintro e w1 ⟨rfl, wh2, hs1⟩
            have HS1 := Lib.hid hs1
            clear hs1 c0
            go_wp2
            go_roundw
            case rel => exact ⟨fi, _, wh2, rfl, hfn, HD2.out, HS1.out⟩
            case measure => simp [intOf]; omega
      · have HE := Lib.hid (HF.out.all (fun e => h1 e.1))
        by_cases e : fi = k
        · subst e
          have HH : Hid (Hp l') := Lib.hid (HD.out.done (fun m m0 m1 m2 => HE.out m m0 (by rw [HS2.out.len, HN.out] at m1; exact m1) m2))
          go_wp2
          try rw [Exit.noGoto_normal]
          go_end0
          exact ⟨rfl, l', wh', HH.out, HS2.out⟩
        · have hr : 0 < fi ∧ par fi = k ∧ lt (gt l' fi) (gt l' k) = true := by
            rcases HF.out.is_ with e2 | e2
            · exact absurd e2 e
            · exact e2
          have hlt : k < fi := by rw [← hr.2.1]; exact par_lt hr.1
          have HD2 : Hid (Dn (swp l' k fi) fi) := Lib.hid (HD.out.down (by rw [HS2.out.len, HN.out]; exact hfn) hr.1 hr.2.1 hr.2.2 (fun m m0 m1 m2 => HE.out m m0 (by rw [HS2.out.len, HN.out] at m1; exact m1) m2))
          have KS := Lib.hid (fun W (h : St f w W Q C S P p cap l l' wh') => h.swap (i := k) (j := fi) (by rw [HN.out]; omega) (by rw [HN.out]; omega))
          have e2 : ((fi : Int) == (k : Int)) = false := by simp; omega
          clear hr e
          go_wp2_with fail
          with_reducible refine (KS.out _ HS2.out).mono ?_
          rintro e w1 ⟨rfl, wh2, hs1⟩
          have HS1 := Lib.hid hs1
          clear hs1 c0
          go_wp2
          go_roundw
          case rel => exact ⟨fi, _, wh2, rfl, hfn, HD2.out, HS1.out⟩
          case measure => simp [intOf]; omega
theorem settle_any (f : Nat → Prop) (Q C S P : Nat) (p : Option Addr) (cap : Nat) (l : List T) (wh : Nat → Int) (i : Nat) (w : World) (h : Hm f w Q C S P p cap l wh) (hw : Wh P l wh) (hP : P ≤ 1024) (hi : i < l.length) (ha : Al l i) :
    Calls Try.prog 48 #[.pointer (some ⟨Q, 0, none⟩), .int .i64 i] w fun e w' => e = .returned (.tuple #[]) ∧ ∃ (l' : List T) (wh' : Nat → Int), Hp l' ∧ St f w w' Q C S P p cap l l' wh' := by
  have K1 := Lib.hid (up_any f Q C S P p cap l wh i w h hw hP hi ha)
  have K2 := Lib.hid (fun (k : Nat) (l0 : List T) wh0 w0 (h : St f w w0 Q C S P p cap l l0 wh0) (hk : k < l.length) (hd : Dn l0 k) => down_any f Q C S P p cap l l0 wh0 k w w0 h hP hk hd)
  clear h hw hi ha
  go_enter Try.func48, Try.ntmps48
  go_wp2_with fail
  with_reducible refine (K1.out).mono ?_
  rintro e w1 ⟨k, l', wh', rfl, hk, hd, hs⟩
  have K3 := Lib.hid (K2.out k l' wh' w1 hs hk hd)
  clear hk hd hs
  go_wp2_with fail
  with_reducible refine (K3.out).mono ?_
  rintro e w2 ⟨rfl, l2, wh2, hh, hs⟩
  have HH := Lib.hid hh
  have HS := Lib.hid hs
  clear hh hs
  go_wp2
  go_end0
  exact ⟨rfl, l2, wh2, HH.out, HS.out⟩
end Go.Proofs.Ytaabalkfpjeheaa
