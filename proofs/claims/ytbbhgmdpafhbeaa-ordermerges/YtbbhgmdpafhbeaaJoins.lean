/-
  Contract of the closure that merges lists two and two, of any number of lists.
-/
import Derived.Test.YtbbhgmdpafhbeaaJoin
import Derived.Test.YtbbhgmdpafhbeaaEach
namespace Go.Proofs.Ytbbhgmdpafhbeaa
open Go.RowKit
theorem allSo_parts (ls : List (List T)) (h : Nat) : AllSo ls ↔ AllSo (ls.take h) ∧ AllSo (ls.drop h) := by
  constructor
  · exact fun k => ⟨fun l hl => k l (List.mem_of_mem_take hl), fun l hl => k l (List.mem_of_mem_drop hl)⟩
  · rintro ⟨k1, k2⟩ l hl
    rw [← List.take_append_drop h ls] at hl
    rcases List.mem_append.1 hl with hl | hl
    · exact k1 l hl
    · exact k2 l hl
theorem flat_parts (ls : List (List T)) (h : Nat) : (ls.take h).flatten ++ (ls.drop h).flatten = ls.flatten := by
  rw [← List.flatten_append, List.take_append_drop]
/-- The closure's own value. -/
abbrev me (J : Nat) : Value := .func (.func 28) #[] #[.pointer (some ⟨J, 0, none⟩)]
theorem heldJ {w w1 w2 : World} {J : Nat} {v : Value} (k : Bel w1 w2) (h : Bel w w1 ∧ w1.cell? ⟨J, 0, none⟩ = some v) : Bel w w2 ∧ w2.cell? ⟨J, 0, none⟩ = some v := ⟨h.1.trans k, k.cell h.2⟩
set_option maxHeartbeats 2000000 in
theorem join_yes (b off m c J h : Nat) (A B : List T) (w : World) (hh : (m : Int).tdiv 2 = h) (h1 : 1 ≤ h) (h2 : h < m) (hm : m ≤ c) (hm2 : m ≤ 1000) (hs : A.length + B.length ≤ 1000) (hJ : w.cell? ⟨J, 0, none⟩ = some (me J))
    (KL : Hid (∀ w' k, Bel w w' → h ≤ k → Calls Try.prog 28 #[.slice (some ⟨b, off, none⟩) h k, .pointer (some ⟨J, 0, none⟩)] w' fun e w2 => Out w2 e A ∧ Bel w' w2))
    (KR : Hid (∀ w' k, Bel w w' → m - h ≤ k → Calls Try.prog 28 #[.slice (some ⟨b, off + h, none⟩) (m - h) k, .pointer (some ⟨J, 0, none⟩)] w' fun e w2 => Out w2 e B ∧ Bel w' w2)) :
    Calls Try.prog 28 #[.slice (some ⟨b, off, none⟩) m c, .pointer (some ⟨J, 0, none⟩)] w fun e w' => Out w' e (mrg A B) ∧ Bel w w' := by
  have e0 : ((m : Int) == 0) = false := by simp; omega
  have e1 : ((m : Int) == 1) = false := by simp; omega
  have b0 : (0 : Int) ≤ (h : Int) := by omega
  have b1 : (h : Int) ≤ (m : Int) := by omega
  have b2 : (h : Int) ≤ (c : Int) := by omega
  have b3 : (m : Int) ≤ (c : Int) := by omega
  have b4 : ¬ c = h := by omega
  have b5 : IntKind.i64.wrap (h : Int) = h := i64_in _ (by omega) (by omega)
  go_enter Try.func28, Try.ntmps28
  go_wp2
  go_region_held3 (fun w' => Bel w w' ∧ w'.cell? ⟨J, 0, none⟩ = some (me J)) (first | exact ⟨(Bel.refl w).drew, hJ⟩ | exact heldJ hg1 ‹_› | exact heldJ hg2 ‹_› | exact heldJ hg3 ‹_›)
    (first | (go_at_call 28; (with_reducible refine (KL.out _ _ (And.left (by assumption)) (by omega)).mono ?_); rintro e w2 ⟨⟨pA, cA, rfl, hcA, hA⟩, hg1⟩) | (go_at_call 28; (with_reducible refine (KR.out _ _ (And.left (by assumption)) (by omega)).mono ?_); rintro e w3 ⟨⟨pB, cB, rfl, hcB, hB⟩, hg2⟩) | (go_at_call 30; refine (both_any pA pB A.length B.length cA cB A B _ rfl rfl hcA hcB hs (hA.bel hg2) hB).mono ?_; rintro e w4 ⟨hout, hg3⟩; obtain ⟨pO, cO, rfl, hcO, hO⟩ := hout))
  have HB : Hid (Bel w w4) := Lib.hid ((((Bel.refl w).drew.trans hg1).trans hg2).trans hg3)
  have HO := Lib.hid hO
  clear hg1 hg2 hg3 hA hB hO
  go_wp2
  go_ret
  exact ⟨⟨pO, cO, rfl, hcO, HO.out⟩, HB.out⟩
set_option maxHeartbeats 2000000 in
theorem join_left (b off m c J h : Nat) (w : World) (hh : (m : Int).tdiv 2 = h) (h1 : 1 ≤ h) (h2 : h < m) (hm : m ≤ c) (hm2 : m ≤ 1000) (hJ : w.cell? ⟨J, 0, none⟩ = some (me J))
    (KL : Hid (∀ w' k, Bel w w' → h ≤ k → Calls Try.prog 28 #[.slice (some ⟨b, off, none⟩) h k, .pointer (some ⟨J, 0, none⟩)] w' fun e w2 => e = .panicked boom ∧ Bel w' w2)) :
    Calls Try.prog 28 #[.slice (some ⟨b, off, none⟩) m c, .pointer (some ⟨J, 0, none⟩)] w fun e w' => e = .panicked boom ∧ Bel w w' := by
  have e0 : ((m : Int) == 0) = false := by simp; omega
  have e1 : ((m : Int) == 1) = false := by simp; omega
  have b0 : (0 : Int) ≤ (h : Int) := by omega
  have b1 : (h : Int) ≤ (m : Int) := by omega
  have b2 : (h : Int) ≤ (c : Int) := by omega
  have b3 : (m : Int) ≤ (c : Int) := by omega
  have b4 : ¬ c = h := by omega
  have b5 : IntKind.i64.wrap (h : Int) = h := i64_in _ (by omega) (by omega)
  have J0 := Lib.hid hJ
  go_enter Try.func28, Try.ntmps28
  go_wp2
  refine wp_region_each (RK [(.val (me J)), (.val (.slice (some ⟨b, off, none⟩) m c)), (.val (.int .i64 h)), (.val (.slice (some ⟨b, off, none⟩) h c)), .never, (.val (me J)), (.val (.slice (some ⟨b, off, none⟩) m c)), (.val (.int .i64 h)), (.val (.slice (some ⟨b, off + h, none⟩) (m - h) (c - h))), .never, .never, .never]) (by kernel_rfl) (RK_mono _) rfl rfl ⟨?_, ?_, ?_, ?_, ?_, ?_, ?_, ?_, ?_, ?_, ?_, ?_, trivial⟩ (fun a' w' _ _ _ hall => (got_never (hall 9 (by decide)) rfl).elim)
  · intro a' w' hb hd hB H
    have h1 : a'.tmps[1]? = some (.pointer (some ⟨J, 0, none⟩)) := (hB 1 rfl).trans rfl
    have hc := hb.cell (p := ⟨J, 0, none⟩) J0.out
    exact pay_same (v := me J) rfl (by simp [execOp, go_sem, h1, hc]) rfl
  · intro a' w' hb hd hB H
    have h0 : a'.tmps[0]? = some (.slice (some ⟨b, off, none⟩) m c) := (hB 0 rfl).trans rfl
    exact pay_same (v := (.slice (some ⟨b, off, none⟩) m c)) rfl (by simp [execOp, go_sem, h0]) rfl
  · intro a' w' hb hd hB H
    have h4 : a'.tmps[4]? = some (.int .i64 h) := (hB 4 rfl).trans rfl
    exact pay_same (v := (.int .i64 h)) rfl (by simp [execOp, go_sem, h4]) rfl
  · intro a' w' hb hd hB H
    have h20 := got (d := 20) (c := .slice (some ⟨b, off, none⟩) m c) (H 1 rfl) rfl rfl
    have h21 := got (d := 21) (c := .int .i64 h) (H 2 rfl) rfl rfl
    exact pay_same (v := .slice (some ⟨b, off, none⟩) h c) rfl (by simp [execOp, go_sem, h20, h21, b0, b2]) rfl
  · intro a' w' hb hd hB H
    have h19 := got (d := 19) (c := me J) (H 0 rfl) rfl rfl
    have h22 := got (d := 22) (c := .slice (some ⟨b, off, none⟩) h c) (H 3 rfl) rfl rfl
    exact pay_panic (f := 28) (args := #[.slice (some ⟨b, off, none⟩) h c, .pointer (some ⟨J, 0, none⟩)]) (ch := boom) rfl (by simp [execOp, go_sem, h19, h22]) ((KL.out w' c ((Bel.refl w).drew.trans hb) (by omega)).mono fun e w2 ⟨he, hg⟩ => ⟨he, hd, rfl, ((Bel.refl w).drew.trans hb).trans hg⟩)
  · intro a' w' hb hd hB H
    have h1 : a'.tmps[1]? = some (.pointer (some ⟨J, 0, none⟩)) := (hB 1 rfl).trans rfl
    have hc := hb.cell (p := ⟨J, 0, none⟩) J0.out
    exact pay_same (v := me J) rfl (by simp [execOp, go_sem, h1, hc]) rfl
  · intro a' w' hb hd hB H
    have h0 : a'.tmps[0]? = some (.slice (some ⟨b, off, none⟩) m c) := (hB 0 rfl).trans rfl
    exact pay_same (v := (.slice (some ⟨b, off, none⟩) m c)) rfl (by simp [execOp, go_sem, h0]) rfl
  · intro a' w' hb hd hB H
    have h4 : a'.tmps[4]? = some (.int .i64 h) := (hB 4 rfl).trans rfl
    exact pay_same (v := (.int .i64 h)) rfl (by simp [execOp, go_sem, h4]) rfl
  · intro a' w' hb hd hB H
    have h25 := got (d := 25) (c := .slice (some ⟨b, off, none⟩) m c) (H 6 rfl) rfl rfl
    have h26 := got (d := 26) (c := .int .i64 h) (H 7 rfl) rfl rfl
    exact pay_same (v := .slice (some ⟨b, off + h, none⟩) (m - h) (c - h)) rfl (by simp [execOp, go_sem, h25, h26, b0, b1, b4]) rfl
  · intro a' w' hb hd hB H
    exact (got_never (H 4 rfl) rfl).elim
  · intro a' w' hb hd hB H
    exact (got_never (H 9 rfl) rfl).elim
  · intro a' w' hb hd hB H
    exact (got_never (H 10 rfl) rfl).elim
set_option maxHeartbeats 4000000 in
theorem join_right (b off m c J h : Nat) (A : List T) (w : World) (hh : (m : Int).tdiv 2 = h) (h1 : 1 ≤ h) (h2 : h < m) (hm : m ≤ c) (hm2 : m ≤ 1000) (hJ : w.cell? ⟨J, 0, none⟩ = some (me J))
    (KL : Hid (∀ w' k, Bel w w' → h ≤ k → Calls Try.prog 28 #[.slice (some ⟨b, off, none⟩) h k, .pointer (some ⟨J, 0, none⟩)] w' fun e w2 => Out w2 e A ∧ Bel w' w2))
    (KR : Hid (∀ w' k, Bel w w' → m - h ≤ k → Calls Try.prog 28 #[.slice (some ⟨b, off + h, none⟩) (m - h) k, .pointer (some ⟨J, 0, none⟩)] w' fun e w2 => e = .panicked boom ∧ Bel w' w2)) :
    Calls Try.prog 28 #[.slice (some ⟨b, off, none⟩) m c, .pointer (some ⟨J, 0, none⟩)] w fun e w' => e = .panicked boom ∧ Bel w w' := by
  have e0 : ((m : Int) == 0) = false := by simp; omega
  have e1 : ((m : Int) == 1) = false := by simp; omega
  have b0 : (0 : Int) ≤ (h : Int) := by omega
  have b1 : (h : Int) ≤ (m : Int) := by omega
  have b2 : (h : Int) ≤ (c : Int) := by omega
  have b3 : (m : Int) ≤ (c : Int) := by omega
  have b4 : ¬ c = h := by omega
  have b5 : IntKind.i64.wrap (h : Int) = h := i64_in _ (by omega) (by omega)
  have J0 := Lib.hid hJ
  go_enter Try.func28, Try.ntmps28
  go_wp2
  refine wp_region_each (RK [(.val (me J)), (.val (.slice (some ⟨b, off, none⟩) m c)), (.val (.int .i64 h)), (.val (.slice (some ⟨b, off, none⟩) h c)), .some, (.val (me J)), (.val (.slice (some ⟨b, off, none⟩) m c)), (.val (.int .i64 h)), (.val (.slice (some ⟨b, off + h, none⟩) (m - h) (c - h))), .never, .never, .never]) (by kernel_rfl) (RK_mono _) rfl rfl ⟨?_, ?_, ?_, ?_, ?_, ?_, ?_, ?_, ?_, ?_, ?_, ?_, trivial⟩ (fun a' w' _ _ _ hall => (got_never (hall 9 (by decide)) rfl).elim)
  · intro a' w' hb hd hB H
    have h1 : a'.tmps[1]? = some (.pointer (some ⟨J, 0, none⟩)) := (hB 1 rfl).trans rfl
    have hc := hb.cell (p := ⟨J, 0, none⟩) J0.out
    exact pay_same (v := me J) rfl (by simp [execOp, go_sem, h1, hc]) rfl
  · intro a' w' hb hd hB H
    have h0 : a'.tmps[0]? = some (.slice (some ⟨b, off, none⟩) m c) := (hB 0 rfl).trans rfl
    exact pay_same (v := (.slice (some ⟨b, off, none⟩) m c)) rfl (by simp [execOp, go_sem, h0]) rfl
  · intro a' w' hb hd hB H
    have h4 : a'.tmps[4]? = some (.int .i64 h) := (hB 4 rfl).trans rfl
    exact pay_same (v := (.int .i64 h)) rfl (by simp [execOp, go_sem, h4]) rfl
  · intro a' w' hb hd hB H
    have h20 := got (d := 20) (c := .slice (some ⟨b, off, none⟩) m c) (H 1 rfl) rfl rfl
    have h21 := got (d := 21) (c := .int .i64 h) (H 2 rfl) rfl rfl
    exact pay_same (v := .slice (some ⟨b, off, none⟩) h c) rfl (by simp [execOp, go_sem, h20, h21, b0, b2]) rfl
  · intro a' w' hb hd hB H
    have h19 := got (d := 19) (c := me J) (H 0 rfl) rfl rfl
    have h22 := got (d := 22) (c := .slice (some ⟨b, off, none⟩) h c) (H 3 rfl) rfl rfl
    exact pay_call (f := 28) (args := #[.slice (some ⟨b, off, none⟩) h c, .pointer (some ⟨J, 0, none⟩)]) rfl (by simp [execOp, go_sem, h19, h22]) ((KL.out w' c ((Bel.refl w).drew.trans hb) (by omega)).mono fun e w2 ⟨⟨p, k, he, _, _⟩, hg⟩ => ⟨_, he, trivial, hg⟩)
  · intro a' w' hb hd hB H
    have h1 : a'.tmps[1]? = some (.pointer (some ⟨J, 0, none⟩)) := (hB 1 rfl).trans rfl
    have hc := hb.cell (p := ⟨J, 0, none⟩) J0.out
    exact pay_same (v := me J) rfl (by simp [execOp, go_sem, h1, hc]) rfl
  · intro a' w' hb hd hB H
    have h0 : a'.tmps[0]? = some (.slice (some ⟨b, off, none⟩) m c) := (hB 0 rfl).trans rfl
    exact pay_same (v := (.slice (some ⟨b, off, none⟩) m c)) rfl (by simp [execOp, go_sem, h0]) rfl
  · intro a' w' hb hd hB H
    have h4 : a'.tmps[4]? = some (.int .i64 h) := (hB 4 rfl).trans rfl
    exact pay_same (v := (.int .i64 h)) rfl (by simp [execOp, go_sem, h4]) rfl
  · intro a' w' hb hd hB H
    have h25 := got (d := 25) (c := .slice (some ⟨b, off, none⟩) m c) (H 6 rfl) rfl rfl
    have h26 := got (d := 26) (c := .int .i64 h) (H 7 rfl) rfl rfl
    exact pay_same (v := .slice (some ⟨b, off + h, none⟩) (m - h) (c - h)) rfl (by simp [execOp, go_sem, h25, h26, b0, b1, b4]) rfl
  · intro a' w' hb hd hB H
    have h24 := got (d := 24) (c := me J) (H 5 rfl) rfl rfl
    have h27 := got (d := 27) (c := .slice (some ⟨b, off + h, none⟩) (m - h) (c - h)) (H 8 rfl) rfl rfl
    exact pay_panic (f := 28) (args := #[.slice (some ⟨b, off + h, none⟩) (m - h) (c - h), .pointer (some ⟨J, 0, none⟩)]) (ch := boom) rfl (by simp [execOp, go_sem, h24, h27]) ((KR.out w' (c - h) ((Bel.refl w).drew.trans hb) (by omega)).mono fun e w2 ⟨he, hg⟩ => ⟨he, hd, rfl, ((Bel.refl w).drew.trans hb).trans hg⟩)
  · intro a' w' hb hd hB H
    exact (got_never (H 9 rfl) rfl).elim
  · intro a' w' hb hd hB H
    exact (got_never (H 10 rfl) rfl).elim
theorem half_of (m : Nat) : (m : Int).tdiv 2 = ((m / 2 : Nat) : Int) := by
  rw [Int.tdiv_eq_ediv_of_nonneg (by omega)]; omega
theorem flat_len_le (ls : List (List T)) (h : Nat) : (ls.take h).flatten.length ≤ ls.flatten.length ∧ (ls.drop h).flatten.length ≤ ls.flatten.length ∧ (ls.take h).flatten.length + (ls.drop h).flatten.length = ls.flatten.length := by
  have e := congrArg List.length (flat_parts ls h)
  rw [List.length_append] at e
  omega
theorem join_all (J : Nat) : ∀ (N : Nat) (ls : List (List T)) (q : Option Addr) (m c : Nat) (w : World), m ≤ N → ls.length = m → m ≤ c → m ≤ 1000 → ls.flatten.length ≤ 1000 → HasL w q ls → w.cell? ⟨J, 0, none⟩ = some (me J) →
    Calls Try.prog 28 #[.slice q m c, .pointer (some ⟨J, 0, none⟩)] w (JoinPost ls w)
  | N, ls, q, m, c, w, hN, hlen, hmc, hm, hf, hl, hJ => by
    by_cases z : m = 0
    · subst z
      obtain rfl := List.eq_nil_of_length_eq_zero hlen
      exact join_zero q c J w
    obtain ⟨b, off, rfl, hr⟩ := hl.row (by omega)
    by_cases o : m = 1
    · subst o
      obtain ⟨l, rfl⟩ := List.length_eq_one_iff.1 hlen
      exact join_one b off c J l w (by simpa using hf) hr
    match N, hN with
    | 0, hN => omega
    | N + 1, hN =>
      obtain ⟨h, hh⟩ : ∃ h, m / 2 = h := ⟨_, rfl⟩
      have ht : (m : Int).tdiv 2 = h := by rw [half_of, hh]
      have h1 : 1 ≤ h := by omega
      have h2 : h < m := by omega
      have lt1 : (ls.take h).length = h := by simp; omega
      have ld1 : (ls.drop h).length = m - h := by simp; omega
      have fl := flat_len_le ls h
      have KL : ∀ w' k, Bel w w' → h ≤ k → Calls Try.prog 28 #[.slice (some ⟨b, off, none⟩) h k, .pointer (some ⟨J, 0, none⟩)] w' (JoinPost (ls.take h) w') := fun w' k hb hk =>
        join_all J N (ls.take h) _ h k w' (by omega) lt1 hk (by omega) (by omega) (.inr ⟨b, off, rfl, (hr.bel hb).take h⟩) (hb.cell hJ)
      have KR : ∀ w' k, Bel w w' → m - h ≤ k → Calls Try.prog 28 #[.slice (some ⟨b, off + h, none⟩) (m - h) k, .pointer (some ⟨J, 0, none⟩)] w' (JoinPost (ls.drop h) w') := fun w' k hb hk =>
        join_all J N (ls.drop h) _ (m - h) k w' (by omega) ld1 hk (by omega) (by omega) (.inr ⟨b, off + h, rfl, (hr.bel hb).drop h⟩) (hb.cell hJ)
      by_cases sl : AllSo (ls.take h)
      · have KL2 : Hid (∀ w' k, Bel w w' → h ≤ k → Calls Try.prog 28 #[.slice (some ⟨b, off, none⟩) h k, .pointer (some ⟨J, 0, none⟩)] w' fun e w2 => Out w2 e (srt (ls.take h).flatten) ∧ Bel w' w2) :=
          Lib.hid (fun w' k hb hk => (KL w' k hb hk).mono fun e w2 hp => ⟨hp.2.1 sl, hp.1⟩)
        by_cases sr : AllSo (ls.drop h)
        · have KR2 : Hid (∀ w' k, Bel w w' → m - h ≤ k → Calls Try.prog 28 #[.slice (some ⟨b, off + h, none⟩) (m - h) k, .pointer (some ⟨J, 0, none⟩)] w' fun e w2 => Out w2 e (srt (ls.drop h).flatten) ∧ Bel w' w2) :=
            Lib.hid (fun w' k hb hk => (KR w' k hb hk).mono fun e w2 hp => ⟨hp.2.1 sr, hp.1⟩)
          have K := join_yes b off m c J h _ _ w ht h1 h2 hmc hm (by rw [srt_len, srt_len]; omega) hJ KL2 KR2
          rw [mrg_srt2, flat_parts] at K
          exact K.mono fun e w' ⟨ho, hb⟩ => ⟨hb, fun _ => ho, fun hn => absurd ((allSo_parts ls h).2 ⟨sl, sr⟩) hn⟩
        · have KR2 : Hid (∀ w' k, Bel w w' → m - h ≤ k → Calls Try.prog 28 #[.slice (some ⟨b, off + h, none⟩) (m - h) k, .pointer (some ⟨J, 0, none⟩)] w' fun e w2 => e = .panicked boom ∧ Bel w' w2) :=
            Lib.hid (fun w' k hb hk => (KR w' k hb hk).mono fun e w2 hp => ⟨hp.2.2 sr, hp.1⟩)
          have K := join_right b off m c J h _ w ht h1 h2 hmc hm hJ KL2 KR2
          exact K.mono fun e w' ⟨ho, hb⟩ => ⟨hb, fun ha => absurd ((allSo_parts ls h).1 ha).2 sr, fun _ => ho⟩
      · have KL2 : Hid (∀ w' k, Bel w w' → h ≤ k → Calls Try.prog 28 #[.slice (some ⟨b, off, none⟩) h k, .pointer (some ⟨J, 0, none⟩)] w' fun e w2 => e = .panicked boom ∧ Bel w' w2) :=
          Lib.hid (fun w' k hb hk => (KL w' k hb hk).mono fun e w2 hp => ⟨hp.2.2 sl, hp.1⟩)
        have K := join_left b off m c J h w ht h1 h2 hmc hm hJ KL2
        exact K.mono fun e w' ⟨ho, hb⟩ => ⟨hb, fun ha => absurd ((allSo_parts ls h).1 ha).1 sl, fun _ => ho⟩
end Go.Proofs.Ytbbhgmdpafhbeaa
