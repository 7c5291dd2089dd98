/-
  The walk of SlabLast.
-/
import Derived.Test.YtlohpccfanmiiaaLawF
namespace Go.Proofs.Ytlohpccfanmiiaa
open Go.RowKit
theorem last_dead {S : St} {j : Nat} {g : Int} (h : S.tk[j]? = some ⟨g, true⟩) : lv (freeS S j g) ⟨j, g⟩ = false := by
  rw [Bool.eq_false_iff]
  intro e
  unfold freeS at e
  rw [lv_set S j _ _ _ h] at e
  rcases e with ⟨_, e⟩ | ⟨e, _⟩
  · injection e with _ e
    cases e
  · exact e rfl
theorem last_len {S : St} {j : Nat} {g : Int} (h : S.tk[j]? = some ⟨g, true⟩) : lenS (freeS S j g) + 1 = lenS S := by
  have := lenS_set S j ⟨g, true⟩ ⟨g, false⟩ (if g < S.gn then S.fr ++ [(j : Int)] else S.fr) h
  simp at this
  unfold freeS
  omega
theorem last_worn {S : St} {j : Nat} {g : Int} (h : S.tk[j]? = some ⟨g, true⟩) (hg : g = S.gn) : leftS (freeS S j g) = leftS S ∧ wornS (freeS S j g) = wornS S + 1 := by
  have h1 := last_len h
  have h2 : leftS (freeS S j g) = leftS S := by
    unfold leftS freeS
    simp only [List.length_set]
    rw [if_neg (by omega)]
  refine ⟨h2, ?_⟩
  have h3 : (freeS S j g).pl = S.pl := rfl
  unfold wornS
  rw [h2, h3]
  omega
/-- The same, one gen further. -/
def againS (S : St) (j : Nat) (g : Int) : St := { S with tk := S.tk.set j ⟨g + 1, true⟩ }
theorem last_again {S : St} {j : Nat} {g : Int} (h : S.tk[j]? = some ⟨g, true⟩) (hg : g < S.gn) : takeS (freeS S j g) = (⟨j, g + 1⟩, 0, againS S j g) := by
  have h1 : (freeS S j g).fr = S.fr ++ [(j : Int)] := by unfold freeS; simp [hg]
  have h2 : (freeS S j g).tk[j]? = some ⟨g, false⟩ := by
    unfold freeS
    simp only
    rw [set_get S.tk j _ _ j h, if_pos rfl]
  rw [takeS_freed h1 h2]
  unfold againS freeS
  simp only [List.set_set]
theorem last_same {S : St} {j : Nat} {g : Int} (h : S.tk[j]? = some ⟨g, true⟩) : leftS (againS S j g) = leftS S ∧ wornS (againS S j g) = wornS S := by
  have h1 := lenS_set S j ⟨g, true⟩ ⟨g + 1, true⟩ S.fr h
  simp at h1
  have h1 : lenS (againS S j g) = lenS S := h1
  have h2 : leftS (againS S j g) = leftS S := by unfold leftS againS; simp only [List.length_set]
  refine ⟨h2, ?_⟩
  have h3 : (againS S j g).pl = S.pl := rfl
  unfold wornS
  rw [h2, h3, h1]
set_option maxRecDepth 100000 in
theorem last_law_long (P G : Int) (pa : Option Addr) (N ca : Nat) (nn : Int) (w : World) (h : 60 < N) :
    Calls Try.prog 5 #[.int .i64 P, .int .i64 G, .slice pa N ca, .int .i64 nn] w fun e w' => e = .returned (.bool true) ∧ Bel w w' := by
  have h' : (60 : Int) < N := by omega
  go_enter Try.func5, Try.ntmps5
  go_wp2_with fail
  with_reducible refine (works_any _).mono ?_
  rintro e w1 ⟨rfl, hb⟩
  go_wp2
  go_ret
  exact ⟨rfl, hb⟩
set_option maxRecDepth 100000 in
theorem last_law_no (P G : Int) (pa : Option Addr) (N ca : Nat) (nn : Int) (w : World) (h : N ≤ 60) (hP : ¬ (0 ≤ P ∧ P ≤ 1024 ∧ 1 ≤ G ∧ G ≤ 65535)) :
    Calls Try.prog 5 #[.int .i64 P, .int .i64 G, .slice pa N ca, .int .i64 nn] w fun e w' => e = .returned (.bool true) ∧ Bel w w' := by
  have h' : ¬ (60 : Int) < N := by omega
  have K1 := Lib.hid (fun w => new_no P G w hP)
  clear hP
  go_enter Try.func5, Try.ntmps5
  go_wp2_with fail
  with_reducible refine (works_any _).mono ?_
  rintro e w1 ⟨rfl, hb⟩
  have HB := Lib.hid hb
  clear hb
  go_wp2_with fail
  with_reducible refine (K1.out _).mono ?_
  rintro e w2 ⟨rfl, rfl⟩
  go_wp2
  go_ret
  exact ⟨rfl, HB.out⟩
/-- What holds at each round's head. -/
structure LI (w1 : World) (B : Nat) (G : Int) (f : Nat → Prop) (S : St) (p : Option Addr) (n c : Nat) (tk : List Hd) (w : World) : Prop where
  way : Way w1 B f S w
  wf : Wf S
  gn : S.gn = G
  tkn : Tkn w1 f w p n c tk
theorem LI.bel {w1 : World} {B : Nat} {G : Int} {f : Nat → Prop} {S : St} {p : Option Addr} {n c : Nat} {tk : List Hd} {w w' : World} (h : LI w1 B G f S p n c tk w) (k : Bel w w') : LI w1 B G f S p n c tk w' := ⟨h.way.bel k, h.wf, h.gn, h.tkn.bel k⟩
set_option maxHeartbeats 4000000 in
set_option maxRecDepth 100000 in
theorem last_law_yes (P G : Int) (pa : Option Addr) (N ca : Nat) (l : List Ac) (nn : Int) (w : World) (h : N ≤ 60) (hl : l.length = N) (hA : Lies nof w pa (encA l)) (h0 : 0 ≤ P) (h1 : P ≤ 1024) (h2 : 1 ≤ G) (h3 : G ≤ 65535) :
    Calls Try.prog 5 #[.int .i64 P, .int .i64 G, .slice pa N ca, .int .i64 nn] w fun e w' => e = .returned (.bool true) ∧ Bel w w' := by
  have h' : ¬ (60 : Int) < N := by omega
  have HL := Lib.hid hl
  have HA0 := Lib.hid hA
  clear hl hA
  go_enter Try.func5, Try.ntmps5
  go_wp2_with fail
  with_reducible refine (works_any _).mono ?_
  rintro e w1 ⟨rfl, hb⟩
  have HB := Lib.hid hb
  have HA := Lib.hid (HA0.out.bel hb)
  clear hb
  go_wp2_with fail
  with_reducible refine (new_ok P G _ h0 h1 h2 h3).mono ?_
  rintro e w2 ⟨B, f, rfl, hS, hb, hf⟩
  have I2 : Hid (LI w1 B G f (newS P G) none 0 0 [] w2) := Lib.hid ⟨⟨hS, hb, hf⟩, wf_new P G h0 h1 h2 h3, rfl, Tkn.nil _ _ _⟩
  clear hS hb hf
  go_wp2
  go_loopw [12, 13] (fun o v wr => ∃ m : Nat, v = .int .i64 m ∧ m ≤ N ∧ ∃ f S p n c tk, o = .slice p n c ∧ n ≤ m ∧ LI w1 B G f S p n c tk wr) (fun _ v _ => N - (intOf v).toNat)
  case atStart => exact ⟨0, rfl, by omega, f, _, none, 0, 0, [], rfl, by omega, I2.out⟩
  case round =>
    clear I2
    obtain ⟨m, rfl, hi, f2, S2, p2, n2, c2, tk2, rfl, hn2, hI⟩ := hrel
    have HI := Lib.hid hI
    clear hI
    by_cases hlt : m < N
    · obtain ⟨b, off, rfl, _, hr⟩ := lies_ac HA.out (i := m) (by have := HL.out; omega)
      obtain ⟨a, ha⟩ : ∃ a, l[m]? = some a := ⟨_, List.getElem?_eq_getElem (by have := HL.out; omega)⟩
      obtain ⟨a0, a1, a2, a3⟩ := row_ac hr ha
      have a0 := HI.out.way.off.cell a0
      have a1 := HI.out.way.off.cell a1
      have a2 := HI.out.way.off.cell a2
      have a3 := HI.out.way.off.cell a3
      clear hr ha
      by_cases hk : a.k = 0
      · have hkd : (a.k == 0) = true := by simpa using hk
        clear hk
        obtain ⟨hp, hg, er, S3, hta⟩ : ∃ hp hg er S3, takeS S2 = (⟨hp, hg⟩, er, S3) := ⟨_, _, _, _, rfl⟩
        have hwf3 : Wf S3 := by have h1 := wf_take HI.out.wf; rw [hta] at h1; exact h1
        have hgn3 : S3.gn = G := by have h1 := pl_take HI.out.wf; rw [hta] at h1; rw [← HI.out.gn]; exact h1.2
        have herr : er = 0 ∨ er = 6 := by have h1 := take_err HI.out.wf; rw [hta] at h1; exact h1
        have HF3 := Lib.hid hta
        have HWf := Lib.hid hwf3
        have HGn := Lib.hid hgn3
        clear hta hwf3 hgn3
        go_wp2_with fail
        with_reducible refine (do_take HI.out.wf HF3.out B f2 _ HI.out.way.sl).mono ?_
        rintro e w3 ⟨rfl, f3, hs, hst⟩
        have W3 := Lib.hid ((HI.out.way.steps hs hst).bel ((Bel.refl w3).alloc #[.int .i64 hp, .int .i64 hg] 38))
        have T3 := Lib.hid ((HI.out.tkn.steps hst).bel ((Bel.refl w3).alloc #[.int .i64 hp, .int .i64 hg] 38))
        clear hs hst a0 a1 a2 a3
        rcases herr with rfl | rfl
        · go_wp2_with (at_builtin; refine wpList_append_keep el29 rfl (.tmp 65) (.tmp 67) rfl (.slice p2 n2 c2) n2 (encH tk2) rfl (own_bel T3.out.own ((Bel.refl _).alloc _ _)) (w3.heap.size + 1) 0 1 1 (encH [⟨hp, hg⟩]) rfl (by omega) rfl (row_hd1 _ ⟨hp, hg⟩ _ (by simp)) (encH_one _) (by omega) ?_)
          intro p3 c3 wh hown hgrow hnew _
          have hboth := push_both W3.out T3.out ⟨hp, hg⟩ hown hgrow (by simpa using hnew)
          have I3 : Hid (LI w1 B G f3 S3 p3 (n2 + 1) c3 (tk2 ++ [⟨hp, hg⟩]) wh) := Lib.hid ⟨hboth.1, HWf.out, HGn.out, hboth.2⟩
          clear hown hgrow hnew hboth
          go_wp2
          go_roundw
          case rel => exact ⟨m + 1, by go_num, by omega, f3, S3, p3, n2 + 1, c3, tk2 ++ [⟨hp, hg⟩], rfl, by omega, I3.out⟩
          case measure => simp [intOf]; omega
        · go_wp2
          go_roundw
          case rel => exact ⟨m + 1, by go_num, by omega, f3, S3, p2, n2, c2, tk2, rfl, by omega, ⟨W3.out, HWf.out, HGn.out, T3.out⟩⟩
          case measure => simp [intOf]; omega
      · have hkd : (a.k == 0) = false := by simpa using hk
        clear hk
        go_wp2_with fail
        with_reducible refine (handle_any a tk2 p2 n2 c2 _ HI.out.tkn.len HI.out.tkn.lies.2).mono ?_
        rintro e wa ⟨rfl, hb⟩
        have HIa := Lib.hid (HI.out.bel hb)
        clear hb a0 a1 a2 a3
        obtain ⟨q, hq⟩ : ∃ q, pickH a tk2 = q := ⟨_, rfl⟩
        rw [hq]
        clear hq
        go_wp2_with fail
        with_reducible refine (free_any B f2 S2 q _ HIa.out.way.sl HIa.out.wf).mono ?_
        rintro e w3 ⟨rfl, f3, hs, hst⟩
        have I3 : Hid (LI w1 B G f3 (freeA S2 q).2 p2 n2 c2 tk2 w3) := Lib.hid ⟨HIa.out.way.steps hs hst, wf_free HIa.out.wf q, by rw [(pl_free S2 q).2]; exact HIa.out.gn, HIa.out.tkn.steps hst⟩
        clear hs hst
        go_wp2
        go_roundw
        case rel => exact ⟨m + 1, by go_num, by omega, f3, _, p2, n2, c2, tk2, rfl, by omega, I3.out⟩
        case measure => simp [intOf]; omega
    · obtain rfl : m = N := by omega
      by_cases hn0 : nn < 0
      · go_wp2
        go_ret
        exact ⟨rfl, HB.out.trans HI.out.way.off⟩
      obtain ⟨k, rfl⟩ : ∃ k : Nat, nn = k := ⟨nn.toNat, by omega⟩
      clear hn0
      by_cases hkn : k < n2
      · have hd1 : decide (n2 ≤ k) = false := decide_eq_false (by omega)
        obtain ⟨y, hy⟩ : ∃ y, tk2[k]? = some y := ⟨_, List.getElem?_eq_getElem (by have := HI.out.tkn.len; omega)⟩
        obtain ⟨b2, off2, hp2, _, hr2⟩ := lies_hd HI.out.tkn.lies.2 (get_lt hy)
        obtain ⟨x0, x1⟩ := row_hd hr2 hy
        subst hp2
        have HR2 := Lib.hid hr2
        have HY := Lib.hid hy
        clear hr2 hy
        by_cases hlv : lv S2 y = true
        · obtain ⟨j, hyp, hj⟩ := (lv_iff S2 y).1 hlv
          obtain ⟨yp, g⟩ := y
          simp only at hyp hj
          subst hyp
          have hgle := (HI.out.wf.us j _ hj).2
          have hg1 := (HI.out.wf.us j _ hj).1
          rw [HI.out.gn] at hgle
          simp only at hgle hg1
          have HJ := Lib.hid hj
          have HLv := Lib.hid hlv
          clear hj hlv
          obtain ⟨F, hF⟩ : ∃ F, leftS S2 = F := ⟨_, rfl⟩
          obtain ⟨O, hO⟩ : ∃ O, wornS S2 = O := ⟨_, rfl⟩
          have hOb : -5000 ≤ O ∧ O ≤ 5000 := by
            rw [← hO]
            unfold wornS leftS
            have h4 := HI.out.wf.sm
            have := h4.p0
            have := h4.p1
            have := h4.t1
            have := h4.f1
            have := lenS_le S2
            omega
          have HFf := Lib.hid hF
          have HOf := Lib.hid hO
          clear hF hO
          have HFA := Lib.hid (freeA_yes HJ.out)
          have HWf1 := Lib.hid (wf_freeS HI.out.wf HJ.out)
          have HD := Lib.hid (last_dead HJ.out)
          go_wp2_with fail
          with_reducible refine (do_alive HI.out.wf HLv.out B f2 _ HI.out.way.sl).mono ?_
          rintro e w3 ⟨rfl, hb⟩
          have W3 := Lib.hid ((HI.out.way.bel hb).bel ((Bel.refl w3).alloc #[.int .i64 j, .int .i64 g] 38))
          have KH := Lib.hid (Keep.new (.cells #[.int .i64 j, .int .i64 g] 38) (HI.out.way.bel hb).sl.lt)
          have x0 := hb.cell x0
          have x1 := hb.cell x1
          clear hb
          go_wp2_with fail
          with_reducible refine (do_left HI.out.wf HFf.out B f2 _ W3.out.sl).mono ?_
          rintro e w4 ⟨rfl, hb⟩
          have W4 := Lib.hid (W3.out.bel hb)
          have KH := Lib.hid (KH.out.bel hb)
          clear hb x0 x1
          go_wp2_with fail
          with_reducible refine (do_worn HI.out.wf HOf.out B f2 _ W4.out.sl).mono ?_
          rintro e w5 ⟨rfl, hb⟩
          have W5 := Lib.hid (W4.out.bel hb)
          have KH := Lib.hid (KH.out.bel hb)
          clear hb
          obtain ⟨⟨d0, d1⟩, _⟩ := box2 KH.out.2
          go_wp2_with fail
          with_reducible refine (do_free HI.out.wf HFA.out B f2 _ W5.out.sl).mono ?_
          rintro e w6 ⟨rfl, f6, hs, hst⟩
          have W6 := Lib.hid (W5.out.steps hs hst)
          have KH := Lib.hid (KH.out.steps hst)
          clear hs hst d0 d1
          obtain ⟨⟨d0, d1⟩, _⟩ := box2 KH.out.2
          go_wp2_with fail
          with_reducible refine (do_alive HWf1.out HD.out B f6 _ W6.out.sl).mono ?_
          rintro e w7 ⟨rfl, hb⟩
          have W7 := Lib.hid (W6.out.bel hb)
          have KH := Lib.hid (KH.out.bel hb)
          clear hb d0 d1
          obtain ⟨⟨d0, d1⟩, _⟩ := box2 KH.out.2
          by_cases hgG : g = G
          · have hgd : (g == G) = true := by simpa using hgG
            have HLW := Lib.hid (last_worn HJ.out (by rw [HI.out.gn]; exact hgG))
            have HL1 : Hid (leftS (freeS S2 j g) = F) := Lib.hid (by rw [HLW.out.1]; exact HFf.out)
            have HW1 : Hid (wornS (freeS S2 j g) = O + 1) := Lib.hid (by rw [HLW.out.2, HOf.out])
            have hww : IntKind.i64.wrap (O + 1) = O + 1 := i64_in _ (by omega) (by omega)
            clear hgG
            go_wp2_with fail
            with_reducible refine (do_left HWf1.out HL1.out B f6 _ W7.out.sl).mono ?_
            rintro e w8 ⟨rfl, hb⟩
            have W8 := Lib.hid (W7.out.bel hb)
            clear hb
            go_wp2_with fail
            with_reducible refine (do_worn HWf1.out HW1.out B f6 _ W8.out.sl).mono ?_
            rintro e w9 ⟨rfl, hb⟩
            have W9 := Lib.hid (W8.out.bel hb)
            clear hb
            go_wp2
            go_ret
            exact ⟨rfl, HB.out.trans W9.out.off⟩
          · have hgd : (g == G) = false := by simpa using hgG
            have HT := Lib.hid (last_again HJ.out (by rw [HI.out.gn]; omega))
            have HWf2 : Hid (Wf (againS S2 j g)) := Lib.hid (by have h4 := wf_take HWf1.out; rw [HT.out] at h4; exact h4)
            have HLS := Lib.hid (last_same HJ.out)
            have HL1 : Hid (leftS (againS S2 j g) = F) := Lib.hid (by rw [HLS.out.1]; exact HFf.out)
            have HW1 : Hid (wornS (againS S2 j g) = O) := Lib.hid (by rw [HLS.out.2]; exact HOf.out)
            have hww : IntKind.i64.wrap (g + 1) = g + 1 := i64_in _ (by omega) (by omega)
            clear hgG
            go_wp2_with fail
            with_reducible refine (do_take HWf1.out HT.out B f6 _ W7.out.sl).mono ?_
            rintro e w8 ⟨rfl, f8, hs, hst⟩
            have W8 := Lib.hid ((W7.out.steps hs hst).bel ((Bel.refl w8).alloc #[.int .i64 j, .int .i64 (g + 1)] 38))
            have KH := Lib.hid (KH.out.steps hst)
            clear hs hst d0 d1
            obtain ⟨⟨d0, d1⟩, _⟩ := box2 KH.out.2
            have hzh := KH.out.lt
            go_wp2_with fail
            with_reducible refine (do_left HWf2.out HL1.out B f8 _ W8.out.sl).mono ?_
            rintro e w9 ⟨rfl, hb⟩
            have W9 := Lib.hid (W8.out.bel hb)
            clear hb
            go_wp2_with fail
            with_reducible refine (do_worn HWf2.out HW1.out B f8 _ W9.out.sl).mono ?_
            rintro e w10 ⟨rfl, hb⟩
            have W10 := Lib.hid (W9.out.bel hb)
            clear hb
            go_wp2
            go_ret
            exact ⟨rfl, HB.out.trans W10.out.off⟩
        · have hlv : lv S2 y = false := by simpa using hlv
          have HLv := Lib.hid hlv
          clear hlv
          go_wp2_with fail
          with_reducible refine (do_alive HI.out.wf HLv.out B f2 _ HI.out.way.sl).mono ?_
          rintro e w3 ⟨rfl, hb⟩
          have W3 := Lib.hid (HI.out.way.bel hb)
          clear hb x0 x1
          go_wp2
          go_ret
          exact ⟨rfl, HB.out.trans W3.out.off⟩
      · have hd1 : decide (n2 ≤ k) = true := decide_eq_true (by omega)
        go_wp2
        go_ret
        exact ⟨rfl, HB.out.trans HI.out.way.off⟩
end Go.Proofs.Ytlohpccfanmiiaa
