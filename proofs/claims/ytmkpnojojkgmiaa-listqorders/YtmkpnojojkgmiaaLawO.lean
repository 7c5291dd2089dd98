/-
  The walk of ListqOrders.
-/
import Derived.Test.YtmkpnojojkgmiaaSwap
import Derived.Test.YtmkpnojojkgmiaaWorks
import Derived.Test.YtmkpnojojkgmiaaOpen
import Derived.BigQuiet
namespace Go.Proofs.Ytmkpnojojkgmiaa
open Go.RowKit
theorem orders_far (P : Int) (p b : Option Addr) (n m ca kb : Nat) (w : World) (h : 40 < n) :
    Calls Try.prog 6 #[.int .i64 P, .slice p n ca, .slice b m kb] w fun e w' => e = .returned (.bool true) ∧ Bel w w' := by
  have h' : (40 : Int) < n := by omega
  go_enter Try.func6, Try.ntmps6
  go_wp2_with fail
  with_reducible refine (works_any _).mono ?_
  rintro e w1 ⟨rfl, hb⟩
  go_wp2
  go_ret
  exact ⟨rfl, hb⟩
theorem orders_none (P : Int) (p b : Option Addr) (m ca kb : Nat) (w : World) :
    Calls Try.prog 6 #[.int .i64 P, .slice p 0 ca, .slice b m kb] w fun e w' => e = .returned (.bool true) ∧ Bel w w' := by
  go_enter Try.func6, Try.ntmps6
  go_wp2_with fail
  with_reducible refine (works_any _).mono ?_
  rintro e w1 ⟨rfl, hb⟩
  go_wp2
  go_ret
  exact ⟨rfl, hb⟩
set_option maxRecDepth 100000 in
theorem orders_many (P : Int) (p b : Option Addr) (n m ca kb : Nat) (w : World) (h : n ≤ 40) (h0 : 1 ≤ n) (hm : 100 < m) :
    Calls Try.prog 6 #[.int .i64 P, .slice p n ca, .slice b m kb] w fun e w' => e = .returned (.bool true) ∧ Bel w w' := by
  have h' : ¬ (40 : Int) < n := by omega
  have h2 : ((n : Int) == 0) = false := by simp; omega
  have h3 : (100 : Int) < m := by omega
  go_enter Try.func6, Try.ntmps6
  go_wp2_with fail
  with_reducible refine (works_any _).mono ?_
  rintro e w1 ⟨rfl, hb⟩
  go_wp2
  go_ret
  exact ⟨rfl, hb⟩
set_option maxRecDepth 100000 in
theorem orders_no (P : Int) (p b : Option Addr) (n m ca kb : Nat) (w : World) (h : n ≤ 40) (h0 : 1 ≤ n) (hm : m ≤ 100) (hP : ¬ (0 ≤ P ∧ P ≤ 1024)) :
    Calls Try.prog 6 #[.int .i64 P, .slice p n ca, .slice b m kb] w fun e w' => e = .returned (.bool true) ∧ Bel w w' := by
  have h' : ¬ (40 : Int) < n := by omega
  have h2 : ((n : Int) == 0) = false := by simp; omega
  have h3 : ¬ (100 : Int) < m := by omega
  have K := Lib.hid (fun w => qnew_no P w hP)
  clear hP
  go_enter Try.func6, Try.ntmps6
  go_wp2_with fail
  with_reducible refine (works_any _).mono ?_
  rintro e w1 ⟨rfl, hb⟩
  have HB := Lib.hid hb
  clear hb
  go_wp2_with fail
  with_reducible refine (K.out _).mono ?_
  rintro e w2 ⟨rfl, rfl⟩
  go_wp2_with fail
  with_reducible refine (K.out _).mono ?_
  rintro e w3 ⟨rfl, rfl⟩
  go_wp2
  go_ret
  exact ⟨rfl, HB.out⟩
set_option maxHeartbeats 8000000 in
set_option maxRecDepth 100000 in
theorem orders_main (P : Nat) (p b : Option Addr) (n m ca kb : Nat) (l : List T) (w : World) (hP : P ≤ 1024) (h : n ≤ 40) (h0 : 1 ≤ n) (hm : m ≤ 100) (hn : l.length = n) (hl : Has w p l) (hbt : IsBytes w b m) :
    Calls Try.prog 6 #[.int .i64 P, .slice p n ca, .slice b m kb] w fun e w' => e = .returned (.bool true) ∧ Bel w w' := by
  have h' : ¬ (40 : Int) < n := by omega
  have h2 : ((n : Int) == 0) = false := by simp; omega
  have h3 : ¬ (100 : Int) < m := by omega
  have HN := Lib.hid hn
  have HL := Lib.hid hl
  have HBT := Lib.hid hbt
  have K := Lib.hid (fun w' => qnew_yes P w' hP)
  clear hn hl hbt hP
  go_enter Try.func6, Try.ntmps6
  go_wp2_with fail
  with_reducible refine (works_any _).mono ?_
  rintro e w1 ⟨rfl, hb1⟩
  have HB1 := Lib.hid hb1
  clear hb1
  go_wp2_with fail
  with_reducible refine (K.out _).mono ?_
  rintro e w2 ⟨Q, B, G, R, rfl, hF⟩
  have HF := Lib.hid hF
  clear hF
  go_wp2_with fail
  with_reducible refine (K.out _).mono ?_
  rintro e w3 ⟨Q2, B2, G2, R2, rfl, hF2⟩
  have HT := Two.mk' HB1.out HF.out (Bel.refl _) hF2
  have HR : Hid (Row2 w Q B G R Q2 B2 G2 R2 P w3.heap.size [] [] (.slice none 0 0) [] w3) := Lib.hid ⟨HT, OwnT.nil _ _, HT.a.lts, HT.b.lts, HT.bel.size, Nat.le_refl _⟩
  clear HT hF2 HF HB1 K
  generalize w3.heap.size = base at *
  go_wp2
  go_loopw [12, 13, 14] (fun v i _ wr => ∃ (k : Nat) (cur lq : List T), k ≤ n ∧ i = .int .i64 k ∧ cur.length ≤ k ∧ lq.Perm cur ∧ Row2 w Q B G R Q2 B2 G2 R2 P base lq [] v cur wr) (fun _ i _ _ => n - (intOf i).toNat)
  case atStart => exact ⟨0, [], [], by omega, rfl, by simp, List.Perm.refl _, HR.out⟩
  case round =>
    obtain ⟨k, cur, lq, hk, rfl, hcl, hperm, hrow⟩ := hrel
    obtain ⟨pc, cc, rfl, _, _, _⟩ := hrow.own.slice
    have HP := Lib.hid hperm
    have HRow := Lib.hid hrow
    clear hperm hrow HR
    by_cases hlt : k < n
    · obtain ⟨b1, off, rfl, hr⟩ := HL.out.row (by have := HN.out; omega)
      obtain ⟨x, hx⟩ : ∃ x, l.getD k default = x := ⟨_, rfl⟩
      have cx := hr k (by have := HN.out; omega)
      rw [hx] at cx
      have HX := Lib.hid cx
      obtain ⟨x0, x1, x2⟩ := cx
      have x0 := HRow.out.two.bel.cell x0
      have x1 := HRow.out.two.bel.cell x1
      have x2 := HRow.out.two.bel.cell x2
      have KI := Lib.hid (insert_any Q B G R P lq x wr HRow.out.two.a)
      have hkn : (k : Int) < n := by omega
      clear hr hx
      go_wp2_with fail
      with_reducible refine KI.out.mono ?_
      rintro e w5 ⟨rfl, hq5, ho5⟩
      have HR5 := Lib.hid (HRow.out.stepA hq5 ho5)
      clear hq5 ho5 KI x0 x1 x2 HRow
      obtain ⟨x0, x1, x2⟩ := HX.out
      have x0 := HR5.out.two.bel.cell x0
      have x1 := HR5.out.two.bel.cell x1
      have x2 := HR5.out.two.bel.cell x2
      by_cases hz : insE P lq x = 0
      · rw [hz]
        have eL : insL P lq x = put lq x := by unfold insL; rw [if_pos hz]
        rw [eL] at HR5
        clear eL hz
        go_wp2_with (at_builtin; refine wpList_append_any rfl (.tmp 83) (.tmp 88) rfl base _ cur rfl (HR5.out.own.bel ((Bel.refl _).alloc _ _)) _ _ _ [x] rfl rfl (has_one _ _) (by omega) (by have := HR5.out.bw; simp; omega) ?_)
        intro v6 w6 hown hgrow _
        have HR6 := Lib.hid ((HR5.out.le ((Bel.refl _).alloc #[.int .u64 x.a, .int .u64 x.s, .int .i64 x.p] 38)).grow hown hgrow)
        clear hown hgrow x0 x1 x2 HR5
        go_wp2
        go_roundw
        case rel => exact ⟨k + 1, cur ++ [x], put lq x, by omega, by go_num, by simp; omega, (put_perm lq x).trans ((HP.out.cons x).trans (List.perm_append_singleton _ _).symm), HR6.out⟩
        case measure => simp [intOf]; omega
      · have hzb : (insE P lq x == 0) = false := by simpa using hz
        have eL : insL P lq x = lq := by unfold insL; rw [if_neg hz]
        rw [eL] at HR5
        clear eL hz
        generalize insE P lq x = er at *
        go_wp2
        go_roundw
        case rel => exact ⟨k + 1, cur, lq, by omega, by go_num, by omega, HP.out, HR5.out⟩
        case measure => simp [intOf]; omega
    · obtain rfl : k = n := by omega
      obtain ⟨nc, hnc⟩ : ∃ nc, cur.length = nc := ⟨_, rfl⟩
      rw [hnc] at hcl HRow ⊢
      have HC := Lib.hid hnc
      clear hnc hlt
      go_wp2
      go_loopw [15, 16, 17, 18] (fun i _ _ _ wr => ∃ (j : Nat) (cur' : List T), j ≤ m ∧ i = .int .i64 j ∧ cur'.Perm cur ∧ Row2 w Q B G R Q2 B2 G2 R2 P base lq [] (.slice pc nc cc) cur' wr) (fun i _ _ _ _ => m - (intOf i).toNat)
      case atStart => exact ⟨0, cur, by omega, rfl, List.Perm.refl _, HRow.out⟩
      case round =>
        obtain ⟨j, cu, hj, rfl, hpj, hrow⟩ := hrel
        have HPJ := Lib.hid hpj
        have HCJ : Hid (cu.length = nc) := Lib.hid (by rw [hpj.length_eq, HC.out])
        have HR2 := Lib.hid hrow
        clear hpj hrow HRow
        go_upto_region 18 with (fail)
        go_cut [98] from 90 to 127 (fun c wx => c = .bool (decide (j < m ∧ 0 < nc)) ∧ wx = wr)
        case first =>
          by_cases hlt : j < m
          · by_cases hz : 0 < nc
            · have b1 : (j : Int) < (m : Int) := by omega
              have b2 : (0 : Int) < (nc : Int) := by omega
              go_wp2
              go_meet
              case rel => exact ⟨congrArg Value.bool (decide_eq_true (p := j < m ∧ 0 < nc) ⟨hlt, hz⟩).symm, rfl⟩
            · have b1 : (j : Int) < (m : Int) := by omega
              have b2 : ¬ (0 : Int) < (nc : Int) := by omega
              go_wp2
              go_meet
              case rel => exact ⟨congrArg Value.bool (decide_eq_false (p := j < m ∧ 0 < nc) (fun e => hz e.2)).symm, rfl⟩
          · have b1 : ¬ (j : Int) < (m : Int) := by omega
            go_wp2
            go_meet
            case rel => exact ⟨congrArg Value.bool (decide_eq_false (p := j < m ∧ 0 < nc) (fun e => hlt e.1)).symm, rfl⟩
        case rest =>
          obtain ⟨rfl, rfl⟩ := hcut
          by_cases hlt : j < m ∧ 0 < nc
          · have hd : decide (j < m ∧ 0 < nc) = true := decide_eq_true hlt
            rw [hd]
            obtain ⟨hjm, hz⟩ := hlt
            obtain ⟨gb, ob, rfl, hbytes⟩ : ∃ gb ob, b = some ⟨gb, ob, none⟩ ∧ ∀ i, i < m → ∃ x : Int, 0 ≤ x ∧ x ≤ 255 ∧ w.cell? ⟨gb, ob + i, none⟩ = some (.int .u8 x) := by
              rcases HBT.out with e | e
              · omega
              · exact e
            obtain ⟨y, y0, y1, cy⟩ := hbytes j hjm
            have cy := HR2.out.two.bel.cell cy
            obtain ⟨g, rfl⟩ : ∃ g, pc = some ⟨g, 0, none⟩ := by
              rcases HR2.out.own.2 with ⟨_, e⟩ | ⟨g, c, cur0, e, _⟩
              · have := HCJ.out; omega
              · injection e with e1 e2 e3
                exact ⟨g, e1⟩
            clear hbytes hd
            obtain ⟨i1, hi1, hi1n⟩ := rem_nat y nc y0 hz
            obtain ⟨i2, hi2, hi2n⟩ := rem_nat (j : Int) nc (by omega) hz
            have w1y : IntKind.i64.wrap y = y := i64_in _ (by omega) (by omega)
            have b0 : (0 : Int) ≤ (j : Int) := by omega
            have b1 : (j : Int) < (m : Int) := by omega
            have b2 : ¬ (nc : Int) = 0 := by omega
            go_wp2
            go_quiet (fail)
            have HR3 := Lib.hid (HR2.out.le ((Bel.refl wc).drewN nq))
            clear HR2 cy hi1 hi2 w1y
            generalize wc.drewN nq = wq at HR3 ⊢
            obtain ⟨xj, hxj⟩ : ∃ x, cu.getD i1 default = x := ⟨_, rfl⟩
            obtain ⟨xr, hxr⟩ : ∃ x, cu.getD i2 default = x := ⟨_, rfl⟩
            have HSW : Hid (((cu.set i1 xr).set i2 xj).Perm cu) := Lib.hid (by have := HCJ.out; rw [← hxj, ← hxr]; exact swap_perm cu i1 i2 (by omega) (by omega))
            obtain ⟨j0, j1, j2⟩ := HR3.out.own.cells3 HCJ.out hi1n hxj
            obtain ⟨r0, r1, r2⟩ := HR3.out.own.cells3 HCJ.out hi2n hxr
            clear hxj hxr
            have r0 := ((Bel.refl wq).alloc #[.int .u64 xj.a, .int .u64 xj.s, .int .i64 xj.p] 38).cell r0
            have r1 := ((Bel.refl wq).alloc #[.int .u64 xj.a, .int .u64 xj.s, .int .i64 xj.p] 38).cell r1
            have r2 := ((Bel.refl wq).alloc #[.int .u64 xj.a, .int .u64 xj.s, .int .i64 xj.p] 38).cell r2
            have HR4 := Lib.hid (HR3.out.le ((Bel.refl wq).alloc #[.int .u64 xj.a, .int .u64 xj.s, .int .i64 xj.p] 38))
            have hgl : g < wq.heap.size := (HR3.out.own.lt g rfl).2
            have q0 : (0 : Int) ≤ (i1 : Int) := by omega
            have q1 : (i1 : Int) < (nc : Int) := by omega
            have q2 : (0 : Int) ≤ (i2 : Int) := by omega
            have q3 : (i2 : Int) < (nc : Int) := by omega
            go_wp2_with (refine wpList_store_own rfl (.tmp 123) (.tmp 122) rfl g i1 nc cc base xr cu rfl rfl HR4.out.own HCJ.out hi1n ?_)
            intro w5 hown5 hgrow5
            have x0 : w5.cell? ⟨wq.heap.size, 0, none⟩ = some (.int .u64 xj.a) := hgrow5.cell (by simp [go_sem]) (by simp; omega)
            have x1 : w5.cell? ⟨wq.heap.size, 1, none⟩ = some (.int .u64 xj.s) := hgrow5.cell (by simp [go_sem]) (by simp; omega)
            have x2 : w5.cell? ⟨wq.heap.size, 2, none⟩ = some (.int .i64 xj.p) := hgrow5.cell (by simp [go_sem]) (by simp; omega)
            have HR5 := Lib.hid (HR4.out.grow hown5 hgrow5)
            have HC5 : Hid ((cu.set i1 xr).length = nc) := Lib.hid (by rw [List.length_set]; exact HCJ.out)
            clear hown5 hgrow5 j0 j1 j2 r0 r1 r2 HR4 HR3
            go_wp2_with (refine wpList_store_own rfl (.tmp 127) (.tmp 126) rfl g i2 nc cc base xj (cu.set i1 xr) rfl rfl HR5.out.own HC5.out hi2n ?_)
            intro w6 hown6 hgrow6
            have HR6 := Lib.hid (HR5.out.grow hown6 hgrow6)
            clear hown6 hgrow6 x0 x1 x2
            go_wp2
            go_roundw
            case rel => exact ⟨j + 1, (cu.set i1 xr).set i2 xj, by omega, by go_num, HSW.out.trans HPJ.out, HR6.out⟩
            case measure => simp [intOf]; omega
          · have hd : decide (j < m ∧ 0 < nc) = false := decide_eq_false hlt
            rw [hd]
            have HPQ : Hid (lq.Perm cu) := Lib.hid (HP.out.trans HPJ.out.symm)
            clear hd hlt HP HPJ HBT HL HN HC
            go_wp2
            go_loopw [19, 20] (fun i _ wr => ∃ (k : Nat) (lo : List T), k ≤ nc ∧ i = .int .i64 k ∧ lo.Perm (cu.take k) ∧ Row2 w Q B G R Q2 B2 G2 R2 P base lq lo (.slice pc nc cc) cu wr) (fun i _ _ => nc - (intOf i).toNat)
            case atStart => exact ⟨0, [], by omega, rfl, by simp, HR2.out⟩
            case round =>
              obtain ⟨k, lo, hk, rfl, hpl, hrow⟩ := hrel
              have HPL := Lib.hid hpl
              have HR3 := Lib.hid hrow
              clear hpl hrow HR2
              by_cases hlt : k < nc
              · obtain ⟨pc', cc', e, _, _, hh⟩ := HR3.out.own.slice
                obtain ⟨e1, e2⟩ := HR3.out.two.a.takes (by have := HCJ.out; omega : k < cu.length) HPQ.out HPL.out
                injection e with e3 e4 e5
                subst e3
                obtain ⟨b1, off, rfl, hr⟩ := hh.row (by have := HCJ.out; omega)
                obtain ⟨x, hx⟩ : ∃ x, cu.getD k default = x := ⟨_, rfl⟩
                obtain ⟨x0, x1, x2⟩ := hr k (by have := HCJ.out; omega)
                rw [hx] at x0 x1 x2 e1 e2
                have KI := insert_any Q2 B2 G2 R2 P lo x wr HR3.out.two.b
                have eL : insL P lo x = put lo x := by unfold insL; rw [if_pos e1]
                rw [e1, eL] at KI
                have KI := Lib.hid KI
                have HE2 := Lib.hid e2
                have hkn : (k : Int) < nc := by omega
                clear hr hx hh e1 e2 eL e4 e5
                go_wp2_with fail
                with_reducible refine KI.out.mono ?_
                rintro e w5 ⟨rfl, hq5, ho5⟩
                have HR5 := Lib.hid (HR3.out.stepB hq5 ho5)
                clear hq5 ho5 KI x0 x1 x2 HR3
                go_wp2
                go_roundw
                case rel => exact ⟨k + 1, put lo x, by omega, by go_num, HE2.out, HR5.out⟩
                case measure => simp [intOf]; omega
              · obtain rfl : k = nc := by omega
                have eQ : lo = lq := HR3.out.two.b.so.unique HR3.out.two.a.so (by
                  have h1 := HPL.out
                  rw [List.take_of_length_le (by have := HCJ.out; omega)] at h1
                  exact h1.trans HPQ.out.symm)
                subst eQ
                have HLQ : Hid (lo.length = k) := Lib.hid (by rw [HPQ.out.length_eq, HCJ.out])
                have KA1 := Lib.hid (all_has Q B G R P lo wr HR3.out.two.a)
                go_wp2_with fail
                with_reducible refine KA1.out.mono ?_
                rintro e w8 ⟨⟨q1, d1, rfl, hh1⟩, hb8⟩
                have KA2 := Lib.hid (all_has Q2 B2 G2 R2 P lo w8 (HR3.out.two.le hb8).b)
                have HH1 := Lib.hid hh1
                have HB8 := Lib.hid hb8
                clear hb8 hh1 KA1
                go_wp2_with fail
                with_reducible refine KA2.out.mono ?_
                rintro e w9 ⟨⟨q2, d2, rfl, hh2⟩, hb9⟩
                have KS := Lib.hid (same_yes q1 q2 d1 d2 lo w9 (Nat.le_trans HR3.out.two.a.len (by omega)) (HH1.out.bel hb9) hh2)
                have HB9 := Lib.hid (HB8.out.trans hb9)
                clear hb9 hh2 KA2
                go_wp2_with fail
                with_reducible refine KS.out.mono ?_
                rintro e w10 ⟨rfl, hb10⟩
                have HB10 := Lib.hid (HB9.out.trans hb10)
                clear hb10 KS
                have KL := len_any Q B G R P lo w10 (HR3.out.two.le HB10.out).a
                rw [HLQ.out] at KL
                have KL := Lib.hid KL
                go_wp2_with fail
                with_reducible refine KL.out.mono ?_
                rintro e w11 ⟨rfl, hb11⟩
                have HE := Lib.hid (HR3.out.two.bel.trans (HB10.out.trans hb11))
                clear hb11 KL
                have hee : ((k : Int) == (k : Int)) = true := by simp
                go_wp2
                go_ret
                exact ⟨rfl, HE.out⟩
theorem orders_all (P : Int) (p : Option Addr) (n ca : Nat) (l : List T) (b : Option Addr) (m kb : Nat) (w : World) (hn : l.length = n) (hl : Has w p l) (hbt : IsBytes w b m) :
    Calls Try.prog 6 #[.int .i64 P, .slice p n ca, .slice b m kb] w fun e w' => e = .returned (.bool true) ∧ Bel w w' := by
  by_cases h : 40 < n
  · exact orders_far P p b n m ca kb w h
  by_cases h0 : n = 0
  · subst h0; exact orders_none P p b m ca kb w
  by_cases hm : 100 < m
  · exact orders_many P p b n m ca kb w (by omega) (by omega) hm
  by_cases hP : 0 ≤ P ∧ P ≤ 1024
  · obtain ⟨P', rfl⟩ := Int.eq_ofNat_of_zero_le hP.1
    exact orders_main P' p b n m ca kb l w (by omega) (by omega) (by omega) (by omega) hn hl hbt
  · exact orders_no P p b n m ca kb w (by omega) (by omega) (by omega) hP
end Go.Proofs.Ytmkpnojojkgmiaa
