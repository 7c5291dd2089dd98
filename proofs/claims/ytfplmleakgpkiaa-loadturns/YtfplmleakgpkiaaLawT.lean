/-
  The walk of LoadTurns.
-/
import Derived.Test.YtfplmleakgpkiaaLawR
import Derived.Test.YtfplmleakgpkiaaOpen
set_option linter.unusedVariables false
set_option linter.unusedSimpArgs false
namespace Go.Proofs.Ytfplmleakgpkiaa
open Go.RowKit
theorem rem_32 (y : Int) (h0 : 0 ≤ y) : ∃ j : Nat, y.tmod 32 = j ∧ j < 32 := by
  refine ⟨(y % 32).toNat, ?_, ?_⟩
  · rw [Int.tmod_eq_emod_of_nonneg h0, Int.toNat_of_nonneg (Int.emod_nonneg _ (by omega))]
  · have := Int.emod_lt_of_pos y (show (0 : Int) < 32 by omega)
    have := Int.emod_nonneg y (show (32 : Int) ≠ 0 by omega)
    omega
/-- A good note more. -/
theorem note_good (p : Nat) (l : List T) (k : Nat) (w : World) (h : Ld w p (l.take k)) (hk : k < l.length) (hn : l.length ≤ 999) (hok : AllOk l) (x : T) (hx : l.getD k default = x) :
    Calls Try.prog 9 #[.pointer (some ⟨p, 0, none⟩), .int .i64 x.a, .int .i64 x.b, .int .i64 x.c] w fun e w' => e = .returned (.int .i64 0) ∧ Ld w' p (l.take (k + 1)) ∧ Off (only p) w w' := by
  have ho : x.ok = true := by rw [← hx]; exact hok.get hk
  have K := note_any p (l.take k) x w h (by rw [List.length_take]; omega)
  rw [T.bad_of_ok ho, good_one, if_pos ho, ← hx, ← take_step l hk, hx] at K
  exact K
theorem turns_out (a b : Option Addr) (n m cap kb : Nat) (l : List T) (w : World) (hn : l.length = n) (hs : n * 24 ≤ 140737488355328) (hl : Has nof w a l) (h : 100 < n ∨ (good l).length < 32 ∨ 100 < m) :
    Calls Try.prog 5 #[.slice a n cap, .slice b m kb] w fun e w' => e = .returned (.bool true) ∧ Bel w w' := by
  have K : Hid (∀ w', Calls Try.prog 7 #[] w' fun e w'' => e = .returned (.bool true) ∧ Bel w' w'') := Lib.hid works_any
  have KG : Hid (∀ w', Bel w w' → Calls Try.prog 11 #[.slice a n cap] w' fun e w'' => ∃ v, e = .returned v ∧ Own w'' w'.heap.size v (good l) ∧ Bel w' w'') := Lib.hid fun w' hb => rgood_any a n cap l w' hn hs (hl.bel hb)
  have HGL : Hid ((good l).length ≤ n) := Lib.hid (by rw [← hn]; exact good_len l)
  generalize good l = g at *
  clear hn hl
  go_enter Try.func5, Try.ntmps5
  go_wp2_with fail
  with_reducible refine (K.out _).mono ?_
  rintro e w1 ⟨rfl, hb⟩
  have HB := Lib.hid hb
  clear hb K
  go_wp2_with fail
  with_reducible refine (KG.out _ HB.out).mono ?_
  rintro e w2 ⟨v, rfl, hown, hb⟩
  obtain ⟨gp, gc, rfl, hgc, _, hgp⟩ := hown.slice nof (fun _ _ e => e)
  have HB2 := Lib.hid (HB.out.trans hb)
  clear hown hb hgp hgc HB KG
  obtain ⟨N, eN⟩ : ∃ N, g.length = N := ⟨_, rfl⟩
  rw [eN] at h HGL ⊢
  have hN : (N : Int) ≤ 6000000000000 := by have := HGL.out; omega
  clear eN HGL
  by_cases h1 : (100 : Int) < n
  · go_wp2
    go_ret
    exact ⟨rfl, HB2.out⟩
  by_cases h2 : (N : Int) < 32
  · go_wp2
    go_ret
    exact ⟨rfl, HB2.out⟩
  have h3 : (100 : Int) < m := by omega
  go_wp2
  go_ret
  exact ⟨rfl, HB2.out⟩
set_option maxHeartbeats 4000000 in
set_option maxRecDepth 20000 in
theorem turns_main (a b : Option Addr) (n m cap kb : Nat) (l : List T) (w : World) (hn : l.length = n) (hs : n * 24 ≤ 140737488355328) (hl : Has nof w a l) (hbt : IsBytes w b m) (h1 : n ≤ 100) (h2 : 32 ≤ (good l).length) (h3 : m ≤ 100) :
    Calls Try.prog 5 #[.slice a n cap, .slice b m kb] w fun e w' => e = .returned (.bool true) ∧ Bel w w' := by
  have K : Hid (∀ w', Calls Try.prog 7 #[] w' fun e w'' => e = .returned (.bool true) ∧ Bel w' w'') := Lib.hid works_any
  have KG : Hid (∀ w', Bel w w' → Calls Try.prog 11 #[.slice a n cap] w' fun e w'' => ∃ v, e = .returned v ∧ Own w'' w'.heap.size v (good l) ∧ Bel w' w'') := Lib.hid fun w' hb => rgood_any a n cap l w' hn hs (hl.bel hb)
  have HGL : Hid ((good l).length ≤ 100) := Lib.hid (by have := good_len l; omega)
  have HGO : Hid (AllOk (good l)) := Lib.hid (good_ok l)
  have HBT := Lib.hid hbt
  generalize good l = gd at *
  clear hn hl hs hbt
  go_enter Try.func5, Try.ntmps5
  go_wp2_with fail
  with_reducible refine (K.out _).mono ?_
  rintro e w1 ⟨rfl, hb⟩
  have HB := Lib.hid hb
  clear hb K
  go_wp2_with fail
  with_reducible refine (KG.out _ HB.out).mono ?_
  rintro e w2 ⟨v, rfl, hown, hb⟩
  obtain ⟨gp, gc, rfl, hgc, _, hgp⟩ := hown.slice nof (fun _ _ e => e)
  have HB2 := Lib.hid (HB.out.trans hb)
  have HGP := Lib.hid hgp
  clear hown hb hgp HB KG
  obtain ⟨N, eN⟩ : ∃ N, gd.length = N := ⟨_, rfl⟩
  rw [eN] at h2 HGL hgc ⊢
  have EN := Lib.hid eN
  have hN := HGL.out
  have a1 : ¬ (100 : Int) < n := by omega
  have a2 : ¬ (N : Int) < 32 := by omega
  have a3 : ¬ (100 : Int) < m := by omega
  have a4 : 32 ≤ gc := by omega
  clear eN HGL
  have HT : Hid ((gd.take 32).length = 32 ∧ AllOk (gd.take 32) ∧ Has nof w2 gp (gd.take 32)) := Lib.hid ⟨by rw [List.length_take]; have := EN.out; omega, HGO.out.take 32, HGP.out.take 32⟩
  clear HGO HGP EN
  generalize gd.take 32 = l at HT
  have HN : Hid (l.length = 32) := Lib.hid HT.out.1
  have HOK : Hid (AllOk l) := Lib.hid HT.out.2.1
  have HL : Hid (Has nof w2 gp l) := Lib.hid HT.out.2.2
  clear HT gd
  go_wp2_with (at_builtin; refine wpList_append_any rfl (.tmp 40) (.tmp 42) rfl w2.heap.size _ [] rfl (Own.empty _ _ (Nat.le_refl _)) _ _ _ l rfl HN.out (HL.out.bel ((Bel.refl _).alloc _ _)) (by simp) (by simp) ?_)
  intro v3 w3 hown hgrow hnil
  have hown : Own w3 w2.heap.size v3 l := hown
  have HB3 : Hid (Bel w2 w3) := Lib.hid (Own.grown ((Bel.refl w2).alloc #[] 29) (Own.empty w2 w2.heap.size (Nat.le_refl _)) (Nat.le_refl _) hgrow)
  clear hgrow hnil
  obtain ⟨g, c, rfl⟩ : ∃ g c, v3 = .slice (some ⟨g, 0, none⟩) 32 c := by
    rcases hown.2 with ⟨_, hz⟩ | ⟨g, c, cur, e, hbg, _⟩
    · have := HN.out; omega
    · exact ⟨g, c, by rw [e, HN.out]⟩
  have HO := Lib.hid hown
  clear hown
  go_wp2
  go_loopw [8] (fun i wr => ∃ k : Nat, k ≤ m ∧ i = .int .i64 k ∧ ∃ cur : List T, cur.Perm l ∧ Own wr w2.heap.size (.slice (some ⟨g, 0, none⟩) 32 c) cur ∧ Bel w2 wr) (fun i _ => m - (intOf i).toNat)
  case atStart => exact ⟨0, by omega, rfl, l, List.Perm.refl _, HO.out, HB3.out⟩
  case round =>
    obtain ⟨k, hk, rfl, cur, hperm, ho, hb⟩ := hrel
    have HP := Lib.hid hperm
    have HC : Hid (cur.length = 32) := Lib.hid (by rw [hperm.length_eq, HN.out])
    have HO2 := Lib.hid ho
    have HB4 := Lib.hid hb
    clear hperm ho hb HO HB3
    by_cases hlt : k < m
    · obtain ⟨gb, ob, rfl, hbytes⟩ : ∃ gb ob, b = some ⟨gb, ob, none⟩ ∧ ∀ i, i < m → ∃ x : Int, 0 ≤ x ∧ x ≤ 255 ∧ w.cell? ⟨gb, ob + i, none⟩ = some (.int .u8 x) := by
        rcases HBT.out with e | e
        · omega
        · exact e
      obtain ⟨y, y0, y1, cy⟩ := hbytes k hlt
      have cy := HB4.out.cell (HB2.out.cell cy)
      clear hbytes
      obtain ⟨j, hj, hjn⟩ := rem_32 y y0
      obtain ⟨r, hr, hrn⟩ := rem_32 (k : Int) (by omega)
      have w1y : IntKind.i64.wrap y = y := i64_in _ (by omega) (by omega)
      have b0 : (0 : Int) ≤ (k : Int) := by omega
      have b1 : (k : Int) < (m : Int) := by omega
      have q0 : (0 : Int) ≤ (j : Int) := by omega
      have q1 : (j : Int) < 32 := by omega
      have q2 : (0 : Int) ≤ (r : Int) := by omega
      have q3 : (r : Int) < 32 := by omega
      obtain ⟨xj, hxj⟩ : ∃ x, cur.getD j default = x := ⟨_, rfl⟩
      obtain ⟨xr, hxr⟩ : ∃ x, cur.getD r default = x := ⟨_, rfl⟩
      have HSW : Hid (((cur.set j xr).set r xj).Perm cur) := Lib.hid (by have := HC.out; rw [← hxj, ← hxr]; exact swap_perm cur j r (by omega) (by omega))
      obtain ⟨j0, j1, j2⟩ := HO2.out.cells3 HC.out hjn hxj
      obtain ⟨r0, r1, r2⟩ := HO2.out.cells3 HC.out hrn hxr
      clear hxj hxr
      have r0 := ((Bel.refl wr).alloc #[.int .i64 xj.a, .int .i64 xj.b, .int .i64 xj.c] 29).cell r0
      have r1 := ((Bel.refl wr).alloc #[.int .i64 xj.a, .int .i64 xj.b, .int .i64 xj.c] 29).cell r1
      have r2 := ((Bel.refl wr).alloc #[.int .i64 xj.a, .int .i64 xj.b, .int .i64 xj.c] 29).cell r2
      have HO4 := Lib.hid (HO2.out.bel ((Bel.refl wr).alloc #[.int .i64 xj.a, .int .i64 xj.b, .int .i64 xj.c] 29))
      have HB5 := Lib.hid (HB4.out.alloc #[.int .i64 xj.a, .int .i64 xj.b, .int .i64 xj.c] 29)
      have hgl : g < wr.heap.size := (HO2.out.lt g rfl).2
      go_wp2_with (refine wpList_store_own rfl (.tmp 68) (.tmp 67) rfl g j 32 c w2.heap.size xr cur rfl rfl HO4.out HC.out hjn ?_)
      intro w5 hown5 hgrow5
      have x0 : w5.cell? ⟨wr.heap.size, 0, none⟩ = some (.int .i64 xj.a) := hgrow5.cell (by simp [go_sem]) (by simp; omega)
      have x1 : w5.cell? ⟨wr.heap.size, 1, none⟩ = some (.int .i64 xj.b) := hgrow5.cell (by simp [go_sem]) (by simp; omega)
      have x2 : w5.cell? ⟨wr.heap.size, 2, none⟩ = some (.int .i64 xj.c) := hgrow5.cell (by simp [go_sem]) (by simp; omega)
      have HO5 := Lib.hid hown5
      have HB6 : Hid (Bel w2 w5) := Lib.hid (Own.grown HB5.out HO4.out (Nat.le_refl _) hgrow5)
      have HC5 : Hid ((cur.set j xr).length = 32) := Lib.hid (by rw [List.length_set]; exact HC.out)
      clear hown5 hgrow5 j0 j1 j2 r0 r1 r2 HO4 HB5 HO2 HB4 cy hj hr w1y
      go_wp2_with (refine wpList_store_own rfl (.tmp 72) (.tmp 71) rfl g r 32 c w2.heap.size xj (cur.set j xr) rfl rfl HO5.out HC5.out hrn ?_)
      intro w6 hown6 hgrow6
      have HO6 := Lib.hid hown6
      have HB7 : Hid (Bel w2 w6) := Lib.hid (Own.grown HB6.out HO5.out (Nat.le_refl _) hgrow6)
      clear hown6 hgrow6 x0 x1 x2
      go_wp2
      go_roundw
      case rel => exact ⟨k + 1, by omega, by go_num, (cur.set j xr).set r xj, HSW.out.trans HP.out, HO6.out, HB7.out⟩
      case measure => simp [intOf]; omega
    · obtain rfl : k = m := by omega
      obtain ⟨wA, ewA⟩ : ∃ x, x = wr := ⟨_, rfl⟩
      subst ewA
      clear HBT
      go_wp2_with fail
      with_reducible refine (new_any _).mono ?_
      rintro e w4 ⟨px, rfl, hpx, hqx, hbx⟩
      have HPX : Hid (wA.heap.size ≤ px) := Lib.hid hpx
      have HX := Lib.hid hqx
      have HBX := Lib.hid hbx
      clear hpx hqx hbx
      go_wp2_with fail
      with_reducible refine (new_any _).mono ?_
      rintro e w5 ⟨py, rfl, hpy, hqy, hby⟩
      have HPY : Hid (wA.heap.size ≤ py ∧ py ≠ px) := Lib.hid (by have := HX.out.lt; have := HBX.out.size; omega)
      have HX2 := Lib.hid (HX.out.bel hby)
      have HY := Lib.hid hqy
      have HBY := Lib.hid (HBX.out.trans hby)
      clear hpy hqy hby HX HBX
      go_wp2
      go_loopw [14] (fun i wq => ∃ k : Nat, k ≤ 32 ∧ i = .int .i64 k ∧ Ld wq px (l.take k) ∧ Ld wq py (cur.take k) ∧ Bel wA wq) (fun i _ => 32 - (intOf i).toNat)
      case atStart => exact ⟨0, by omega, rfl, HX2.out, HY.out, HBY.out⟩
      case round =>
        obtain ⟨i, hi, rfl, hx, hy, hb⟩ := hrel
        have HX := Lib.hid hx
        have HY2 := Lib.hid hy
        have HB5 := Lib.hid hb
        clear hx hy hb HX2 HY HBY
        by_cases hlt2 : i < 32
        · obtain ⟨b, off, rfl, _, hr⟩ := HL.out.row (by have := HN.out; omega)
          obtain ⟨x, hx⟩ : ∃ x, l.getD i default = x := ⟨_, rfl⟩
          obtain ⟨z, hz⟩ : ∃ z, cur.getD i default = z := ⟨_, rfl⟩
          have cx := hr i (by have := HN.out; omega)
          rw [hx] at cx
          have cz := HO2.out.cells3 HC.out hlt2 hz
          have HCX : Hid (∀ w', Bel wA w' → w'.cell? ⟨b, off + i * 3, none⟩ = some (.int .i64 x.a) ∧ w'.cell? ⟨b, off + i * 3 + 1, none⟩ = some (.int .i64 x.b) ∧ w'.cell? ⟨b, off + i * 3 + 2, none⟩ = some (.int .i64 x.c)) := Lib.hid fun w' hb =>
            ⟨(HB4.out.trans hb).cell cx.1, (HB4.out.trans hb).cell cx.2.1, (HB4.out.trans hb).cell cx.2.2⟩
          have HCZ : Hid (∀ w', Bel wA w' → w'.cell? ⟨g, i * 3, none⟩ = some (.int .i64 z.a) ∧ w'.cell? ⟨g, i * 3 + 1, none⟩ = some (.int .i64 z.b) ∧ w'.cell? ⟨g, i * 3 + 2, none⟩ = some (.int .i64 z.c)) := Lib.hid fun w' hb =>
            ⟨hb.cell cz.1, hb.cell cz.2.1, hb.cell cz.2.2⟩
          have KX : Hid (∀ w', Bel wr w' → Calls Try.prog 9 #[.pointer (some ⟨px, 0, none⟩), .int .i64 x.a, .int .i64 x.b, .int .i64 x.c] w' fun e w'' => e = .returned (.int .i64 0) ∧ (Ld w'' px (l.take (i + 1)) ∧ Ld w'' py (cur.take i)) ∧ Bel wA w'') := Lib.hid fun w' hb =>
            (note_good px l i w' (HX.out.bel hb) (by have := HN.out; omega) (by have := HN.out; omega) HOK.out x hx).mono fun e w'' ⟨h1, h2, h3⟩ => ⟨h1, ⟨h2, (HY2.out.bel hb).off h3 HPY.out.2⟩, h3.belp (HB5.out.trans hb) HPX.out⟩
          have KY : Hid (∀ w', Ld w' px (l.take (i + 1)) → Ld w' py (cur.take i) → Bel wA w' → Calls Try.prog 9 #[.pointer (some ⟨py, 0, none⟩), .int .i64 z.a, .int .i64 z.b, .int .i64 z.c] w' fun e w'' => e = .returned (.int .i64 0) ∧ (Ld w'' px (l.take (i + 1)) ∧ Ld w'' py (cur.take (i + 1))) ∧ Bel wA w'') := Lib.hid fun w' h4 h5 hb =>
            (note_good py cur i w' h5 (by have := HC.out; omega) (by have := HC.out; omega) (HOK.out.sub fun t ht => HP.out.mem_iff.1 ht) z hz).mono fun e w'' ⟨h1, h2, h3⟩ => ⟨h1, ⟨h4.off h3 (fun e => HPY.out.2 e.symm), h2⟩, h3.belp hb HPY.out.1⟩
          clear hx hz hr cx cz
          generalize x.a = xa at *
          generalize x.b = xb at *
          generalize x.c = xc at *
          generalize z.a = za at *
          generalize z.b = zb at *
          generalize z.c = zc at *
          have b0 : (0 : Int) ≤ (i : Int) := by omega
          have b1 : (i : Int) < 32 := by omega
          have b2 : (i : Int) < (N : Int) := by omega
          go_wp2
          go_region_held3 (fun w' => w'.cell? ⟨b, off + i * 3, none⟩ = some (.int .i64 xa) ∧ w'.cell? ⟨b, off + i * 3 + 1, none⟩ = some (.int .i64 xb) ∧ w'.cell? ⟨b, off + i * 3 + 2, none⟩ = some (.int .i64 xc))
            (first | exact HCX.out _ HB5.out.drew | exact HCX.out _ HB5.out | exact HCX.out _ hb3)
            (first | (go_at_call 9; (with_reducible refine (KX.out _ (by repeat (first | exact Bel.refl _ | refine Bel.drew ?_))).mono ?_); rintro e w7 ⟨rfl, hq3, hb3⟩))
          have HQ3 := Lib.hid hq3
          have HB6 := Lib.hid hb3
          clear hq3 hb3 HCX KX HX HY2 HB5
          have KY2 : Hid (∀ w', Bel w7 w' → Calls Try.prog 9 #[.pointer (some ⟨py, 0, none⟩), .int .i64 za, .int .i64 zb, .int .i64 zc] w' fun e w'' => e = .returned (.int .i64 0) ∧ (Ld w'' px (l.take (i + 1)) ∧ Ld w'' py (cur.take (i + 1))) ∧ Bel wA w'') := Lib.hid fun w' hb =>
            KY.out w' (HQ3.out.1.bel hb) (HQ3.out.2.bel hb) (HB6.out.trans hb)
          clear KY
          go_wp2
          go_region_held3 (fun w' => w'.cell? ⟨g, i * 3, none⟩ = some (.int .i64 za) ∧ w'.cell? ⟨g, i * 3 + 1, none⟩ = some (.int .i64 zb) ∧ w'.cell? ⟨g, i * 3 + 2, none⟩ = some (.int .i64 zc))
            (first | exact HCZ.out _ HB6.out.drew | exact HCZ.out _ HB6.out | exact HCZ.out _ hb3)
            (first | (go_at_call 9; (with_reducible refine (KY2.out _ (by repeat (first | exact Bel.refl _ | refine Bel.drew ?_))).mono ?_); rintro e w8 ⟨rfl, hq3, hb3⟩))
          have HQ4 := Lib.hid hq3
          have HB7 := Lib.hid hb3
          clear hq3 hb3 HCZ KY2 HQ3 HB6
          go_wp2
          go_roundw
          case rel => exact ⟨i + 1, by omega, by go_num, HQ4.out.1, HQ4.out.2, HB7.out⟩
          case measure => simp [intOf]; omega
        · obtain rfl : i = 32 := by omega
          have KX : Hid (∀ w', Bel wr w' → Calls Try.prog 13 #[.pointer (some ⟨px, 0, none⟩)] w' fun e w'' => e = .returned (.tuple #[.agg #[.int .i64 (tot 0 l), .int .i64 (tot 1 l), .int .i64 (tot 2 l), .int .i64 (tot 3 l), .int .i64 (mx l)], .bool true]) ∧ Bel w' w'') := Lib.hid fun w' hb => by
            have hx := HX.out
            rw [List.take_of_length_le (by have := HN.out; omega)] at hx
            have K := llast_any px l w' (hx.bel hb) (by have := HN.out; omega)
            rw [lst_32 HN.out, HN.out] at K
            exact K
          have KY : Hid (∀ w', Bel wr w' → Calls Try.prog 13 #[.pointer (some ⟨py, 0, none⟩)] w' fun e w'' => e = .returned (.tuple #[.agg #[.int .i64 (tot 0 l), .int .i64 (tot 1 l), .int .i64 (tot 2 l), .int .i64 (tot 3 l), .int .i64 (mx l)], .bool true]) ∧ Bel w' w'') := Lib.hid fun w' hb => by
            have hy := HY2.out
            rw [List.take_of_length_le (by have := HC.out; omega)] at hy
            have K := llast_any py cur w' (hy.bel hb) (by have := HC.out; omega)
            rw [lst_32 HC.out, HC.out] at K
            unfold talV at K
            rw [tot_perm 0 HP.out, tot_perm 1 HP.out, tot_perm 2 HP.out, tot_perm 3 HP.out, mx_perm HP.out] at K
            exact K
          have HE : Hid (∀ w', Bel wr w' → Bel w w') := Lib.hid fun w' hb => ((HB2.out.trans HB4.out).trans HB5.out).trans hb
          clear HX HY2
          generalize tot 0 l = x0 at *
          generalize tot 1 l = x1 at *
          generalize tot 2 l = x2 at *
          generalize tot 3 l = x3 at *
          generalize mx l = x4 at *
          go_wp2_with fail
          with_reducible refine (KX.out _ (Bel.refl _)).mono ?_
          rintro e w7 ⟨rfl, hb7⟩
          obtain ⟨b17, e17⟩ : ∃ b, w7.heap.size = b := ⟨_, rfl⟩
          have L1 : Hid (∀ w', Bel (w7.alloc (.cells #[.int .i64 x0, .int .i64 x1, .int .i64 x2, .int .i64 x3, .int .i64 x4] 33)) w' → w'.cell? ⟨b17, 0, none⟩ = some (.int .i64 x0) ∧ w'.cell? ⟨b17, 1, none⟩ = some (.int .i64 x1) ∧ w'.cell? ⟨b17, 2, none⟩ = some (.int .i64 x2) ∧ w'.cell? ⟨b17, 3, none⟩ = some (.int .i64 x3) ∧ w'.cell? ⟨b17, 4, none⟩ = some (.int .i64 x4)) := Lib.hid fun w' hb => by
            subst e17
            exact ⟨hb.cell (by simp [go_sem]), hb.cell (by simp [go_sem]), hb.cell (by simp [go_sem]), hb.cell (by simp [go_sem]), hb.cell (by simp [go_sem])⟩
          obtain ⟨W7, eW⟩ : ∃ W, w7.alloc (.cells #[.int .i64 x0, .int .i64 x1, .int .i64 x2, .int .i64 x3, .int .i64 x4] 33) = W := ⟨_, rfl⟩
          have HB7 : Hid (Bel wr W7) := Lib.hid (by rw [← eW]; exact hb7.alloc _ _)
          rw [eW] at L1
          clear hb7 KX
          go_wp2_with fail
          with_reducible refine (KY.out _ HB7.out).mono ?_
          rintro e w8 ⟨rfl, hb8⟩
          clear eW e17 KY
          have HB8 := Lib.hid (HB7.out.trans hb8)
          obtain ⟨c0, c1, c2, c3, c4⟩ := L1.out _ (hb8.alloc #[.int .i64 x0, .int .i64 x1, .int .i64 x2, .int .i64 x3, .int .i64 x4] 33)
          clear hb8 L1 HB7
          go_wp2
          go_ret
          exact ⟨rfl, HE.out _ (HB8.out.alloc _ _)⟩
theorem turns_any (a b : Option Addr) (n m cap kb : Nat) (l : List T) (w : World) (hn : l.length = n) (hs : n * 24 ≤ 140737488355328) (hl : Has nof w a l) (hbt : IsBytes w b m) :
    Calls Try.prog 5 #[.slice a n cap, .slice b m kb] w fun e w' => e = .returned (.bool true) ∧ Bel w w' := by
  by_cases h : 100 < n ∨ (good l).length < 32 ∨ 100 < m
  · exact turns_out a b n m cap kb l w hn hs hl h
  · exact turns_main a b n m cap kb l w hn hs hl hbt (by omega) (by omega) (by omega)
end Go.Proofs.Ytfplmleakgpkiaa
