/-
  The walk of SlabFresh.
-/
import Derived.Test.YtlohpccfanmiiaaPlay
namespace Go.Proofs.Ytlohpccfanmiiaa
open Go.RowKit
/-- Each handle that was taken is of a place that was taken at least as often. -/
def Hist (S : St) (tk : List Hd) : Prop := ∀ q ∈ tk, ∃ (j : Nat) (u : Int) (a : Bool), q.p = j ∧ S.tk[j]? = some ⟨u, a⟩ ∧ q.g ≤ u
theorem pl_take {S : St} (h : Wf S) : (takeS S).2.2.pl = S.pl ∧ (takeS S).2.2.gn = S.gn := by
  rcases take_cases h with ⟨r, k, u, h1, h2, h3, h4⟩ | ⟨h1, h2⟩ | ⟨h1, h2⟩
  · rw [takeS_freed h1 h2]; exact ⟨rfl, rfl⟩
  · rw [takeS_fresh h1 h2]; exact ⟨rfl, rfl⟩
  · rw [takeS_full h1 h2]; exact ⟨rfl, rfl⟩
theorem pl_free (S : St) (q : Hd) : (freeA S q).2.pl = S.pl ∧ (freeA S q).2.gn = S.gn := by
  unfold freeA
  split
  · exact ⟨rfl, rfl⟩
  · exact ⟨rfl, rfl⟩
theorem hist_free {S : St} {tk : List Hd} (h : Hist S tk) (q : Hd) : Hist (freeA S q).2 tk := by
  by_cases hl : lv S q = true
  · obtain ⟨k, h1, h2⟩ := (lv_iff S q).1 hl
    obtain ⟨p, g⟩ := q
    simp only at h1 h2
    subst h1
    rw [freeA_yes h2]
    intro y hy
    obtain ⟨j, u, a, e1, e2, e3⟩ := h y hy
    by_cases e : j = k
    · subst e
      rw [h2] at e2
      injection e2 with e2
      injection e2 with e4 e5
      refine ⟨j, g, false, e1, ?_, by omega⟩
      unfold freeS
      simp only
      rw [set_get S.tk j _ _ j h2, if_pos rfl]
    · refine ⟨j, u, a, e1, ?_, e3⟩
      unfold freeS
      simp only
      rw [set_get S.tk k _ _ j h2, if_neg e]
      exact e2
  · rw [freeA_no (by simpa using hl)]
    exact h
theorem hist_take {S S' : St} {tk : List Hd} {q : Hd} {er : Int} (w : Wf S) (h : Hist S tk) (ht : takeS S = (q, er, S')) : Hist S' tk ∧ (er = 0 → Hist S' (tk ++ [q]) ∧ ∀ y ∈ tk, y ≠ q ∧ (y.p = q.p → y.g ≤ q.g ∧ lv S' y = false)) := by
  rcases take_cases w with ⟨r, k, u, h1, h2, h3, h4⟩ | ⟨h1, h2⟩ | ⟨h1, h2⟩
  · rw [takeS_freed h1 h2] at ht
    injection ht with e1 ht
    injection ht with e2 e3
    subst e1 e2 e3
    have hold : Hist { S with tk := S.tk.set k ⟨u + 1, true⟩, fr := r } tk := fun y hy => by
      obtain ⟨j, v, a, e1, e2, e3⟩ := h y hy
      by_cases e : j = k
      · subst e
        rw [h2] at e2
        injection e2 with e2
        injection e2 with e4 e5
        exact ⟨j, u + 1, true, e1, by simp only; rw [set_get S.tk j _ _ j h2, if_pos rfl], by omega⟩
      · exact ⟨j, v, a, e1, by simp only; rw [set_get S.tk k _ _ j h2, if_neg e]; exact e2, e3⟩
    refine ⟨hold, fun _ => ⟨fun y hy => ?_, fun y hy => ?_⟩⟩
    · rw [List.mem_append, List.mem_singleton] at hy
      rcases hy with hy | rfl
      · exact hold y hy
      · exact ⟨k, u + 1, true, rfl, by simp only; rw [set_get S.tk k _ _ k h2, if_pos rfl], Int.le_refl _⟩
    · obtain ⟨j, v, a, e1, e2, e3⟩ := h y hy
      have key : y.p = k → y.g ≤ u := fun e => by
        have : j = k := by omega
        subst this
        rw [h2] at e2
        injection e2 with e2
        injection e2 with e4 e5
        omega
      refine ⟨fun e => ?_, fun e => ⟨?_, ?_⟩⟩
      · have h5 := key (by rw [e])
        rw [e] at h5
        simp only at h5
        omega
      · have h5 := key e
        simp only
        omega
      · have h5 := key e
        rw [Bool.eq_false_iff]
        intro h6
        rw [lv_set S k _ _ r h2] at h6
        rcases h6 with ⟨_, h7⟩ | ⟨h7, _⟩
        · injection h7 with h7
          omega
        · exact h7 e
  · rw [takeS_fresh h1 h2] at ht
    injection ht with e1 ht
    injection ht with e2 e3
    subst e1 e2 e3
    have hold : Hist { S with tk := S.tk ++ [⟨1, true⟩] } tk := fun y hy => by
      obtain ⟨j, v, a, e1, e2, e3⟩ := h y hy
      exact ⟨j, v, a, e1, by simp only; rw [push_get, if_neg (by have := get_lt e2; omega)]; exact e2, e3⟩
    refine ⟨hold, fun _ => ⟨fun y hy => ?_, fun y hy => ?_⟩⟩
    · rw [List.mem_append, List.mem_singleton] at hy
      rcases hy with hy | rfl
      · exact hold y hy
      · exact ⟨S.tk.length, 1, true, rfl, by simp only; rw [push_get, if_pos rfl], Int.le_refl _⟩
    · obtain ⟨j, v, a, e1, e2, e3⟩ := h y hy
      have key : ¬ y.p = S.tk.length := fun e => by have := get_lt e2; omega
      exact ⟨fun e => key (by rw [e]), fun e => absurd e key⟩
  · rw [takeS_full h1 h2] at ht
    injection ht with e1 ht
    injection ht with e2 e3
    subst e1 e2 e3
    exact ⟨h, fun e => by omega⟩
theorem sum_all (S : St) : (lenS S : Int) + leftS S + wornS S = S.pl := by unfold wornS; omega
theorem fresh_law_long (P G : Int) (pa : Option Addr) (N ca : Nat) (w : World) (h : 60 < N) :
    Calls Try.prog 4 #[.int .i64 P, .int .i64 G, .slice pa N ca] w fun e w' => e = .returned (.bool true) ∧ Bel w w' := by
  have h' : (60 : Int) < N := by omega
  go_enter Try.func4, Try.ntmps4
  go_wp2_with fail
  with_reducible refine (works_any _).mono ?_
  rintro e w1 ⟨rfl, hb⟩
  go_wp2
  go_ret
  exact ⟨rfl, hb⟩
theorem fresh_law_no (P G : Int) (pa : Option Addr) (N ca : Nat) (w : World) (h : N ≤ 60) (hP : ¬ (0 ≤ P ∧ P ≤ 1024 ∧ 1 ≤ G ∧ G ≤ 65535)) :
    Calls Try.prog 4 #[.int .i64 P, .int .i64 G, .slice pa N ca] w fun e w' => e = .returned (.bool true) ∧ Bel w w' := by
  have h' : ¬ (60 : Int) < N := by omega
  have K1 := Lib.hid (fun w => new_no P G w hP)
  clear hP
  go_enter Try.func4, Try.ntmps4
  go_wp2_with fail
  with_reducible refine (works_any _).mono ?_
  rintro e w1 ⟨rfl, hb⟩
  have HB := Lib.hid hb
  clear hb
  go_wp2_with fail
  with_reducible refine (K1.out _).mono ?_
  rintro e w2 ⟨rfl, rfl⟩
  go_wp2
  go_ret
  exact ⟨rfl, HB.out⟩
/-- One more is put behind those that were taken. -/
theorem push_both {w1 w wh : World} {B : Nat} {f : Nat → Prop} {S : St} {p q : Option Addr} {n c k : Nat} {tk : List Hd} (hw : Way w1 B f S w) (ht : Tkn w1 f w p n c tk) (x : Hd)
    (hown : wh.ownsRow 0 38 2 (.slice q (n + 1) k) (n + 1) (encH tk ++ encH [x])) (hgrow : (w.alloc (.cells #[.int .i64 x.p, .int .i64 x.g] 38)).grownBy wh (Value.slice p n c).ownBlock)
    (hnew : ∀ j, (Value.slice q (n + 1) k).ownBlock = some j → (Value.slice p n c).ownBlock = some j ∨ w.heap.size + 1 ≤ j) : Way w1 B f S wh ∧ Tkn w1 f wh q (n + 1) k (tk ++ [x]) := by
  have hb : Bel w (w.alloc (.cells #[.int .i64 x.p, .int .i64 x.g] 38)) := (Bel.refl _).alloc _ _
  exact ⟨(hw.bel hb).push hgrow ht.nf ht.ge, (ht.bel hb).push x (fun j e => Nat.lt_of_lt_of_le (hw.sl.lt j e) hb.size) (Nat.le_trans hw.off.size hb.size) hown (fun j e => by
    rcases hnew j e with e | e
    · exact .inl e
    · exact .inr (by simp; omega))⟩
/-- What holds at each round's head. -/
structure FI (w1 : World) (B : Nat) (P : Int) (f : Nat → Prop) (S : St) (p : Option Addr) (n c : Nat) (tk : List Hd) (w : World) : Prop where
  way : Way w1 B f S w
  wf : Wf S
  pl : S.pl = P
  tkn : Tkn w1 f w p n c tk
  hist : Hist S tk
theorem FI.bel {w1 : World} {B : Nat} {P : Int} {f : Nat → Prop} {S : St} {p : Option Addr} {n c : Nat} {tk : List Hd} {w w' : World} (h : FI w1 B P f S p n c tk w) (k : Bel w w') : FI w1 B P f S p n c tk w' := ⟨h.way.bel k, h.wf, h.pl, h.tkn.bel k, h.hist⟩
set_option maxHeartbeats 4000000 in
set_option maxRecDepth 100000 in
theorem fresh_law_yes (P G : Int) (pa : Option Addr) (N ca : Nat) (l : List Ac) (w : World) (h : N ≤ 60) (hl : l.length = N) (hA : Lies nof w pa (encA l)) (h0 : 0 ≤ P) (h1 : P ≤ 1024) (h2 : 1 ≤ G) (h3 : G ≤ 65535) :
    Calls Try.prog 4 #[.int .i64 P, .int .i64 G, .slice pa N ca] w fun e w' => e = .returned (.bool true) ∧ Bel w w' := by
  have h' : ¬ (60 : Int) < N := by omega
  have HL := Lib.hid hl
  have HA0 := Lib.hid hA
  clear hl hA
  go_enter Try.func4, Try.ntmps4
  go_wp2_with fail
  with_reducible refine (works_any _).mono ?_
  rintro e w1 ⟨rfl, hb⟩
  have HB := Lib.hid hb
  have HA := Lib.hid (HA0.out.bel hb)
  clear hb
  go_wp2_with fail
  with_reducible refine (new_ok P G _ h0 h1 h2 h3).mono ?_
  rintro e w2 ⟨B, f, rfl, hS, hb, hf⟩
  have I2 : Hid (FI w1 B P f (newS P G) none 0 0 [] w2) := Lib.hid ⟨⟨hS, hb, hf⟩, wf_new P G h0 h1 h2 h3, rfl, Tkn.nil _ _ _, fun q hq => by simp at hq⟩
  clear hS hb hf
  go_wp2
  go_loopw [10, 11] (fun o v wr => ∃ m : Nat, v = .int .i64 m ∧ m ≤ N ∧ ∃ f S p n c tk, o = .slice p n c ∧ n ≤ m ∧ FI w1 B P f S p n c tk wr) (fun _ v _ => N - (intOf v).toNat)
  case atStart => exact ⟨0, rfl, by omega, f, _, none, 0, 0, [], rfl, by omega, I2.out⟩
  case round =>
    clear I2
    obtain ⟨m, rfl, hi, f2, S2, p2, n2, c2, tk2, rfl, hn2, hI⟩ := hrel
    have HI := Lib.hid hI
    clear hI
    by_cases hlt : m < N
    · obtain ⟨b, off, rfl, _, hr⟩ := lies_ac HA.out (i := m) (by have := HL.out; omega)
      obtain ⟨a, ha⟩ : ∃ a, l[m]? = some a := ⟨_, List.getElem?_eq_getElem (by have := HL.out; omega)⟩
      obtain ⟨a0, a1, a2, a3⟩ := row_ac hr ha
      have a0 := HI.out.way.off.cell a0
      have a1 := HI.out.way.off.cell a1
      have a2 := HI.out.way.off.cell a2
      have a3 := HI.out.way.off.cell a3
      clear hr ha
      by_cases hk : a.k = 0
      · have hkd : (a.k != 0) = false := by simpa using hk
        clear hk
        obtain ⟨hp, hg, er, S3, hta⟩ : ∃ hp hg er S3, takeS S2 = (⟨hp, hg⟩, er, S3) := ⟨_, _, _, _, rfl⟩
        have hwf3 : Wf S3 := by have h1 := wf_take HI.out.wf; rw [hta] at h1; exact h1
        have hpl3 : S3.pl = P := by have h1 := pl_take HI.out.wf; rw [hta] at h1; rw [← HI.out.pl]; exact h1.1
        have herr : er = 0 ∨ er = 6 := by have h1 := take_err HI.out.wf; rw [hta] at h1; exact h1
        have HH := Lib.hid (hist_take HI.out.wf HI.out.hist hta)
        have HF3 := Lib.hid hta
        have HWf := Lib.hid hwf3
        have HPl := Lib.hid hpl3
        clear hta hwf3 hpl3
        go_wp2_with fail
        with_reducible refine (do_take HI.out.wf HF3.out B f2 _ HI.out.way.sl).mono ?_
        rintro e w3 ⟨rfl, f3, hs, hst⟩
        have W3 := Lib.hid ((HI.out.way.steps hs hst).bel ((Bel.refl w3).alloc #[.int .i64 hp, .int .i64 hg] 38))
        have T3 := Lib.hid ((HI.out.tkn.steps hst).bel ((Bel.refl w3).alloc #[.int .i64 hp, .int .i64 hg] 38))
        have KH := Lib.hid (Keep.new (.cells #[.int .i64 hp, .int .i64 hg] 38) hs.lt)
        clear hs hst a0 a1 a2 a3
        rcases herr with rfl | rfl
        · have HH2 := Lib.hid (HH.out.2 rfl)
          clear HH
          go_wp2
          generalize hWz : w3.alloc (.cells #[.int .i64 hp, .int .i64 hg] 38) = wz at *
          clear hWz
          go_loopw [14] (fun v wr => ∃ k : Nat, v = .int .i64 k ∧ k ≤ n2 ∧ Bel wz wr) (fun v _ => n2 - (intOf v).toNat)
          case atStart => exact ⟨0, rfl, by omega, Bel.refl _⟩
          case round =>
            obtain ⟨k, rfl, hki, hb⟩ := hrel
            have HBz := Lib.hid hb
            clear hb
            obtain ⟨⟨d0, d1⟩, _⟩ := box2 (HBz.out.heap KH.out.2)
            by_cases hkl : k < n2
            · obtain ⟨y, hy⟩ : ∃ y, tk2[k]? = some y := ⟨_, List.getElem?_eq_getElem (by have := T3.out.len; omega)⟩
              obtain ⟨b2, off2, hp2, _, hr2⟩ := lies_hd T3.out.lies.2 (get_lt hy)
              obtain ⟨x0, x1⟩ := row_hd hr2 hy
              have x0 := HBz.out.cell x0
              have x1 := HBz.out.cell x1
              have HY := Lib.hid (HH2.out.2 y (List.mem_of_getElem? hy))
              subst hp2
              clear hr2 hy
              have K1 := eql_no y ⟨hp, hg⟩ HY.out.1
              by_cases hsame : y.p = hp
              · have he1 : (y.p == hp) = true := by simpa using hsame
                have he2 : decide (hg < y.g) = false := decide_eq_false (by have := (HY.out.2 hsame).1; omega)
                have KV := Lib.hid (fun w' (hb : Bel wz w') => do_alive (q := y) HWf.out (HY.out.2 hsame).2 B f3 w' (W3.out.sl.bel hb))
                have HX : Hid (∀ w', Bel wr w' → Bel wr w' ∧ (w'.cell? ⟨b2, off2 + k * 2, none⟩ = some (.int .i64 y.p) ∧ w'.cell? ⟨b2, off2 + k * 2 + 1, none⟩ = some (.int .i64 y.g)) ∧ (w'.cell? ⟨w3.heap.size, 0, none⟩ = some (.int .i64 hp) ∧ w'.cell? ⟨w3.heap.size, 1, none⟩ = some (.int .i64 hg))) := Lib.hid (fun w' hb => ⟨hb, ⟨hb.cell x0, hb.cell x1⟩, hb.cell d0, hb.cell d1⟩)
                clear hsame
                go_wp2
                go_region_held3 (fun w' => Bel wr w' ∧ (w'.cell? ⟨b2, off2 + k * 2, none⟩ = some (.int .i64 y.p) ∧ w'.cell? ⟨b2, off2 + k * 2 + 1, none⟩ = some (.int .i64 y.g)) ∧ (w'.cell? ⟨w3.heap.size, 0, none⟩ = some (.int .i64 hp) ∧ w'.cell? ⟨w3.heap.size, 1, none⟩ = some (.int .i64 hg)))
                  (((with_reducible refine HX.out _ ?_); first | (with_reducible exact (Bel.refl _).drew) | (with_reducible exact Bel.refl _) | exact Bel.trans (And.left (by assumption)) hg1))
                  (first | (go_at_call 16; (with_reducible refine (KV.out _ (HBz.out.trans (And.left (by assumption)))).mono ?_); rintro e w9 ⟨rfl, hg1⟩))
                all_goals
                  have HB9 : Hid (Bel wz w9) := Lib.hid (HBz.out.trans (And.left (by assumption)))
                  clear hg1
                  go_wp2
                  go_roundw
                  case rel => exact ⟨k + 1, by go_num, by omega, HB9.out⟩
                  case measure => simp [intOf]; omega
              · have he1 : (y.p == hp) = false := by simpa using hsame
                clear hsame
                go_wp2
                go_quiet (fail)
                go_wp2
                go_roundw
                case rel => exact ⟨k + 1, by go_num, by omega, HBz.out.drewN _⟩
                case measure => simp [intOf]; omega
            · obtain rfl : k = n2 := by omega
              have hzh := (Array.getElem?_eq_some_iff.1 (HBz.out.heap KH.out.2)).1
              go_wp2_with (at_builtin; refine wpList_append_keep el29 rfl (.tmp 106) (.tmp 108) rfl (.slice p2 k c2) k (encH tk2) rfl (own_bel T3.out.own (HBz.out.alloc _ _)) wr.heap.size 0 1 1 (encH [⟨hp, hg⟩]) rfl (by omega) rfl (row_hd1 _ ⟨hp, hg⟩ _ rfl) (encH_one _) (by omega) ?_)
              intro p3 c3 wh hown hgrow hnew _
              have hboth := push_both (W3.out.bel HBz.out) (T3.out.bel HBz.out) ⟨hp, hg⟩ hown hgrow hnew
              have I3 : Hid (FI w1 B P f3 S3 p3 (k + 1) c3 (tk2 ++ [⟨hp, hg⟩]) wh) := Lib.hid ⟨hboth.1, HWf.out, HPl.out, hboth.2, HH2.out.1⟩
              clear hboth
              clear hown hgrow hnew d0 d1
              go_wp2
              go_roundw
              case rel => exact ⟨m + 1, by go_num, by omega, f3, S3, p3, k + 1, c3, tk2 ++ [⟨hp, hg⟩], rfl, by omega, I3.out⟩
              case measure => simp [intOf]; omega
        · go_wp2
          go_roundw
          case rel => exact ⟨m + 1, by go_num, by omega, f3, S3, p2, n2, c2, tk2, rfl, by omega, ⟨W3.out, HWf.out, HPl.out, T3.out, HH.out.1⟩⟩
          case measure => simp [intOf]; omega
      · have hkd : (a.k != 0) = true := by simpa using hk
        clear hk
        go_wp2_with fail
        with_reducible refine (handle_any a tk2 p2 n2 c2 _ HI.out.tkn.len HI.out.tkn.lies.2).mono ?_
        rintro e wa ⟨rfl, hb⟩
        have HIa := Lib.hid (HI.out.bel hb)
        clear hb a0 a1 a2 a3
        obtain ⟨q, hq⟩ : ∃ q, pickH a tk2 = q := ⟨_, rfl⟩
        rw [hq]
        clear hq
        go_wp2_with fail
        with_reducible refine (free_any B f2 S2 q _ HIa.out.way.sl HIa.out.wf).mono ?_
        rintro e w3 ⟨rfl, f3, hs, hst⟩
        have I3 : Hid (FI w1 B P f3 (freeA S2 q).2 p2 n2 c2 tk2 w3) := Lib.hid ⟨HIa.out.way.steps hs hst, wf_free HIa.out.wf q, by rw [(pl_free S2 q).1]; exact HIa.out.pl, HIa.out.tkn.steps hst, hist_free HIa.out.hist q⟩
        clear hs hst
        go_wp2
        go_roundw
        case rel => exact ⟨m + 1, by go_num, by omega, f3, _, p2, n2, c2, tk2, rfl, by omega, I3.out⟩
        case measure => simp [intOf]; omega
    · obtain rfl : m = N := by omega
      obtain ⟨L, hL⟩ : ∃ L, lenS S2 = L := ⟨_, rfl⟩
      obtain ⟨F, hF⟩ : ∃ F, leftS S2 = F := ⟨_, rfl⟩
      obtain ⟨O, hO⟩ : ∃ O, wornS S2 = O := ⟨_, rfl⟩
      have hsum : (L : Int) + F + O = P := by rw [← hL, ← hF, ← hO, sum_all]; exact HI.out.pl
      have hLb : L ≤ 1024 := by rw [← hL]; exact Nat.le_trans (lenS_le S2) HI.out.wf.sm.t1
      have hFb : -1024 ≤ F ∧ F ≤ 2048 := by
        rw [← hF]
        unfold leftS
        have h4 := HI.out.wf.sm
        have := h4.p0
        have := h4.p1
        have := h4.t1
        have := h4.f1
        omega
      have HLf := Lib.hid hL
      have HFf := Lib.hid hF
      have HOf := Lib.hid hO
      clear hL hF hO
      have e1 : IntKind.i64.wrap ((L : Int) + F) = L + F := i64_in _ (by omega) (by omega)
      have e2 : IntKind.i64.wrap ((L : Int) + F + O) = L + F + O := i64_in _ (by omega) (by omega)
      have e3 : ((L : Int) + F + O == P) = true := by simpa using hsum
      clear hsum
      go_wp2_with fail
      with_reducible refine (do_len HI.out.wf HLf.out B f2 _ HI.out.way.sl).mono ?_
      rintro e w3 ⟨rfl, hb⟩
      have W3 := Lib.hid (HI.out.way.bel hb)
      clear hb
      go_wp2_with fail
      with_reducible refine (do_left HI.out.wf HFf.out B f2 _ W3.out.sl).mono ?_
      rintro e w4 ⟨rfl, hb⟩
      have W4 := Lib.hid (W3.out.bel hb)
      clear hb
      go_wp2_with fail
      with_reducible refine (do_worn HI.out.wf HOf.out B f2 _ W4.out.sl).mono ?_
      rintro e w5 ⟨rfl, hb⟩
      have W5 := Lib.hid (W4.out.bel hb)
      clear hb
      go_wp2
      go_ret
      exact ⟨rfl, HB.out.trans W5.out.off⟩
end Go.Proofs.Ytlohpccfanmiiaa
