/-
  Contract of the law's made, where there are chains.
-/
import Derived.Test.YtdeiknfaehpheaaMade
namespace Go.Proofs.Ytdeiknfaehpheaa
open Go.RowKit
set_option maxHeartbeats 8000000 in
set_option maxRecDepth 100000 in
theorem made_yes (P L : Nat) (pa : Option Addr) (N ca : Nat) (l : List Ac) (w : World) (hP : P ≤ 1024) (hL : L ≤ 1024) (hl : l.length = N) (hN : N ≤ 60) (hA : Lies nof w pa (encA l)) :
    Calls Try.prog 9 #[.int .i64 P, .int .i64 L, .slice pa N ca] w fun e w' => MadePost w P L e w' := by
  have HA := Lib.hid hA
  have HL := Lib.hid hl
  have hB7 : Bel w (w.alloc (.cells #[.int .i64 0, .slice none 0 0] 27)) := (Bel.refl w).alloc _ _
  have HB7 := Lib.hid hB7
  have H7 := Lib.hid (heap_alloc_new w (.cells #[.int .i64 0, .slice none 0 0] 27))
  have HZ7 : Hid ((w.alloc (.cells #[.int .i64 0, .slice none 0 0] 27)).heap.size = w.heap.size + 1) := Lib.hid (by simp)
  have K1 := Lib.hid (fun w => new_way P L w hP hL)
  have K2 := Lib.hid (fun w => rnew_yes P L w hP hL)
  unfold rv at *
  clear hA hl hB7
  go_enter Try.func9, Try.ntmps9
  go_wp2_with fail
  with_reducible refine (K1.out _).mono ?_
  rintro e w1 ⟨B, G, rfl, hw, hB⟩
  have hGe := hw.ge
  rw [HZ7.out] at hGe hB
  have W1 : Hid (Way w B G P L (fun _ => []) w1) := Lib.hid ⟨hw.ch, HB7.out.trans hw.off, by omega⟩
  have H71 := Lib.hid (hw.off.heap H7.out)
  clear hw
  go_wp2_with fail
  with_reducible refine (K2.out _).mono ?_
  rintro e w2 ⟨p, c, rfl, hc, hr, hb⟩
  have H72 := Lib.hid (hb.heap H71.out)
  have hGl := W1.out.ch.ltG
  have HI : Hid (Inv w B G P L (fun _ => []) p c w.heap.size w2.heap.size (w2.alloc (.cells #[.int .i64 P, .slice p L c] 27))) := Lib.hid (by
    have hb2 : Bel w2 (w2.alloc (.cells #[.int .i64 P, .slice p L c] 27)) := (Bel.refl w2).alloc _ _
    exact ⟨(W1.out.bel hb).bel hb2, (hr.mono (fun b _ e => by rw [show b = G from e]; exact hGl.1)).bel hb2, hb2.heap H72.out, heap_alloc_new _ _⟩)
  have hT11 : w.heap.size < w2.heap.size := (Array.getElem?_eq_some_iff.1 H72.out).1
  have hG11 : G < w2.heap.size := Nat.lt_of_lt_of_le hGl.1 hb.size
  have hB11 : B < w2.heap.size := Nat.lt_of_lt_of_le hGl.2.1 hb.size
  clear hr hb hGl H71 H72 H7 W1
  go_upto_region 3 with (fail)
  generalize w2.alloc (.cells #[.int .i64 P, .slice p L c] 27) = W9 at *
  generalize w2.heap.size = T11 at *
  go_wp2
  go_loopw [13, 14, 15] (fun v _ _ wr => ∃ m ls p c, v = .int .i64 (m : Nat) ∧ m ≤ N ∧ L ≤ c ∧ Inv w B G P L ls p c w.heap.size T11 wr) (fun v _ _ _ => N - (intOf v).toNat)
  case atStart => exact ⟨0, _, p, c, rfl, by omega, hc, HI.out⟩
  case round =>
    clear HI
    obtain ⟨m, ls, p, c, rfl, hm, hc, hi⟩ := hrel
    have HI := Lib.hid hi
    clear hi
    by_cases hlt : m < N
    · obtain ⟨a, ha⟩ : ∃ a, l[m]? = some a := ⟨_, List.getElem?_eq_getElem (by have := HL.out; omega)⟩
      obtain ⟨b, off, rfl, _, hr⟩ := lies_ac HA.out (i := m) (by have := HL.out; omega)
      obtain ⟨a0, a1, a2⟩ := row_ac hr ha
      have hbl : b < w.heap.size := World.block_lt_of_cell? w _ a0
      have a0 := HI.out.way.off.cell a0
      have a1 := HI.out.way.off.cell a1
      have a2 := HI.out.way.off.cell a2
      obtain ⟨⟨y0, y1⟩, _⟩ := box2 HI.out.m11
      clear hr ha
      have KD := Lib.hid (fun w' (h : Bel wr w') => do_any (Only G) B G P L ls a p c w' (HI.out.way.ch.bel h) (HI.out.ref.bel h) rfl (fun j hj => by rw [show j = G from hj]; exact (HI.out.way.ch.bel h).ltG.1) hc)
      unfold rv at KD
      have hzr : T11 < wr.heap.size := (Array.getElem?_eq_some_iff.1 HI.out.m11).1
      have hzr7 : w.heap.size < wr.heap.size := (Array.getElem?_eq_some_iff.1 HI.out.m7).1
      have hbr : b < wr.heap.size := by omega
      have hmN : (m : Int) < N := by omega
      have BD : Hid (Bel wr wr.drew) := Lib.hid (Bel.refl wr).drew
      have BA : Hid (Bel wr (wr.alloc (.cells #[.int .i64 0, .slice none 0 0] 27)).drew) := Lib.hid ((Bel.refl wr).alloc _ _).drew
      have CA : Hid (∀ w', Off (Only G) (wr.alloc (.cells #[.int .i64 0, .slice none 0 0] 27)).drew w' → (w'.cell? ⟨wr.heap.size, 0, none⟩ = some (.int .i64 0) ∧ w'.cell? ⟨wr.heap.size, 1, none⟩ = some (.slice none 0 0)) ∧ (w'.frozen? ⟨wr.heap.size, 0, none⟩ = false ∧ w'.frozen? ⟨wr.heap.size, 1, none⟩ = false)) := Lib.hid (fun w' ho =>
        box2 ((ho.block wr.heap.size (by simp) (show ¬ wr.heap.size = G by omega)).trans (heap_alloc_new wr (.cells #[.int .i64 0, .slice none 0 0] 27))))
      have CH : Hid (∀ w', Off (Only G) (wr.alloc (.cells #[.int .i64 0, .slice none 0 0] 27)).drew w' → w'.heap[wr.heap.size]? = some (.cells #[.int .i64 0, .slice none 0 0] 27 (0, 0))) := Lib.hid (fun w' ho =>
        (ho.block wr.heap.size (by simp) (show ¬ wr.heap.size = G by omega)).trans (heap_alloc_new wr (.cells #[.int .i64 0, .slice none 0 0] 27)))
      go_wp2
      go_region_with (go_at_call 10; first
        | ((with_reducible refine (KD.out _ BD.out).mono ?_); rintro e w5 ⟨ls5, p5, c5, rfl, hc5, hch5, hr5, ho5⟩)
        | ((with_reducible refine (KD.out _ BA.out).mono ?_); rintro e w5 ⟨ls5, p5, c5, rfl, hc5, hch5, hr5, ho5⟩; obtain ⟨⟨z0, z1⟩, u0, u1⟩ := CA.out _ ho5))
      all_goals
        clear KD CA
        first
        | (have zz := z0
           have hT := CH.out _ ho5
           have hO6 := off2 w5 wr.heap.size (.int .i64 P) (.slice p5 L c5)
           have HC6 := Lib.hid (hch5.off hO6 (show ¬ B = wr.heap.size by omega) (show ¬ G = wr.heap.size by omega))
           have HR6 := Lib.hid (hr5.apart hO6 hT)
           have HO6 : Hid (Off (Only G) wr ((w5.setCell ⟨wr.heap.size, 0, none⟩ (.int .i64 P)).setCell ⟨wr.heap.size, 1, none⟩ (.slice p5 L c5))) := Lib.hid (Off.trans (Off.trans (BA.out.off (Only G)) ho5 (fun i e => .inl e)) hO6 (fun i e => .inr (by omega)))
           have HV := Lib.hid (box2 (set2 (a' := .int .i64 P) (b' := .slice p5 L c5) hT)).1
           clear z0 z1 u0 u1 zz hT hO6 ho5 hch5 hr5
           generalize (w5.setCell ⟨wr.heap.size, 0, none⟩ (.int .i64 P)).setCell ⟨wr.heap.size, 1, none⟩ (.slice p5 L c5) = W6 at *
           obtain ⟨v0, v1⟩ := HV.out)
        | (have HB6 : Bel w5 (w5.alloc (.cells #[.int .i64 P, .slice p5 L c5] 27)) := (Bel.refl w5).alloc _ _
           have HC6 := Lib.hid (hch5.bel HB6)
           have HR6 := Lib.hid (hr5.bel HB6)
           have HO6 : Hid (Off (Only G) wr (w5.alloc (.cells #[.int .i64 P, .slice p5 L c5] 27))) := Lib.hid ((Off.trans (BD.out.off (Only G)) ho5 (fun i e => .inl e)).thenB HB6)
           have HV := Lib.hid (box2 (heap_alloc_new w5 (.cells #[.int .i64 P, .slice p5 L c5] 27))).1
           clear HB6 ho5 hch5 hr5
           generalize w5.alloc (.cells #[.int .i64 P, .slice p5 L c5] 27) = W6 at *
           obtain ⟨v0, v1⟩ := HV.out)
        have m11 : W6.heap[T11]? = some (.cells #[.int .i64 P, .slice p L c] 27 (0, 0)) := (HO6.out.block T11 hzr (show ¬ T11 = G by omega)).trans HI.out.m11
        obtain ⟨⟨y0, y1⟩, g0, g1⟩ := box2 m11
        have HT := Lib.hid (HI.out.turn (c' := c5) HC6.out HR6.out HO6.out (show ¬ w.heap.size = G by omega) (show ¬ T11 = G by omega) (show ¬ w.heap.size = T11 by omega) (by omega) (show ¬ B = T11 by omega))
        clear m11 HV HC6 HR6 HO6 a0 a1 a2
        go_wp2
        go_roundw
        case rel => exact ⟨m + 1, ls5, p5, c5, by go_num, by omega, hc5, HT.out⟩
        case measure => simp [intOf]; omega
    · obtain rfl : m = N := by omega
      obtain ⟨⟨y0, y1⟩, _⟩ := box2 HI.out.m11
      obtain ⟨⟨e0, e1⟩, g0, g1⟩ := box2 HI.out.m7
      have hzr7 : w.heap.size < wr.heap.size := (Array.getElem?_eq_some_iff.1 HI.out.m7).1
      have hO := off2 wr.drew w.heap.size (.int .i64 P) (.slice p L c)
      have HF : Hid (Way w B G P L ls ((wr.drew.setCell ⟨w.heap.size, 0, none⟩ (.int .i64 P)).setCell ⟨w.heap.size, 1, none⟩ (.slice p L c)) ∧ RefIn (Only G) ((wr.drew.setCell ⟨w.heap.size, 0, none⟩ (.int .i64 P)).setCell ⟨w.heap.size, 1, none⟩ (.slice p L c)) p L ls) := Lib.hid (by
        have hI := HI.out.bel (Bel.refl wr).drew
        exact ⟨⟨hI.way.ch.off hO (show ¬ B = w.heap.size by omega) (show ¬ G = w.heap.size by omega), Off.trans hI.way.off hO (fun i e => .inr (by omega)), hI.way.ge⟩, hI.ref.apart hO hI.m7⟩)
      go_wp2
      go_region
      go_wp2
      exact bodyPost_ret (v := .tuple #[.pointer (some ⟨B, 0, none⟩), .agg #[.int .i64 P, .slice p L c], .bool true]) (by simp [results, Try.results9, go_sem, e0, e1]) rfl ⟨B, G, ls, p, c, rfl, hc, HF.out.1, HF.out.2, by omega⟩
end Go.Proofs.Ytdeiknfaehpheaa
