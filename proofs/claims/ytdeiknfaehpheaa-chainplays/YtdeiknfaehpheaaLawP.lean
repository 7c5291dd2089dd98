/-
  The walk of ChainPlays.
-/
import Derived.Test.YtdeiknfaehpheaaMadeOk
import Derived.Test.YtdeiknfaehpheaaTells
namespace Go.Proofs.Ytdeiknfaehpheaa
open Go.RowKit
theorem plays_long (P L : Int) (pa : Option Addr) (N ca : Nat) (x : Int) (w : World) (h : 40 < N) :
    Calls Try.prog 3 #[.int .i64 P, .int .i64 L, .slice pa N ca, .int .i64 x] w fun e w' => e = .returned (.bool true) ∧ Bel w w' := by
  have h' : (40 : Int) < N := by omega
  go_enter Try.func3, Try.ntmps3
  go_wp2_with fail
  with_reducible refine (works_any _).mono ?_
  rintro e w1 ⟨rfl, hb⟩
  go_wp2
  go_ret
  exact ⟨rfl, hb⟩
theorem plays_no (P L : Int) (pa : Option Addr) (N ca : Nat) (x : Int) (w : World) (h : N ≤ 40) (hP : ¬ (0 ≤ P ∧ P ≤ 1024 ∧ 0 ≤ L ∧ L ≤ 1024)) :
    Calls Try.prog 3 #[.int .i64 P, .int .i64 L, .slice pa N ca, .int .i64 x] w fun e w' => e = .returned (.bool true) ∧ Bel w w' := by
  have h' : ¬ (40 : Int) < N := by omega
  have K := Lib.hid (fun w => made_no P L none 0 0 w hP)
  clear hP
  go_enter Try.func3, Try.ntmps3
  go_wp2_with fail
  with_reducible refine (works_any _).mono ?_
  rintro e w1 ⟨rfl, hb⟩
  have HB := Lib.hid hb
  clear hb
  go_wp2_with fail
  with_reducible refine (K.out _).mono ?_
  rintro e w2 ⟨p, c, rfl, hb⟩
  have HB2 := Lib.hid (HB.out.trans hb)
  clear hb
  go_wp2
  go_ret
  exact ⟨rfl, HB2.out.alloc _ _⟩
/-- What holds at each round's head. -/
structure InvP (w : World) (B G P L : Nat) (ls : Ls) (p : Option Addr) (c T : Nat) (wr : World) : Prop where
  way : Way w B G P L ls wr
  ref : RefIn (Only G) wr p L ls
  m11 : wr.heap[T]? = some (.cells #[.int .i64 P, .slice p L c] 27 (0, 0))
theorem InvP.bel {w : World} {B G P L : Nat} {ls : Ls} {p : Option Addr} {c T : Nat} {wr w' : World} (h : InvP w B G P L ls p c T wr) (k : Bel wr w') : InvP w B G P L ls p c T w' := ⟨h.way.bel k, h.ref.bel k, k.heap h.m11⟩
theorem InvP.turn {w : World} {B G P L : Nat} {ls ls' : Ls} {p p' : Option Addr} {c c' T : Nat} {wr w5 : World} (h : InvP w B G P L ls p c T wr) (hc : Ch w5 B G P L ls') (hr : RefIn (Only G) w5 p' L ls') (ho : Off (Only G) wr w5) (h11 : ¬ T = G) (hw : w.heap.size ≤ T) (hB : ¬ B = T) :
    InvP w B G P L ls' p' c' T ((w5.setCell ⟨T, 0, none⟩ (.int .i64 P)).setCell ⟨T, 1, none⟩ (.slice p' L c')) := by
  have hO := off2 w5 T (.int .i64 P) (.slice p' L c')
  have l11 := (Array.getElem?_eq_some_iff.1 h.m11).1
  have m11 : w5.heap[T]? = some (.cells #[.int .i64 P, .slice p L c] 27 (0, 0)) := (ho.block T l11 h11).trans h.m11
  have hw5 := h.way.step hc ho
  exact ⟨⟨hc.off hO hB (fun e => h11 e.symm), Off.trans hw5.off hO (fun i e => .inr (by omega)), h.way.ge⟩, hr.apart hO m11, set2 m11⟩
set_option maxHeartbeats 4000000 in
set_option maxRecDepth 100000 in
theorem plays_yes (P L : Nat) (pa : Option Addr) (N ca : Nat) (l : List Ac) (x : Int) (w : World) (h : N ≤ 40) (hl : l.length = N) (hA : Lies nof w pa (encA l)) (hP : P ≤ 1024) (hL : L ≤ 1024) :
    Calls Try.prog 3 #[.int .i64 P, .int .i64 L, .slice pa N ca, .int .i64 x] w fun e w' => e = .returned (.bool true) ∧ Bel w w' := by
  have h' : ¬ (40 : Int) < N := by omega
  have HA := Lib.hid hA
  have HL := Lib.hid hl
  clear hA hl
  go_enter Try.func3, Try.ntmps3
  go_wp2_with fail
  with_reducible refine (works_any _).mono ?_
  rintro e w1 ⟨rfl, hb⟩
  have HB := Lib.hid hb
  clear hb
  go_wp2_with fail
  with_reducible refine (made_yes P L none 0 0 [] _ hP hL rfl (by omega) (Lies.nil _ _ _)).mono ?_
  rintro e w2 ⟨B, G, ls, p, c, rfl, hc, hw, hr, hBw⟩
  unfold rv
  have W2 := Lib.hid (hw.bel ((Bel.refl w2).alloc #[.int .i64 P, .slice p L c] 27))
  have R2 := Lib.hid (hr.bel ((Bel.refl w2).alloc #[.int .i64 P, .slice p L c] 27))
  have M2 := Lib.hid (heap_alloc_new w2 (.cells #[.int .i64 P, .slice p L c] 27))
  have hG2 : G < w2.heap.size := hw.ch.ltG.1
  have hB2 : B < w2.heap.size := hw.ch.ltG.2.1
  clear hw hr
  go_upto_region 7 with (fail)
  generalize w2.alloc (.cells #[.int .i64 P, .slice p L c] 27) = W at *
  generalize hT : w2.heap.size = T at *
  clear hT
  have HW := Lib.hid HB.out
  have HI0 : Hid (InvP w1 B G P L ls p c T W) := Lib.hid ⟨W2.out, R2.out, M2.out⟩
  have hwT : w1.heap.size ≤ T := by have h1 := W2.out.ge; omega
  have KL : Hid (∀ ls p c w', Ch w' B G P L ls → RefIn nof w' p L ls → Calls Try.prog 11 #[.pointer (some ⟨B, 0, none⟩), .agg #[.int .i64 P, .slice p L c], .int .i64 x] w' fun e w2 => e = .returned (.bool true) ∧ Bel w' w2) := Lib.hid (fun ls p c w' h1 h2 => alike_any B G P L ls p c x w' h1 h2)
  clear W2 R2 M2
  go_wp2
  go_loopw [13, 14, 15, 16] (fun v _ _ _ wr => ∃ m ls p c, v = .int .i64 (m : Nat) ∧ m ≤ N ∧ L ≤ c ∧ InvP w1 B G P L ls p c T wr) (fun v _ _ _ _ => N - (intOf v).toNat)
  case atStart => exact ⟨0, _, p, c, rfl, by omega, hc, HI0.out⟩
  case round =>
    clear HI0
    obtain ⟨m, ls, p, c, rfl, hm, hc, hi⟩ := hrel
    have HI := Lib.hid hi
    clear hi
    by_cases hlt : m < N
    · obtain ⟨a, ha⟩ : ∃ a, l[m]? = some a := ⟨_, List.getElem?_eq_getElem (by have := HL.out; omega)⟩
      obtain ⟨b, off, rfl, _, hr⟩ := lies_ac HA.out (i := m) (by have := HL.out; omega)
      obtain ⟨a0, a1, a2⟩ := row_ac hr ha
      have a0 := HI.out.way.off.cell (HB.out.cell a0)
      have a1 := HI.out.way.off.cell (HB.out.cell a1)
      have a2 := HI.out.way.off.cell (HB.out.cell a2)
      obtain ⟨⟨y0, y1⟩, _⟩ := box2 HI.out.m11
      clear hr ha
      have KD := Lib.hid (fun w' (h : Bel wr w') => do_any (Only G) B G P L ls a p c w' (HI.out.way.ch.bel h) (HI.out.ref.bel h) rfl (fun j hj => by rw [show j = G from hj]; exact (HI.out.way.ch.bel h).ltG.1) hc)
      unfold rv at KD
      have hzr : T < wr.heap.size := (Array.getElem?_eq_some_iff.1 HI.out.m11).1
      have hbr : b < wr.heap.size := World.block_lt_of_cell? wr _ a0
      have hmN : (m : Int) < N := by omega
      have BD : Hid (Bel wr wr.drew) := Lib.hid (Bel.refl wr).drew
      have BA : Hid (Bel wr (wr.alloc (.cells #[.int .i64 0, .slice none 0 0] 27)).drew) := Lib.hid ((Bel.refl wr).alloc _ _).drew
      have CA : Hid (∀ w', Off (Only G) (wr.alloc (.cells #[.int .i64 0, .slice none 0 0] 27)).drew w' → (w'.cell? ⟨wr.heap.size, 0, none⟩ = some (.int .i64 0) ∧ w'.cell? ⟨wr.heap.size, 1, none⟩ = some (.slice none 0 0)) ∧ (w'.frozen? ⟨wr.heap.size, 0, none⟩ = false ∧ w'.frozen? ⟨wr.heap.size, 1, none⟩ = false)) := Lib.hid (fun w' ho =>
        box2 ((ho.block wr.heap.size (by simp) (show ¬ wr.heap.size = G by omega)).trans (heap_alloc_new wr (.cells #[.int .i64 0, .slice none 0 0] 27))))
      have CH : Hid (∀ w', Off (Only G) (wr.alloc (.cells #[.int .i64 0, .slice none 0 0] 27)).drew w' → w'.heap[wr.heap.size]? = some (.cells #[.int .i64 0, .slice none 0 0] 27 (0, 0))) := Lib.hid (fun w' ho =>
        (ho.block wr.heap.size (by simp) (show ¬ wr.heap.size = G by omega)).trans (heap_alloc_new wr (.cells #[.int .i64 0, .slice none 0 0] 27)))
      go_wp2
      go_region_with (go_at_call 10; first
        | ((with_reducible refine (KD.out _ BD.out).mono ?_); rintro e w5 ⟨ls5, p5, c5, rfl, hc5, hch5, hr5, ho5⟩)
        | ((with_reducible refine (KD.out _ BA.out).mono ?_); rintro e w5 ⟨ls5, p5, c5, rfl, hc5, hch5, hr5, ho5⟩; obtain ⟨⟨z0, z1⟩, u0, u1⟩ := CA.out _ ho5))
      all_goals
        clear KD CA
        first
        | (have zz := z0
           have hT := CH.out _ ho5
           have hO6 := off2 w5 wr.heap.size (.int .i64 P) (.slice p5 L c5)
           have HC6 := Lib.hid (hch5.off hO6 (show ¬ B = wr.heap.size by omega) (show ¬ G = wr.heap.size by omega))
           have HR6 := Lib.hid (hr5.apart hO6 hT)
           have HO6 : Hid (Off (Only G) wr ((w5.setCell ⟨wr.heap.size, 0, none⟩ (.int .i64 P)).setCell ⟨wr.heap.size, 1, none⟩ (.slice p5 L c5))) := Lib.hid (Off.trans (Off.trans (BA.out.off (Only G)) ho5 (fun i e => .inl e)) hO6 (fun i e => .inr (by omega)))
           have HV := Lib.hid (box2 (set2 (a' := .int .i64 P) (b' := .slice p5 L c5) hT)).1
           clear z0 z1 u0 u1 zz hT hO6 ho5 hch5 hr5
           generalize (w5.setCell ⟨wr.heap.size, 0, none⟩ (.int .i64 P)).setCell ⟨wr.heap.size, 1, none⟩ (.slice p5 L c5) = W6 at *
           obtain ⟨v0, v1⟩ := HV.out)
        | (have HB6 : Bel w5 (w5.alloc (.cells #[.int .i64 P, .slice p5 L c5] 27)) := (Bel.refl w5).alloc _ _
           have HC6 := Lib.hid (hch5.bel HB6)
           have HR6 := Lib.hid (hr5.bel HB6)
           have HO6 : Hid (Off (Only G) wr (w5.alloc (.cells #[.int .i64 P, .slice p5 L c5] 27))) := Lib.hid ((Off.trans (BD.out.off (Only G)) ho5 (fun i e => .inl e)).thenB HB6)
           have HV := Lib.hid (box2 (heap_alloc_new w5 (.cells #[.int .i64 P, .slice p5 L c5] 27))).1
           clear HB6 ho5 hch5 hr5
           generalize w5.alloc (.cells #[.int .i64 P, .slice p5 L c5] 27) = W6 at *
           obtain ⟨v0, v1⟩ := HV.out)
        have m11 : W6.heap[T]? = some (.cells #[.int .i64 P, .slice p L c] 27 (0, 0)) := (HO6.out.block T hzr (show ¬ T = G by omega)).trans HI.out.m11
        obtain ⟨⟨y0, y1⟩, g0, g1⟩ := box2 m11
        have KA := Lib.hid (KL.out ls5 p5 c5 W6 HC6.out HR6.out.any)
        clear m11 HV a0 a1 a2 y0 y1 g0 g1
        go_wp2_with fail
        with_reducible refine KA.out.mono ?_
        rintro e w7 ⟨rfl, hb7⟩
        have v0 := hb7.cell v0
        have v1 := hb7.cell v1
        have HO7 := Lib.hid (HO6.out.thenB hb7)
        have HT := Lib.hid (HI.out.turn (c' := c5) (HC6.out.bel hb7) (HR6.out.bel hb7) HO7.out (show ¬ T = G by omega) hwT (show ¬ B = T by omega))
        have m11 : w7.heap[T]? = some (.cells #[.int .i64 P, .slice p L c] 27 (0, 0)) := (HO7.out.block T hzr (show ¬ T = G by omega)).trans HI.out.m11
        obtain ⟨⟨y0, y1⟩, g0, g1⟩ := box2 m11
        clear hb7 m11 HC6 HR6 HO6 KA
        go_wp2
        go_roundw
        case rel => exact ⟨m + 1, ls5, p5, c5, by go_num, by omega, hc5, HT.out⟩
        case measure => simp [intOf]; omega
    · obtain rfl : m = N := by omega
      obtain ⟨⟨y0, y1⟩, _⟩ := box2 HI.out.m11
      have KA := Lib.hid (KL.out ls p c wr HI.out.way.ch HI.out.ref.any)
      go_wp2_with fail
      with_reducible refine KA.out.mono ?_
      rintro e w7 ⟨rfl, hb7⟩
      have HB7 := Lib.hid (HW.out.trans (HI.out.way.off.trans hb7))
      clear hb7 y0 y1
      go_wp2
      go_ret
      exact ⟨rfl, HB7.out⟩
end Go.Proofs.Ytdeiknfaehpheaa
