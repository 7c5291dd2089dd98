/-
  The walk of ChainBack.
-/
import Derived.Test.YtdeiknfaehpheaaMadeOk
import Derived.Test.YtdeiknfaehpheaaTells
namespace Go.Proofs.Ytdeiknfaehpheaa
open Go.RowKit
theorem upd_back {ls : Ls} {s : Nat} {l m : List Nat} (h : ls s = m) : upd (upd ls s l) s m = ls := by
  funext k
  unfold upd
  by_cases h1 : k = s
  · rw [if_pos h1, h1, h]
  · rw [if_neg h1, if_neg h1]
theorem back_long (P L : Int) (pa : Option Addr) (N ca : Nat) (x y z : Int) (w : World) (h : 40 < N) :
    Calls Try.prog 6 #[.int .i64 P, .int .i64 L, .slice pa N ca, .int .i64 x, .int .i64 y, .int .i64 z] w fun e w' => e = .returned (.bool true) ∧ Bel w w' := by
  have h' : (40 : Int) < N := by omega
  go_enter Try.func6, Try.ntmps6
  go_wp2_with fail
  with_reducible refine (works_any _).mono ?_
  rintro e w1 ⟨rfl, hb⟩
  go_wp2
  go_ret
  exact ⟨rfl, hb⟩
theorem back_no (P L : Int) (pa : Option Addr) (N ca : Nat) (x y z : Int) (w : World) (h : N ≤ 40) (hP : ¬ (0 ≤ P ∧ P ≤ 1024 ∧ 0 ≤ L ∧ L ≤ 1024)) :
    Calls Try.prog 6 #[.int .i64 P, .int .i64 L, .slice pa N ca, .int .i64 x, .int .i64 y, .int .i64 z] w fun e w' => e = .returned (.bool true) ∧ Bel w w' := by
  have h' : ¬ (40 : Int) < N := by omega
  have K := Lib.hid (fun w => made_no P L pa N ca w hP)
  clear hP
  go_enter Try.func6, Try.ntmps6
  go_wp2_with fail
  with_reducible refine (works_any _).mono ?_
  rintro e w1 ⟨rfl, hb⟩
  have HB := Lib.hid hb
  clear hb
  go_wp2_with fail
  with_reducible refine (K.out _).mono ?_
  rintro e w2 ⟨p, c, rfl, hb⟩
  have HB2 := Lib.hid (HB.out.trans hb)
  clear hb
  go_wp2
  go_ret
  exact ⟨rfl, HB2.out.alloc _ _⟩
set_option maxHeartbeats 4000000 in
set_option maxRecDepth 100000 in
theorem back_yes (P L : Nat) (pa : Option Addr) (N ca : Nat) (l : List Ac) (x y z : Int) (w : World) (h : N ≤ 40) (hl : l.length = N) (hA : Lies nof w pa (encA l)) (hP : P ≤ 1024) (hL : L ≤ 1024) :
    Calls Try.prog 6 #[.int .i64 P, .int .i64 L, .slice pa N ca, .int .i64 x, .int .i64 y, .int .i64 z] w fun e w' => e = .returned (.bool true) ∧ Bel w w' := by
  have h' : ¬ (40 : Int) < N := by omega
  have HA := Lib.hid hA
  have HL := Lib.hid hl
  clear hA hl
  go_enter Try.func6, Try.ntmps6
  go_wp2_with fail
  with_reducible refine (works_any _).mono ?_
  rintro e w1 ⟨rfl, hb⟩
  have HB := Lib.hid hb
  clear hb
  go_wp2_with fail
  with_reducible refine (made_yes P L pa N ca l _ hP hL HL.out (by omega) (HA.out.bel HB.out)).mono ?_
  rintro e w2 ⟨B, G, ls, p, c, rfl, hc, hw, hr, hBw⟩
  unfold rv
  have W2 := Lib.hid (hw.bel ((Bel.refl w2).alloc #[.int .i64 P, .slice p L c] 27))
  have R2 := Lib.hid (hr.bel ((Bel.refl w2).alloc #[.int .i64 P, .slice p L c] 27))
  have M2 := Lib.hid (heap_alloc_new w2 (.cells #[.int .i64 P, .slice p L c] 27))
  have hG2 : G < w2.heap.size := hw.ch.ltG.1
  have hB2 : B < w2.heap.size := hw.ch.ltG.2.1
  clear hw hr
  go_upto_region 7 with (fail)
  generalize w2.alloc (.cells #[.int .i64 P, .slice p L c] 27) = W at *
  generalize hT : w2.heap.size = T at *
  clear hT
  have hcase : (∃ er, (er == 0) = false ∧ PDo P L ls 19 [.int .i64 x, .int .i64 y] er ls) ∨ (∃ (i j s : Nat) (a b : List Nat), x = i ∧ y = j ∧ s < L ∧ i < P ∧ ls s = a ++ j :: b ∧ ∀ s, s < L → i ∉ ls s) := by
    cases hb : hp P x && hp P y with
    | false => exact .inl ⟨1, rfl, pdo_no fun w B G g h _ _ _ => insert_arg B G P L g x y w h hb⟩
    | true =>
      rw [Bool.and_eq_true] at hb
      obtain ⟨i, rfl, hx⟩ := hp_nat hb.1
      obtain ⟨j, rfl, hy⟩ := hp_nat hb.2
      by_cases hi : ∃ s, s < L ∧ i ∈ ls s
      · obtain ⟨s, hs, hi⟩ := hi
        exact .inl ⟨4, rfl, pdo_no fun w B G g h h2 h3 h4 => insert_in B G P L g i j w h h3 h4 hx hy (by rw [h2.li s hs i hi]; omega)⟩
      · have hi2 : ∀ s, s < L → i ∉ ls s := fun s hs h => hi ⟨s, hs, h⟩
        by_cases hj : ∃ s, s < L ∧ j ∈ ls s
        · obtain ⟨s, hs, hj⟩ := hj
          obtain ⟨a, b, hl⟩ := List.append_of_mem hj
          exact .inr ⟨i, j, s, a, b, rfl, rfl, hs, hx, hl, hi2⟩
        · have hj2 : ∀ s, s < L → j ∉ ls s := fun s hs h => hj ⟨s, hs, h⟩
          exact .inl ⟨5, rfl, pdo_no fun w B G g h h2 h3 h4 => insert_none B G P L g i j w h h3 h4 hx hy (by rw [h2.al i hx hi2]) (by rw [h2.al j hy hj2])⟩
  have HW := Lib.hid (HB.out.trans W2.out.off)
  have hGe : w1.heap.size ≤ G := W2.out.ge
  have MK : Hid (∀ w', Off (Only G) W w' → (w'.cell? ⟨T, 0, none⟩ = some (.int .i64 P) ∧ w'.cell? ⟨T, 1, none⟩ = some (.slice p L c))) := Lib.hid (fun w' ho => (box2 ((ho.block T (Array.getElem?_eq_some_iff.1 M2.out).1 (show ¬ T = G by omega)).trans M2.out)).1)
  have RK : Hid (∀ w', Off (Only G) W w' → RefIn nof w' p L ls) := Lib.hid (fun w' ho => (R2.out.off ho (fun i e => e)).any)
  have HBo : Hid (∀ w', Off (Only G) W w' → Bel w w') := Lib.hid (fun w' ho => Off.trans HW.out ho (fun i e => .inr (by have h1 : i = G := e; have := HB.out.size; omega)))
  clear HA HL
  rcases hcase with ⟨er, he, hp⟩ | ⟨i, j, s, a, b, rfl, rfl, hs, hi, hl, hn⟩
  · have KD := Lib.hid (hp W B G W2.out.ch)
    simp only [List.size_toArray, List.append_toArray, List.cons_append, List.nil_append] at KD
    clear hp
    go_wp2_with fail
    with_reducible refine KD.out.mono ?_
    rintro e w3 ⟨rfl, hc3, ho3⟩
    obtain ⟨t0, t1⟩ := MK.out _ ho3
    have KA := Lib.hid (alike_any B G P L ls p c z w3 hc3 (RK.out _ ho3))
    unfold rv at KA
    have HB3 := Lib.hid (HBo.out _ ho3)
    clear hc3 ho3
    go_wp2_with fail
    with_reducible refine KA.out.mono ?_
    rintro e w4 ⟨rfl, hb4⟩
    have HB4 := Lib.hid (HB3.out.trans hb4)
    clear hb4
    go_wp2
    go_ret
    exact ⟨rfl, HB4.out⟩
  · have KD := Lib.hid (p_insert (P := P) (ls := ls) hs hi hn hl W B G W2.out.ch)
    simp only [List.size_toArray, List.append_toArray, List.cons_append, List.nil_append] at KD
    generalize hl1 : upd ls s (a ++ i :: j :: b) = ls1 at *
    have e1 : ls1 s = a ++ i :: (j :: b) := by rw [← hl1, upd_same]
    have e2 : ls1 s = (a ++ [i]) ++ j :: b := by rw [e1]; simp
    have e3 : upd ls1 s (a ++ j :: b) = ls := by rw [← hl1]; exact upd_back hl
    have E1 := Lib.hid e1
    have E2 := Lib.hid e2
    have E3 := Lib.hid e3
    have Q1 : (((i : Nat) : Int) == (i : Int)) = true := by simp
    have Q2 : (((j : Nat) : Int) == (j : Int)) = true := by simp
    clear hl1 e1 e2 e3 hl hn
    go_wp2_with fail
    with_reducible refine KD.out.mono ?_
    rintro e w3 ⟨rfl, hc3, ho3⟩
    have C3 := Lib.hid hc3
    have O3 := Lib.hid ho3
    have KN : Hid (∀ w', Bel w3 w' → Calls Try.prog 15 #[.pointer (some ⟨B, 0, none⟩), .int .i64 i] w' fun e w2 => e = .returned (.tuple #[.int .i64 j, .bool true]) ∧ Bel w' w2) := Lib.hid (fun w' h => by
      obtain ⟨nx, pv, wh, hT⟩ := tell_ex hc3.good (i : Int)
      have k := next_any B G P L ls1 i nx pv wh w' (hc3.bel h) hT
      rw [(hT.inn i s _ _ rfl hs E1.out).1] at k
      exact k)
    have KP : Hid (∀ w', Bel w3 w' → Calls Try.prog 17 #[.pointer (some ⟨B, 0, none⟩), .int .i64 j] w' fun e w2 => e = .returned (.tuple #[.int .i64 i, .bool true]) ∧ Bel w' w2) := Lib.hid (fun w' h => by
      obtain ⟨nx, pv, wh, hT⟩ := tell_ex hc3.good (j : Int)
      have k := prev_any B G P L ls1 j nx pv wh w' (hc3.bel h) hT
      rw [(hT.inn j s _ _ rfl hs E2.out).2.1] at k
      have e4 : (a ++ [i]).getLast? = some i := by simp
      rw [e4] at k
      exact k)
    have KX := Lib.hid (fun w' (h : Bel w3 w') => p_drop (P := P) (ls := ls1) hs E1.out w' B G (hc3.bel h))
    rw [E3.out] at KX
    simp only [List.size_toArray, List.append_toArray, List.cons_append, List.nil_append] at KX
    clear hc3 ho3
    go_wp2_with fail
    with_reducible refine (KN.out _ (Bel.refl _)).mono ?_
    rintro e w4 ⟨rfl, hb4⟩
    have B4 := Lib.hid hb4
    clear hb4
    go_wp2_with fail
    with_reducible refine (KP.out _ B4.out).mono ?_
    rintro e w5 ⟨rfl, hb5⟩
    have B5 := Lib.hid (B4.out.trans hb5)
    clear hb5
    go_wp2_with fail
    with_reducible refine (KX.out _ B5.out).mono ?_
    rintro e w6 ⟨rfl, hc6, ho6⟩
    have O6 : Hid (Off (Only G) W w6) := Lib.hid ((O3.out.thenB B5.out).then ho6)
    obtain ⟨t0, t1⟩ := MK.out _ O6.out
    have KA := Lib.hid (alike_any B G P L ls p c z w6 hc6 (RK.out _ O6.out))
    unfold rv at KA
    have HB6 := Lib.hid (HBo.out _ O6.out)
    clear hc6 ho6
    go_wp2_with fail
    with_reducible refine KA.out.mono ?_
    rintro e w7 ⟨rfl, hb7⟩
    have HB7 := Lib.hid (HB6.out.trans hb7)
    clear hb7
    go_wp2
    go_ret
    exact ⟨rfl, HB7.out⟩
end Go.Proofs.Ytdeiknfaehpheaa
