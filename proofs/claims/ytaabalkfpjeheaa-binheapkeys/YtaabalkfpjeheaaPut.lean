/-
  Contracts of slices.Grow and slices.Concat at timers, and of order.Put.
-/
import Derived.Test.YtaabalkfpjeheaaShelf
import Derived.Test.YtaabalkfpjeheaaSort
import Derived.Test.YtaabalkfpjeheaaFind
namespace Go.Proofs.Ytaabalkfpjeheaa
open Go.RowKit
/-- The first k of some lists, one behind the other. -/
def tot (ls : Nat → List T) : Nat → List T
  | 0 => []
  | k + 1 => tot ls k ++ ls k
theorem tot_mono (ls : Nat → List T) {a b : Nat} (h : a ≤ b) : (tot ls a).length ≤ (tot ls b).length := by
  induction b with
  | zero => obtain rfl : a = 0 := by omega
            exact Nat.le_refl _
  | succ b ih =>
    by_cases e : a = b + 1
    · subst e; exact Nat.le_refl _
    · rw [tot, List.length_append]; have := ih (by omega); omega
theorem grow_any (n : Nat) (w : World) (h0 : 1 ≤ n) (hm : n ≤ 5000) :
    Calls Try.prog 57 #[.slice none 0 0, .int .i64 n] w fun e w' => ∃ v, e = .returned v ∧ OwnT w' w.heap.size v [] ∧ Bel w w' := by
  obtain ⟨i0, hi, hz0, hz1, hz2⟩ := info_parts info25
  have K := Any8.slices_Grow_grow growL i0 _ hi hz0 (by rw [hz1]; decide) none 0 0 n [] w (by omega) (by omega) (by rw [hz2]; omega) (by omega) (by simp) (fun _ => rfl) (by simp)
  refine K.mono fun e w' ⟨he, hw⟩ => ?_
  subst hw
  refine ⟨_, he, ?_, (Bel.refl w).drew.alloc _ _⟩
  have hge := grownCap_ge w (0 + n) 0 25
  have hmx := grownCap_le_maxLen w (0 + n) 0 25 (by unfold maxLen; omega)
  refine World.ownsRow_made w.drew _ (grownCap w (0 + n) 0 25) (Nat.le_refl _) hmx ?_
  simp only [List.toArray, Array.size_append, size_zeroCells]
  show 0 + (0 + n - 0) * 3 + (grownCap w (0 + n) 0 25 - (0 + n)) * 3 = _
  omega
set_option maxHeartbeats 1000000 in
theorem concat_any (g : Nat) (ls : Nat → List T) (q : Nat → Option Addr) (L C : Nat → Nat) (w : World) (hL : ∀ k, k < 3 → (ls k).length = L k) (hH : ∀ k, k < 3 → Has w (q k) (ls k)) (hm : (tot ls 3).length ≤ 5000) (h0 : 1 ≤ (tot ls 3).length)
    (hc : ∀ k, k < 3 → w.cell? ⟨g, k, none⟩ = some (.slice (q k) (L k) (C k))) :
    Calls Try.prog 43 #[.slice (some ⟨g, 0, none⟩) 3 3] w fun e w' => Out w' e (tot ls 3) ∧ Bel w w' := by
  have HL := Lib.hid hL
  have HH := Lib.hid hH
  have HC := Lib.hid hc
  have HM := Lib.hid hm
  have H0 := Lib.hid h0
  clear hL hH hc hm h0
  go_enter Try.func43, Try.ntmps43
  go_wp2
  go_loop [3, 11] (fun s i => ∃ k : Nat, k ≤ 3 ∧ i = .int .i64 k ∧ s = .int .i64 (tot ls k).length) (fun _ i => 3 - (intOf i).toNat)
  case atStart => exact ⟨0, by omega, rfl, rfl⟩
  case round =>
    obtain ⟨k, hk, rfl, rfl⟩ := hrel
    by_cases h : k < 3
    · have ck := HC.out k h
      have hs : (tot ls (k + 1)).length = (tot ls k).length + L k := by rw [tot, List.length_append, HL.out k h]
      have hle := tot_mono ls (show k + 1 ≤ 3 by omega)
      have hle2 := HM.out
      have b1 : ((tot ls k).length : Int) + (L k : Int) ≤ 5000 := by omega
      generalize (tot ls k).length = n1 at *
      have HS := Lib.hid hs
      clear hs hle hle2
      go_wp2
      go_round
      case rel => exact ⟨k + 1, by omega, by go_num, by rw [HS.out]; go_num⟩
      case measure => simp [intOf]; omega
    · obtain rfl : k = 3 := by omega
      obtain ⟨n, hn⟩ : ∃ n, (tot ls 3).length = n := ⟨_, rfl⟩
      rw [hn]
      have K := Lib.hid (fun w => grow_any n w (by have := H0.out; omega) (by have := HM.out; omega))
      clear hn
      go_wp2_with fail
      with_reducible refine (K.out _).mono ?_
      rintro e w1 ⟨v, rfl, ho, hb⟩
      have HO := Lib.hid ho
      have HB := Lib.hid hb
      clear ho hb
      go_wp2
      go_loopw [6, 27] (fun o i wr => ∃ k : Nat, k ≤ 3 ∧ i = .int .i64 k ∧ OwnT wr w.heap.size o (tot ls k) ∧ Bel w wr) (fun _ i _ => 3 - (intOf i).toNat)
      case atStart => exact ⟨0, by omega, rfl, HO.out, HB.out⟩
      case round =>
        obtain ⟨k, hk, rfl, ho2, hb2⟩ := hrel
        have HO2 := Lib.hid ho2
        have HB2 := Lib.hid hb2
        clear ho2 hb2
        by_cases h : k < 3
        · have ck := HB2.out.cell (HC.out k h)
          have hle : (tot ls k).length + L k ≤ 1000000 := by
            have h1 := tot_mono ls (show k + 1 ≤ 3 by omega)
            have h2 := HM.out
            rw [tot, List.length_append, HL.out k h] at h1
            omega
          have HLE := Lib.hid hle
          clear hle
          go_wp2_with (at_builtin; refine wpList_append_any rfl (.tmp 31) (.tmp 32) rfl w.heap.size _ (tot ls k) rfl HO2.out _ _ _ (ls k) rfl (HL.out k h) ((HH.out k h).bel HB2.out) HLE.out HB2.out.size ?_)
          intro v3 w3 hown hgrow hnil
          have HO3 := Lib.hid hown
          have HB3 : Hid (Bel w w3) := Lib.hid (OwnT.grown HB2.out HO2.out HB2.out.size hgrow)
          clear hown hgrow hnil ck
          go_wp2
          go_roundw
          case rel => exact ⟨k + 1, by omega, by go_num, HO3.out, HB3.out⟩
          case measure => simp [intOf]; omega
        · obtain rfl : k = 3 := by omega
          go_wp2
          go_ret
          exact ⟨HO2.out.out, HB2.out⟩
theorem concat3 (g N : Nat) (p1 p2 p3 : Option Addr) (l1 l2 l3 : List T) (n1 n2 n3 c1 c2 c3 : Nat) (w : World) (e1 : l1.length = n1) (e2 : l2.length = n2) (e3 : l3.length = n3) (h1 : Has w p1 l1) (h2 : Has w p2 l2) (h3 : Has w p3 l3)
    (hN : n1 + n2 + n3 = N) (hm : N ≤ 5000) (h0 : 1 ≤ n2) (k0 : w.cell? ⟨g, 0, none⟩ = some (.slice p1 n1 c1)) (k1 : w.cell? ⟨g, 1, none⟩ = some (.slice p2 n2 c2)) (k2 : w.cell? ⟨g, 2, none⟩ = some (.slice p3 n3 c3)) :
    Calls Try.prog 43 #[.slice (some ⟨g, 0, none⟩) 3 3] w fun e w' => (∃ q c, e = .returned (.slice q N c) ∧ N ≤ c ∧ Has w' q (l1 ++ (l2 ++ l3))) ∧ Bel w w' := by
  have et : tot (fun k => if k = 0 then l1 else if k = 1 then l2 else l3) 3 = l1 ++ (l2 ++ l3) := by simp [tot]
  have hlen : (l1 ++ (l2 ++ l3)).length = N := by simp [e1, e2, e3]; omega
  have K := concat_any g (fun k => if k = 0 then l1 else if k = 1 then l2 else l3) (fun k => if k = 0 then p1 else if k = 1 then p2 else p3) (fun k => if k = 0 then n1 else if k = 1 then n2 else n3) (fun k => if k = 0 then c1 else if k = 1 then c2 else c3) w
    (fun k hk => by obtain rfl | rfl | rfl : k = 0 ∨ k = 1 ∨ k = 2 := by omega
                    all_goals simp [e1, e2, e3])
    (fun k hk => by obtain rfl | rfl | rfl : k = 0 ∨ k = 1 ∨ k = 2 := by omega
                    all_goals simp [h1, h2, h3])
    (by rw [et, hlen]; exact hm) (by rw [et, hlen]; omega)
    (fun k hk => by obtain rfl | rfl | rfl : k = 0 ∨ k = 1 ∨ k = 2 := by omega
                    all_goals simp [k0, k1, k2])
  rw [et] at K
  refine K.mono fun e w' ⟨⟨q, c, he, hc, hq⟩, hb⟩ => ⟨⟨q, c, ?_, ?_, hq⟩, hb⟩
  · rw [he, hlen]
  · rw [← hlen]; exact hc
theorem held3 {w w' : World} (h : Bel w w') {B : Nat} {t : T} (y0 : w.cell? ⟨B, 0, none⟩ = some (.int .u64 t.a)) (y1 : w.cell? ⟨B, 1, none⟩ = some (.int .u64 t.s)) (y2 : w.cell? ⟨B, 2, none⟩ = some (.int .i64 t.p)) :
    w'.cell? ⟨B, 0, none⟩ = some (.int .u64 t.a) ∧ w'.cell? ⟨B, 1, none⟩ = some (.int .u64 t.s) ∧ w'.cell? ⟨B, 2, none⟩ = some (.int .i64 t.p) := ⟨h.cell y0, h.cell y1, h.cell y2⟩
set_option maxHeartbeats 1000000 in
theorem put_yes (p : Option Addr) (n cap : Nat) (l : List T) (t : T) (w : World) (hn : l.length = n) (hm : n ≤ 4000) (hcap : n ≤ cap) (hs : So l) (hl : Has w p l) :
    Calls Try.prog 26 #[.slice p n cap, .agg #[.int .u64 t.a, .int .u64 t.s, .int .i64 t.p]] w fun e w' => (∃ q c, e = .returned (.tuple #[.slice q (n + 1) c, .int .i64 0]) ∧ n + 1 ≤ c ∧ Has w' q (put l t)) ∧ Bel w w' := by
  have HL := Lib.hid hl
  have HN := Lib.hid hn
  have hle : cnt l t ≤ n := by rw [← hn]; exact cnt_le l t
  have K := Lib.hid (fun w h => find_yes p n cap l t w hn (by omega) hs h)
  have HP : Hid (put l t = l.take (cnt l t) ++ t :: l.drop (cnt l t)) := Lib.hid rfl
  clear hl hn hs
  obtain ⟨c, hc⟩ : ∃ c, cnt l t = c := ⟨_, rfl⟩
  rw [hc] at hle K HP
  clear hc
  have ht : (l.take c).length = c := by have := HN.out; simp; omega
  have hd : (l.drop c).length = n - c := by have := HN.out; simp; omega
  have HT := Lib.hid ht
  have HD := Lib.hid hd
  clear ht hd
  have b0 : (0 : Int) ≤ (c : Int) := by omega
  have b1 : (c : Int) ≤ (n : Int) := by omega
  have b2 : (c : Int) ≤ (cap : Int) := by omega
  have b3 : (n : Int) ≤ (cap : Int) := by omega
  by_cases hcc : cap = c
  · have HD3 : Hid (∀ w', Bel w w' → Has w' p (l.drop c)) := Lib.hid (fun w' _ => .inl (List.drop_eq_nil_of_le (by have := HN.out; omega)))
    have HD0 : Hid ((l.drop c).length = 0) := Lib.hid (by have := HD.out; omega)
    obtain rfl : c = cap := hcc.symm
    go_enter Try.func26, Try.ntmps26
    go_wp2_with fail
    with_reducible refine (K.out _ (HL.out.bel ((Bel.refl _).alloc _ _))).mono ?_
    rintro e w1 ⟨rfl, hb⟩
    have y0 : w1.cell? ⟨w.heap.size, 0, none⟩ = some (.int .u64 t.a) := hb.cell (by simp [go_sem])
    have y1 : w1.cell? ⟨w.heap.size, 1, none⟩ = some (.int .u64 t.s) := hb.cell (by simp [go_sem])
    have y2 : w1.cell? ⟨w.heap.size, 2, none⟩ = some (.int .i64 t.p) := hb.cell (by simp [go_sem])
    have HB : Hid (Bel w w1) := Lib.hid (((Bel.refl _).alloc _ _).trans hb)
    clear hb
    go_wp2
    go_region_held3 (fun w' => w'.cell? ⟨w.heap.size, 0, none⟩ = some (.int .u64 t.a) ∧ w'.cell? ⟨w.heap.size, 1, none⟩ = some (.int .u64 t.s) ∧ w'.cell? ⟨w.heap.size, 2, none⟩ = some (.int .i64 t.p)) (first | exact ⟨y0, y1, y2⟩ | exact held3 ((Bel.refl _).alloc _ _).drew y0 y1 y2 | exact held3 (((Bel.refl _).alloc _ _).alloc _ _).drew y0 y1 y2 | exact held3 hb2 y0 y1 y2)
      ((go_at_call 43; refine (concat3 (w1.heap.size + 1) (n + 1) _ (some ⟨w1.heap.size, 0, none⟩) _ (l.take c) [t] (l.drop c) c 1 0 c 1 0 _ HT.out rfl HD0.out ((HL.out.bel (((HB.out.alloc _ _).alloc _ _).drew)).take c) ((has_one w1 t).bel ((Bel.refl _).alloc _ _).drew) (HD3.out _ ((HB.out.alloc _ _).alloc _ _).drew) (by omega) (by omega) (by omega) (by simp [go_sem]) (by simp [go_sem]) (by simp [go_sem])).mono ?_; rintro e w2 ⟨⟨q, c2, rfl, hc2, hq⟩, hb20⟩; have hb2 : Bel w1 w2 := (((Bel.refl _).alloc _ _).alloc _ _).drew.trans hb20))
    have HQ : Hid (Has w2 q (put l t)) := Lib.hid (by rw [HP.out]; exact hq)
    have HB2 := Lib.hid (HB.out.trans hb2)
    clear hb2 hb20 hq
    go_wp2
    refine bodyPost_ret (v := .tuple #[.slice q (n + 1) c2, .int .i64 0]) (by simp [results, Try.results26, go_sem]) rfl ⟨⟨q, c2, rfl, hc2, HQ.out⟩, HB2.out⟩
  · have HD3 : Hid (∀ w', Bel w w' → Has w' (p.map (fun x => x.add (c * 3))) (l.drop c)) := Lib.hid (fun w' hb => (HL.out.bel hb).drop c)
    go_enter Try.func26, Try.ntmps26
    go_wp2_with fail
    with_reducible refine (K.out _ (HL.out.bel ((Bel.refl _).alloc _ _))).mono ?_
    rintro e w1 ⟨rfl, hb⟩
    have y0 : w1.cell? ⟨w.heap.size, 0, none⟩ = some (.int .u64 t.a) := hb.cell (by simp [go_sem])
    have y1 : w1.cell? ⟨w.heap.size, 1, none⟩ = some (.int .u64 t.s) := hb.cell (by simp [go_sem])
    have y2 : w1.cell? ⟨w.heap.size, 2, none⟩ = some (.int .i64 t.p) := hb.cell (by simp [go_sem])
    have HB : Hid (Bel w w1) := Lib.hid (((Bel.refl _).alloc _ _).trans hb)
    clear hb
    go_wp2
    go_region_held3 (fun w' => w'.cell? ⟨w.heap.size, 0, none⟩ = some (.int .u64 t.a) ∧ w'.cell? ⟨w.heap.size, 1, none⟩ = some (.int .u64 t.s) ∧ w'.cell? ⟨w.heap.size, 2, none⟩ = some (.int .i64 t.p)) (first | exact ⟨y0, y1, y2⟩ | exact held3 ((Bel.refl _).alloc _ _).drew y0 y1 y2 | exact held3 (((Bel.refl _).alloc _ _).alloc _ _).drew y0 y1 y2 | exact held3 hb2 y0 y1 y2)
      ((go_at_call 43; refine (concat3 (w1.heap.size + 1) (n + 1) _ (some ⟨w1.heap.size, 0, none⟩) _ (l.take c) [t] (l.drop c) c 1 (n - c) cap 1 (cap - c) _ HT.out rfl HD.out ((HL.out.bel (((HB.out.alloc _ _).alloc _ _).drew)).take c) ((has_one w1 t).bel ((Bel.refl _).alloc _ _).drew) (HD3.out _ ((HB.out.alloc _ _).alloc _ _).drew) (by omega) (by omega) (by omega) (by simp [go_sem]) (by simp [go_sem]) (by simp [go_sem])).mono ?_; rintro e w2 ⟨⟨q, c2, rfl, hc2, hq⟩, hb20⟩; have hb2 : Bel w1 w2 := (((Bel.refl _).alloc _ _).alloc _ _).drew.trans hb20))
    have HQ : Hid (Has w2 q (put l t)) := Lib.hid (by rw [HP.out]; exact hq)
    have HB2 := Lib.hid (HB.out.trans hb2)
    clear hb2 hb20 hq
    go_wp2
    refine bodyPost_ret (v := .tuple #[.slice q (n + 1) c2, .int .i64 0]) (by simp [results, Try.results26, go_sem]) rfl ⟨⟨q, c2, rfl, hc2, HQ.out⟩, HB2.out⟩
theorem put_no (p : Option Addr) (n cap : Nat) (l : List T) (t : T) (w : World) (hn : l.length = n) (hm : n ≤ 5000) (hs : ¬ So l) (hl : Has w p l) :
    Calls Try.prog 26 #[.slice p n cap, .agg #[.int .u64 t.a, .int .u64 t.s, .int .i64 t.p]] w fun e w' => e = .returned (.tuple #[.slice none 0 0, .int .i64 12]) ∧ Bel w w' := by
  have K := Lib.hid (fun w h => find_no p n cap l t w hn hm hs h)
  have HL := Lib.hid hl
  clear hl hn hs
  go_enter Try.func26, Try.ntmps26
  go_wp2_with fail
  with_reducible refine (K.out _ (HL.out.bel ((Bel.refl _).alloc _ _))).mono ?_
  rintro e w1 ⟨rfl, hb⟩
  have HB : Hid (Bel w w1) := Lib.hid (((Bel.refl _).alloc _ _).trans hb)
  clear hb
  go_wp2
  refine bodyPost_ret (v := .tuple #[.slice none 0 0, .int .i64 12]) (by simp [results, Try.results26, go_sem]) rfl ⟨rfl, HB.out⟩
end Go.Proofs.Ytaabalkfpjeheaa
