/-
  Contract of the law's works: the document's examples hold.
-/
import Derived.Test.YtbbhgmdpafhbeaaEx
namespace Go.Proofs.Ytbbhgmdpafhbeaa
open Go.RowKit
theorem has_at (w : World) (B : Nat) (hB : w.heap.size = B) (l : List T) (cs : Array Value) (h : cs = (encs l).toArray) (hm : l.length ≤ 1000) : Has (w.alloc (.cells cs 30)) (some ⟨B, 0, none⟩) l := by
  subst hB
  exact has_lit w l cs h hm
/-- What is held while the first statement is reckoned. -/
def Held (w : World) (B : Nat) (w' : World) : Prop := Bel w w' ∧ Four w' B
theorem Held.bel {w w1 w2 : World} {B : Nat} (h : Held w B w1) (k : Bel w1 w2) : Held w B w2 := ⟨h.1.trans k, h.2.bel k⟩
set_option maxHeartbeats 8000000 in
set_option maxRecDepth 100000 in
theorem works_any (w : World) : Calls Try.prog 9 #[] w fun e w' => e = .returned (.bool true) ∧ Bel w w' := by
  go_enter Try.func9, Try.ntmps9
  go_wp2
  rename_i Q' K hK
  have tail : ∀ (v26 v27 v31 : Value) (w2 : World), Held w w.heap.size w2 → K { tmps := #[.bool false, .pointer (some ⟨w.heap.size, 0, none⟩), .pointer (some ⟨w.heap.size + 1, 0, none⟩), .pointer (some ⟨w.heap.size + 1 + 1, 0, none⟩), .pointer (some ⟨w.heap.size + 1 + 1 + 1, 0, none⟩), .bool true, undef, undef, undef, undef, undef, undef, undef, undef, undef, undef, undef, undef, undef, .agg #[.int .u64 1, .int .u64 0, .int .i64 0], .agg #[.int .u64 2, .int .u64 0, .int .i64 0], .agg #[.int .u64 3, .int .u64 0, .int .i64 0], .agg #[.int .u64 2, .int .u64 1, .int .i64 0], .agg #[.int .u64 3, .int .u64 0, .int .i64 0], .agg #[.int .u64 1, .int .u64 0, .int .i64 0], .agg #[.int .u64 2, .int .u64 0, .int .i64 0], v26, v27, .agg #[.int .u64 1, .int .u64 0, .int .i64 0], .agg #[.int .u64 2, .int .u64 0, .int .i64 0], .agg #[.int .u64 3, .int .u64 0, .int .i64 0], v31, .bool true, undef, undef, undef, undef, undef, undef, undef, undef, undef, undef, undef, undef, undef, undef, undef, undef, undef, undef, undef, undef, undef, undef, undef, undef, undef, undef, undef, undef, undef, undef, undef, undef, undef, undef, undef, undef, undef, undef, undef, undef, undef, undef, undef, undef, undef, undef, undef, undef, undef, undef, undef, undef, undef, undef, undef, undef, undef, undef, undef, undef, undef, undef, undef, undef, undef, undef, undef, undef, undef, undef, undef, undef, undef, undef, undef, undef, undef, undef, undef, undef, undef, undef, undef, undef, undef, undef, undef, undef, undef, undef, undef, undef, undef, undef, undef, undef, undef, undef, undef, undef], defers := [] } w2 := by
    intro v26 v27 v31 w2 hh
    refine hK _ _ ?_
    have H2 := Lib.hid hh
    obtain ⟨_, ⟨a0, a1, a2⟩, ⟨b0, b1, b2⟩, ⟨c0, c1, c2⟩, ⟨d0, d1, d2⟩⟩ := hh
    have e0 := ((Bel.refl w2).alloc #[.int .u64 1, .int .u64 0, .int .i64 0, .int .u64 2, .int .u64 0, .int .i64 0, .int .u64 3, .int .u64 0, .int .i64 0] 30).cell d0
    have e1 := ((Bel.refl w2).alloc #[.int .u64 1, .int .u64 0, .int .i64 0, .int .u64 2, .int .u64 0, .int .i64 0, .int .u64 3, .int .u64 0, .int .i64 0] 30).cell d1
    have e2 := ((Bel.refl w2).alloc #[.int .u64 1, .int .u64 0, .int .i64 0, .int .u64 2, .int .u64 0, .int .i64 0, .int .u64 3, .int .u64 0, .int .i64 0] 30).cell d2
    go_wp2_with fail
    refine (ex_merge _ _ ?hm).mono ?_
    case hm => exact hasL_two (l1 := [xa, xb, xc]) (l2 := [xd]) (n1 := 3) (n2 := 1) (c1 := 3) (c2 := 1) (p1 := some ⟨w2.heap.size, 0, none⟩) (p2 := some ⟨w2.heap.size + 1, 0, none⟩) rfl rfl (by simp [go_sem]) (by simp [go_sem]) (Nat.le_refl _) (Nat.le_refl _) ((has_at w2 _ rfl [xa, xb, xc] #[.int .u64 1, .int .u64 0, .int .i64 0, .int .u64 2, .int .u64 0, .int .i64 0, .int .u64 3, .int .u64 0, .int .i64 0] rfl (by decide)).bel (((Bel.refl _).alloc _ _).alloc _ _)) ((has_at (w2.alloc (.cells #[.int .u64 1, .int .u64 0, .int .i64 0, .int .u64 2, .int .u64 0, .int .i64 0, .int .u64 3, .int .u64 0, .int .i64 0] 30)) (w2.heap.size + 1) (by simp) [xd] #[.int .u64 2, .int .u64 1, .int .i64 0] rfl (by decide)).bel ((Bel.refl _).alloc _ _))
    rintro e w3 ⟨⟨p, k, rfl, hk, hp⟩, hb⟩
    have H3 := Lib.hid (H2.out.bel ((((Bel.refl _).alloc _ _).alloc _ _).alloc _ _ |>.trans hb))
    have P3 := Lib.hid hp
    clear hb hp e0 e1 e2 a0 a1 a2 b0 b1 b2 c0 c1 c2 d0 d1 d2
    obtain ⟨_, ⟨a0, a1, a2⟩, ⟨b0, b1, b2⟩, ⟨c0, c1, c2⟩, ⟨d0, d1, d2⟩⟩ := H3.out
    go_wp2_with fail
    refine (ex_same _ _ _ _ 4 [xa, xb, xd, xc] _ rfl (by decide) (P3.out.bel ((Bel.refl _).alloc _ _)) (has_at w3 _ rfl [xa, xb, xd, xc] _ rfl (by decide))).mono ?_
    rintro e w4 ⟨rfl, hb⟩
    have H4 := Lib.hid (H3.out.bel (((Bel.refl _).alloc _ _).trans hb))
    have P4 := Lib.hid (P3.out.bel (((Bel.refl _).alloc _ _).trans hb))
    clear hb a0 a1 a2 b0 b1 b2 c0 c1 c2 d0 d1 d2
    obtain ⟨_, ⟨a0, a1, a2⟩, ⟨b0, b1, b2⟩, ⟨c0, c1, c2⟩, ⟨d0, d1, d2⟩⟩ := H4.out
    go_wp2_with fail
    refine (ex_find _ _ _ P4.out).mono ?_
    rintro e w5 ⟨rfl, hb⟩
    have H5 := Lib.hid (H4.out.bel hb)
    have P5 := Lib.hid (P4.out.bel hb)
    clear hb a0 a1 a2 b0 b1 b2 c0 c1 c2 d0 d1 d2
    obtain ⟨_, ⟨a0, a1, a2⟩, ⟨b0, b1, b2⟩, ⟨c0, c1, c2⟩, ⟨d0, d1, d2⟩⟩ := H5.out
    go_wp2_with fail
    refine (ex_cut _ _ (has_at w5 _ rfl [xa, xb, xc] _ rfl (by decide))).mono ?_
    rintro e w6 ⟨⟨q1, q2, k1, k2, rfl⟩, hb⟩
    have H6 := Lib.hid (H5.out.bel (((Bel.refl _).alloc _ _).trans hb))
    have P6 := Lib.hid (P5.out.bel (((Bel.refl _).alloc _ _).trans hb))
    clear hb a0 a1 a2 b0 b1 b2 c0 c1 c2 d0 d1 d2
    obtain ⟨_, ⟨a0, a1, a2⟩, ⟨b0, b1, b2⟩, ⟨c0, c1, c2⟩, ⟨d0, d1, d2⟩⟩ := H6.out
    have e0 := ((Bel.refl w6).alloc #[.int .u64 1, .int .u64 0, .int .i64 0, .int .u64 3, .int .u64 0, .int .i64 0] 30).cell b0
    have e1 := ((Bel.refl w6).alloc #[.int .u64 1, .int .u64 0, .int .i64 0, .int .u64 3, .int .u64 0, .int .i64 0] 30).cell b1
    have e2 := ((Bel.refl w6).alloc #[.int .u64 1, .int .u64 0, .int .i64 0, .int .u64 3, .int .u64 0, .int .i64 0] 30).cell b2
    go_wp2_with fail
    refine (ex_put _ _ (has_at w6 _ rfl [xa, xc] _ rfl (by decide))).mono ?_
    rintro e w7 ⟨⟨q, k3, rfl, hq⟩, hb⟩
    have H7 := Lib.hid (H6.out.bel (((Bel.refl _).alloc _ _).trans hb))
    have P7 := Lib.hid (P6.out.bel (((Bel.refl _).alloc _ _).trans hb))
    have R7 := Lib.hid hq
    clear hb hq e0 e1 e2 a0 a1 a2 b0 b1 b2 c0 c1 c2 d0 d1 d2
    obtain ⟨_, ⟨a0, a1, a2⟩, ⟨b0, b1, b2⟩, ⟨c0, c1, c2⟩, ⟨d0, d1, d2⟩⟩ := H7.out
    go_wp2_with fail
    refine (ex_same _ _ _ _ 3 [xa, xb, xc] _ rfl (by decide) (R7.out.bel ((Bel.refl _).alloc _ _)) (has_at w7 _ rfl [xa, xb, xc] _ rfl (by decide))).mono ?_
    rintro e w8 ⟨rfl, hb⟩
    have H8 := Lib.hid (H7.out.bel (((Bel.refl _).alloc _ _).trans hb))
    have P8 := Lib.hid (P7.out.bel (((Bel.refl _).alloc _ _).trans hb))
    clear hb a0 a1 a2 b0 b1 b2 c0 c1 c2 d0 d1 d2
    obtain ⟨_, ⟨a0, a1, a2⟩, ⟨b0, b1, b2⟩, ⟨c0, c1, c2⟩, ⟨d0, d1, d2⟩⟩ := H8.out
    go_wp2_with fail
    refine (ex_refuse _ _ ?hr).mono ?_
    case hr => exact hasL_one (l1 := [xb, xa]) (n1 := 2) (c1 := 2) (p1 := some ⟨w8.heap.size, 0, none⟩) rfl (by simp [go_sem]) (Nat.le_refl _) ((has_at w8 _ rfl [xb, xa] #[.int .u64 2, .int .u64 0, .int .i64 0, .int .u64 1, .int .u64 0, .int .i64 0] rfl (by decide)).bel ((Bel.refl _).alloc _ _))
    rintro e w9 ⟨rfl, hb⟩
    have H9 := Lib.hid (H8.out.bel ((((Bel.refl _).alloc _ _).alloc _ _).trans hb))
    have P9 := Lib.hid (P8.out.bel ((((Bel.refl _).alloc _ _).alloc _ _).trans hb))
    clear hb a0 a1 a2 b0 b1 b2 c0 c1 c2 d0 d1 d2
    go_wp2_with fail
    refine (ex_sorted _ _ _ P9.out).mono ?_
    rintro e w10 ⟨rfl, hb⟩
    have H10 := Lib.hid (H9.out.bel hb)
    clear hb
    go_wp2
    go_ret
    exact ⟨rfl, H10.out.1⟩
  have H0 : Hid (Held w w.heap.size ((((w.alloc (.cells #[.int .u64 1, .int .u64 0, .int .i64 0] 30)).alloc (.cells #[.int .u64 2, .int .u64 0, .int .i64 0] 30)).alloc (.cells #[.int .u64 3, .int .u64 0, .int .i64 0] 30)).alloc (.cells #[.int .u64 2, .int .u64 1, .int .i64 0] 30))) :=
    Lib.hid ⟨((((Bel.refl w).alloc _ _).alloc _ _).alloc _ _).alloc _ _, by unfold Four; simp [go_sem]⟩
  have TAIL := Lib.hid tail
  have HK := Lib.hid hK
  clear tail hK
  generalize (((w.alloc (.cells #[.int .u64 1, .int .u64 0, .int .i64 0] 30)).alloc (.cells #[.int .u64 2, .int .u64 0, .int .i64 0] 30)).alloc (.cells #[.int .u64 3, .int .u64 0, .int .i64 0] 30)).alloc (.cells #[.int .u64 2, .int .u64 1, .int .i64 0] 30) = W at H0 ⊢
  have NINE : Hid (∀ w', Bel W w' → Bel W w' ∧ w'.cell? ⟨w.heap.size, 0, none⟩ = some (.int .u64 1) ∧ w'.cell? ⟨w.heap.size, 1, none⟩ = some (.int .u64 0) ∧ w'.cell? ⟨w.heap.size, 2, none⟩ = some (.int .i64 0) ∧ w'.cell? ⟨w.heap.size + 1, 0, none⟩ = some (.int .u64 2) ∧ w'.cell? ⟨w.heap.size + 1, 1, none⟩ = some (.int .u64 0) ∧ w'.cell? ⟨w.heap.size + 1, 2, none⟩ = some (.int .i64 0) ∧ w'.cell? ⟨w.heap.size + 1 + 1, 0, none⟩ = some (.int .u64 3) ∧ w'.cell? ⟨w.heap.size + 1 + 1, 1, none⟩ = some (.int .u64 0) ∧ w'.cell? ⟨w.heap.size + 1 + 1, 2, none⟩ = some (.int .i64 0)) := Lib.hid (fun w' hb => by
    obtain ⟨_, ⟨a0, a1, a2⟩, ⟨b0, b1, b2⟩, ⟨c0, c1, c2⟩, _⟩ := H0.out
    exact ⟨hb, hb.cell a0, hb.cell a1, hb.cell a2, hb.cell b0, hb.cell b1, hb.cell b2, hb.cell c0, hb.cell c1, hb.cell c2⟩)
  have S1 : Hid (Has (W.alloc (.cells #[.int .u64 3, .int .u64 0, .int .i64 0, .int .u64 1, .int .u64 0, .int .i64 0, .int .u64 2, .int .u64 0, .int .i64 0] 30)).drew (some ⟨W.heap.size, 0, none⟩) [xc, xa, xb]) := Lib.hid ((has_at W _ rfl [xc, xa, xb] #[.int .u64 3, .int .u64 0, .int .i64 0, .int .u64 1, .int .u64 0, .int .i64 0, .int .u64 2, .int .u64 0, .int .i64 0] rfl (by decide)).bel (Bel.refl _).drew)
  have S2 : Hid (Has ((W.alloc (.cells #[.int .u64 3, .int .u64 0, .int .i64 0, .int .u64 1, .int .u64 0, .int .i64 0, .int .u64 2, .int .u64 0, .int .i64 0] 30)).alloc (.cells #[.int .u64 1, .int .u64 0, .int .i64 0, .int .u64 2, .int .u64 0, .int .i64 0, .int .u64 3, .int .u64 0, .int .i64 0] 30)).drew (some ⟨W.heap.size, 0, none⟩) [xc, xa, xb]) := Lib.hid ((has_at W _ rfl [xc, xa, xb] #[.int .u64 3, .int .u64 0, .int .i64 0, .int .u64 1, .int .u64 0, .int .i64 0, .int .u64 2, .int .u64 0, .int .i64 0] rfl (by decide)).bel ((Bel.refl _).alloc #[.int .u64 1, .int .u64 0, .int .i64 0, .int .u64 2, .int .u64 0, .int .i64 0, .int .u64 3, .int .u64 0, .int .i64 0] 30).drew)
  have S3 : Hid (Has ((W.alloc (.cells #[.int .u64 1, .int .u64 0, .int .i64 0, .int .u64 2, .int .u64 0, .int .i64 0, .int .u64 3, .int .u64 0, .int .i64 0] 30)).alloc (.cells #[.int .u64 3, .int .u64 0, .int .i64 0, .int .u64 1, .int .u64 0, .int .i64 0, .int .u64 2, .int .u64 0, .int .i64 0] 30)).drew (some ⟨W.heap.size + 1, 0, none⟩) [xc, xa, xb]) := Lib.hid ((has_at (W.alloc (.cells #[.int .u64 1, .int .u64 0, .int .i64 0, .int .u64 2, .int .u64 0, .int .i64 0, .int .u64 3, .int .u64 0, .int .i64 0] 30)) (W.heap.size + 1) (by simp) [xc, xa, xb] #[.int .u64 3, .int .u64 0, .int .i64 0, .int .u64 1, .int .u64 0, .int .i64 0, .int .u64 2, .int .u64 0, .int .i64 0] rfl (by decide)).bel (Bel.refl _).drew)
  have E1 : Hid (∀ w3 : World, Has (w3.alloc (.cells #[.int .u64 1, .int .u64 0, .int .i64 0, .int .u64 2, .int .u64 0, .int .i64 0, .int .u64 3, .int .u64 0, .int .i64 0] 30)) (some ⟨w3.heap.size, 0, none⟩) [xa, xb, xc]) := Lib.hid (fun w3 => has_at w3 _ rfl [xa, xb, xc] #[.int .u64 1, .int .u64 0, .int .i64 0, .int .u64 2, .int .u64 0, .int .i64 0, .int .u64 3, .int .u64 0, .int .i64 0] rfl (by decide))
  have E2 : Hid (∀ w3 : World, Bel ((W.alloc (.cells #[.int .u64 3, .int .u64 0, .int .i64 0, .int .u64 1, .int .u64 0, .int .i64 0, .int .u64 2, .int .u64 0, .int .i64 0] 30)).alloc (.cells #[.int .u64 1, .int .u64 0, .int .i64 0, .int .u64 2, .int .u64 0, .int .i64 0, .int .u64 3, .int .u64 0, .int .i64 0] 30)).drew w3 → Has w3 (some ⟨W.heap.size + 1, 0, none⟩) [xa, xb, xc]) := Lib.hid (fun w3 hg => (has_at (W.alloc (.cells #[.int .u64 3, .int .u64 0, .int .i64 0, .int .u64 1, .int .u64 0, .int .i64 0, .int .u64 2, .int .u64 0, .int .i64 0] 30)) (W.heap.size + 1) (by simp) [xa, xb, xc] #[.int .u64 1, .int .u64 0, .int .i64 0, .int .u64 2, .int .u64 0, .int .i64 0, .int .u64 3, .int .u64 0, .int .i64 0] rfl (by decide)).bel ((Bel.refl _).drew.trans hg))
  have E3 : Hid (∀ w3 : World, Bel ((W.alloc (.cells #[.int .u64 1, .int .u64 0, .int .i64 0, .int .u64 2, .int .u64 0, .int .i64 0, .int .u64 3, .int .u64 0, .int .i64 0] 30)).alloc (.cells #[.int .u64 3, .int .u64 0, .int .i64 0, .int .u64 1, .int .u64 0, .int .i64 0, .int .u64 2, .int .u64 0, .int .i64 0] 30)).drew w3 → Has w3 (some ⟨W.heap.size, 0, none⟩) [xa, xb, xc]) := Lib.hid (fun w3 hg => (has_at W _ rfl [xa, xb, xc] #[.int .u64 1, .int .u64 0, .int .i64 0, .int .u64 2, .int .u64 0, .int .i64 0, .int .u64 3, .int .u64 0, .int .i64 0] rfl (by decide)).bel (((Bel.refl _).alloc #[.int .u64 3, .int .u64 0, .int .i64 0, .int .u64 1, .int .u64 0, .int .i64 0, .int .u64 2, .int .u64 0, .int .i64 0] 30).drew.trans hg))
  have KS := Lib.hid (fun p q c k W' h1 h2 => ex_same p q c k 3 [xa, xb, xc] W' rfl (by decide) h1 h2)
  go_region_held3 (fun w' => Bel W w' ∧ w'.cell? ⟨w.heap.size, 0, none⟩ = some (.int .u64 1) ∧ w'.cell? ⟨w.heap.size, 1, none⟩ = some (.int .u64 0) ∧ w'.cell? ⟨w.heap.size, 2, none⟩ = some (.int .i64 0) ∧ w'.cell? ⟨w.heap.size + 1, 0, none⟩ = some (.int .u64 2) ∧ w'.cell? ⟨w.heap.size + 1, 1, none⟩ = some (.int .u64 0) ∧ w'.cell? ⟨w.heap.size + 1, 2, none⟩ = some (.int .i64 0) ∧ w'.cell? ⟨w.heap.size + 1 + 1, 0, none⟩ = some (.int .u64 3) ∧ w'.cell? ⟨w.heap.size + 1 + 1, 1, none⟩ = some (.int .u64 0) ∧ w'.cell? ⟨w.heap.size + 1 + 1, 2, none⟩ = some (.int .i64 0))
    (first | exact NINE.out _ (Bel.refl W).drew | exact NINE.out _ ((Bel.refl W).alloc _ _).drew | exact NINE.out _ (((Bel.refl W).alloc _ _).alloc _ _).drew | exact NINE.out _ (Bel.trans (And.left (by assumption)) hg1) | exact NINE.out _ (Bel.trans (And.left (by assumption)) hg2) | exact NINE.out _ (Bel.alloc (w := w3) (And.left (by assumption)) _ _))
    (first | (go_at_call 12; (with_reducible refine (ex_sort _ 3 _ S1.out).mono ?_); rintro e w3 ⟨q, k, rfl, hq, hg1⟩) | (go_at_call 12; (with_reducible refine (ex_sort _ 3 _ S2.out).mono ?_); rintro e w3 ⟨q, k, rfl, hq, hg1⟩) | (go_at_call 12; (with_reducible refine (ex_sort _ 3 _ S3.out).mono ?_); rintro e w3 ⟨q, k, rfl, hq, hg1⟩) | (go_at_call 11; (with_reducible refine (KS.out _ _ _ _ _ (hq.bel ((Bel.refl _).alloc _ _)) (E1.out w3)).mono ?_); rintro e w4 ⟨rfl, hg2⟩) | (go_at_call 11; (with_reducible refine (KS.out _ _ _ _ _ hq (E2.out _ hg1)).mono ?_); rintro e w4 ⟨rfl, hg2⟩) | (go_at_call 11; (with_reducible refine (KS.out _ _ _ _ _ hq (E3.out _ hg1)).mono ?_); rintro e w4 ⟨rfl, hg2⟩))
  all_goals exact TAIL.out _ _ _ w4 (H0.out.bel (And.left (by assumption)))
end Go.Proofs.Ytbbhgmdpafhbeaa
