/-
  Contracts of slab's fresh and Free.
-/
import Derived.Test.YtlohpccfanmiiaaPush
import Derived.RegionTactic
import Derived.StillTailTactics
namespace Go.Proofs.Ytlohpccfanmiiaa
open Go.RowKit
theorem fresh_no (B : Nat) (f : Nat → Prop) (S : St) (w : World) (h : Slb w B f S) (hs : Sm S) (hf : S.pl ≤ S.tk.length) :
    Calls Try.prog 29 #[.pointer (some ⟨B, 0, none⟩)] w fun e w' => e = .returned (.tuple #[.int .i64 0, .bool false]) ∧ w = w' := by
  obtain ⟨pt, ct, pf, cf, c0, c1, c2, c3, _, _, _, _⟩ := h.read
  have p0 := hs.p0
  obtain ⟨P, hP⟩ : ∃ P : Nat, S.pl = P := ⟨S.pl.toNat, by omega⟩
  obtain ⟨n, hn⟩ : ∃ n, S.tk.length = n := ⟨_, rfl⟩
  rw [hP] at c0
  rw [hn] at c2
  have hle : P ≤ n := by omega
  have hd : decide (P ≤ n) = true := decide_eq_true hle
  clear hs h hP hn hf p0
  go_enter Try.func29, Try.ntmps29
  go_wp2
  go_ret2
  exact ⟨rfl, rfl⟩
theorem lies_pl1 (w : World) (x : Pl) (B : Nat) (hB : w.heap.size = B) : Lies nof (w.alloc (.cells #[.int .i64 x.u, .bool x.al] 67)) (some ⟨B, 0, none⟩) (encP [x]) := by
  subst hB
  refine .inr ⟨_, _, rfl, fun e => e, fun j u hu => ?_⟩
  have hj : j < 2 := by have := (List.getElem?_eq_some_iff.1 hu).1; rw [encP_len] at this; simpa using this
  obtain rfl | rfl : j = 0 ∨ j = 1 := by omega
  · have e : u = .int .i64 x.u := by simpa [encP] using hu.symm
    rw [e]
    simp [go_sem]
  · have e : u = .bool x.al := by simpa [encP] using hu.symm
    rw [e]
    simp [go_sem]
theorem fresh_yes (B : Nat) (f : Nat → Prop) (S : St) (w : World) (h : Slb w B f S) (hs : Sm S) (hf : S.tk.length < S.pl) :
    Calls Try.prog 29 #[.pointer (some ⟨B, 0, none⟩)] w fun e w' => e = .returned (.tuple #[.int .i64 S.tk.length, .bool true]) ∧ ∃ f', Slb w' B f' { S with tk := S.tk ++ [⟨0, false⟩] } ∧ Steps f w f' w' := by
  have p1 := hs.p1
  have p0 := hs.p0
  obtain ⟨vt, vf, h⟩ := h
  have c0 : w.cell? ⟨B, 0, none⟩ = some (.int .i64 S.pl) := by rw [cell_of_row w B _ _ 62 (0, 0) h.hB]; rfl
  have c2 : w.cell? ⟨B, 2, none⟩ = some vt := by rw [cell_of_row w B _ _ 62 (0, 0) h.hB]; rfl
  have hB := World.block_lt_of_cell? w _ c2
  obtain ⟨pt, ct, hvt, _⟩ := own_slice h.ot nof (fun _ _ e => e)
  rw [hvt] at c2
  have H := Lib.hid h
  have HV := Lib.hid hvt
  clear h hvt hs
  obtain ⟨n, hn⟩ : ∃ n, S.tk.length = n := ⟨_, rfl⟩
  obtain ⟨P, hP⟩ : ∃ P : Nat, S.pl = P := ⟨S.pl.toNat, by omega⟩
  rw [hn] at hf c2 HV
  rw [hP] at hf c0 p1
  rw [hn]
  have HN := Lib.hid hn
  have hd : decide (P ≤ n) = false := decide_eq_false (by omega)
  clear hn hP p0
  go_enter Try.func29, Try.ntmps29
  go_wp2_with (at_builtin; refine wpList_append_gen el58 rfl (.tmp 20) (.tmp 22) rfl (.slice pt n ct) n (encP S.tk) rfl (by have h1 := own_bel H.out.ot ((Bel.refl _).alloc #[.int .i64 0, .bool false] 67); rw [HV.out, HN.out] at h1; exact h1) _ _ _ (encP [⟨0, false⟩]) rfl rfl (lies_pl1 _ ⟨0, false⟩ _ rfl) (encP_one _) (by omega) ?_)
  intro v' w1 hown hgrow hnew
  rw [← HV.out] at hgrow hnew
  have hoff : Off (fun k => vt.ownBlock = some k) w w1 := Off.grown ((Off.refl _ _).alloc _ _) hgrow (fun k e => .inl e)
  have hown1 : w1.ownsRow 0 67 2 v' (S.tk ++ ([⟨0, false⟩] : List Pl)).length (encP (S.tk ++ [⟨0, false⟩])) := by
    rw [encP_append, List.length_append, HN.out]
    exact hown
  have hnew1 : ∀ k, v'.ownBlock = some k → vt.ownBlock = some k ∨ w.heap.size ≤ k := fun k e => by
    rcases hnew k e with e | e
    · exact .inl e
    · exact .inr (by omega)
  have HF := Lib.hid (H.out.newtk hoff hown1 hnew1)
  obtain ⟨q, k, hv, _⟩ := own_slice hown nof (fun _ _ e => e)
  have hB1 : w1.heap[B]? = some (.cells #[.int .i64 S.pl, .int .i64 S.gn, vt, vf] 62 (0, 0)) := (hoff.block B hB H.out.dt).trans H.out.hB
  have c31 : w1.cell? ⟨B, 2, none⟩ = some vt := by rw [cell_of_row w1 B _ _ 62 (0, 0) hB1]; rfl
  have f31 : w1.frozen? ⟨B, 2, none⟩ = false := frozen_of_row w1 B 2 _ 62 hB1
  rw [HV.out] at c31
  rw [hv] at HF ⊢
  clear hown hgrow hnew hoff hown1 hnew1 hv hB1
  go_wp2
  go_ret2
  exact ⟨rfl, _, ⟨_, _, HF.out.1⟩, HF.out.2⟩
theorem free_no (B : Nat) (f : Nat → Prop) (S : St) (h : Hd) (w : World) (hS : Slb w B f S) (hs : Sm S) (hl : lv S h = false) :
    Calls Try.prog 13 #[.pointer (some ⟨B, 0, none⟩), .agg #[.int .i64 h.p, .int .i64 h.g]] w fun e w' => e = .returned (.int .i64 5) ∧ Bel w w' := by
  have K := Lib.hid (fun w' (hb : Slb w' B f S) => alive_any B f S h w' hb hs)
  rw [hl] at K
  have HS := Lib.hid hS
  clear hS hs hl
  go_enter Try.func13, Try.ntmps13
  go_wp2_with fail
  with_reducible refine (K.out _ (HS.out.bel ((Bel.refl _).alloc _ _))).mono ?_
  rintro e w1 ⟨rfl, hb⟩
  have HB : Hid (Bel w w1) := Lib.hid (((Bel.refl _).alloc _ _).trans hb)
  clear hb
  go_wp2
  go_ret
  exact ⟨rfl, HB.out⟩
/-- What a slab is behind Free, at place k. -/
def freeS (S : St) (k : Nat) (g : Int) : St := { S with tk := S.tk.set k ⟨g, false⟩, fr := if g < S.gn then S.fr ++ [(k : Int)] else S.fr }
set_option maxHeartbeats 1000000 in
theorem free_yes (B : Nat) (f : Nat → Prop) (S : St) (k : Nat) (g : Int) (w : World) (hS : Slb w B f S) (hs : Sm S) (hl : S.tk[k]? = some ⟨g, true⟩) (hf : S.fr.length ≤ 1023) :
    Calls Try.prog 13 #[.pointer (some ⟨B, 0, none⟩), .agg #[.int .i64 k, .int .i64 g]] w fun e w' => e = .returned (.int .i64 0) ∧ ∃ f', Slb w' B f' (freeS S k g) ∧ Steps f w f' w' := by
  have K := Lib.hid (fun w' (hb : Slb w' B f S) => alive_any B f S ⟨k, g⟩ w' hb hs)
  rw [(lv_iff S ⟨k, g⟩).2 ⟨k, rfl, hl⟩] at K
  have HS := Lib.hid hS
  have HL := Lib.hid hl
  have t1 := hs.t1
  have hlt := get_lt hl
  clear hS hs hl
  obtain ⟨n, hn⟩ : ∃ n, S.tk.length = n := ⟨_, rfl⟩
  rw [hn] at t1 hlt
  have HN := Lib.hid hn
  clear hn
  go_enter Try.func13, Try.ntmps13
  go_wp2_with fail
  with_reducible refine (K.out _ (HS.out.bel ((Bel.refl _).alloc _ _))).mono ?_
  rintro e w1 ⟨rfl, hb⟩
  have HB : Hid (Bel w w1) := Lib.hid (((Bel.refl _).alloc _ _).trans hb)
  have y0 : w1.cell? ⟨w.heap.size, 0, none⟩ = some (.int .i64 k) := hb.cell (by simp [go_sem])
  have y1 : w1.cell? ⟨w.heap.size, 1, none⟩ = some (.int .i64 g) := hb.cell (by simp [go_sem])
  have hz : w.heap.size < w1.heap.size := by have := hb.size; simp at this; omega
  clear hb
  obtain ⟨vt, vf, h1⟩ := HS.out.bel HB.out
  obtain ⟨pt, ct, hvt, hct, hmx, hlp⟩ := own_slice h1.ot nof (fun _ _ e => e)
  obtain ⟨b, off, rfl, _, hr⟩ := lies_pl hlp (get_lt HL.out)
  have hoff : off = 0 := by
    rcases h1.ot.2 with ⟨e, _⟩ | ⟨g', cap', cur, e, _⟩
    · rw [hvt] at e; cases e
    · rw [hvt] at e; injection e with e; injection e with e; injection e
  subst hoff
  subst hvt
  obtain ⟨x0, x1⟩ := row_pl hr HL.out
  simp only [Nat.zero_add] at x0 x1
  have c1 : w1.cell? ⟨B, 1, none⟩ = some (.int .i64 S.gn) := by rw [cell_of_row w1 B _ _ 62 (0, 0) h1.hB]; rfl
  have c2 : w1.cell? ⟨B, 2, none⟩ = some (.slice (some ⟨b, 0, none⟩) n ct) := by rw [cell_of_row w1 B _ _ 62 (0, 0) h1.hB, ← HN.out]; rfl
  have fx : w1.frozen? ⟨b, k * 2 + 1, none⟩ = false := h1.ot.frozenAt _
  have hput := h1.put (k * 2 + 1) (.bool false) (S.tk.set k ⟨g, false⟩) (by simp) (encP_seta S.tk k _ false HL.out)
  have hbf : f b := h1.ft b rfl
  have hbT : b ≠ w.heap.size := fun e => by have := HS.out.lt b hbf; omega
  have hbB : b ≠ B := fun e => h1.dt (by rw [e]; rfl)
  have HP := Lib.hid hput
  have HF : Hid (S.fr.length ≤ 1023) := Lib.hid hf
  have hsz1 : w.heap.size < (w1.setCell ⟨b, k * 2 + 1, none⟩ (.bool false)).heap.size := by have := hput.2.size; omega
  have z0 : (w1.setCell ⟨b, k * 2 + 1, none⟩ (.bool false)).cell? ⟨w.heap.size, 0, none⟩ = some (.int .i64 k) := by
    rw [World.cell?_setCell_other]
    · exact y0
    · intro e; injection e with e; omega
  have z1 : (w1.setCell ⟨b, k * 2 + 1, none⟩ (.bool false)).cell? ⟨w.heap.size, 1, none⟩ = some (.int .i64 g) := by
    rw [World.cell?_setCell_other]
    · exact y1
    · intro e; injection e with e; omega
  have z2 : (w1.setCell ⟨b, k * 2 + 1, none⟩ (.bool false)).cell? ⟨B, 1, none⟩ = some (.int .i64 S.gn) := by
    rw [World.cell?_setCell_other]
    · exact c1
    · intro e; injection e with e; omega
  clear hput h1 hr hlp hf
  obtain ⟨G, hG⟩ : ∃ G, S.gn = G := ⟨_, rfl⟩
  rw [hG] at c1 z2
  have HG := Lib.hid hG
  clear hG
  go_wp2
  go_region
  generalize hW : w1.setCell ⟨b, k * 2 + 1, none⟩ (.bool false) = W at *
  clear y0 y1 c1 c2 x0 x1 fx hW
  have HB2 : Hid (SlbV W B (.slice (some ⟨b, 0, none⟩) S.tk.length ct) vf f { S with tk := S.tk.set k ⟨g, false⟩ } ∧ Off f w1 W) := HP
  by_cases hgg : g < G
  · go_wp2
    go_quiet (fail)
    go_wp2
    generalize hW2 : W.drew.drewN nq = W2
    have z0 : W2.cell? ⟨w.heap.size, 0, none⟩ = some (.int .i64 k) := by rw [← hW2]; exact z0
    have HW : Hid (Off f w W2) := Lib.hid (by rw [← hW2]; exact ((Off.trans (HB.out.off f) HB2.out.2 (fun i e => .inl e)).drew).drewN nq)
    have HSl : Hid (Slb W2 B f { S with tk := S.tk.set k ⟨g, false⟩ }) := Lib.hid (by rw [← hW2]; exact ⟨_, _, HB2.out.1.off (((Off.refl nof W).drew).drewN nq) (fun _ _ e => e)⟩)
    clear hW2
    go_still_tail 5, (by kernel_rfl)
    change wpList _ _ _ _ _ W2.drew
    have HSl3 : Hid (Slb W2.drew B f { S with tk := S.tk.set k ⟨g, false⟩ }) := Lib.hid (HSl.out.off ((Off.refl nof W2).drew) (fun _ _ e => e))
    have HW3 : Hid (Off f w W2.drew) := Lib.hid HW.out.drew
    generalize W2.drew = W3 at *
    go_wp2_with fail
    with_reducible refine (push_any B f { S with tk := S.tk.set k ⟨g, false⟩ } k _ HSl3.out (Nat.le_trans HF.out (by omega))).mono ?_
    rintro e w4 ⟨rfl, f', hsl, hst⟩
    have HE := Lib.hid hsl
    have HT := Lib.hid hst
    clear hsl hst
    go_wp2
    go_ret
    refine ⟨rfl, f', ?_, ⟨Off.trans HW3.out HT.out.1 (fun i e => .inl e), fun i e => ?_⟩⟩
    · unfold freeS
      rw [if_pos (by rw [HG.out]; exact hgg)]
      exact HE.out
    · rcases HT.out.2 i e with e | e
      · exact .inl e
      · exact .inr (Nat.le_trans HW3.out.size e)
  · have hgd : decide (g < G) = false := decide_eq_false hgg
    go_wp2
    go_quiet (fail)
    go_wp2
    go_ret
    refine ⟨rfl, f, ?_, ⟨((Off.trans (HB.out.off f) HB2.out.2 (fun i e => .inl e)).drew).drewN nq, fun i e => .inl e⟩⟩
    unfold freeS
    rw [if_neg (by rw [HG.out]; omega)]
    exact ⟨_, _, HB2.out.1.off (((Off.refl nof W).drew).drewN nq) (fun _ _ e => e)⟩
end Go.Proofs.Ytlohpccfanmiiaa
