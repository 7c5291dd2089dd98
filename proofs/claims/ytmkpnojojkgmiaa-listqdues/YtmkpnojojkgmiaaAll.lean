/-
  Contract of chain's All.
-/
import Derived.Test.YtmkpnojojkgmiaaNear
namespace Go.Proofs.Ytmkpnojojkgmiaa
open Go.RowKit Go.Shelf
attribute [local go_sem] Oper.semAt_some
theorem own_base {w : World} {b c : Nat} {e : TypeId} {size : Nat} {v : Value} {n : Nat} {cs : List Value} (h : w.ownsRow b e size v n cs) (hc : c ≤ b) : w.ownsRow c e size v n cs := by
  refine ⟨h.1, ?_⟩
  rcases h.2 with h1 | ⟨g, cap, cur, e1, e2, rest⟩
  · exact .inl h1
  · exact .inr ⟨g, cap, cur, e1, Nat.le_trans hc e2, rest⟩
theorem boxed_app {W w1 : World} {n1 bx : Nat} {v v' : Value} {k m : Nat} {xs ys : List Value} {tmp : Obj} (hv : Boxed W bx 66 v) (hrow : W.ownsRow n1 3 1 v k xs) (hbx : bx < n1) (hn1 : n1 ≤ W.heap.size) (hown' : w1.ownsRow n1 3 1 v' m ys) (hgrow : (W.alloc tmp).grownBy w1 v.ownBlock) :
    Boxed w1 bx 66 v ∧ Boxed (w1.setCell ⟨bx, 0, none⟩ v') bx 66 v' ∧ (w1.setCell ⟨bx, 0, none⟩ v').ownsRow n1 3 1 v' m ys ∧ KeepsOthers W (w1.setCell ⟨bx, 0, none⟩ v') ∧ Below bx W (w1.setCell ⟨bx, 0, none⟩ v') ∧
      ∀ a u, a.block < n1 → a.block ≠ bx → W.cell? a = some u → (w1.setCell ⟨bx, 0, none⟩ v').cell? a = some u := by
  have h1 := hv.appended (by decide) (own_base hrow (Nat.le_of_lt hbx)) (by omega) (Nat.le_refl _) (own_base hown' (Nat.le_of_lt hbx)) hgrow
  refine ⟨h1.1, h1.2.1, ?_, h1.2.2.2.1, h1.2.2.2.2, fun a u ha hb hu => ?_⟩
  · exact hown'.kept (grownBy_setCell' w1 bx v') (.inr (h1.1.not_row (by decide) hown').symm)
  · have hlt : a.block < W.heap.size := by omega
    have e1 : (W.alloc tmp).heap[a.block]? = W.heap[a.block]? := Below.heap_alloc W _ _ hlt
    have e2 := hgrow.block a.block (by simp; omega) (fun e => by have := (hrow.lt a.block e.symm).1; omega)
    have e3 := (grownBy_setCell' w1 bx v').block a.block (by have := hgrow.size; simp at this; omega) (by simpa using hb)
    exact (World.cell?_of_block (e3.trans (e2.trans e1))).trans hu
theorem all_no (B G P L : Nat) (g : Rg) (t : Int) (w : World) (h : Chn w B G P L g) (hP : P ≤ 1024) (hL : L ≤ 1024) (hn : hp L t = false) :
    Calls Try.prog 28 #[.pointer (some ⟨B, 0, none⟩), .int .i64 t] w fun e w' => e = .returned (.slice none 0 0) ∧ Bel w w' := by
  have K1 := Lib.hid (fun w' (h : Chn w' B G P L g) => hasList_any B P L _ t w' h.head.1 h.head.2 hP hL)
  rw [hn] at K1
  have H := Lib.hid h
  clear h hn
  go_enter Try.func28, Try.ntmps28
  go_wp2_with fail
  with_reducible refine (K1.out _ H.out).mono ?_
  rintro e w1 ⟨rfl, k, rfl⟩
  go_wp2
  go_ret
  exact ⟨rfl, (Bel.refl _).drewN k⟩
set_option maxRecDepth 100000 in
set_option maxHeartbeats 2000000 in
theorem all_yes (B G P L : Nat) (g : Rg) (t : Nat) (ys : List Nat) (w : World) (h : Chn w B G P L g) (hP : P ≤ 1024) (hL : L ≤ 1024) (ht : t < L) (hnd : ys.Nodup) (hys : ∀ y ∈ ys, y < P) (hm : Met (fun i => (g i).bh) P (P + t) ys) :
    Calls Try.prog 28 #[.pointer (some ⟨B, 0, none⟩), .int .i64 t] w fun e w' => ∃ p c, e = .returned (.slice p ys.length c) ∧ ys.length ≤ c ∧ Lies (old w) w' p (encI ys) ∧ Bel w w' := by
  have hlen : ys.length ≤ 1024 := Nat.le_trans (nodup_len P ys hnd hys) hP
  have K1 := Lib.hid (fun w' (h : Chn w' B G P L g) => hasList_any B P L _ t w' h.head.1 h.head.2 hP hL)
  rw [hp_yes ht] at K1
  have K2 := Lib.hid (fun w' (h : Chn w' B G P L g) => end_any B P t w' h.head.1 hP (by omega))
  have K3 := Lib.hid (fun w' (h : Chn w' B G P L g) => walk_any B G P L g (P + t) 45 w' h)
  have hK := fun Wb Cb Sb w' (h : Src Wb Cb Sb B G P (P + L) (P + t) 45 (fun i => (g i).ah) (fun i => (g i).bh) w') => walk_stops 3 (by omega) Wb Cb Sb B G P (P + L) (P + t) 45 (fun i => (g i).ah) (fun i => (g i).bh) (fun _ b => b) way_f (by omega) (by omega) (by omega) ys hnd hys hm hlen w' h
  have H := Lib.hid h
  have HK := Lib.hid hK
  obtain ⟨i0, hi, hz0, hz1, hz2⟩ := info_parts info3
  have hBl := h.ltB
  have hGl := h.ltG
  clear h hK hnd hys hm
  generalize P + t = E at *
  refine (callsIn_wide (n := 4)).1 ?_
  have hro : Fence.wide.round = none := rfl
  refine callsIn_of_wp_marks Try.func28 rfl trivial ?_ hro
  simp only [Try.ntmps28, List.size_toArray, List.length_cons, List.length_nil, Nat.reduceAdd, Nat.reduceSub, Array.replicate_succ, Array.replicate_zero, List.push_toArray, List.append_toArray, List.nil_append, List.cons_append]
  refine wpIn_wide.2 ?_
  go_wp2_with fail
  with_reducible refine (K1.out _ H.out).mono ?_
  rintro e w1 ⟨rfl, k, rfl⟩
  have HBk : Hid (Bel w (w.drewN k)) := Lib.hid ((Bel.refl _).drewN k)
  have hsz : (w.drewN k).heap.size = w.heap.size := rfl
  generalize w.drewN k = w1 at *
  have HB2 : Hid (Bel w (w1.alloc (.cells #[.slice none 0 0] 66))) := Lib.hid (HBk.out.alloc _ _)
  have BX : Hid (Boxed (w1.alloc (.cells #[.slice none 0 0] 66)) w1.heap.size 66 (.slice none 0 0)) := Lib.hid (Boxed.new w1 66 _)
  go_wp2_with fail
  with_reducible refine (K2.out _ (H.out.bel HB2.out)).mono ?_
  rintro e w2 ⟨rfl, rfl⟩
  go_wp2_with fail
  with_reducible refine (K3.out _ (H.out.bel HB2.out)).mono ?_
  rintro e w3 ⟨Wb, Cb, Sb, rfl, hS, hb⟩
  have hB3 := HB2.out.trans hb
  have bx3 : Boxed w3 w1.heap.size 66 (.slice none 0 0) := hb.heap BX.out
  have hlt3 : w1.heap.size < w3.heap.size := bx3.lt
  rw [hsz] at bx3 hlt3
  have nW : Wb ≠ w.heap.size := fun e => by have := hS.cw; rw [e, bx3.cell] at this; cases this
  have nC : Cb ≠ w.heap.size := fun e => by have := hS.cc; rw [e, bx3.cell] at this; cases this
  have nS : Sb ≠ w.heap.size := fun e => by have := hS.cs; rw [e, bx3.cell] at this; cases this
  have lW := World.block_lt_of_cell? w3 _ hS.cw
  have lC := World.block_lt_of_cell? w3 _ hS.cc
  have lS := World.block_lt_of_cell? w3 _ hS.cs
  simp only at lW lC lS
  have hBw : Below w.heap.size w w3 := hB3.below
  have hstep : ∀ W W', (∀ a u, a.block < w3.heap.size → a.block ≠ w.heap.size → W.cell? a = some u → W'.cell? a = some u) → Kp Wb Cb Sb B G P (P + L) E 45 (fun i => (g i).ah) (fun i => (g i).bh) W W' := fun W W' k h =>
    ⟨k _ _ lW nW h.cw, k _ _ lC nC h.cc, k _ _ lS nS h.cs, k _ _ (show B < _ by omega) (show B ≠ _ by omega) h.cp, k _ _ (show B < _ by omega) (show B ≠ _ by omega) h.cr, fun i hi => ⟨k _ _ (show G < _ by omega) (show G ≠ _ by omega) (h.ca i hi).1, k _ _ (show G < _ by omega) (show G ≠ _ by omega) (h.ca i hi).2⟩⟩
  clear hb BX HB2 HBk K1 K2 K3
  go_wp2
  refine (wpIn_wide (n := 4)).1 ?_
  refine wpIn_rangeFunc_ownG hro (by omega) (gf := 57) (lb := #[.pointer (some ⟨Wb, 0, none⟩), .pointer (some ⟨Cb, 0, none⟩), .pointer (some ⟨Sb, 0, none⟩)]) rfl trivial (enters_of Try.func57 (by kernel_rfl) rfl)
    (HK.out Wb Cb Sb w3 hS) kp_t (kp_b w3.heap.size) (Below.refl _ _) (fun _ => rfl)
    (fun pre W => (∃ v, Boxed W w.heap.size 66 v ∧ W.ownsRow w3.heap.size 3 1 v pre.length (encI pre) ∧ True) ∧ Below w.heap.size w W ∧ w3.heap.size ≤ W.heap.size)
    (fun _ _ _ => False)
    (OwnFrom.and (Own.from (holdsRow_own w3.heap.size w.heap.size 66 3 1 (fun pre : List Nat => pre.length) (fun pre => encI pre) (fun _ _ => True)) _) (OwnFrom.and (ownFrom_below (Nat.le_refl _) (by omega)) (fun _ _ _ _ hs hg _ => Nat.le_trans hs hg.size)))
    (fun _ _ _ _ _ hs _ _ => hs)
    ⟨⟨_, bx3, World.ownsRow_nil _ _ _ _, trivial⟩, hBw, Nat.le_refl _⟩
    (fun x => { tmps := #[.pointer (some ⟨B, 0, none⟩), .int .i64 t, undef, undef, .slice none 0 0, .pointer (some ⟨w.heap.size, 0, none⟩), .int .i64 x, .pointer (some ⟨B, 0, none⟩), .int .i64 t, .bool true, .bool false, .pointer (some ⟨B, 0, none⟩), .pointer (some ⟨B, 0, none⟩), .int .i64 t, .int .i64 E, .func (.func 57) #[] #[.pointer (some ⟨Wb, 0, none⟩), .pointer (some ⟨Cb, 0, none⟩), .pointer (some ⟨Sb, 0, none⟩)], .int .i64 x, undef, undef, undef, undef, undef], defers := [] }) ?assign ?body ?done ?stop
  case assign =>
    intro l x W K hK
    gi_wp2
    exact hK
  case body =>
    rintro l pre x W ⟨⟨v, hv, hrow, _⟩, hBl, hz⟩ hlt
    have hc := hv.cell
    gi_wp2_with (gi_at_builtin; refine wpListIn_append_own _ rfl _ _ 66 rfl w3.heap.size 3 i0 (.int .i64 0) 1 8 Try.underlying66 hi hz0 hz1 hz2 rfl (by decide) _ _ _ rfl (hrow.alloc _) ⟨W.heap.size, 0, none⟩ 1 1 [.int .i64 x] rfl rfl (cell_one_new _ _ _) (by simp [Value.oneCell']) (by unfold maxLen; omega) (by omega) (by simp; omega) ?_; intro v' w1 hown' hgrow _; obtain ⟨g', cap', rfl⟩ := ownsRow_succ hown'; obtain ⟨hv1, hv2, hr2, hk2, hb2, hc2⟩ := boxed_app hv hrow hlt3 hz hown' hgrow; have hc1 := hv1.cell; have hf1 := hv1.frozen)
    exact ⟨hk2.from _, hstep _ _ hc2, ⟨_, hv2, by rw [encI_append, List.length_append]; exact hr2, trivial⟩, hBl.trans hb2, Nat.le_trans hz hk2.size⟩
  case done =>
    rintro D zs W hD rfl ⟨⟨v, hv, hrow, _⟩, hBl, hz⟩ hK
    have hc := hv.cell
    go_wp2
    refine ⟨by simp, .inl ⟨_, _, rfl, run_takeDeferred hK, ?_⟩⟩
    obtain ⟨p, c, rfl, hcap, _, hlies⟩ := own_slice (own_base (ownsRow_putObj hrow (.deferred none) hK rfl) (Nat.zero_le _)) (old w) (fun k e => by have := (hrow.lt k e).1; unfold old; omega)
    exact ⟨_, results_tmp rfl _ _ _, p, c, rfl, hcap, hlies, bel_of (hBl.trans (belowK_b (w := w) (Nat.le_refl _) W D _ _ (by omega) hK rfl rfl))⟩
  case stop =>
    rintro D c pre W _ _ h _
    exact h.elim
end Go.Proofs.Ytmkpnojojkgmiaa
