/-
  Contract of chain's All.
  Timers in lists of places, in memory: their own two cells, the lists, the row of timers.
-/
import Derived.Test.YtdoceldofkaapaaDoorXah
import Derived.Test.YtdoceldofkaapaaDoorRep
import Derived.Test.YtdoceldofkaapaaDoorXab
import Derived.Test.YtdoceldofkaapaaDoorXae
set_option linter.unusedVariables false
set_option linter.unusedSimpArgs false
namespace Go.Proofs.YtdoceldofkaapaaDoor
open Go.RowKit Go.Shelf
attribute [local go_sem] Oper.semAt_some
theorem own_base {w : World} {b c : Nat} {e : TypeId} {size : Nat} {v : Value} {n : Nat} {cs : List Value} (h : w.ownsRow b e size v n cs) (hc : c ≤ b) : w.ownsRow c e size v n cs := by
  refine ⟨h.1, ?_⟩
  rcases h.2 with h1 | ⟨g, cap, cur, e1, e2, rest⟩
  · exact .inl h1
  · exact .inr ⟨g, cap, cur, e1, Nat.le_trans hc e2, rest⟩
theorem boxed_app {W w1 : World} {n1 bx : Nat} {v v' : Value} {k m : Nat} {xs ys : List Value} {tmp : Obj} (hv : Boxed W bx 91 v) (hrow : W.ownsRow n1 3 1 v k xs) (hbx : bx < n1) (hn1 : n1 ≤ W.heap.size) (hown' : w1.ownsRow n1 3 1 v' m ys) (hgrow : (W.alloc tmp).grownBy w1 v.ownBlock) :
    Boxed w1 bx 91 v ∧ Boxed (w1.setCell ⟨bx, 0, none⟩ v') bx 91 v' ∧ (w1.setCell ⟨bx, 0, none⟩ v').ownsRow n1 3 1 v' m ys ∧ KeepsOthers W (w1.setCell ⟨bx, 0, none⟩ v') ∧ Below bx W (w1.setCell ⟨bx, 0, none⟩ v') ∧
      ∀ a u, a.block < n1 → a.block ≠ bx → W.cell? a = some u → (w1.setCell ⟨bx, 0, none⟩ v').cell? a = some u := by
  have h1 := hv.appended (by decide) (own_base hrow (Nat.le_of_lt hbx)) (by omega) (Nat.le_refl _) (own_base hown' (Nat.le_of_lt hbx)) hgrow
  refine ⟨h1.1, h1.2.1, ?_, h1.2.2.2.1, h1.2.2.2.2, fun a u ha hb hu => ?_⟩
  · exact hown'.kept (grownBy_setCell' w1 bx v') (.inr (h1.1.not_row (by decide) hown').symm)
  · have hlt : a.block < W.heap.size := by omega
    have e1 : (W.alloc tmp).heap[a.block]? = W.heap[a.block]? := Below.heap_alloc W _ _ hlt
    have e2 := hgrow.block a.block (by simp; omega) (fun e => by have := (hrow.lt a.block e.symm).1; omega)
    have e3 := (grownBy_setCell' w1 bx v').block a.block (by have := hgrow.size; simp at this; omega) (by simpa using hb)
    exact (World.cell?_of_block (e3.trans (e2.trans e1))).trans hu
theorem all_no (B G P L : Nat) (g : Rg) (t : Int) (w : World) (h : Chn w B G P L g) (hP : P ≤ 1024) (hL : L ≤ 1024) (hn : hp L t = false) :
    Calls Tryd.prog 50 #[.pointer (some ⟨B, 0, none⟩), .int .i64 t] w fun e w' => e = .returned (.slice none 0 0) ∧ Bel w w' := by
  have K1 := Lib.hid (fun w' (h : Chn w' B G P L g) => hasList_any B P L _ t w' h.head.1 h.head.2 hP hL)
  rw [hn] at K1
  have H := Lib.hid h
  clear h hn
  go_enter Tryd.func50, Tryd.ntmps50
  go_wp2_with fail
  with_reducible refine (K1.out _ H.out).mono ?_
  rintro e w1 ⟨rfl, k, rfl⟩
  go_wp2
  go_ret
  exact ⟨rfl, (Bel.refl _).drewN k⟩
set_option maxRecDepth 100000 in
set_option maxHeartbeats 2000000 in
theorem all_yes (B G P L : Nat) (g : Rg) (t : Nat) (ys : List Nat) (w : World) (h : Chn w B G P L g) (hP : P ≤ 1024) (hL : L ≤ 1024) (ht : t < L) (hnd : ys.Nodup) (hys : ∀ y ∈ ys, y < P) (hm : Met (fun i => (g i).bh) P (P + t) ys) :
    Calls Tryd.prog 50 #[.pointer (some ⟨B, 0, none⟩), .int .i64 t] w fun e w' => ∃ p c, e = .returned (.slice p ys.length c) ∧ ys.length ≤ c ∧ Lies (old w) w' p (encI ys) ∧ Bel w w' := by
  have hlen : ys.length ≤ 1024 := Nat.le_trans (nodup_len P ys hnd hys) hP
  have K1 := Lib.hid (fun w' (h : Chn w' B G P L g) => hasList_any B P L _ t w' h.head.1 h.head.2 hP hL)
  rw [hp_yes ht] at K1
  have K2 := Lib.hid (fun w' (h : Chn w' B G P L g) => end_any B P t w' h.head.1 hP (by omega))
  have K3 := Lib.hid (fun w' (h : Chn w' B G P L g) => walk_any B G P L g (P + t) 70 w' h)
  have hK := fun Wb Cb Sb w' (h : Src Wb Cb Sb B G P (P + L) (P + t) 70 (fun i => (g i).ah) (fun i => (g i).bh) w') => walk_stops 3 (by omega) Wb Cb Sb B G P (P + L) (P + t) 70 (fun i => (g i).ah) (fun i => (g i).bh) (fun _ b => b) way_f (by omega) (by omega) (by omega) ys hnd hys hm hlen w' h
  have H := Lib.hid h
  have HK := Lib.hid hK
  obtain ⟨i0, hi, hz0, hz1, hz2⟩ := info_parts info3
  have hBl := h.ltB
  have hGl := h.ltG
  clear h hK hnd hys hm
  generalize P + t = E at *
  refine (callsIn_wide (n := 4)).1 ?_
  have hro : Fence.wide.round = none := rfl
  refine callsIn_of_wp_marks Tryd.func50 rfl trivial ?_ hro
  simp only [Tryd.ntmps50, List.size_toArray, List.length_cons, List.length_nil, Nat.reduceAdd, Nat.reduceSub, Array.replicate_succ, Array.replicate_zero, List.push_toArray, List.append_toArray, List.nil_append, List.cons_append]
  refine wpIn_wide.2 ?_
  go_wp2_with fail
  with_reducible refine (K1.out _ H.out).mono ?_
  rintro e w1 ⟨rfl, k, rfl⟩
  have HBk : Hid (Bel w (w.drewN k)) := Lib.hid ((Bel.refl _).drewN k)
  have hsz : (w.drewN k).heap.size = w.heap.size := rfl
  generalize w.drewN k = w1 at *
  have HB2 : Hid (Bel w (w1.alloc (.cells #[.slice none 0 0] 91))) := Lib.hid (HBk.out.alloc _ _)
  have BX : Hid (Boxed (w1.alloc (.cells #[.slice none 0 0] 91)) w1.heap.size 91 (.slice none 0 0)) := Lib.hid (Boxed.new w1 91 _)
  go_wp2_with fail
  with_reducible refine (K2.out _ (H.out.bel HB2.out)).mono ?_
  rintro e w2 ⟨rfl, rfl⟩
  go_wp2_with fail
  with_reducible refine (K3.out _ (H.out.bel HB2.out)).mono ?_
  rintro e w3 ⟨Wb, Cb, Sb, rfl, hS, hb⟩
  have hB3 := HB2.out.trans hb
  have bx3 : Boxed w3 w1.heap.size 91 (.slice none 0 0) := hb.heap BX.out
  have hlt3 : w1.heap.size < w3.heap.size := bx3.lt
  rw [hsz] at bx3 hlt3
  have nW : Wb ≠ w.heap.size := fun e => by have := hS.cw; rw [e, bx3.cell] at this; cases this
  have nC : Cb ≠ w.heap.size := fun e => by have := hS.cc; rw [e, bx3.cell] at this; cases this
  have nS : Sb ≠ w.heap.size := fun e => by have := hS.cs; rw [e, bx3.cell] at this; cases this
  have lW := World.block_lt_of_cell? w3 _ hS.cw
  have lC := World.block_lt_of_cell? w3 _ hS.cc
  have lS := World.block_lt_of_cell? w3 _ hS.cs
  simp only at lW lC lS
  have hBw : Below w.heap.size w w3 := hB3.below
  have hstep : ∀ W W', (∀ a u, a.block < w3.heap.size → a.block ≠ w.heap.size → W.cell? a = some u → W'.cell? a = some u) → Kp Wb Cb Sb B G P (P + L) E 70 (fun i => (g i).ah) (fun i => (g i).bh) W W' := fun W W' k h =>
    ⟨k _ _ lW nW h.cw, k _ _ lC nC h.cc, k _ _ lS nS h.cs, k _ _ (show B < _ by omega) (show B ≠ _ by omega) h.cp, k _ _ (show B < _ by omega) (show B ≠ _ by omega) h.cr, fun i hi => ⟨k _ _ (show G < _ by omega) (show G ≠ _ by omega) (h.ca i hi).1, k _ _ (show G < _ by omega) (show G ≠ _ by omega) (h.ca i hi).2⟩⟩
  clear hb BX HB2 HBk K1 K2 K3
  go_wp2
  refine (wpIn_wide (n := 4)).1 ?_
  refine wpIn_rangeFunc_ownG hro (by omega) (gf := 86) (lb := #[.pointer (some ⟨Wb, 0, none⟩), .pointer (some ⟨Cb, 0, none⟩), .pointer (some ⟨Sb, 0, none⟩)]) rfl trivial (enters_of Tryd.func86 (by kernel_rfl) rfl)
    (HK.out Wb Cb Sb w3 hS) kp_t (kp_b w3.heap.size) (Below.refl _ _) (fun _ => rfl)
    (fun pre W => (∃ v, Boxed W w.heap.size 91 v ∧ W.ownsRow w3.heap.size 3 1 v pre.length (encI pre) ∧ True) ∧ Below w.heap.size w W ∧ w3.heap.size ≤ W.heap.size)
    (fun _ _ _ => False)
    (OwnFrom.and (Own.from (holdsRow_own w3.heap.size w.heap.size 91 3 1 (fun pre : List Nat => pre.length) (fun pre => encI pre) (fun _ _ => True)) _) (OwnFrom.and (ownFrom_below (Nat.le_refl _) (by omega)) (fun _ _ _ _ hs hg _ => Nat.le_trans hs hg.size)))
    (fun _ _ _ _ _ hs _ _ => hs)
    ⟨⟨_, bx3, World.ownsRow_nil _ _ _ _, trivial⟩, hBw, Nat.le_refl _⟩
    (fun x => { tmps := #[.pointer (some ⟨B, 0, none⟩), .int .i64 t, undef, undef, .slice none 0 0, .pointer (some ⟨w.heap.size, 0, none⟩), .int .i64 x, .pointer (some ⟨B, 0, none⟩), .int .i64 t, .bool true, .bool false, .pointer (some ⟨B, 0, none⟩), .pointer (some ⟨B, 0, none⟩), .int .i64 t, .int .i64 E, .func (.func 86) #[] #[.pointer (some ⟨Wb, 0, none⟩), .pointer (some ⟨Cb, 0, none⟩), .pointer (some ⟨Sb, 0, none⟩)], .int .i64 x, undef, undef, undef, undef, undef], defers := [] }) ?assign ?body ?done ?stop
  case assign =>
    intro l x W K hK
    gi_wp2
    exact hK
  case body =>
    rintro l pre x W ⟨⟨v, hv, hrow, _⟩, hBl, hz⟩ hlt
    have hc := hv.cell
    gi_wp2_with (gi_at_builtin; refine wpListIn_append_own _ rfl _ _ 91 rfl w3.heap.size 3 i0 (.int .i64 0) 1 8 Tryd.underlying91 hi hz0 hz1 hz2 rfl (by decide) _ _ _ rfl (hrow.alloc _) ⟨W.heap.size, 0, none⟩ 1 1 [.int .i64 x] rfl rfl (cell_one_new _ _ _) (by simp [Value.oneCell']) (by unfold maxLen; omega) (by omega) (by simp; omega) ?_; intro v' w1 hown' hgrow _; obtain ⟨g', cap', rfl⟩ := ownsRow_succ hown'; obtain ⟨hv1, hv2, hr2, hk2, hb2, hc2⟩ := boxed_app hv hrow hlt3 hz hown' hgrow; have hc1 := hv1.cell; have hf1 := hv1.frozen)
    exact ⟨hk2.from _, hstep _ _ hc2, ⟨_, hv2, by rw [encI_append, List.length_append]; exact hr2, trivial⟩, hBl.trans hb2, Nat.le_trans hz hk2.size⟩
  case done =>
    rintro D zs W hD rfl ⟨⟨v, hv, hrow, _⟩, hBl, hz⟩ hK
    have hc := hv.cell
    go_wp2
    refine ⟨by simp, .inl ⟨_, _, rfl, run_takeDeferred hK, ?_⟩⟩
    obtain ⟨p, c, rfl, hcap, _, hlies⟩ := own_slice (own_base (ownsRow_putObj hrow (.deferred none) hK rfl) (Nat.zero_le _)) (old w) (fun k e => by have := (hrow.lt k e).1; unfold old; omega)
    exact ⟨_, results_tmp rfl _ _ _, p, c, rfl, hcap, hlies, bel_of (hBl.trans (belowK_b (w := w) (Nat.le_refl _) W D _ _ (by omega) hK rfl rfl))⟩
  case stop =>
    rintro D c pre W _ _ h _
    exact h.elim
end Go.Proofs.YtdoceldofkaapaaDoor
namespace Go.Proofs.YtdoceldofkaapaaDoor
open Go.RowKit
/-- A row of timers, as cells. -/
def encQ (n : Nat) (r : Nat → T) : List Value := (List.range n).flatMap fun i => enc (r i)
theorem encQ_get (n : Nat) (r : Nat → T) (i j : Nat) (hi : i < n) (hj : j < 3) : (encQ n r)[i * 3 + j]? = (enc (r i))[j]? :=
  flat_get (fun i => enc (r i)) 3 (fun _ => rfl) (List.range n) i j i (by simp [hi]) hj
theorem encQ_len (n : Nat) (r : Nat → T) : (encQ n r).length = n * 3 := by
  unfold encQ
  induction n with
  | zero => rfl
  | succ n ih => rw [List.range_succ, List.flatMap_append, List.length_append, ih]; simp [enc]; omega
theorem encQ_ext {n : Nat} {r : Nat → T} {l : List Value} (hl : l.length = n * 3) (h : ∀ i j, i < n → j < 3 → l[i * 3 + j]? = (enc (r i))[j]?) : l = encQ n r := by
  apply List.ext_getElem?
  intro k
  by_cases hk : k < n * 3
  · have e : k / 3 * 3 + k % 3 = k := by omega
    have h1 := h (k / 3) (k % 3) (by omega) (by omega)
    have h2 := encQ_get n r (k / 3) (k % 3) (by omega) (by omega)
    rw [e] at h1 h2
    rw [h1, h2]
  · rw [List.getElem?_eq_none (by omega), List.getElem?_eq_none (by rw [encQ_len]; omega)]
/-- One timer of the row is another one. -/
def upT (r : Nat → T) (i : Nat) (t : T) : Nat → T := fun k => if k = i then t else r k
theorem encQ_up (n : Nat) (r : Nat → T) (i : Nat) (t : T) (hi : i < n) : (((encQ n r).set (i * 3) (.int .u64 t.a)).set (i * 3 + 1) (.int .u64 t.s)).set (i * 3 + 2) (.int .i64 t.p) = encQ n (upT r i t) := by
  refine encQ_ext (by simp [encQ_len]) (fun a j ha hj => ?_)
  by_cases e : a = i
  · subst e
    unfold upT
    rw [if_pos rfl]
    obtain rfl | rfl | rfl : j = 0 ∨ j = 1 ∨ j = 2 := by omega
    · rw [show a * 3 + 0 = a * 3 from rfl, List.getElem?_set_ne (by omega), List.getElem?_set_ne (by omega), List.getElem?_set_self (by rw [encQ_len]; omega)]; rfl
    · rw [List.getElem?_set_ne (by omega), List.getElem?_set_self (by simp [encQ_len]; omega)]; rfl
    · rw [List.getElem?_set_self (by simp [encQ_len]; omega)]; rfl
  · unfold upT
    rw [if_neg e, List.getElem?_set_ne (by omega), List.getElem?_set_ne (by omega), List.getElem?_set_ne (by omega), encQ_get n r a j ha hj]
/-- Its own cells. -/
def zcells (B R P : Nat) : List Value := [.pointer (some ⟨B, 0, none⟩), .slice (some ⟨R, 0, none⟩) P P]
/-- The timers lie at block Z, their lists at B and G, their row at R. -/
structure Que (w : World) (Z B G R P L : Nat) (g : Rg) (r : Nat → T) : Prop where
  hZ : w.heap[Z]? = some (.cells (zcells B R P).toArray 78 (0, 0))
  ch : Chn w B G P L g
  hR : w.heap[R]? = some (.cells (encQ P r).toArray 41 (0, 0))
section
variable {w w' : World} {Z B G R P L : Nat} {g g' : Rg} {r : Nat → T}
theorem ne_of_ty {w : World} {a b : Nat} {x y : Array Value} {s t : TypeId} (h : w.heap[a]? = some (.cells x s (0, 0))) (k : w.heap[b]? = some (.cells y t (0, 0))) (hne : s ≠ t) : ¬ a = b := by
  rintro rfl
  rw [h] at k
  injection k with k
  injection k with _ k _
  exact hne k
theorem Que.nZB (q : Que w Z B G R P L g r) : ¬ Z = B := ne_of_ty q.hZ q.ch.hB (by decide)
theorem Que.nZG (q : Que w Z B G R P L g r) : ¬ Z = G := ne_of_ty q.hZ q.ch.hG (by decide)
theorem Que.nZR (q : Que w Z B G R P L g r) : ¬ Z = R := ne_of_ty q.hZ q.hR (by decide)
theorem Que.nBR (q : Que w Z B G R P L g r) : ¬ B = R := ne_of_ty q.ch.hB q.hR (by decide)
theorem Que.nGR (q : Que w Z B G R P L g r) : ¬ G = R := ne_of_ty q.ch.hG q.hR (by decide)
theorem Que.ltZ (q : Que w Z B G R P L g r) : Z < w.heap.size := (Array.getElem?_eq_some_iff.1 q.hZ).1
theorem Que.ltR (q : Que w Z B G R P L g r) : R < w.heap.size := (Array.getElem?_eq_some_iff.1 q.hR).1
theorem Que.off {f : Nat → Prop} (q : Que w Z B G R P L g r) (k : Off f w w') (hq : ¬ f Z) (hb : ¬ f B) (hg : ¬ f G) (hr : ¬ f R) : Que w' Z B G R P L g r :=
  ⟨(k.block Z q.ltZ hq).trans q.hZ, q.ch.off k hb hg, (k.block R q.ltR hr).trans q.hR⟩
theorem Que.bel (q : Que w Z B G R P L g r) (k : Bel w w') : Que w' Z B G R P L g r := q.off k (fun e => e) (fun e => e) (fun e => e) (fun e => e)
/-- The lists have turned. -/
theorem Que.chain (q : Que w Z B G R P L g r) (k : Off (Only G) w w') (hc : Chn w' B G P L g') : Que w' Z B G R P L g' r :=
  ⟨(k.block Z q.ltZ q.nZG).trans q.hZ, hc, (k.block R q.ltR (fun e => q.nGR e.symm)).trans q.hR⟩
theorem Que.cell (q : Que w Z B G R P L g r) {i : Nat} {v : Value} (hv : (zcells B R P)[i]? = some v) : w.cell? ⟨Z, i, none⟩ = some v := by
  rw [cell_of_row w Z _ _ 78 (0, 0) q.hZ, List.getElem?_toArray]; exact hv
theorem Que.froz (q : Que w Z B G R P L g r) (j : Nat) : w.frozen? ⟨Z, j, none⟩ = false := frozen_of_row w Z j _ 78 q.hZ
theorem Que.at (q : Que w Z B G R P L g r) {i : Nat} (hi : i < P) : (w.cell? ⟨R, i * 3, none⟩ = some (.int .u64 (r i).a) ∧ w.cell? ⟨R, i * 3 + 1, none⟩ = some (.int .u64 (r i).s) ∧ w.cell? ⟨R, i * 3 + 2, none⟩ = some (.int .i64 (r i).p)) ∧
    (∀ j, w.frozen? ⟨R, j, none⟩ = false) := by
  refine ⟨⟨?_, ?_, ?_⟩, fun j => frozen_of_row w R j _ 41 q.hR⟩
  · rw [cell_of_row w R _ _ 41 (0, 0) q.hR, List.getElem?_toArray]; exact encQ_get _ r i 0 hi (by omega)
  · rw [cell_of_row w R _ _ 41 (0, 0) q.hR, List.getElem?_toArray]; exact encQ_get _ r i 1 hi (by omega)
  · rw [cell_of_row w R _ _ 41 (0, 0) q.hR, List.getElem?_toArray]; exact encQ_get _ r i 2 hi (by omega)
/-- A timer is laid at a place. -/
abbrev set3 (w : World) (R i : Nat) (t : T) : World := ((w.setCell ⟨R, i * 3, none⟩ (.int .u64 t.a)).setCell ⟨R, i * 3 + 1, none⟩ (.int .u64 t.s)).setCell ⟨R, i * 3 + 2, none⟩ (.int .i64 t.p)
theorem Que.put (q : Que w Z B G R P L g r) {i : Nat} (hi : i < P) (t : T) : Que (set3 w R i t) Z B G R P L g (upT r i t) ∧ Off (Only R) w (set3 w R i t) := by
  have o1 : Off (Only R) w (set3 w R i t) :=
    Off.setCell (Off.setCell (Off.setCell (Off.refl (Only R) w) (p := ⟨R, i * 3, none⟩) (.inl rfl) _) (p := ⟨R, i * 3 + 1, none⟩) (.inl rfl) _) (p := ⟨R, i * 3 + 2, none⟩) (.inl rfl) _
  refine ⟨⟨(o1.block Z q.ltZ q.nZR).trans q.hZ, q.ch.off o1 q.nBR q.nGR, ?_⟩, o1⟩
  have e1 := heap_setCell_same w R (i * 3) _ 41 (.int .u64 t.a) q.hR
  have e2 := heap_setCell_same _ R (i * 3 + 1) _ 41 (.int .u64 t.s) e1
  have e3 := heap_setCell_same _ R (i * 3 + 2) _ 41 (.int .i64 t.p) e2
  rw [List.setIfInBounds_toArray, List.setIfInBounds_toArray, List.setIfInBounds_toArray, encQ_up P r i t hi] at e3
  exact e3
end
/-- The document's way and the bitmap's way of saying that nothing has turned. -/
theorem bm_bel {w w' : World} (h : Bm.Bel w w') : Bel w w' := bel_of h
end Go.Proofs.YtdoceldofkaapaaDoor
