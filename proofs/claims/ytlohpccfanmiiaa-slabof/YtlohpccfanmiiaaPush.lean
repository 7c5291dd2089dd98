/-
  How a slab turns in memory; contracts of the stack's push and pop and of slab's fresh.
-/
import Derived.Test.YtlohpccfanmiiaaImage
namespace Go.Proofs.Ytlohpccfanmiiaa
open Go.RowKit
/-- The footprint with a slice's block more. -/
def wide (f : Nat → Prop) (v : Value) : Nat → Prop := fun k => f k ∨ v.ownBlock = some k
theorem SlbV.newfr {w w1 : World} {B : Nat} {vt vf v' : Value} {f : Nat → Prop} {S : St} {r : List Int} (h : SlbV w B vt vf f S) (hg : Off (fun k => vf.ownBlock = some k) w w1) (ho : w1.ownsRow 0 3 1 v' r.length (encI r))
    (hn : ∀ k, v'.ownBlock = some k → vf.ownBlock = some k ∨ w.heap.size ≤ k) :
    SlbV (w1.setCell ⟨B, 3, none⟩ v') B vt v' (wide f v') { S with fr := r } ∧ Steps f w (wide f v') (w1.setCell ⟨B, 3, none⟩ v') := by
  have hBs := h.lt B h.fB
  have hB1 : w1.heap[B]? = some (.cells #[.int .i64 S.pl, .int .i64 S.gn, vt, vf] 62 (0, 0)) := (hg.block B hBs h.df).trans h.hB
  have hset : Off (fun k => k = B) w1 (w1.setCell ⟨B, 3, none⟩ v') := Off.setCell (Off.refl (fun k => k = B) w1) (p := ⟨B, 3, none⟩) (.inl rfl) v'
  have hvB : v'.ownBlock ≠ some B := fun e => by
    rcases hn B e with e | e
    · exact h.df e
    · omega
  have hot := own_off (own_off h.ot hg (fun k e => h.tf k e)) hset (fun k e e2 => h.dt (by rw [e, e2]))
  have hof := own_off ho hset (fun k e e2 => hvB (by rw [e, e2]))
  have hsz : w.heap.size ≤ (w1.setCell ⟨B, 3, none⟩ v').heap.size := Nat.le_trans hg.size hset.size
  refine ⟨⟨?_, hot, hof, h.dt, hvB, ?_, .inl h.fB, fun k e => .inl (h.ft k e), fun k e => .inr e, ?_⟩, ?_, ?_⟩
  · rw [heap_setCell_same w1 B 3 _ 62 v' hB1]
    rfl
  · intro k e e2
    rcases hn k e2 with e3 | e3
    · exact h.tf k e e3
    · have := h.lt k (h.ft k e); omega
  · intro k e
    rcases e with e | e
    · have := h.lt k e; omega
    · have := (hof.lt k e).2; omega
  · refine Off.trans (Off.mono hg (fun i _ e => h.ff i e)) hset (fun i e => .inl ?_)
    rw [e]
    exact h.fB
  · intro k e
    rcases e with e | e
    · exact .inl e
    · rcases hn k e with e | e
      · exact .inl (h.ff k e)
      · exact .inr e
theorem SlbV.newtk {w w1 : World} {B : Nat} {vt vf v' : Value} {f : Nat → Prop} {S : St} {r : List Pl} (h : SlbV w B vt vf f S) (hg : Off (fun k => vt.ownBlock = some k) w w1) (ho : w1.ownsRow 0 67 2 v' r.length (encP r))
    (hn : ∀ k, v'.ownBlock = some k → vt.ownBlock = some k ∨ w.heap.size ≤ k) :
    SlbV (w1.setCell ⟨B, 2, none⟩ v') B v' vf (wide f v') { S with tk := r } ∧ Steps f w (wide f v') (w1.setCell ⟨B, 2, none⟩ v') := by
  have hBs := h.lt B h.fB
  have hB1 : w1.heap[B]? = some (.cells #[.int .i64 S.pl, .int .i64 S.gn, vt, vf] 62 (0, 0)) := (hg.block B hBs h.dt).trans h.hB
  have hset : Off (fun k => k = B) w1 (w1.setCell ⟨B, 2, none⟩ v') := Off.setCell (Off.refl (fun k => k = B) w1) (p := ⟨B, 2, none⟩) (.inl rfl) v'
  have hvB : v'.ownBlock ≠ some B := fun e => by
    rcases hn B e with e | e
    · exact h.dt e
    · omega
  have hof := own_off (own_off h.of hg (fun k e e2 => h.tf k e2 e)) hset (fun k e e2 => h.df (by rw [e, e2]))
  have hot := own_off ho hset (fun k e e2 => hvB (by rw [e, e2]))
  have hsz : w.heap.size ≤ (w1.setCell ⟨B, 2, none⟩ v').heap.size := Nat.le_trans hg.size hset.size
  refine ⟨⟨?_, hot, hof, hvB, h.df, ?_, .inl h.fB, fun k e => .inr e, fun k e => .inl (h.ff k e), ?_⟩, ?_, ?_⟩
  · rw [heap_setCell_same w1 B 2 _ 62 v' hB1]
    rfl
  · intro k e e2
    rcases hn k e with e3 | e3
    · exact h.tf k e3 e2
    · have := h.lt k (h.ff k e2); omega
  · intro k e
    rcases e with e | e
    · have := h.lt k e; omega
    · have := (hot.lt k e).2; omega
  · refine Off.trans (Off.mono hg (fun i _ e => h.ft i e)) hset (fun i e => .inl ?_)
    rw [e]
    exact h.fB
  · intro k e
    rcases e with e | e
    · exact .inl e
    · rcases hn k e with e | e
      · exact .inl (h.ft k e)
      · exact .inr e
/-- A place turns. -/
theorem SlbV.put {w : World} {B g n cap : Nat} {vf : Value} {f : Nat → Prop} {S : St} (h : SlbV w B (.slice (some ⟨g, 0, none⟩) n cap) vf f S) (j : Nat) (u : Value) (l : List Pl) (hl : l.length = S.tk.length) (he : (encP S.tk).set j u = encP l) :
    SlbV (w.setCell ⟨g, j, none⟩ u) B (.slice (some ⟨g, 0, none⟩) n cap) vf f { S with tk := l } ∧ Off f w (w.setCell ⟨g, j, none⟩ u) := by
  have hn : n = S.tk.length := by
    rcases h.ot.2 with ⟨e, _⟩ | ⟨_, _, _, e, _⟩
    · cases e
    · injection e
  subst hn
  have hst := h.ot.stored j u
  have hset : Off (fun k => k = g) w (w.setCell ⟨g, j, none⟩ u) := Off.setCell (Off.refl (fun k => k = g) w) (p := ⟨g, j, none⟩) (.inl rfl) u
  have hgB : B ≠ g := fun e => h.dt (by rw [e]; rfl)
  refine ⟨⟨(hset.block B (h.lt B h.fB) hgB).trans h.hB, ?_, own_off h.of hset (fun k e e2 => h.tf g rfl (by rw [e, e2])), h.dt, h.df, h.tf, h.fB, h.ft, h.ff, fun k e => Nat.lt_of_lt_of_le (h.lt k e) hset.size⟩, Off.mono hset (fun i _ e => by rw [e]; exact h.ft g rfl)⟩
  have k := hst.1
  rw [he] at k
  show World.ownsRow _ 0 67 2 _ l.length (encP l)
  rw [hl]
  exact k
theorem encP_setu (l : List Pl) (i : Nat) (x : Pl) (u : Int) (h : l[i]? = some x) : (encP l).set (i * 2) (.int .i64 u) = encP (l.set i ⟨u, x.al⟩) := by
  rw [encP_set l i _ (get_lt h)]
  apply List.ext_getElem?
  intro j
  have e1 := (encP_get l i x h).2
  by_cases hj : j = i * 2 + 1
  · subst hj
    rw [List.getElem?_set_ne (by omega), List.getElem?_set_self (by rw [List.length_set, encP_len]; have := get_lt h; omega), e1]
  · rw [List.getElem?_set_ne (by omega : i * 2 + 1 ≠ j)]
theorem encP_seta (l : List Pl) (i : Nat) (x : Pl) (a : Bool) (h : l[i]? = some x) : (encP l).set (i * 2 + 1) (.bool a) = encP (l.set i ⟨x.u, a⟩) := by
  rw [encP_set l i _ (get_lt h)]
  have e1 := (encP_get l i x h).1
  congr 1
  apply List.ext_getElem?
  intro j
  by_cases hj : j = i * 2
  · subst hj
    rw [List.getElem?_set_self (by rw [encP_len]; have := get_lt h; omega), e1]
  · rw [List.getElem?_set_ne (by omega : i * 2 ≠ j)]
theorem push_any (B : Nat) (f : Nat → Prop) (S : St) (x : Int) (w : World) (h : Slb w B f S) (hs : S.fr.length ≤ 1024) :
    Calls Try.prog 27 #[.pointer (some ⟨B, 3, none⟩), .int .i64 x] w fun e w' => e = .returned (.tuple #[]) ∧ ∃ f', Slb w' B f' { S with fr := S.fr ++ [x] } ∧ Steps f w f' w' := by
  obtain ⟨vt, vf, h⟩ := h
  have c3 : w.cell? ⟨B, 3, none⟩ = some vf := by rw [cell_of_row w B _ _ 62 (0, 0) h.hB]; rfl
  have hB := World.block_lt_of_cell? w _ c3
  obtain ⟨pf, cf, hvf, _⟩ := own_slice h.of nof (fun _ _ e => e)
  rw [hvf] at c3
  have H := Lib.hid h
  have HV := Lib.hid hvf
  clear h hvf
  obtain ⟨m, hm⟩ : ∃ m, S.fr.length = m := ⟨_, rfl⟩
  rw [hm] at hs c3 HV
  have HM := Lib.hid hm
  clear hm
  go_enter Try.func27, Try.ntmps27
  go_wp2_with (at_builtin; refine wpList_append_gen el28 rfl (.tmp 8) (.tmp 10) rfl (.slice pf m cf) m (encI S.fr) rfl (by have h1 := own_bel H.out.of ((Bel.refl _).alloc #[.int .i64 x] 3); rw [HV.out, HM.out] at h1; exact h1) _ _ _ (encI [x]) rfl rfl (lies_one _ _ _ rfl) (encI_one _) (by omega) ?_)
  intro v' w1 hown hgrow hnew
  rw [← HV.out] at hgrow hnew
  have hoff : Off (fun k => vf.ownBlock = some k) w w1 := Off.grown ((Off.refl _ _).alloc _ _) hgrow (fun k e => .inl e)
  have hown1 : w1.ownsRow 0 3 1 v' (S.fr ++ [x]).length (encI (S.fr ++ [x])) := by
    rw [encI_append, List.length_append, HM.out]
    exact hown
  have hnew1 : ∀ k, v'.ownBlock = some k → vf.ownBlock = some k ∨ w.heap.size ≤ k := fun k e => by
    rcases hnew k e with e | e
    · exact .inl e
    · exact .inr (by omega)
  have HF := Lib.hid (H.out.newfr hoff hown1 hnew1)
  obtain ⟨q, k, hv, _⟩ := own_slice hown nof (fun _ _ e => e)
  have hB1 : w1.heap[B]? = some (.cells #[.int .i64 S.pl, .int .i64 S.gn, vt, vf] 62 (0, 0)) := (hoff.block B hB H.out.df).trans H.out.hB
  have c31 : w1.cell? ⟨B, 3, none⟩ = some vf := by rw [cell_of_row w1 B _ _ 62 (0, 0) hB1]; rfl
  have f31 : w1.frozen? ⟨B, 3, none⟩ = false := frozen_of_row w1 B 3 _ 62 hB1
  rw [HV.out] at c31
  rw [hv] at HF ⊢
  clear hown hgrow hnew hoff hown1 hnew1 hv hB1
  go_wp2
  go_end0
  exact ⟨rfl, _, ⟨_, _, HF.out.1⟩, HF.out.2⟩
theorem pop_none (B : Nat) (f : Nat → Prop) (S : St) (w : World) (h : Slb w B f S) (hs : S.fr = []) :
    Calls Try.prog 28 #[.pointer (some ⟨B, 3, none⟩)] w fun e w' => e = .returned (.tuple #[.int .i64 0, .bool false]) ∧ w = w' := by
  obtain ⟨pt, ct, pf, cf, c0, c1, c2, c3, _, _, _, _⟩ := h.read
  rw [hs] at c3
  simp only [List.length_nil] at c3
  clear hs h
  go_enter Try.func28, Try.ntmps28
  go_wp2
  go_ret2
  exact ⟨rfl, rfl⟩
theorem pop_some (B : Nat) (f : Nat → Prop) (S : St) (r : List Int) (x : Int) (w : World) (h : Slb w B f S) (hs : S.fr = r ++ [x]) (hm : r.length ≤ 1024) :
    Calls Try.prog 28 #[.pointer (some ⟨B, 3, none⟩)] w fun e w' => e = .returned (.tuple #[.int .i64 x, .bool true]) ∧ ∃ f', Slb w' B f' { S with fr := r } ∧ Steps f w f' w' := by
  obtain ⟨vt, vf, h⟩ := h
  have c3 : w.cell? ⟨B, 3, none⟩ = some vf := by rw [cell_of_row w B _ _ 62 (0, 0) h.hB]; rfl
  have f3 : w.frozen? ⟨B, 3, none⟩ = false := frozen_of_row w B 3 _ 62 h.hB
  have hof := h.of
  rw [hs, List.length_append] at hof
  obtain ⟨pf, cf, hvf, hc, hmx, hl⟩ := own_slice hof nof (fun _ _ e => e)
  have hgx : (r ++ [x])[r.length]? = some x := by simp
  obtain ⟨b, off, rfl, _, hr⟩ := lies_int hl (i := r.length) (by simp)
  have x0 := row_int hr hgx
  have hn : ∀ k, (Value.slice (some ⟨b, off, none⟩) r.length cf).ownBlock = some k → vf.ownBlock = some k ∨ w.heap.size ≤ k := fun k e => by rw [hvf]; exact .inl e
  have ho : w.ownsRow 0 3 1 (.slice (some ⟨b, off, none⟩) r.length cf) r.length (encI r) := by
    have k := own_take (m := r.length) (by rw [hvf] at hof; exact hof) (by omega) (by simp)
    rw [encI_append, Nat.mul_one, List.take_left' (by rw [encI_len]; omega)] at k
    exact k
  have HF := Lib.hid (h.newfr (Off.refl _ _) ho hn)
  rw [hvf] at c3
  simp only [List.length_cons, List.length_nil, Nat.zero_add] at c3 hc
  unfold maxLen at hmx
  clear h hs hof hvf hl hr hn ho hgx
  obtain ⟨m, hm'⟩ : ∃ m, r.length = m := ⟨_, rfl⟩
  rw [hm'] at hm c3 x0 HF hc
  clear hm'
  have e1 : ((m + 1 : Nat) : Int) - 1 = m := by omega
  go_enter Try.func28, Try.ntmps28
  go_wp2
  go_ret2
  exact ⟨rfl, _, ⟨_, _, HF.out.1⟩, HF.out.2⟩
end Go.Proofs.Ytlohpccfanmiiaa
