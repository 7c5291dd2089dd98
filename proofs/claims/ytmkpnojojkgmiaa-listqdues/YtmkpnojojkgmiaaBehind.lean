/-
  Contract of a queue's behind: the first one that is not before a timer.
-/
import Derived.Test.YtmkpnojojkgmiaaBack
import Derived.Stop.RegionWithIn
namespace Go.Proofs.Ytmkpnojojkgmiaa
open Go.RowKit Go.Shelf
attribute [local go_sem] Oper.semAt_some
/-- From the end on those that are not before t: they are what stands behind. -/
theorem behind_math {P : Nat} {g : Rg} {r : Nat → T} {l : List T} (h : Is P g r l) (t : T) (pre rest : List Nat) (he : (pls l).reverse = pre ++ rest) (hp : ∀ k ∈ pre, lt (r k) t = false) (hr : ∀ k ∈ rest.head?, lt (r k) t = true) :
    pls (l.drop (cnt l t)) = pre.reverse := by
  have e1 : pls l = rest.reverse ++ pre.reverse := by
    have := congrArg List.reverse he
    simpa using this
  obtain ⟨a, b, hl, ha, hb⟩ : ∃ a b, l = a ++ b ∧ pls a = rest.reverse ∧ pls b = pre.reverse := by
    unfold pls at e1
    obtain ⟨a, b, h1, h2, h3⟩ := List.map_eq_append_iff.1 e1
    exact ⟨a, b, h1, h2, h3⟩
  have hbF : ∀ x ∈ b, lt x t = false := fun x hx => by
    have h1 : pl x ∈ pre := by
      have : pl x ∈ pls b := List.mem_map.2 ⟨x, hx, rfl⟩
      rw [hb] at this
      simpa using this
    have h2 := hp _ h1
    rw [(h.tm x (by rw [hl]; simp [hx])).2.2] at h2
    exact h2
  have haT : ∀ x ∈ a, lt x t = true := by
    cases rest with
    | nil =>
      have : a = [] := by simpa [pls] using ha
      intro x hx
      rw [this] at hx
      simp at hx
    | cons k rs =>
      have hk := hr k (by simp)
      obtain ⟨a0, z, h1, _, h3⟩ : ∃ a0 z, a = a0 ++ [z] ∧ pls a0 = rs.reverse ∧ pl z = k := by
        have e2 : pls a = rs.reverse ++ [k] := by rw [ha]; simp
        unfold pls at e2
        obtain ⟨a0, c, h1, h2, h3⟩ := List.map_eq_append_iff.1 e2
        obtain ⟨z, rfl⟩ : ∃ z, c = [z] := by
          cases c with
          | nil => simp at h3
          | cons z c =>
            cases c with
            | nil => exact ⟨z, rfl⟩
            | cons _ _ => simp at h3
        exact ⟨a0, z, h1, h2, by simpa using h3⟩
      have hz : lt z t = true := by
        rw [← h3, (h.tm z (by rw [hl, h1]; simp)).2.2] at hk
        exact hk
      have hso := h.so
      rw [hl, h1] at hso
      have hso2 := (List.pairwise_append.1 (List.pairwise_append.1 hso).1).2.2
      intro x hx
      rw [h1] at hx
      rcases List.mem_append.1 hx with hx | hx
      · cases e : lt x t with
        | true => rfl
        | false =>
          have := lt_ntrans (hso2 x hx z (by simp)) e
          rw [hz] at this
          cases this
      · simp at hx
        subst hx
        exact hz
  have ec : cnt l t = a.length := by
    unfold cnt
    rw [hl, List.countP_append, List.countP_eq_length.2 haT, List.countP_eq_zero.2 (fun x hx => by simp [hbF x hx])]
    rfl
  rw [ec, hl, List.drop_left, hb]
theorem head_reverse (l : List Nat) : l.reverse.head? = l.getLast? := by simp
/-- Places, as numbers. -/
def ix {P : Nat} (q : List (Fin P)) : List Nat := q.map Fin.val
/-- What was met so far is not before t. -/
structure Beh (P : Nat) (r : Nat → T) (t : T) (w1 : World) (b6 b7 : Nat) (q : List Nat) (W : World) : Prop where
  no : ∀ k ∈ q, lt (r k) t = false
  c6 : W.heap[b6]? = some (.cells #[.int .i64 (pv q.getLast?)] 3 (0, 0))
  c7 : W.heap[b7]? = some (.cells #[.bool q.getLast?.isSome] 4 (0, 0))
  off : Off (fun k => k = b6 ∨ k = b7) w1 W
theorem Beh.own {P : Nat} {r : Nat → T} {t : T} {w1 : World} {b6 b7 : Nat} {q : List Nat} {W W' : World} {row : Option Nat} (h : Beh P r t w1 b6 b7 q W) (hg : W.grownBy W' row) (hr : ∀ k, row = some k → w1.heap.size ≤ k) (h6 : b6 < w1.heap.size) (h7 : b7 < w1.heap.size) : Beh P r t w1 b6 b7 q W' := by
  refine ⟨h.no, ?_, ?_, Off.grown h.off hg (fun k e => .inr (hr k e))⟩
  · rw [hg.block b6 (Array.getElem?_eq_some_iff.1 h.c6).1 (fun e => by have := hr b6 e.symm; omega)]; exact h.c6
  · rw [hg.block b7 (Array.getElem?_eq_some_iff.1 h.c7).1 (fun e => by have := hr b7 e.symm; omega)]; exact h.c7
theorem Beh.bel {P : Nat} {r : Nat → T} {t : T} {w1 : World} {b6 b7 : Nat} {q : List Nat} {W W' : World} (h : Beh P r t w1 b6 b7 q W) (k : Bel W W') : Beh P r t w1 b6 b7 q W' :=
  ⟨h.no, k.heap h.c6, k.heap h.c7, h.off.thenB k⟩
theorem keeps_bel {W W' : World} (h : Bel W W') (B : Nat) : KeepsFrom B W W' := ⟨h.size, fun _ _ _ ho _ => h.heap ho⟩
theorem le67 {a b n : Nat} (h : a < n) (k : b < n) : a < n ∧ b < n := ⟨h, k⟩
theorem Beh.next {P : Nat} {r : Nat → T} {t : T} {w1 : World} {b6 b7 : Nat} {pre : List (Fin P)} {W w3 : World} (h : Beh P r t w1 b6 b7 (ix pre) W) (k : Bel W w3) (x : Fin P) (hx : lt (r x.1) t = false) (hne : ¬ b6 = b7) (hl : b6 < w1.heap.size ∧ b7 < w1.heap.size) :
    KeepsFrom w1.heap.size W ((w3.setCell ⟨b6, 0, none⟩ (.int .i64 (x.1 : Nat))).setCell ⟨b7, 0, none⟩ (.bool true)) ∧ KpQ (fun k => k = b6 ∨ k = b7) w1.heap.size W ((w3.setCell ⟨b6, 0, none⟩ (.int .i64 (x.1 : Nat))).setCell ⟨b7, 0, none⟩ (.bool true)) ∧ Beh P r t w1 b6 b7 (ix (pre ++ [x])) ((w3.setCell ⟨b6, 0, none⟩ (.int .i64 (x.1 : Nat))).setCell ⟨b7, 0, none⟩ (.bool true)) := by
  have h3 := h.bel k
  have o3 : Off (fun k => k = b6 ∨ k = b7) w3 ((w3.setCell ⟨b6, 0, none⟩ (.int .i64 (x.1 : Nat))).setCell ⟨b7, 0, none⟩ (.bool true)) :=
    Off.setCell (Off.setCell (Off.refl _ w3) (p := ⟨b6, 0, none⟩) (.inl (.inl rfl)) _) (p := ⟨b7, 0, none⟩) (.inl (.inr rfl)) _
  have oW : Off (fun k => k = b6 ∨ k = b7) W ((w3.setCell ⟨b6, 0, none⟩ (.int .i64 (x.1 : Nat))).setCell ⟨b7, 0, none⟩ (.bool true)) := (k.off _).then o3
  have eI : ix (pre ++ [x]) = ix pre ++ [x.1] := by unfold ix; simp
  have eL : (ix (pre ++ [x])).getLast? = some x.1 := by rw [eI]; simp
  have zW : w1.heap.size ≤ W.heap.size := h.off.size
  refine ⟨⟨oW.size, fun j o hj ho _ => (oW.block j (Array.getElem?_eq_some_iff.1 ho).1 (by omega)).trans ho⟩, fun j hj hf => oW.block j (by omega) hf, ?_, ?_, ?_, h.off.then oW⟩
  · intro j hj
    rw [eI] at hj
    rcases List.mem_append.1 hj with hj | hj
    · exact h.no j hj
    · simp at hj; subst hj; exact hx
  · rw [eL]
    have e1 : ((w3.setCell ⟨b6, 0, none⟩ (.int .i64 (x.1 : Nat))).setCell ⟨b7, 0, none⟩ (.bool true)).heap[b6]? = (w3.setCell ⟨b6, 0, none⟩ (.int .i64 (x.1 : Nat))).heap[b6]? := Below.heap_setCell _ _ _ _ hne
    rw [e1]
    exact heap_setCell_same w3 b6 0 _ 3 _ h3.c6
  · rw [eL]
    have e1 : (w3.setCell ⟨b6, 0, none⟩ (.int .i64 (x.1 : Nat))).heap[b7]? = some (.cells #[.bool (ix pre).getLast?.isSome] 4 (0, 0)) := (Below.heap_setCell _ _ _ _ (fun e => hne e.symm)).trans h3.c7
    exact heap_setCell_same _ b7 0 _ 4 _ e1
set_option maxRecDepth 100000 in
set_option maxHeartbeats 4000000 in
theorem behind_any (Q B G R P : Nat) (l : List T) (t : T) (w : World) (h : Qu w Q B G R P l) :
    Calls Try.prog 51 #[.pointer (some ⟨Q, 0, none⟩), .agg #[.int .u64 t.a, .int .u64 t.s, .int .i64 t.p]] w fun e w' => e = .returned (ans (pls (l.drop (cnt l t))).head?) ∧ Bel w w' := by
  obtain ⟨⟨g, r, h, hi⟩, hP⟩ := h
  have HI := Lib.hid hi
  have HA := Lib.hid h
  have KF := Lib.hid (fun w' (h : Que w' Q B G R P g r) => fromEnd_any Q B G R P g r w' h)
  have lQ := h.ltQ
  have lB := h.ch.ltB
  have lG := h.ch.ltG
  have lR := h.ltR
  refine (callsIn_wide (n := 4)).1 ?_
  have hro : Fence.wide.round = none := rfl
  refine callsIn_of_wp_marks Try.func51 rfl trivial ?_ hro
  simp only [Try.ntmps51, List.size_toArray, List.length_cons, List.length_nil, Nat.reduceAdd, Nat.reduceSub, Array.replicate_succ, Array.replicate_zero, List.push_toArray, List.append_toArray, List.nil_append, List.cons_append]
  refine wpIn_wide.2 ?_
  have HS : Hid ((pls l).reverse.Nodup ∧ (∀ y ∈ (pls l).reverse, y < P) ∧ Met (fun i => (g i).ah) P (P + 0) (pls l).reverse) := Lib.hid ⟨(List.reverse_perm _).nodup_iff.2 hi.nodup, fun y hy => hi.lt y (List.mem_reverse.1 hy), hi.rep.bwd (t := 0) (by omega)⟩
  have HX : Hid (∃ W0, (((w.alloc (.cells #[.pointer (some ⟨Q, 0, none⟩)] 24)).alloc (.cells #[.int .u64 t.a, .int .u64 t.s, .int .i64 t.p] 38)).alloc (.cells #[.int .i64 0] 3)).alloc (.cells #[.bool false] 4) = W0 ∧ Bel w W0 ∧ W0.heap.size = w.heap.size + 1 + 1 + 1 + 1 ∧
      W0.heap[w.heap.size]? = some (.cells #[.pointer (some ⟨Q, 0, none⟩)] 24 (0, 0)) ∧ W0.heap[w.heap.size + 1]? = some (.cells #[.int .u64 t.a, .int .u64 t.s, .int .i64 t.p] 38 (0, 0)) ∧ W0.heap[w.heap.size + 1 + 1]? = some (.cells #[.int .i64 0] 3 (0, 0)) ∧ W0.heap[w.heap.size + 1 + 1 + 1]? = some (.cells #[.bool false] 4 (0, 0))) := Lib.hid (by
    refine ⟨_, rfl, ((((Bel.refl w).alloc _ _).alloc _ _).alloc _ _).alloc _ _, by simp, ?_, ?_, ?_, ?_⟩
    · rw [Below.heap_alloc _ _ _ (by simp only [World.size_alloc]; omega), Below.heap_alloc _ _ _ (by simp only [World.size_alloc]; omega), Below.heap_alloc _ _ _ (by simp), heap_alloc_new]
    · rw [Below.heap_alloc _ _ _ (by simp only [World.size_alloc]; omega), Below.heap_alloc _ _ _ (by simp only [World.size_alloc]; omega)]
      have := heap_alloc_new (w.alloc (.cells #[.pointer (some ⟨Q, 0, none⟩)] 24)) (.cells #[.int .u64 t.a, .int .u64 t.s, .int .i64 t.p] 38)
      simpa using this
    · rw [Below.heap_alloc _ _ _ (by simp)]
      have := heap_alloc_new ((w.alloc (.cells #[.pointer (some ⟨Q, 0, none⟩)] 24)).alloc (.cells #[.int .u64 t.a, .int .u64 t.s, .int .i64 t.p] 38)) (.cells #[.int .i64 0] 3)
      simpa using this
    · have := heap_alloc_new (((w.alloc (.cells #[.pointer (some ⟨Q, 0, none⟩)] 24)).alloc (.cells #[.int .u64 t.a, .int .u64 t.s, .int .i64 t.p] 38)).alloc (.cells #[.int .i64 0] 3)) (.cells #[.bool false] 4)
      simpa using this)
  clear h hi
  go_wp2_with fail
  obtain ⟨W0, eW, hB0, hz0, d2, d3, d6, d7⟩ := HX.out
  rw [eW]
  clear eW HX
  obtain ⟨b3, e3⟩ : ∃ b, w.heap.size + 1 = b := ⟨_, rfl⟩
  rw [e3] at d3 d6 d7 hz0 ⊢
  obtain ⟨b6, e6⟩ : ∃ b, b3 + 1 = b := ⟨_, rfl⟩
  rw [e6] at d6 d7 hz0 ⊢
  obtain ⟨b7, e7⟩ : ∃ b, b6 + 1 = b := ⟨_, rfl⟩
  rw [e7] at d7 hz0 ⊢
  obtain ⟨b2, e2⟩ : ∃ b, w.heap.size = b := ⟨_, rfl⟩
  rw [e2] at d2 ⊢
  have HB0 := Lib.hid hB0
  clear hB0
  with_reducible refine (KF.out _ (HA.out.bel HB0.out)).mono ?_
  rintro e w1 ⟨Cb, rfl, hS, hb1, hCb⟩
  have hQ1 := HA.out.bel (HB0.out.trans hb1)
  have HB1 := Lib.hid (HB0.out.trans hb1)
  have d2 := hb1.heap d2
  have d3 := hb1.heap d3
  have d6 := hb1.heap d6
  have d7 := hb1.heap d7
  have l6 := (Array.getElem?_eq_some_iff.1 d6).1
  have l7 := (Array.getElem?_eq_some_iff.1 d7).1
  have l2 := (Array.getElem?_eq_some_iff.1 d2).1
  have l3 := (Array.getElem?_eq_some_iff.1 d3).1
  have lC := (Array.getElem?_eq_some_iff.1 hS.cc).1
  have z1 := hb1.size
  clear hb1
  go_wp2
  refine (wpIn_wide (n := 4)).1 ?_
  refine wpIn_rangeFunc_ownG hro (by omega) (gf := 62) (lb := #[.pointer (some ⟨Cb, 0, none⟩)]) rfl trivial (enters_of Try.func62 (by kernel_rfl) rfl)
    (back_stopsP 3 (by omega) Cb Q B G R P g (fun k => k = b6 ∨ k = b7) w1.heap.size hP ⟨lC, by omega⟩ ⟨by omega, by omega⟩ ⟨by omega, by omega⟩ ⟨by omega, by omega⟩ (pls l).reverse HS.out.1 HS.out.2.1 HS.out.2.2 w1 hS) kpq_t (kpq_b w1.heap.size (Nat.le_refl _)) (Below.refl _ _) (fun _ => rfl)
    (fun (pre : List (Fin P)) W => Beh P r t w1 b6 b7 (ix pre) W)
    (fun c pre W => c = .exit 0 ∧ ∃ (q : List (Fin P)) (x : Fin P), pre = q ++ [x] ∧ lt (r x.1) t = true ∧ Beh P r t w1 b6 b7 (ix q) W)
    (fun s W W' row h hg hr => h.own hg (fun k e => (hr k e).1) l6 l7)
    (fun c s W W' row h hg hr => by
      obtain ⟨h1, q, x, h2, h3, h4⟩ := h
      exact ⟨h1, q, x, h2, h3, h4.own hg (fun k e => (hr k e).1) l6 l7⟩)
    ⟨fun k hk => by simp [ix] at hk, d6, d7, Off.refl _ _⟩
    ?a1 ?assign ?body ?done ?stop
  case assign =>
    intro l x W K hK
    gi_wp2
    exact hK
  case body =>
    rintro lp pre x W hBe hlt
    have hq := hQ1.off hBe.off (by omega) (by omega) (by omega) (by omega)
    obtain ⟨g2, _⟩ := box1 ((hBe.off.block b2 l2 (by omega)).trans d2)
    obtain ⟨⟨g3, g4, g5⟩, _⟩ := box3 ((hBe.off.block b3 l3 (by omega)).trans d3)
    obtain ⟨g6, f6⟩ := box1 hBe.c6
    obtain ⟨g7, f7⟩ := box1 hBe.c7
    have KA := Lib.hid (fun w' (h : Bel W w') => CallsIn.inRound (F := Fence.wide) (n := 1) lp (callsIn_wide.2 (at_any Q B G R P g r x.1 w' (hq.bel h) x.2 hP)))
    have KC := Lib.hid (fun w' => CallsIn.inRound (F := Fence.wide) (n := 1) lp (callsIn_wide.2 (compare_any (r x.1) t w')))
    have HD : Hid (Bel W W.drew) := Lib.hid (Bel.refl W).drew
    have HC : Hid (∀ w', Bel W.drew w' → w'.cell? ⟨b3, 0, none⟩ = some (.int .u64 t.a) ∧ w'.cell? ⟨b3, 1, none⟩ = some (.int .u64 t.s) ∧ w'.cell? ⟨b3, 2, none⟩ = some (.int .i64 t.p)) := Lib.hid (fun w' h => ⟨(HD.out.trans h).cell g3, (HD.out.trans h).cell g4, (HD.out.trans h).cell g5⟩)
    have HBE := Lib.hid hBe
    have HN : Hid (∀ w', Bel W w' → (w'.cell? ⟨b6, 0, none⟩ = some (.int .i64 (pv (ix pre).getLast?)) ∧ w'.frozen? ⟨b6, 0, none⟩ = false) ∧ (w'.cell? ⟨b7, 0, none⟩ = some (.bool (ix pre).getLast?.isSome) ∧ w'.frozen? ⟨b7, 0, none⟩ = false)) := Lib.hid (fun w' h => ⟨box1 (h.heap hBe.c6), box1 (h.heap hBe.c7)⟩)
    clear hBe hq hlt
    cases hc : lt (r x.1) t with
    | true =>
      have hc2 : cf (r x.1) t < 0 := by simpa [lt] using hc
      have HLT := Lib.hid hc
      generalize cf (r x.1) t = cv at *
      clear hc
      gi_wp2
      gi_region_with (first
        | ((refine ⟨trivial, ?_⟩); gi_at_call 29; (with_reducible refine (KA.out _ HD.out).mono ?_); rintro e w2 ⟨rfl, hb2⟩; have hw2 := HC.out _ hb2; obtain ⟨g3, g4, g5⟩ := hw2)
        | ((refine ⟨trivial, ?_⟩); gi_at_call 59; (with_reducible refine (KC.out _).mono ?_); rintro e w3 ⟨rfl, hb3⟩))
      all_goals
        have hb : Bel W w3 := HD.out.trans (hb2.trans hb3)
        gi_wp2
        exact ⟨keeps_bel hb _, rfl, pre, x, rfl, HLT.out, HBE.out.bel hb⟩
    | false =>
      have hc2 : ¬ cf (r x.1) t < 0 := by simpa [lt] using hc
      have HLT := Lib.hid hc
      generalize cf (r x.1) t = cv at *
      clear hc
      gi_wp2
      gi_region_with (first
        | ((refine ⟨trivial, ?_⟩); gi_at_call 29; (with_reducible refine (KA.out _ HD.out).mono ?_); rintro e w2 ⟨rfl, hb2⟩; have hw2 := HC.out _ hb2; obtain ⟨g3, g4, g5⟩ := hw2)
        | ((refine ⟨trivial, ?_⟩); gi_at_call 59; (with_reducible refine (KC.out _).mono ?_); rintro e w3 ⟨rfl, hb3⟩))
      all_goals
        have hb : Bel W w3 := HD.out.trans (hb2.trans hb3)
        obtain ⟨⟨g6, f6⟩, g7, f7⟩ := HN.out _ hb
        have hn67 : ¬ b6 = b7 := by omega
        have hn76 : ¬ b7 = b6 := by omega
        have FIN := Lib.hid (HBE.out.next hb x HLT.out hn67 (le67 l6 l7))
        clear hb2 hb3 hb
        gi_wp2
        exact FIN.out
  case done =>
    rintro D zs W hD hzs hBe hK
    have hE : (pls (l.drop (cnt l t))).head? = (ix zs).getLast? := by
      have k := behind_math HI.out t (ix zs) [] (by rw [List.append_nil]; exact hzs.symm) hBe.no (fun k hk => by simp at hk)
      rw [k, head_reverse]
    have HE := Lib.hid hE
    obtain ⟨g6, f6⟩ := box1 hBe.c6
    obtain ⟨g7, f7⟩ := box1 hBe.c7
    have hBw : Bel w W := Off.trans HB1.out hBe.off (fun i e => .inr (by omega))
    have HBW := Lib.hid hBw
    have HK := Lib.hid hK
    clear hE hBw hBe hQ1 hS d2 d3 d6 d7
    generalize hv6 : pv (ix zs).getLast? = v6 at *
    generalize hv7 : (ix zs).getLast?.isSome = v7 at *
    have HV6 := Lib.hid hv6
    have HV7 := Lib.hid hv7
    clear hv6 hv7
    go_wp2
    go_quiet (fail)
    go_wp2
    refine ⟨by simp, .inl ⟨_, _, rfl, run_takeDeferred HK.out, ?_⟩⟩
    refine ⟨.tuple #[.int .i64 v6, .bool v7], by simp [results, Try.f51, go_sem], by rw [HE.out, ans_eq, HV6.out, HV7.out], bel_of ((HBW.out.drewN nq).below.trans (belowK_b (w := w) (Nat.le_refl _) _ D _ _ (by omega) HK.out rfl rfl))⟩
  case stop =>
    rintro D c pre W hD hpre ⟨rfl, q, x, rfl, hlt, hBe⟩ hK
    have hE : (pls (l.drop (cnt l t))).head? = (ix q).getLast? := by
      obtain ⟨rs, hrs⟩ := hpre
      have k := behind_math HI.out t (ix q) (x.1 :: rs) (by rw [← hrs]; unfold ix; simp) hBe.no (fun k hk => by simp at hk; subst hk; exact hlt)
      rw [k, head_reverse]
    have HE := Lib.hid hE
    obtain ⟨g6, f6⟩ := box1 hBe.c6
    obtain ⟨g7, f7⟩ := box1 hBe.c7
    have hBw : Bel w W := Off.trans HB1.out hBe.off (fun i e => .inr (by omega))
    have HBW := Lib.hid hBw
    have HK := Lib.hid hK
    clear hE hBw hBe hQ1 hS d2 d3 d6 d7
    generalize hv6 : pv (ix q).getLast? = v6 at *
    generalize hv7 : (ix q).getLast?.isSome = v7 at *
    have HV6 := Lib.hid hv6
    have HV7 := Lib.hid hv7
    clear hv6 hv7
    gi_wp2
    go_wp2
    go_quiet (fail)
    go_wp2
    refine ⟨by simp, .inl ⟨_, _, rfl, run_takeDeferred HK.out, ?_⟩⟩
    refine ⟨.tuple #[.int .i64 v6, .bool v7], by simp [results, Try.f51, go_sem], by rw [HE.out, ans_eq, HV6.out, HV7.out], bel_of ((HBW.out.drewN nq).below.trans (belowK_b (w := w) (Nat.le_refl _) _ D _ _ (by omega) HK.out rfl rfl))⟩
end Go.Proofs.Ytmkpnojojkgmiaa
