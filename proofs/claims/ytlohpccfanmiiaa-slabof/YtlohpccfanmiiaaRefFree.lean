/-
  Contract of the document's Free.
-/
import Derived.Test.YtlohpccfanmiiaaRefAt
namespace Go.Proofs.Ytlohpccfanmiiaa
open Go.RowKit
theorem own_empty (w : World) (e : TypeId) (size : Nat) (B : Nat) (hB : w.heap.size = B) : (w.alloc (.cells #[] e)).ownsRow 0 e size (.slice (some ⟨B, 0, none⟩) 0 0) 0 [] := by
  subst hB
  exact World.ownsRow_made w #[] 0 (Nat.zero_le _) (by simp) (by simp)
theorem lies_hd1 (w : World) (x : Hd) (B : Nat) (hB : w.heap.size = B) : Lies nof (w.alloc (.cells #[.int .i64 x.p, .int .i64 x.g] 38)) (some ⟨B, 0, none⟩) (encH [x]) := by
  subst hB
  refine .inr ⟨_, _, rfl, fun e => e, fun j u hu => ?_⟩
  have hj : j < 2 := by have := (List.getElem?_eq_some_iff.1 hu).1; rw [encH_len] at this; simpa using this
  obtain rfl | rfl : j = 0 ∨ j = 1 := by omega
  · have e : u = .int .i64 x.p := by simpa [encH] using hu.symm
    rw [e]
    simp [go_sem]
  · have e : u = .int .i64 x.g := by simpa [encH] using hu.symm
    rw [e]
    simp [go_sem]
/-- All but one. -/
def wo (l : List Hd) (h : Hd) : List Hd := l.filter (fun x => !decide (x = h))
theorem wo_take (l : List Hd) (h : Hd) (k : Nat) (x : Hd) (hx : l[k]? = some x) : wo (l.take (k + 1)) h = wo (l.take k) h ++ (if x = h then [] else [x]) := by
  unfold wo
  rw [List.take_add_one, hx, List.filter_append]
  by_cases e : x = h <;> simp [e]
theorem wo_len (l : List Hd) (h : Hd) : (wo l h).length ≤ l.length := List.length_filter_le _ _
theorem rfree_no (x : RP) (R : Rf) (h : Hd) (w : World) (hs : RSm R) (hR : RefIn nof w x R) (hn : h ∉ R.alive) :
    Calls Try.prog 26 #[rv x R, .agg #[.int .i64 h.p, .int .i64 h.g]] w fun e w' => e = .returned (.tuple #[rv x R, .int .i64 5]) ∧ Bel w w' := by
  have K := Lib.hid (fun w' (hb : Bel w w') => risalive_any x R h w' hs (hR.bel hb))
  rw [decide_eq_false hn] at K
  clear hs hR hn
  unfold rv at *
  go_enter Try.func26, Try.ntmps26
  go_wp2_with fail
  with_reducible refine (K.out _ ((((Bel.refl _).alloc _ _).alloc _ _).alloc _ _)).mono ?_
  rintro e w1 ⟨rfl, hb⟩
  have HB : Hid (Bel w w1) := Lib.hid (((((Bel.refl _).alloc _ _).alloc _ _).alloc _ _).trans hb)
  have y0 : w1.cell? ⟨w.heap.size, 0, none⟩ = some (.int .i64 R.pl) := hb.cell (by simp [go_sem])
  have y1 : w1.cell? ⟨w.heap.size, 1, none⟩ = some (.int .i64 R.gn) := hb.cell (by simp [go_sem])
  have y2 : w1.cell? ⟨w.heap.size, 2, none⟩ = some (.slice x.p1 R.used.length x.c1) := hb.cell (by simp [go_sem])
  have y3 : w1.cell? ⟨w.heap.size, 3, none⟩ = some (.slice x.p2 R.free.length x.c2) := hb.cell (by simp [go_sem])
  have y4 : w1.cell? ⟨w.heap.size, 4, none⟩ = some (.slice x.p3 R.alive.length x.c3) := hb.cell (by simp [go_sem])
  have z0 : w1.cell? ⟨w.heap.size + 1 + 1, 0, none⟩ = some (.int .i64 0) := hb.cell (by simp [go_sem])
  have z1 : w1.cell? ⟨w.heap.size + 1 + 1, 1, none⟩ = some (.int .i64 0) := hb.cell (by simp [go_sem])
  have z2 : w1.cell? ⟨w.heap.size + 1 + 1, 2, none⟩ = some (.slice none 0 0) := hb.cell (by simp [go_sem])
  have z3 : w1.cell? ⟨w.heap.size + 1 + 1, 3, none⟩ = some (.slice none 0 0) := hb.cell (by simp [go_sem])
  have z4 : w1.cell? ⟨w.heap.size + 1 + 1, 4, none⟩ = some (.slice none 0 0) := hb.cell (by simp [go_sem])
  have f0 : w1.frozen? ⟨w.heap.size + 1 + 1, 0, none⟩ = false := hb.froz (v := .int .i64 0) (by simp [go_sem]) (by simp [go_sem])
  have f1 : w1.frozen? ⟨w.heap.size + 1 + 1, 1, none⟩ = false := hb.froz (v := .int .i64 0) (by simp [go_sem]) (by simp [go_sem])
  have f2 : w1.frozen? ⟨w.heap.size + 1 + 1, 2, none⟩ = false := hb.froz (v := .slice none 0 0) (by simp [go_sem]) (by simp [go_sem])
  have f3 : w1.frozen? ⟨w.heap.size + 1 + 1, 3, none⟩ = false := hb.froz (v := .slice none 0 0) (by simp [go_sem]) (by simp [go_sem])
  have f4 : w1.frozen? ⟨w.heap.size + 1 + 1, 4, none⟩ = false := hb.froz (v := .slice none 0 0) (by simp [go_sem]) (by simp [go_sem])
  clear hb
  go_wp2
  refine bodyPost_ret (v := .tuple #[rv x R, .int .i64 5]) (by simp [results, Try.results26, go_sem, z0, z1, z2, z3, z4, rv]) rfl ⟨rfl, ?_⟩
  refine Bel.setCell (Bel.setCell (Bel.setCell (Bel.setCell (Bel.setCell HB.out ?_ _) ?_ _) ?_ _) ?_ _) ?_ _ <;> (show w.heap.size ≤ w.heap.size + 1 + 1; omega)
/-- What the document's slab is behind Free. -/
def freeR (R : Rf) (h : Hd) : Rf := { R with free := if h.g < R.gn then R.free ++ [h.p] else R.free, alive := wo R.alive h }
theorem box5 {w : World} {T : Nat} {a b c d e : Value} {t : TypeId} (h : w.heap[T]? = some (.cells #[a, b, c, d, e] t (0, 0))) :
    (w.cell? ⟨T, 0, none⟩ = some a ∧ w.cell? ⟨T, 1, none⟩ = some b ∧ w.cell? ⟨T, 2, none⟩ = some c ∧ w.cell? ⟨T, 3, none⟩ = some d ∧ w.cell? ⟨T, 4, none⟩ = some e) ∧
    (w.frozen? ⟨T, 0, none⟩ = false ∧ w.frozen? ⟨T, 1, none⟩ = false ∧ w.frozen? ⟨T, 2, none⟩ = false ∧ w.frozen? ⟨T, 3, none⟩ = false ∧ w.frozen? ⟨T, 4, none⟩ = false) := by
  refine ⟨⟨?_, ?_, ?_, ?_, ?_⟩, frozen_of_row w T _ _ t h, frozen_of_row w T _ _ t h, frozen_of_row w T _ _ t h, frozen_of_row w T _ _ t h, frozen_of_row w T _ _ t h⟩ <;> (rw [cell_of_row w T _ _ t (0, 0) h]; rfl)
theorem box2 {w : World} {T : Nat} {a b : Value} {t : TypeId} (h : w.heap[T]? = some (.cells #[a, b] t (0, 0))) :
    (w.cell? ⟨T, 0, none⟩ = some a ∧ w.cell? ⟨T, 1, none⟩ = some b) ∧ (w.frozen? ⟨T, 0, none⟩ = false ∧ w.frozen? ⟨T, 1, none⟩ = false) := by
  refine ⟨⟨?_, ?_⟩, frozen_of_row w T _ _ t h, frozen_of_row w T _ _ t h⟩ <;> (rw [cell_of_row w T _ _ t (0, 0) h]; rfl)
theorem heap3 (w : World) (a b c : Obj) : (((w.alloc a).alloc b).alloc c).heap[w.heap.size]? = some a ∧ (((w.alloc a).alloc b).alloc c).heap[w.heap.size + 1]? = some b ∧ (((w.alloc a).alloc b).alloc c).heap[w.heap.size + 1 + 1]? = some c := by
  have e1 : (w.alloc a).heap.size = w.heap.size + 1 := by simp
  have e2 : ((w.alloc a).alloc b).heap.size = w.heap.size + 1 + 1 := by simp
  refine ⟨?_, ?_, ?_⟩
  · rw [Below.heap_alloc _ _ _ (by omega), Below.heap_alloc _ _ _ (by omega), heap_alloc_new]
  · rw [Below.heap_alloc _ _ _ (by omega), ← e1, heap_alloc_new]
  · rw [← e2, heap_alloc_new]
theorem off5 (w : World) (T : Nat) (a b c d e : Value) : Off (fun k => k = T) w (((((w.setCell ⟨T, 0, none⟩ a).setCell ⟨T, 1, none⟩ b).setCell ⟨T, 2, none⟩ c).setCell ⟨T, 3, none⟩ d).setCell ⟨T, 4, none⟩ e) :=
  Off.setCell (p := ⟨T, 4, none⟩) (Off.setCell (p := ⟨T, 3, none⟩) (Off.setCell (p := ⟨T, 2, none⟩) (Off.setCell (p := ⟨T, 1, none⟩) (Off.setCell (p := ⟨T, 0, none⟩) (Off.refl (fun k => k = T) w) (.inl rfl) a) (.inl rfl) b) (.inl rfl) c) (.inl rfl) d) (.inl rfl) e
theorem off2 (w : World) (T : Nat) (a b : Value) : Off (fun k => k = T) w ((w.setCell ⟨T, 0, none⟩ a).setCell ⟨T, 1, none⟩ b) :=
  Off.setCell (p := ⟨T, 1, none⟩) (Off.setCell (p := ⟨T, 0, none⟩) (Off.refl (fun k => k = T) w) (.inl rfl) a) (.inl rfl) b
theorem Lies.off {f : Nat → Prop} {w w' : World} {p : Option Addr} {cs : List Value} (h : Lies f w p cs) (k : Off f w w') : Lies f w' p cs := by
  rcases h with h | ⟨b, off, e, hf, h⟩
  · exact .inl h
  · exact .inr ⟨b, off, e, hf, h.off hf k⟩
set_option maxHeartbeats 2000000 in
theorem rfree_yes (f : Nat → Prop) (x : RP) (R : Rf) (h : Hd) (w : World) (hs : RSm R) (hR : RefIn f w x R) (hf : ∀ k, f k → k < w.heap.size) (hn : h ∈ R.alive) :
    Calls Try.prog 26 #[rv x R, .agg #[.int .i64 h.p, .int .i64 h.g]] w fun e w' => ∃ x', e = .returned (.tuple #[rv x' (freeR R h), .int .i64 0]) ∧ RefIn f w' x' (freeR R h) ∧ Bel w w' := by
  have K := Lib.hid (fun w' (hb : Bel w w') => risalive_any x R h w' hs ((hR.bel hb).mono (fun _ _ e => e.elim)))
  rw [decide_eq_true hn] at K
  have HR := Lib.hid hR
  have HFo := Lib.hid hf
  have a1 := hs.a1
  have f1 := hs.f1
  obtain ⟨l, hl⟩ : ∃ l, R.alive = l := ⟨_, rfl⟩
  obtain ⟨n, hn⟩ : ∃ n, l.length = n := ⟨_, rfl⟩
  obtain ⟨r, hr⟩ : ∃ r, R.free = r := ⟨_, rfl⟩
  obtain ⟨m, hm⟩ : ∃ m, r.length = m := ⟨_, rfl⟩
  unfold rv at *
  rw [hl, hn] at a1
  rw [hr, hm] at f1
  rw [hl, hr, hn, hm] at K
  rw [hl, hr, hn, hm]
  have HL := Lib.hid hl
  have HRr := Lib.hid hr
  have HN := Lib.hid hn
  have HM := Lib.hid hm
  have I3 : Hid (Lies nof w x.p3 (encH l)) := Lib.hid (by rw [← hl]; exact hR.i3.any)
  have I2 : Hid (Lies nof w x.p2 (encI r)) := Lib.hid (by rw [← hr]; exact hR.i2.any)
  clear hs hR hl hn hr hm hf
  go_enter Try.func26, Try.ntmps26
  go_wp2_with fail
  with_reducible refine (K.out _ ((((Bel.refl _).alloc _ _).alloc _ _).alloc _ _)).mono ?_
  rintro e w1 ⟨rfl, hb⟩
  have HB : Hid (Bel w w1) := Lib.hid (((((Bel.refl _).alloc _ _).alloc _ _).alloc _ _).trans hb)
  obtain ⟨h0, h1, h2⟩ := heap3 w (.cells #[.int .i64 R.pl, .int .i64 R.gn, .slice x.p1 R.used.length x.c1, .slice x.p2 m x.c2, .slice x.p3 n x.c3] 31) (.cells #[.int .i64 h.p, .int .i64 h.g] 38) (.cells #[.int .i64 0, .int .i64 0, .slice none 0 0, .slice none 0 0, .slice none 0 0] 31)
  have HT0 := Lib.hid (hb.heap h0)
  have HT1 := Lib.hid (hb.heap h1)
  have HT2 := Lib.hid (hb.heap h2)
  have hz : w.heap.size + 1 + 1 < w1.heap.size := by have := hb.size; simp at this; omega
  clear hb h0 h1 h2
  go_wp2
  go_loopw [7, 8] (fun o v wr => ∃ j : Nat, v = .int .i64 j ∧ j ≤ n ∧ wr.ownsRow 0 38 2 o (wo (l.take j) h).length (encH (wo (l.take j) h)) ∧ (∀ k, o.ownBlock = some k → w1.heap.size ≤ k) ∧ Bel w1 wr) (fun _ v _ => n - (intOf v).toNat)
  case atStart => exact ⟨0, rfl, by omega, World.ownsRow_nil _ _ _ _, (fun _ e => by cases e), Bel.refl _⟩
  case round =>
    obtain ⟨j, rfl, hi, ho, hob, hb⟩ := hrel
    have HB2 := Lib.hid hb
    have HO := Lib.hid ho
    have HOB := Lib.hid hob
    obtain ⟨⟨y0, y1, y2, y3, y4⟩, _⟩ := box5 (hb.heap HT0.out)
    obtain ⟨⟨u0, u1⟩, _⟩ := box2 (hb.heap HT1.out)
    clear hb ho hob
    have hle : (wo (l.take j) h).length ≤ j := Nat.le_trans (wo_len _ _) (by simp; omega)
    obtain ⟨q, hq⟩ : ∃ q, (wo (l.take j) h).length = q := ⟨_, rfl⟩
    rw [hq] at hle HO
    have HQ := Lib.hid hq
    clear hq
    by_cases hlt : j < n
    · obtain ⟨b, off, hp, _, hr⟩ := lies_hd I3.out (i := j) (by have := HN.out; omega)
      obtain ⟨y, hy⟩ : ∃ y, l[j]? = some y := ⟨_, List.getElem?_eq_getElem (by have := HN.out; omega)⟩
      obtain ⟨x0, x1⟩ := row_hd hr hy
      have x0 := HB2.out.cell (HB.out.cell x0)
      have x1 := HB2.out.cell (HB.out.cell x1)
      have HE := Lib.hid (wo_take l h j y hy)
      rw [hp] at y4
      clear hr hy hp
      have K2 := neq_dec y h
      by_cases he : y = h
      · have hd : decide (y = h) = true := decide_eq_true he
        rw [hd] at K2
        have HE2 : Hid (wo (l.take (j + 1)) h = wo (l.take j) h) := Lib.hid (by rw [HE.out, if_pos he, List.append_nil])
        clear hd he
        go_wp2
        go_quiet (fail)
        go_wp2
        go_roundw
        case rel => exact ⟨j + 1, by go_num, by omega, by rw [HE2.out, HQ.out]; exact own_bel HO.out ((Bel.refl _).drewN _), HOB.out, HB2.out.drewN _⟩
        case measure => simp [intOf]; omega
      · have hd : decide (y = h) = false := decide_eq_false he
        rw [hd] at K2
        have HE2 : Hid (wo (l.take (j + 1)) h = wo (l.take j) h ++ [y]) := Lib.hid (by rw [HE.out, if_neg he])
        clear hd he
        go_wp2
        go_quiet (fail)
        generalize hW : wr.drewN nq = W
        have x0 : W.cell? ⟨b, off + j * 2, none⟩ = some (.int .i64 y.p) := by rw [← hW]; exact x0
        have x1 : W.cell? ⟨b, off + j * 2 + 1, none⟩ = some (.int .i64 y.g) := by rw [← hW]; exact x1
        have y4 : W.cell? ⟨w.heap.size, 4, none⟩ = some (.slice (some ⟨b, off, none⟩) n x.c3) := by rw [← hW]; exact y4
        have HOW : Hid (W.ownsRow 0 38 2 u7 q (encH (wo (l.take j) h))) := Lib.hid (by rw [← hW]; exact own_bel HO.out ((Bel.refl _).drewN _))
        have HBW : Hid (Bel w1 W) := Lib.hid (by rw [← hW]; exact HB2.out.drewN _)
        clear hW
        go_wp2_with (at_builtin; refine wpList_append_gen el29 rfl (.tmp 30) (.tmp 36) rfl u7 q (encH (wo (l.take j) h)) rfl (own_bel HOW.out ((Bel.refl _).alloc _ _)) _ _ _ (encH [y]) rfl rfl (lies_hd1 _ _ _ rfl) (encH_one _) (by omega) ?_)
        intro v' w2 hown hgrow hnew
        have HO2 : Hid (w2.ownsRow 0 38 2 v' (wo (l.take (j + 1)) h).length (encH (wo (l.take (j + 1)) h))) := Lib.hid (by rw [HE2.out, encH_append, List.length_append, HQ.out]; exact hown)
        have HB3 : Hid (Bel w1 w2) := Lib.hid (Off.grown (HBW.out.alloc _ _) hgrow (fun k e => .inr (HOB.out k e)))
        have HOB3 : Hid (∀ k, v'.ownBlock = some k → w1.heap.size ≤ k) := Lib.hid (fun k e => by
          rcases hnew k e with e | e
          · exact HOB.out k e
          · have := HBW.out.size; omega)
        clear hown hgrow hnew x0 x1
        go_wp2
        go_roundw
        case rel => exact ⟨j + 1, by go_num, by omega, HO2.out, HOB3.out, HB3.out⟩
        case measure => simp [intOf]; omega
    · obtain rfl : j = n := by omega
      have HE : Hid (l.take j = l) := Lib.hid (List.take_of_length_le (by have := HN.out; omega))
      rw [HE.out] at HO HQ
      obtain ⟨p3, c3, hv, hc3, _, hp3⟩ := own_slice HO.out (fun k => k < w1.heap.size) (fun k e => by have := HOB.out k e; omega)
      rw [hv]
      have HP3 := Lib.hid hp3
      clear hp3 hv
      have hza : w.heap.size < wr.heap.size := by have := HB2.out.size; omega
      go_wp2_with (at_builtin; refine wpList_append_gen el28 rfl (.tmp 38) (.tmp 40) rfl _ 0 [] rfl (own_empty _ 3 1 _ rfl) _ _ _ (encI r) rfl (by rw [encI_len, HM.out]) (I2.out.bel ((HB.out.trans HB2.out).alloc _ _)) (encI_one _) (by omega) ?_)
      intro v2 w2 hown hgrow hnew
      have HB3 : Hid (Bel wr w2) := Lib.hid (Off.grown ((Bel.refl _).alloc _ _) hgrow (fun k e => .inr (by simp [Value.ownBlock] at e; omega)))
      have HOB3 : Hid (∀ k, v2.ownBlock = some k → wr.heap.size ≤ k) := Lib.hid (fun k e => by
        rcases hnew k e with e | e
        · simp [Value.ownBlock] at e; omega
        · omega)
      have HO3 : Hid (w2.ownsRow 0 3 1 v2 m (encI r)) := Lib.hid (by simpa using hown)
      clear hown hgrow hnew y0 y1 y2 y3 y4 u0 u1
      obtain ⟨⟨y0, y1, y2, y3, y4⟩, _⟩ := box5 ((HB2.out.trans HB3.out).heap HT0.out)
      obtain ⟨⟨u0, u1⟩, _⟩ := box2 ((HB2.out.trans HB3.out).heap HT1.out)
      obtain ⟨⟨z0, z1, z2, z3, z4⟩, ⟨g0, g1, g2, g3, g4⟩⟩ := box5 ((HB2.out.trans HB3.out).heap HT2.out)
      obtain ⟨p2, c2, hv2, hc2, _, hp2⟩ := own_slice HO3.out (fun k => k < w1.heap.size) (fun k e => by have := HOB3.out k e; have := HB2.out.size; omega)
      have hza2 : w.heap.size < w2.heap.size := by have := HB3.out.size; omega
      have hzb2 : w.heap.size + 1 < w2.heap.size := by have := HB3.out.size; have := HB2.out.size; omega
      by_cases hg : h.g < R.gn
      · have HFR : Hid (freeR R h = ⟨R.pl, R.gn, R.used, r ++ [h.p], wo l h⟩) := Lib.hid (by unfold freeR; rw [if_pos hg, HRr.out, HL.out])
        rw [hv2] at HO3 HOB3 ⊢
        clear hv2 hp2
        go_wp2_with (at_builtin; refine wpList_append_gen el28 rfl (.tmp 47) (.tmp 50) rfl _ m (encI r) rfl (own_bel HO3.out ((Bel.refl _).alloc _ _)) _ _ _ (encI [h.p]) rfl rfl (lies_one _ _ _ rfl) (encI_one _) (by omega) ?_)
        intro v4 w4 hown hgrow hnew
        have HB4 : Hid (Bel wr w4) := Lib.hid (Off.grown (HB3.out.alloc _ _) hgrow (fun k e => .inr (HOB3.out k e)))
        have hnew4 : ∀ k, v4.ownBlock = some k → ¬ k < w1.heap.size := fun k e => by
          have h1 := HB2.out.size
          have h2 := HB3.out.size
          rcases hnew k e with e | e
          · have := HOB3.out k e; omega
          · omega
        obtain ⟨p4, c4, hv4, hc4, _, hp4⟩ := own_slice hown (fun k => k < w1.heap.size) hnew4
        rw [hv4]
        have HP4 : Hid (Lies (fun k => k < w1.heap.size) w4 p4 (encI (r ++ [h.p]))) := Lib.hid (by rw [encI_append]; exact hp4)
        clear hown hgrow hnew hnew4 hv4 hp4 y0 y1 y2 y3 y4 u0 u1 z0 z1 z2 z3 z4 g0 g1 g2 g3 g4
        obtain ⟨⟨y0, y1, y2, y3, y4⟩, _⟩ := box5 ((HB2.out.trans HB4.out).heap HT0.out)
        obtain ⟨⟨z0, z1, z2, z3, z4⟩, ⟨g0, g1, g2, g3, g4⟩⟩ := box5 ((HB2.out.trans HB4.out).heap HT2.out)
        go_wp2
        refine bodyPost_ret (v := .tuple #[.agg #[.int .i64 R.pl, .int .i64 R.gn, .slice x.p1 R.used.length x.c1, .slice p4 (m + 1) c4, .slice p3 q c3], .int .i64 0]) (by simp [results, Try.results26, go_sem, z0, z1, z2, z3, z4]) rfl ?_
        have HO5 := off5 w4 (w.heap.size + 1 + 1) (.int .i64 R.pl) (.int .i64 R.gn) (.slice x.p1 R.used.length x.c1) (.slice p4 (m + 1) c4) (.slice p3 q c3)
        have hbw := Off.trans (HB.out.trans (HB2.out.trans HB4.out)) HO5 (fun i e => .inr (by omega))
        have HOF : Off (fun k => k < w1.heap.size) w4 _ := HO5.mono (fun i _ e => by omega)
        have hfw : ∀ b, f b → b < w1.heap.size := fun b e => by have := HFo.out b e; omega
        rw [HFR.out]
        refine ⟨⟨x.p1, x.c1, p4, c4, p3, c3⟩, ?_, ⟨HR.out.l1, by have := HM.out; simp; omega, by simp; have := HQ.out; omega, HR.out.i1.bel hbw, (HP4.out.off HOF).mono (fun b _ e => hfw b e), ((HP3.out.bel HB4.out).off HOF).mono (fun b _ e => hfw b e)⟩, hbw⟩
        rw [← HQ.out]
        simp [HM.out]
      · have HFR : Hid (freeR R h = ⟨R.pl, R.gn, R.used, r, wo l h⟩) := Lib.hid (by unfold freeR; rw [if_neg hg, HRr.out, HL.out])
        rw [hv2]
        have HP4 := Lib.hid hp2
        clear hv2 hp2
        have hgd : decide (h.g < R.gn) = false := decide_eq_false hg
        go_wp2
        refine bodyPost_ret (v := .tuple #[.agg #[.int .i64 R.pl, .int .i64 R.gn, .slice x.p1 R.used.length x.c1, .slice p2 m c2, .slice p3 q c3], .int .i64 0]) (by simp [results, Try.results26, go_sem, z0, z1, z2, z3, z4]) rfl ?_
        have HO5 := off5 w2 (w.heap.size + 1 + 1) (.int .i64 R.pl) (.int .i64 R.gn) (.slice x.p1 R.used.length x.c1) (.slice p2 m c2) (.slice p3 q c3)
        have hbw := Off.trans (HB.out.trans (HB2.out.trans HB3.out)) HO5 (fun i e => .inr (by omega))
        have HOF : Off (fun k => k < w1.heap.size) w2 _ := HO5.mono (fun i _ e => by omega)
        have hfw : ∀ b, f b → b < w1.heap.size := fun b e => by have := HFo.out b e; omega
        rw [HFR.out]
        refine ⟨⟨x.p1, x.c1, p2, c2, p3, c3⟩, ?_, ⟨HR.out.l1, by have := HM.out; simp; omega, by simp; have := HQ.out; omega, HR.out.i1.bel hbw, (HP4.out.off HOF).mono (fun b _ e => hfw b e), ((HP3.out.bel HB3.out).off HOF).mono (fun b _ e => hfw b e)⟩, hbw⟩
        rw [← HQ.out]
        simp [HM.out]
end Go.Proofs.Ytlohpccfanmiiaa
