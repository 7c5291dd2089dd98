/-
  Contract of the document's Behind: its queue behind acts.
-/
import Derived.Test.YtdlfppdekllloaaDdo
import Derived.Test.YtdlfppdekllloaaBuilt
import Derived.Deep.CutRange
set_option linter.unusedVariables false
set_option linter.unusedSimpArgs false
namespace Go.Proofs.Ytdlfppdekllloaa
open Go.RowKit
theorem stL_in {P : Nat} {l : List T} (h : ∀ t ∈ l, hp P t.p = true) (a : Ak) : ∀ t ∈ stL P l a, hp P t.p = true := by
  intro t ht
  unfold stL at ht
  split at ht
  · unfold insL at ht
    split at ht
    · rename_i e
      rcases List.mem_cons.1 ((put_perm l a.t).subset ht) with e2 | e2
      · rw [e2]
        unfold insE at e
        split at e
        · assumption
        · cases e
      · exact h t e2
    · exact h t ht
  · split at ht
    · exact h t (List.mem_filter.1 ht).1
    · split at ht
      · unfold movL at ht
        split at ht
        · rename_i e
          rcases List.mem_cons.1 ((put_perm _ a.t).subset ht) with e2 | e2
          · rw [e2]
            unfold canE at e
            split at e
            · assumption
            · cases e
          · exact h t (List.mem_filter.1 e2).1
        · exact h t ht
      · split at ht
        · exact h t (List.mem_filter.1 ht).1
        · exact h t ht
theorem stL_len (P : Nat) (l : List T) (a : Ak) : (stL P l a).length ≤ l.length + 1 := by
  have hput : ∀ m : List T, m.length ≤ l.length → (put m a.t).length ≤ l.length + 1 := fun m hm => by
    rw [(put_perm m a.t).length_eq, List.length_cons]; omega
  have hfl : ∀ q : T → Bool, (l.filter q).length ≤ l.length + 1 := fun q => Nat.le_succ_of_le (List.length_filter_le _ _)
  unfold stL
  split
  · unfold insL
    split
    · exact hput l (Nat.le_refl _)
    · omega
  · split
    · exact hfl _
    · split
      · unfold movL
        split
        · exact hput _ (List.length_filter_le _ _)
        · omega
      · split
        · exact hfl _
        · omega
theorem pla_in (P : Nat) (al : List Ak) (m : Nat) : (∀ t ∈ pla P (al.take m), hp P t.p = true) ∧ (pla P (al.take m)).length ≤ m := by
  induction m with
  | zero => exact ⟨fun t ht => by simp [pla] at ht, by simp [pla]⟩
  | succ m ih =>
    by_cases h : m < al.length
    · rw [pla_next P al m al[m] (List.getElem?_eq_getElem h)]
      exact ⟨stL_in ih.1 _, by have := stL_len P (pla P (al.take m)) al[m]; omega⟩
    · rw [List.take_of_length_le (by omega)]
      rw [List.take_of_length_le (by omega)] at ih
      exact ⟨ih.1, by omega⟩
theorem off2b (w : World) (b : Nat) (x y : Value) : Off (fun k => k = b) w ((w.setCell ⟨b, 0, none⟩ x).setCell ⟨b, 1, none⟩ y) := off2 w b x y
theorem box2_set {w : World} {b : Nat} {x y x' y' : Value} {t : TypeId} (h : w.heap[b]? = some (.cells #[x, y] t (0, 0))) : ((w.setCell ⟨b, 0, none⟩ x').setCell ⟨b, 1, none⟩ y').heap[b]? = some (.cells #[x', y'] t (0, 0)) := by
  have e1 := heap_setCell_same w b 0 _ t x' h
  exact heap_setCell_same _ b 1 _ t y' e1
/-- What holds at each round's head. -/
structure Beh (w wr : World) (b4 b6 P : Nat) (l : List T) : Prop where
  ex : ∃ p c, wr.heap[b6]? = some (.cells #[.int .i64 P, .slice p l.length c] 30 (0, 0)) ∧ l.length ≤ c ∧ Lies (fun k => old w k ∨ k = b4 ∨ k = b6) wr p (encs l)
  m4 : wr.heap[b4]? = some (.cells #[.int .i64 0, .slice none 0 0] 30 (0, 0))
  bel : Bel w wr
  ge : w.heap.size ≤ b4 ∧ w.heap.size ≤ b6 ∧ ¬ b4 = b6
set_option maxHeartbeats 4000000 in
theorem behind_yes (P : Nat) (pa : Option Addr) (N ca : Nat) (al : List Ak) (w : World) (hP : P ≤ 1024) (hl : al.length = N) (hN : N ≤ 60) (hA : Lies nof w pa (encK al)) :
    Calls Try.prog 16 #[.int .i64 P, .slice pa N ca] w fun e w' => ∃ p c, e = .returned (.tuple #[.agg #[.int .i64 P, .slice p (pla P al).length c], .int .i64 0]) ∧ (pla P al).length ≤ c ∧ Lies (old w) w' p (encs (pla P al)) ∧ Bel w w' := by
  have HB0 : Hid (Bel w (w.alloc (.cells #[.int .i64 0, .slice none 0 0] 30))) := Lib.hid ((Bel.refl _).alloc _ _)
  have HN0 : Hid ((w.alloc (.cells #[.int .i64 0, .slice none 0 0] 30)).heap[w.heap.size]? = some (.cells #[.int .i64 0, .slice none 0 0] 30 (0, 0))) := Lib.hid (heap_alloc_new _ _)
  have K := Lib.hid (fun w' => dnew_yes P w' ⟨by omega, by omega⟩)
  have HA := Lib.hid hA
  have HL := Lib.hid hl
  clear hA hl
  go_enter Try.func16, Try.ntmps16
  go_upto_region 1 with (fail)
  generalize w.alloc (.cells #[.int .i64 0, .slice none 0 0] 30) = W at *
  go_wp2_with fail
  with_reducible refine (K.out _).mono ?_
  rintro e w1 ⟨rfl, hb⟩
  have HB1 : Hid (Bel w1 (w1.alloc (.cells #[.int .i64 P, .slice none 0 0] 30))) := Lib.hid ((Bel.refl _).alloc _ _)
  have HN1 : Hid ((w1.alloc (.cells #[.int .i64 P, .slice none 0 0] 30)).heap[w1.heap.size]? = some (.cells #[.int .i64 P, .slice none 0 0] 30 (0, 0))) := Lib.hid (heap_alloc_new _ _)
  have HBB := Lib.hid hb
  clear hb K
  go_upto_region 2 with (fail)
  generalize w1.alloc (.cells #[.int .i64 P, .slice none 0 0] 30) = W1 at *
  obtain ⟨b4, e4⟩ : ∃ b, w.heap.size = b := ⟨_, rfl⟩
  obtain ⟨b6, e6⟩ : ∃ b, w1.heap.size = b := ⟨_, rfl⟩
  rw [e4] at HN0 ⊢
  rw [e6] at HN1 ⊢
  have B0 : Hid (Beh w W1 b4 b6 P (pla P (al.take 0))) := Lib.hid (by
    have lW : b4 < W.heap.size := (Array.getElem?_eq_some_iff.1 HN0.out).1
    have := HBB.out.size
    exact ⟨⟨none, 0, HN1.out, Nat.le_refl _, .inl rfl⟩, (HBB.out.trans HB1.out).heap HN0.out, HB0.out.trans (HBB.out.trans HB1.out), by omega, by omega, by omega⟩)
  clear HB0 HN0 HB1 HN1 HBB e4 e6
  go_wp2
  go_loopw [8] (fun v wr => ∃ i : Nat, v = .int .i64 i ∧ i ≤ N ∧ Beh w wr b4 b6 P (pla P (al.take i))) (fun v _ => N - (intOf v).toNat)
  case atStart => exact ⟨0, rfl, by omega, B0.out⟩
  case round =>
    obtain ⟨i, rfl, hi, hbe⟩ := hrel
    have HBE := Lib.hid hbe
    clear hbe B0
    by_cases h : i < N
    · obtain ⟨b, off, rfl, _, hr⟩ := lies_ak HA.out (i := i) (by rw [HL.out]; exact h)
      obtain ⟨a, ha⟩ : ∃ a, al[i]? = some a := ⟨al[i]'(by rw [HL.out]; exact h), List.getElem?_eq_getElem _⟩
      obtain ⟨x0, x1, x2, x3, x4⟩ := row_ak (hr.off (f := nof) (fun e => e) HBE.out.bel) ha
      have hnx := pla_next P al i a ha
      have hpi := pla_in P al i
      obtain ⟨⟨p, c, n6, hc, hli⟩, n4, hbl, ge4, ge6, ne46⟩ := HBE.out
      have l4 := (Array.getElem?_eq_some_iff.1 n4).1
      have l6 := (Array.getElem?_eq_some_iff.1 n6).1
      obtain ⟨⟨y0, y1⟩, g0, g1⟩ := box2 n6
      have KD := Lib.hid (fun W' (h : Bel wr W') => ddo_any (fun k => old w k ∨ k = b4 ∨ k = b6) P p c (pla P (al.take i)) a W' (by omega) (fun j e => by
        have h1 := hbl.size
        have h2 := h.size
        rcases e with e | e | e
        · unfold old at e; omega
        · omega
        · omega) hc (hli.bel h) hpi.1)
      have HNX := Lib.hid hnx
      have b1 : (i : Int) < (N : Int) := by omega
      have HBW := Lib.hid hbl
      have HN6 := Lib.hid n6
      have HN4 := Lib.hid n4
      rw [← hnx] at KD
      unfold akV at KD
      obtain ⟨m, em⟩ : ∃ m, pla P (al.take i) = m := ⟨_, rfl⟩
      rw [em] at KD y1
      have HNS : Hid (∀ w2 p' c', Bel wr w2 → (pla P (al.take (i + 1))).length ≤ c' → Lies (fun k => old w k ∨ k = b4 ∨ k = b6) w2 p' (encs (pla P (al.take (i + 1)))) → Beh w ((w2.setCell ⟨b6, 0, none⟩ (.int .i64 P)).setCell ⟨b6, 1, none⟩ (.slice p' (pla P (al.take (i + 1))).length c')) b4 b6 P (pla P (al.take (i + 1)))) := Lib.hid (fun w2 p' c' hb hc' hl' => by
        have o := off2 w2 b6 (.int .i64 P) (.slice p' (pla P (al.take (i + 1))).length c')
        have h6 := hb.heap HN6.out
        have h4 := hb.heap HN4.out
        refine ⟨⟨p', c', box2_set h6, hc', ?_⟩, (o.block _ (Array.getElem?_eq_some_iff.1 h4).1 ne46).trans h4, Off.trans (HBW.out.trans hb) o (fun k e => .inr (by have : k = b6 := e; omega)), ge4, ge6, ne46⟩
        exact (hl'.off (o.mono (g := fun k => old w k ∨ k = b4 ∨ k = b6) (fun k _ e => .inr (.inr e))) (fun k e => e)))
      have HG : Hid (∀ w2, Bel wr w2 → (w2.cell? ⟨b6, 0, none⟩ = some (.int .i64 P) ∧ w2.cell? ⟨b6, 1, none⟩ = some (.slice p m.length c)) ∧ w2.frozen? ⟨b6, 0, none⟩ = false ∧ w2.frozen? ⟨b6, 1, none⟩ = false) := Lib.hid (fun w2 hb => by
        have := box2 (hb.heap HN6.out)
        rw [em] at this
        exact this)
      clear hr ha hnx hpi n6 n4 hbl hc hli em l4 l6
      obtain ⟨lm, elm⟩ : ∃ n, m.length = n := ⟨_, rfl⟩
      rw [elm] at y1 KD HG
      obtain ⟨L, eL⟩ : ∃ L, pla P (al.take (i + 1)) = L := ⟨_, rfl⟩
      have HLL := Lib.hid eL
      rw [eL] at KD HNS
      clear elm eL
      generalize a.k = ak at *
      generalize a.t.a = aa at *
      generalize a.t.s = asq at *
      generalize a.t.p = ap at *
      generalize a.now = an at *
      go_wp2
      go_region_with (first | (go_at_call 11; (with_reducible refine (KD.out _ (Bel.refl _).drew).mono ?_); rintro e w2 ⟨p', c', q, k', rfl, hd⟩; have hbw2 : Bel wr w2 := (Bel.refl _).drew.trans hd.1.bel; obtain ⟨⟨z0, z1⟩, z2, z3⟩ := HG.out w2 hbw2; have hbe := HNS.out w2 p' c' hbw2 hd.1.hc hd.1.lies))
      all_goals
        have HBE2 := Lib.hid hbe
        clear hbe hd z0 z1 z2 z3
        go_wp2
        go_roundw
        case rel => exact ⟨i + 1, by go_num, by omega, by rw [HLL.out]; exact HBE2.out⟩
        case measure => simp [intOf]; omega
    · obtain ⟨⟨p, c, n6, hc, hli⟩, n4, hbl, ge4, ge6, ne46⟩ := HBE.out
      rw [List.take_of_length_le (by rw [HL.out]; omega)] at n6 hc hli
      have b1 : ¬ (i : Int) < (N : Int) := by omega
      obtain ⟨⟨y0, y1⟩, _⟩ := box2 n6
      obtain ⟨⟨z0, z1⟩, z2, z3⟩ := box2 n4
      have HE : Hid ((pla P al).length ≤ c ∧ Lies (old w) ((wr.setCell ⟨b4, 0, none⟩ (.int .i64 P)).setCell ⟨b4, 1, none⟩ (.slice p (pla P al).length c)) p (encs (pla P al)) ∧ Bel w ((wr.setCell ⟨b4, 0, none⟩ (.int .i64 P)).setCell ⟨b4, 1, none⟩ (.slice p (pla P al).length c))) := Lib.hid (by
        have o := off2 wr b4 (.int .i64 P) (.slice p (pla P al).length c)
        refine ⟨hc, ((hli.off (o.mono (g := fun k => old w k ∨ k = b4 ∨ k = b6) (fun k _ e => .inr (.inl e))) (fun k e => e))).mono (fun k _ e => .inl e), Off.trans hbl o (fun k e => .inr (by have : k = b4 := e; omega))⟩)
      clear n6 n4 hc hli hbl HBE
      go_wp2
      exact bodyPost_ret (v := .tuple #[.agg #[.int .i64 P, .slice p (pla P al).length c], .int .i64 0]) (by simp [results, Try.results16, go_sem, z0, z1]) rfl ⟨p, c, rfl, HE.out⟩
theorem behind_no (P : Int) (pa : Option Addr) (N ca : Nat) (w : World) (h : ¬ (0 ≤ P ∧ P ≤ 1024)) :
    Calls Try.prog 16 #[.int .i64 P, .slice pa N ca] w fun e w' => e = .returned (.tuple #[.agg #[.int .i64 0, .slice none 0 0], .int .i64 1]) ∧ Bel w w' := by
  have HB0 : Hid (Bel w (w.alloc (.cells #[.int .i64 0, .slice none 0 0] 30))) := Lib.hid ((Bel.refl _).alloc _ _)
  have HN0 : Hid ((w.alloc (.cells #[.int .i64 0, .slice none 0 0] 30)).heap[w.heap.size]? = some (.cells #[.int .i64 0, .slice none 0 0] 30 (0, 0))) := Lib.hid (heap_alloc_new _ _)
  have K := Lib.hid (fun w' => dnew_no P w' h)
  clear h
  by_cases h0 : (0 : Int) < N
  all_goals
    go_enter Try.func16, Try.ntmps16
    go_upto_region 1 with (fail)
    generalize w.alloc (.cells #[.int .i64 0, .slice none 0 0] 30) = W at *
    go_wp2_with fail
    with_reducible refine (K.out _).mono ?_
    rintro e w1 ⟨rfl, hb⟩
    have HB1 : Hid (Bel w1 (w1.alloc (.cells #[.int .i64 0, .slice none 0 0] 30))) := Lib.hid ((Bel.refl _).alloc _ _)
    have HN1 : Hid ((w1.alloc (.cells #[.int .i64 0, .slice none 0 0] 30)).heap[w1.heap.size]? = some (.cells #[.int .i64 0, .slice none 0 0] 30 (0, 0))) := Lib.hid (heap_alloc_new _ _)
    have HBB := Lib.hid hb
    clear hb K
    go_upto_region 2 with (fail)
    generalize w1.alloc (.cells #[.int .i64 0, .slice none 0 0] 30) = W1 at *
    obtain ⟨b4, e4⟩ : ∃ b, w.heap.size = b := ⟨_, rfl⟩
    obtain ⟨b6, e6⟩ : ∃ b, w1.heap.size = b := ⟨_, rfl⟩
    rw [e4] at HN0 ⊢
    rw [e6] at HN1 ⊢
    obtain ⟨⟨y0, y1⟩, _⟩ := box2 HN1.out
    obtain ⟨⟨z0, z1⟩, z2, z3⟩ := box2 ((HBB.out.trans HB1.out).heap HN0.out)
    have HE : Hid (Bel w ((W1.setCell ⟨b4, 0, none⟩ (.int .i64 0)).setCell ⟨b4, 1, none⟩ (.slice none 0 0))) := Lib.hid (Off.trans (HB0.out.trans (HBB.out.trans HB1.out)) (off2 W1 b4 (.int .i64 0) (.slice none 0 0)) (fun k e => .inr (by have : k = b4 := e; omega)))
    clear HB0 HN0 HB1 HN1 HBB e4 e6
    go_wp2
    go_loopw [8] (fun v wr => v = .int .i64 0 ∧ wr = W1) (fun _ _ => 0)
    case atStart => exact ⟨rfl, rfl⟩
    case round =>
      obtain ⟨rfl, rfl⟩ := hrel
      go_wp2
      exact bodyPost_ret (v := .tuple #[.agg #[.int .i64 0, .slice none 0 0], .int .i64 1]) (by simp [results, Try.results16, go_sem, z0, z1]) rfl ⟨rfl, HE.out⟩
end Go.Proofs.Ytdlfppdekllloaa
