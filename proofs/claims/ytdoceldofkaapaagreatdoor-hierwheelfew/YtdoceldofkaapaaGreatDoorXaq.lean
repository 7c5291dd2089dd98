/-
  Contracts of slices.SortFunc at timers and of order.Sort.
  Contracts of a queue of places: Get, put, take, in, pending, Len, All.
-/
import Derived.Test.YtdoceldofkaapaaGreatDoorXap
import Derived.Test.YtdoceldofkaapaaGreatDoorXae
import Derived.BigRegion
set_option linter.unusedVariables false
set_option linter.unusedSimpArgs false
namespace Go.Proofs.YtdoceldofkaapaaGreatDoor
open Go.RowKit
theorem fresh_own (p : Option Addr) (n cap : Nat) (l : List T) (w : World) (hn : l.length = n) (hm : n ≤ 5000) (hl : Has w p l) :
    Calls Tryz.prog 92 #[.slice p n cap] w fun e w' => ∃ v, e = .returned v ∧ OwnT w' w.heap.size v l ∧ Bel w w' ∧ (l = [] → v = .slice none 0 0 ) := by
  have HL := Lib.hid hl
  have HN := Lib.hid hn
  clear hl hn
  go_enter Tryz.func92, Tryz.ntmps92
  go_wp2_with (at_builtin; refine wpList_append_any rfl _ _ rfl w.heap.size _ [] rfl (OwnT.nil _ _) _ _ _ l rfl HN.out HL.out (by simp; omega) (Nat.le_refl _) ?_)
  intro v' w1 hown hgrow hnil
  have HO := Lib.hid hown
  have HB : Hid (Bel w w1) := Lib.hid (OwnT.grown (Bel.refl w) (OwnT.nil w w.heap.size) (Nat.le_refl _) hgrow)
  have HZ := Lib.hid hnil
  clear hown hgrow hnil
  go_wp2
  go_ret
  refine ⟨_, rfl, by simpa using HO.out, HB.out, fun e => ?_⟩
  have k := HZ.out
  exact k.2 (by rw [← HN.out, e]; rfl)
theorem toArr_get (l : List T) (i : Nat) (h : i < l.length) : l.toArray[i]! = l.getD i default := by
  rw [getElem!_pos _ i (by simpa using h)]
  simp [List.getD_eq_getElem?_getD, List.getElem?_eq_getElem h]
theorem flat_getT (l : List T) (i : Nat) (h : i < l.length) :
    (Go.Sort.flatK enc 3 l.toArray)[i * 3]! = .int .u64 (l.getD i default).a ∧ (Go.Sort.flatK enc 3 l.toArray)[i * 3 + 1]! = .int .u64 (l.getD i default).s ∧ (Go.Sort.flatK enc 3 l.toArray)[i * 3 + 2]! = .int .i64 (l.getD i default).p := by
  have hs : l.toArray.size = l.length := by simp
  refine ⟨?_, ?_, ?_⟩
  · rw [Go.Sort.get_flatK _ _ _ _ (by rw [hs]; omega), show i * 3 / 3 = i by omega, show i * 3 % 3 = 0 by omega, toArr_get l i h]; rfl
  · rw [Go.Sort.get_flatK _ _ _ _ (by rw [hs]; omega), show (i * 3 + 1) / 3 = i by omega, show (i * 3 + 1) % 3 = 1 by omega, toArr_get l i h]; rfl
  · rw [Go.Sort.get_flatK _ _ _ _ (by rw [hs]; omega), show (i * 3 + 2) / 3 = i by omega, show (i * 3 + 2) % 3 = 2 by omega, toArr_get l i h]; rfl
theorem holds_of_row {w : World} {b off : Nat} {l : List T} (hr : Row w b off l) (hf : ∀ j, w.frozen? ⟨b, off + j, none⟩ = false) : Go.Sort.HoldsK enc 3 w b off l.toArray := by
  intro j hj
  have hj' : j < l.length * 3 := by simpa using hj
  refine ⟨?_, hf j⟩
  have hi : j / 3 < l.length := by omega
  have k := hr (j / 3) hi
  have g := flat_getT l (j / 3) hi
  rcases (show j = j / 3 * 3 ∨ j = j / 3 * 3 + 1 ∨ j = j / 3 * 3 + 2 by omega) with e | e | e
  · rw [← e] at k g; rw [k.1, g.1]; rfl
  · rw [← e] at g; rw [show off + j / 3 * 3 + 1 = off + j by omega] at k; rw [k.2.1, g.2.1]; rfl
  · rw [← e] at g; rw [show off + j / 3 * 3 + 2 = off + j by omega] at k; rw [k.2.2, g.2.2]; rfl
theorem row_of_holds {w : World} {b off : Nat} {l : List T} (h : Go.Sort.HoldsK enc 3 w b off l.toArray) : Row w b off l := by
  intro i hi
  have g := flat_getT l i hi
  have k : ∀ j, j < l.length * 3 → w.cell? ⟨b, off + j, none⟩ = some ((Go.Sort.flatK enc 3 l.toArray)[j]!) := fun j hj => (h j (by simpa using hj)).1
  refine ⟨?_, ?_, ?_⟩
  · rw [k _ (by omega), g.1]
  · rw [Nat.add_assoc, k _ (by omega), g.2.1]
  · rw [Nat.add_assoc, k _ (by omega), g.2.2]
theorem sort_below {w : World} {base blk off n : Nat} {d : Array T} {os : Array Obj} (hb : base ≤ blk) : Below (min base w.heap.size) w (sortWorldK enc 3 w blk off n d os) := by
  refine ⟨rfl, rfl, rfl, ?_, fun k hk => ?_⟩
  · simp [sortWorldK, Go.Sort.putRowK, Go.Sort.grow, Go.Sort.ahead]
  · have h1 : k < w.heap.size := by omega
    have h2 : blk ≠ k := by omega
    simp [sortWorldK, Go.Sort.putRowK, Go.Sort.grow, Go.Sort.ahead, Go.Sort.putRow, Go.Sort.mapBlock, Array.getElem?_append, h1, Array.getElem_modify, h2]
theorem swo : Go.Sort.SWO (ltOf cf) where
  irrefl x := lt_irrefl x
  trans _ _ _ h k := lt_trans h k
  ntrans _ _ _ h k := lt_ntrans h k
theorem mergeSort_srt (l : List T) : l.toArray.toList.mergeSort (fun x y => !(ltOf cf) y x) = srt l := by
  have tr : ∀ a b c : T, (!(ltOf cf) b a) = true → (!(ltOf cf) c b) = true → (!(ltOf cf) c a) = true := by
    intro a b c h k
    have h' : lt b a = false := by simpa [ltOf, lt] using h
    have k' : lt c b = false := by simpa [ltOf, lt] using k
    have : lt c a = false := lt_ntrans k' h'
    simpa [ltOf, lt] using this
  have to : ∀ a b : T, (!(ltOf cf) b a || !(ltOf cf) a b) = true := by
    intro a b
    cases e : lt b a with
    | false => have e' : ltOf cf b a = false := e; simp [e']
    | true => have e' : ltOf cf a b = false := lt_asymm e; simp [e']
  refine srt_of ?_ (by simpa using List.mergeSort_perm l _)
  have s := List.pairwise_mergeSort tr to l.toArray.toList
  refine s.imp ?_
  intro a b h
  have : lt b a = false := by simpa [ltOf, lt] using h
  exact this
theorem enters53 : ∀ args w, (callFunc 53 args).run Tryz.prog w = .ok (.enter 53 args) w := enters_of Tryz.func53 (by kernel_rfl) rfl
theorem sortFunc_own (w : World) (base : Nat) (v : Value) (l : List T) (hown : OwnT w base v l) (hm : l.length ≤ 5000) (hbase : base ≤ w.heap.size) :
    Calls Tryz.prog 93 #[v, .func (.func 53) #[] #[]] w fun e w' => e = .returned (.tuple #[]) ∧ Out w' (.returned v) (srt l) ∧ Below base w w' := by
  by_cases h0 : l = []
  · subst h0
    obtain ⟨p, cap, rfl, hc, _, hp⟩ := hown.slice
    have K := AnyF.slices_SortFunc_none sortL p cap (.func (.func 53) #[] #[]) w
    refine K.mono fun e w' ⟨he, hw⟩ => ?_
    subst hw
    exact ⟨he, ⟨p, cap, rfl, by simp [srt], .inl rfl⟩, Below.refl _ _⟩
  · have hl : 0 < l.length := List.length_pos_iff.2 h0
    rcases hown.2 with ⟨rfl, hz⟩ | ⟨g, cap, cur, rfl, hb, hg, hc, hcm, hs, ht⟩
    · omega
    have hown' : w.ownsRow base 37 3 (.slice (some ⟨g, 0, none⟩) l.length cap) l.length (encs l) := hown
    have hrow : Row w g 0 l := by
      obtain ⟨p, cap', e, _, _, hp⟩ := hown.slice
      obtain ⟨b, off, e2, hr⟩ := hp.row hl
      rw [e2] at e
      simp at e
      obtain ⟨⟨rfl, rfl⟩, _⟩ := e
      exact hr
    have hlt : g < w.heap.size := (Array.getElem?_eq_some_iff.1 hg).1
    have hH : Go.Sort.HoldsK enc 3 w g 0 l.toArray := holds_of_row hrow fun j => hown'.frozenAt _
    have K := AnyQ.slices_SortFunc_total sortL 3 Tryz.isAgg37 Tryz.sizeOf37 enc (fun _ => rfl) (fun x u hu => by simp [enc] at hu; rcases hu with rfl | rfl | rfl <;> rfl) cf swo 53 #[] g 0 cap l.toArray w enters53
      (fun m os dk _ x y => compare_grow x y _) hH hlt (by simp; omega) (fun x y h k => lt_total h k)
    rw [mergeSort_srt] at K
    have K' : Calls Tryz.prog 93 #[.slice (some ⟨g, 0, none⟩) l.length cap, .func (.func 53) #[] #[]] w fun e w' => e = .returned (.tuple #[]) ∧ ∃ n os, w' = sortWorldK enc 3 w g 0 n (srt l).toArray os := by
      have e : l.toArray.size = l.length := by simp
      rw [e] at K
      exact K
    refine K'.mono fun e w' ⟨he, n, os, hw⟩ => ?_
    subst hw
    refine ⟨he, ⟨some ⟨g, 0, none⟩, cap, by rw [srt_len], by rw [srt_len]; exact hc, .inr ⟨g, 0, rfl, ?_⟩⟩, ?_⟩
    · exact row_of_holds (holdsK_sortWorldK_c enc 3 w g 0 l.toArray (srt l).toArray n os hH hlt (by simp [srt_len]))
    · have := sort_below (w := w) (base := base) (blk := g) (off := 0) (n := n) (d := (srt l).toArray) (os := os) hb
      rwa [Nat.min_eq_left hbase] at this
theorem Out.new {w w' : World} {v : Value} {l : List T} (h : Out w' (.returned v) l) (hn : ∀ k, v.ownBlock = some k → w.heap.size ≤ k) : OutN w w' (.returned v) l := by
  obtain ⟨p, cap, e, hc, hl⟩ := h
  refine ⟨p, cap, e, hc, ?_⟩
  injection e with e
  subst e
  rcases hl with rfl | ⟨b, off, rfl, hr⟩
  · exact .inl rfl
  · exact .inr ⟨b, off, rfl, fun e => Nat.lt_irrefl _ (Nat.lt_of_lt_of_le e (hn b rfl)), row_rowG hr⟩
theorem sort_any (p : Option Addr) (n cap : Nat) (l : List T) (w : World) (hn : l.length = n) (hm : n ≤ 5000) (hl : Has w p l) :
    Calls Tryz.prog 54 #[.slice p n cap] w fun e w' => OutN w w' e (srt l) ∧ Bel w w' := by
  have K1 := Lib.hid (fresh_own p n cap l w hn hm hl)
  have HN := Lib.hid hn
  clear hl hn
  go_enter Tryz.func54, Tryz.ntmps54
  go_wp2_with fail
  with_reducible refine (K1.out).mono ?_
  rintro e w1 ⟨v, rfl, hown, hb, hnil⟩
  have K2 := Lib.hid (sortFunc_own w1 w.heap.size v l hown (by have := HN.out; omega) hb.size)
  have HB := Lib.hid hb
  have HV : Hid (∀ k, v.ownBlock = some k → w.heap.size ≤ k) := Lib.hid (fun k hk => (hown.lt k hk).1)
  clear hown hnil hb
  go_wp2_with fail
  with_reducible refine (K2.out).mono ?_
  rintro e w2 ⟨rfl, hout, hb2⟩
  have HO : Hid (OutN w w2 (.returned v) (srt l)) := Lib.hid (hout.new HV.out)
  have HB2 : Hid (Bel w w2) := Lib.hid (bel_of (Below.trans HB.out.below hb2))
  clear hout hb2
  go_wp2
  go_ret
  exact ⟨HO.out, HB2.out⟩
end Go.Proofs.YtdoceldofkaapaaGreatDoor
namespace Go.Proofs.YtdoceldofkaapaaGreatDoor
open Go.RowKit
section
variable {Z B G R P L : Nat} {lo : T → Nat} {ls : Ls} {r : Nat → T} {l : List T}
set_option maxHeartbeats 1000000 in
theorem get_any (k : Int) (w : World) (q : Qp w Z B G R P L lo ls r l) :
    Calls Tryz.prog 19 #[.pointer (some ⟨Z, 0, none⟩), .int .i64 k] w fun e w' => e = .returned (ansT (fnd l k)) ∧ Bel w w' := by
  have HA := Lib.hid q
  obtain ⟨c0, c1⟩ := q.head
  have lZ := q.lt.1
  have K1 := Lib.hid (fun w' (q : Qp w' Z B G R P L lo ls r l) => which_qp q k)
  have HB0 : Hid (Bel w (w.alloc (.cells #[.int .u64 0, .int .u64 0, .int .i64 0] 37))) := Lib.hid ((Bel.refl _).alloc _ _)
  have HN : Hid ((w.alloc (.cells #[.int .u64 0, .int .u64 0, .int .i64 0] 37)).heap[w.heap.size]? = some (.cells #[.int .u64 0, .int .u64 0, .int .i64 0] 37 (0, 0))) := Lib.hid (heap_alloc_new _ _)
  cases hf : fnd l k with
  | none =>
    rw [hf] at K1
    clear q hf
    go_enter Tryz.func19, Tryz.ntmps19
    go_wp2_with fail
    with_reducible refine (K1.out _ (HA.out.bel HB0.out)).mono ?_
    rintro e w1 ⟨⟨t, rfl⟩, hb⟩
    obtain ⟨⟨b0, b1, b2⟩, f0, f1, f2⟩ := box3 (hb.heap HN.out)
    have HE := Lib.hid (bel3 (HB0.out.trans hb) (Nat.le_refl _) (.int .u64 0) (.int .u64 0) (.int .i64 0))
    clear hb
    go_wp2
    exact bodyPost_ret (v := ansT none) (by simp [results, Tryz.results19, go_sem, b0, b1, b2, ansT]) rfl ⟨rfl, HE.out⟩
  | some x =>
    obtain ⟨k, rfl⟩ : ∃ j : Nat, k = j := ⟨k.toNat, by obtain ⟨h1, h2⟩ := fnd_some hf; have := (q.is.tm x h1).1; omega⟩
    obtain ⟨hk, hr, _, _⟩ := q.is.inn hf
    rw [hf] at K1
    have hP := q.hP
    have HR := Lib.hid hr
    clear q hf hr
    go_enter Tryz.func19, Tryz.ntmps19
    go_wp2_with fail
    with_reducible refine (K1.out _ (HA.out.bel HB0.out)).mono ?_
    rintro e w1 ⟨⟨t, rfl⟩, hb⟩
    have HB1 := Lib.hid (HB0.out.trans hb)
    obtain ⟨⟨b0, b1, b2⟩, f0, f1, f2⟩ := box3 (hb.heap HN.out)
    have q1 := HA.out.bel HB1.out
    have lZ1 := q1.lt.1
    obtain ⟨d0, d1⟩ := q1.head
    obtain ⟨⟨x0, x1, x2⟩, _⟩ := q1.at hk
    rw [HR.out] at x0 x1 x2
    have lR := q1.lt.2.2.2
    have HE := Lib.hid (bel3 HB1.out (Nat.le_refl _) (.int .u64 x.a) (.int .u64 x.s) (.int .i64 x.p))
    clear hb q1 c0 c1
    obtain ⟨xa, xs, xp⟩ := x
    simp only at *
    go_wp2
    exact bodyPost_ret (v := ansT (some ⟨xa, xs, xp⟩)) (by simp [results, Tryz.results19, go_sem, b0, b1, b2, ansT]) rfl ⟨rfl, HE.out⟩
set_option maxHeartbeats 1000000 in
/-- The timers of a list. -/
theorem in_any {t : Nat} (ht : t < L) (w : World) (q : Qp w Z B G R P L lo ls r l) :
    Calls Tryz.prog 50 #[.pointer (some ⟨Z, 0, none⟩), .int .i64 t] w fun e w' => OutN w w' e ((ls t).map r) ∧ Bel w w' := by
  have HA := Lib.hid q
  obtain ⟨c0, c1⟩ := q.head
  have K1 := Lib.hid (places_qp q ht)
  have hn := q.lslen ht
  have hl := (q.rep ht).2
  generalize hys : ls t = ys at *
  obtain ⟨n, hN⟩ : ∃ n, ys.length = n := ⟨_, rfl⟩
  rw [hN] at hn K1
  have HY := Lib.hid hN
  have HL := Lib.hid hl
  have hP := q.hP
  clear q hys hN hl
  go_enter Tryz.func50, Tryz.ntmps50
  go_wp2_with fail
  with_reducible refine K1.out.mono ?_
  rintro e w1 ⟨p, c, rfl, hc, hlies, hb⟩
  have HLI := Lib.hid hlies
  have HB1 := Lib.hid hb
  have HCQ : Hid (∀ w', Bel w w' → w'.cell? ⟨Z, 1, none⟩ = some (.slice (some ⟨R, 0, none⟩) P P)) := Lib.hid (fun w' hb => (HA.out.bel hb).head.2)
  clear hlies hb c0 c1 K1
  go_wp2
  go_loopw [5, 7, 15] (fun o _ v wr => ∃ m : Nat, v = .int .i64 m ∧ m ≤ n ∧ OwnT wr w1.heap.size o ((ys.map r).take m) ∧ Bel w1 wr) (fun _ _ v _ => n - (intOf v).toNat)
  case atStart => exact ⟨0, rfl, by omega, OwnT.nil _ _, Bel.refl _⟩
  case round =>
    obtain ⟨m, rfl, hm, ho, hb⟩ := hrel
    have HO := Lib.hid ho
    have HB := Lib.hid hb
    clear ho hb
    by_cases hlt : m < n
    · obtain ⟨y, hy⟩ : ∃ y, ys[m]? = some y := ⟨_, List.getElem?_eq_getElem (by have := HY.out; omega)⟩
      have hyP : y < P := HL.out y (List.mem_of_getElem? hy)
      obtain ⟨b, off, rfl, _, hr⟩ := lies_int HLI.out (i := m) (by have := HY.out; omega)
      have y0 := row_int (RowG.off hr (fun e => e) HB.out) hy
      have hBB := HB1.out.trans HB.out
      have qr := HA.out.bel hBB
      have cc := HCQ.out _ hBB
      obtain ⟨⟨x0, x1, x2⟩, _⟩ := qr.at hyP
      have HT : Hid ((ys.map r).take (m + 1) = (ys.map r).take m ++ [r y]) := Lib.hid (by
        obtain ⟨h1, h2⟩ := List.getElem?_eq_some_iff.1 hy
        rw [List.take_succ_eq_append_getElem (by simpa using h1), List.getElem_map, h2])
      have HTL : Hid (((ys.map r).take m).length = m) := Lib.hid (by have := HY.out; simp; omega)
      have HZ := Lib.hid hBB.size
      clear hr hy qr hBB
      generalize r y = z at *
      go_wp2_with (at_builtin; refine wpList_append_any rfl (.tmp 19) (.tmp 27) rfl w1.heap.size _ ((ys.map r).take m) rfl (HO.out.bel ((Bel.refl _).alloc _ _)) _ _ _ [z] rfl rfl (has_one _ _) (by have := HTL.out; omega) (by have := HB.out.size; simp; omega) ?_)
      intro v' w2 hown hgrow hnil
      have HO2 : Hid (OwnT w2 w1.heap.size v' ((ys.map r).take (m + 1))) := Lib.hid (by rw [HT.out]; exact hown)
      have HB2 : Hid (Bel w1 w2) := Lib.hid ((HB.out.alloc _ _).grown hgrow (fun k hk => .inr (HO.out.lt k hk).1))
      clear hown hgrow hnil
      go_wp2
      go_roundw
      case rel => exact ⟨m + 1, by go_num, by omega, HO2.out, HB2.out⟩
      case measure => simp [intOf]; omega
    · obtain rfl : m = n := by omega
      have HE : Hid ((ys.map r).take m = ys.map r) := Lib.hid (List.take_of_length_le (by have := HY.out; simp; omega))
      go_wp2
      go_ret
      have k := HO.out.outN (w := w) HB1.out.size
      rw [HE.out] at k
      exact ⟨k, HB1.out.trans HB.out⟩
end
end Go.Proofs.YtdoceldofkaapaaGreatDoor
