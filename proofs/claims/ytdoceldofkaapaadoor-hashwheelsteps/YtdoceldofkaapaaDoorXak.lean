/-
  Contracts of the document's Put, Sort and Due, and of order's fresh.
  The library's slices.SortFunc (at timers) at this program's own numbers: what their contracts ask of it.
  Contracts of slices.IsSortedFunc at timers, and of order.Sorted.
  Contracts of slices.SortFunc at timers and of order.Sort.
-/
import Derived.Test.YtdoceldofkaapaaDoorXab
import Derived.Shelf.SlSortCmp.NoneTotal
import Derived.Test.YtdoceldofkaapaaDoorProg
import Derived.Test.YtdoceldofkaapaaDoorXaa
set_option linter.unusedVariables false
set_option linter.unusedSimpArgs false
namespace Go.Proofs.YtdoceldofkaapaaDoor
open Go.RowKit
theorem has_one (w : World) (t : T) : Has (w.alloc (.cells #[.int .u64 t.a, .int .u64 t.s, .int .i64 t.p] 41)) (some ⟨w.heap.size, 0, none⟩) [t] := by
  refine .inr ⟨_, _, rfl, fun i hi => ?_⟩
  obtain rfl : i = 0 := by simp at hi; exact hi
  simp [go_sem]
theorem own_one (w : World) (t : T) (base : Nat) (hb : base ≤ w.heap.size) : OwnT (w.alloc (.cells #[.int .u64 t.a, .int .u64 t.s, .int .i64 t.p] 41)) base (.slice (some ⟨w.heap.size, 0, none⟩) 1 1) [t] :=
  World.ownsRow_lit w #[.int .u64 t.a, .int .u64 t.s, .int .i64 t.p] 1 hb (by simp [maxLen]) rfl
theorem due_take (l : List T) (now : Int) (d : Bool) (k : Nat) (h : k < l.length) : due (l.take (k + 1)) now d = due (l.take k) now d ++ (if decide ((l.getD k default).a ≤ now) == d then [l.getD k default] else []) := by
  unfold due
  rw [List.take_succ_eq_append_getElem h, List.filter_append]
  have e : l.getD k default = l[k] := by simp [List.getD_eq_getElem?_getD, List.getElem?_eq_getElem h]
  rw [e]
  simp [List.filter_cons]
theorem due_len (l : List T) (now : Int) (d : Bool) : (due l now d).length ≤ l.length := List.length_filter_le _ _
end Go.Proofs.YtdoceldofkaapaaDoor
namespace Go.Proofs.YtdoceldofkaapaaDoor
open Go.Shelf
def sortL_ren : Go.Shelf.Ren := ⟨fun | 6 => 44 | 15 => 61 | 14 => 60 | 28 => 83 | 29 => 84 | 20 => 75 | 21 => 76 | 22 => 77 | 23 => 78 | 24 => 79 | 25 => 80 | 26 => 81 | 27 => 82 | 46 => 87 | 47 => 88 | 48 => 89 | 49 => 90 | 50 => 91 | 57 => 92 | n => n, fun | 22 => 36 | 24 => 41 | 25 => 73 | 3 => 3 | 39 => 109 | 0 => 0 | 53 => 124 | 55 => 22 | 4 => 4 | 46 => 118 | 45 => 117 | 50 => 75 | 5 => 5 | 9 => 9 | 66 => 127 | 70 => 130 | 76 => 132 | 77 => 133 | n => n, fun | n => n⟩
theorem sortL : Go.Proofs.SlLaysF0.n6 Tryd.prog sortL_ren := {
  mixed := by kernel_rfl
  f6 := ⟨Tryd.f44.name, by decide, Tryd.func44.trans (congrArg some (by kernel_rfl))⟩
  f14 := ⟨Tryd.f60.name, by decide, Tryd.func60.trans (congrArg some (by kernel_rfl))⟩
  f15 := Tryd.func61.trans (congrArg some (by kernel_rfl))
  f20 := ⟨Tryd.f75.name, by decide, Tryd.func75.trans (congrArg some (by kernel_rfl))⟩
  f21 := ⟨Tryd.f76.name, by decide, Tryd.func76.trans (congrArg some (by kernel_rfl))⟩
  f22 := ⟨Tryd.f77.name, by decide, Tryd.func77.trans (congrArg some (by kernel_rfl))⟩
  f23 := ⟨Tryd.f78.name, by decide, Tryd.func78.trans (congrArg some (by kernel_rfl))⟩
  f24 := ⟨Tryd.f79.name, by decide, Tryd.func79.trans (congrArg some (by kernel_rfl))⟩
  f25 := ⟨Tryd.f80.name, by decide, Tryd.func80.trans (congrArg some (by kernel_rfl))⟩
  f26 := ⟨Tryd.f81.name, by decide, Tryd.func81.trans (congrArg some (by kernel_rfl))⟩
  f27 := ⟨Tryd.f82.name, by decide, Tryd.func82.trans (congrArg some (by kernel_rfl))⟩
  f28 := Tryd.func83.trans (congrArg some (by kernel_rfl))
  f29 := Tryd.func84.trans (congrArg some (by kernel_rfl))
  f46 := ⟨Tryd.f87.name, by decide, Tryd.func87.trans (congrArg some (by kernel_rfl))⟩
  f47 := Tryd.func88.trans (congrArg some (by kernel_rfl))
  f48 := Tryd.func89.trans (congrArg some (by kernel_rfl))
  f49 := ⟨Tryd.f90.name, by decide, Tryd.func90.trans (congrArg some (by kernel_rfl))⟩
  f50 := ⟨Tryd.f91.name, by decide, Tryd.func91.trans (congrArg some (by kernel_rfl))⟩
  f57 := ⟨Tryd.f92.name, by decide, Tryd.func92.trans (congrArg some (by kernel_rfl))⟩
  t0 := Tryd.underlying0
  a0 := Tryd.isAgg0
  z0 := Tryd.sizeOf0
  v0 := Tryd.zeroValue0
  t3 := Tryd.underlying3
  a3 := Tryd.isAgg3
  z3 := Tryd.sizeOf3
  v3 := Tryd.zeroValue3
  t4 := Tryd.underlying4
  a4 := Tryd.isAgg4
  z4 := Tryd.sizeOf4
  v4 := Tryd.zeroValue4
  t5 := Tryd.underlying5
  a5 := Tryd.isAgg5
  z5 := Tryd.sizeOf5
  v5 := Tryd.zeroValue5
  t9 := Tryd.underlying9
  a9 := Tryd.isAgg9
  z9 := Tryd.sizeOf9
  v9 := Tryd.zeroValue9
  t22 := Tryd.underlying36
  a22 := Tryd.isAgg36
  z22 := Tryd.sizeOf36
  v22 := Tryd.zeroValue36
  t25 := Tryd.underlying73
  a25 := Tryd.isAgg73
  z25 := Tryd.sizeOf73
  v25 := Tryd.zeroValue73
  t39 := Tryd.underlying109
  a39 := Tryd.isAgg109
  z39 := Tryd.sizeOf109
  v39 := Tryd.zeroValue109
  t45 := Tryd.underlying117
  a45 := Tryd.isAgg117
  z45 := Tryd.sizeOf117
  v45 := Tryd.zeroValue117
  t46 := Tryd.underlying118
  a46 := Tryd.isAgg118
  z46 := Tryd.sizeOf118
  v46 := Tryd.zeroValue118
  t50 := Tryd.underlying75
  a50 := Tryd.isAgg75
  z50 := Tryd.sizeOf75
  v50 := Tryd.zeroValue75
  t53 := Tryd.underlying124
  a53 := Tryd.isAgg124
  z53 := Tryd.sizeOf124
  v53 := Tryd.zeroValue124
  t55 := Tryd.underlying22
  a55 := Tryd.isAgg22
  z55 := Tryd.sizeOf22
  v55 := Tryd.zeroValue22
  t66 := Tryd.underlying127
  a66 := Tryd.isAgg127
  z66 := Tryd.sizeOf127
  v66 := Tryd.zeroValue127
  t70 := Tryd.underlying130
  a70 := Tryd.isAgg130
  z70 := Tryd.sizeOf130
  v70 := Tryd.zeroValue130
  t76 := Tryd.underlying132
  a76 := Tryd.isAgg132
  z76 := Tryd.sizeOf132
  v76 := Tryd.zeroValue132
  t77 := Tryd.underlying133
  a77 := Tryd.isAgg133
  z77 := Tryd.sizeOf133
  v77 := Tryd.zeroValue133 }
end Go.Proofs.YtdoceldofkaapaaDoor
namespace Go.Proofs.YtdoceldofkaapaaDoor
open Go.RowKit
end Go.Proofs.YtdoceldofkaapaaDoor
namespace Go.Proofs.YtdoceldofkaapaaDoor
open Go.RowKit
theorem fresh_own (p : Option Addr) (n cap : Nat) (l : List T) (w : World) (hn : l.length = n) (hm : n ≤ 5000) (hl : Has w p l) :
    Calls Tryd.prog 43 #[.slice p n cap] w fun e w' => ∃ v, e = .returned v ∧ OwnT w' w.heap.size v l ∧ Bel w w' ∧ (l = [] → v = .slice none 0 0 ) := by
  have HL := Lib.hid hl
  have HN := Lib.hid hn
  clear hl hn
  go_enter Tryd.func43, Tryd.ntmps43
  go_wp2_with (at_builtin; refine wpList_append_any rfl _ _ rfl w.heap.size _ [] rfl (OwnT.nil _ _) _ _ _ l rfl HN.out HL.out (by simp; omega) (Nat.le_refl _) ?_)
  intro v' w1 hown hgrow hnil
  have HO := Lib.hid hown
  have HB : Hid (Bel w w1) := Lib.hid (OwnT.grown (Bel.refl w) (OwnT.nil w w.heap.size) (Nat.le_refl _) hgrow)
  have HZ := Lib.hid hnil
  clear hown hgrow hnil
  go_wp2
  go_ret
  refine ⟨_, rfl, by simpa using HO.out, HB.out, fun e => ?_⟩
  have k := HZ.out
  exact k.2 (by rw [← HN.out, e]; rfl)
theorem toArr_get (l : List T) (i : Nat) (h : i < l.length) : l.toArray[i]! = l.getD i default := by
  rw [getElem!_pos _ i (by simpa using h)]
  simp [List.getD_eq_getElem?_getD, List.getElem?_eq_getElem h]
theorem flat_getT (l : List T) (i : Nat) (h : i < l.length) :
    (Go.Sort.flatK enc 3 l.toArray)[i * 3]! = .int .u64 (l.getD i default).a ∧ (Go.Sort.flatK enc 3 l.toArray)[i * 3 + 1]! = .int .u64 (l.getD i default).s ∧ (Go.Sort.flatK enc 3 l.toArray)[i * 3 + 2]! = .int .i64 (l.getD i default).p := by
  have hs : l.toArray.size = l.length := by simp
  refine ⟨?_, ?_, ?_⟩
  · rw [Go.Sort.get_flatK _ _ _ _ (by rw [hs]; omega), show i * 3 / 3 = i by omega, show i * 3 % 3 = 0 by omega, toArr_get l i h]; rfl
  · rw [Go.Sort.get_flatK _ _ _ _ (by rw [hs]; omega), show (i * 3 + 1) / 3 = i by omega, show (i * 3 + 1) % 3 = 1 by omega, toArr_get l i h]; rfl
  · rw [Go.Sort.get_flatK _ _ _ _ (by rw [hs]; omega), show (i * 3 + 2) / 3 = i by omega, show (i * 3 + 2) % 3 = 2 by omega, toArr_get l i h]; rfl
theorem holds_of_row {w : World} {b off : Nat} {l : List T} (hr : Row w b off l) (hf : ∀ j, w.frozen? ⟨b, off + j, none⟩ = false) : Go.Sort.HoldsK enc 3 w b off l.toArray := by
  intro j hj
  have hj' : j < l.length * 3 := by simpa using hj
  refine ⟨?_, hf j⟩
  have hi : j / 3 < l.length := by omega
  have k := hr (j / 3) hi
  have g := flat_getT l (j / 3) hi
  rcases (show j = j / 3 * 3 ∨ j = j / 3 * 3 + 1 ∨ j = j / 3 * 3 + 2 by omega) with e | e | e
  · rw [← e] at k g; rw [k.1, g.1]; rfl
  · rw [← e] at g; rw [show off + j / 3 * 3 + 1 = off + j by omega] at k; rw [k.2.1, g.2.1]; rfl
  · rw [← e] at g; rw [show off + j / 3 * 3 + 2 = off + j by omega] at k; rw [k.2.2, g.2.2]; rfl
theorem row_of_holds {w : World} {b off : Nat} {l : List T} (h : Go.Sort.HoldsK enc 3 w b off l.toArray) : Row w b off l := by
  intro i hi
  have g := flat_getT l i hi
  have k : ∀ j, j < l.length * 3 → w.cell? ⟨b, off + j, none⟩ = some ((Go.Sort.flatK enc 3 l.toArray)[j]!) := fun j hj => (h j (by simpa using hj)).1
  refine ⟨?_, ?_, ?_⟩
  · rw [k _ (by omega), g.1]
  · rw [Nat.add_assoc, k _ (by omega), g.2.1]
  · rw [Nat.add_assoc, k _ (by omega), g.2.2]
theorem sort_below {w : World} {base blk off n : Nat} {d : Array T} {os : Array Obj} (hb : base ≤ blk) : Below (min base w.heap.size) w (sortWorldK enc 3 w blk off n d os) := by
  refine ⟨rfl, rfl, rfl, ?_, fun k hk => ?_⟩
  · simp [sortWorldK, Go.Sort.putRowK, Go.Sort.grow, Go.Sort.ahead]
  · have h1 : k < w.heap.size := by omega
    have h2 : blk ≠ k := by omega
    simp [sortWorldK, Go.Sort.putRowK, Go.Sort.grow, Go.Sort.ahead, Go.Sort.putRow, Go.Sort.mapBlock, Array.getElem?_append, h1, Array.getElem_modify, h2]
theorem swo : Go.Sort.SWO (ltOf cf) where
  irrefl x := lt_irrefl x
  trans _ _ _ h k := lt_trans h k
  ntrans _ _ _ h k := lt_ntrans h k
theorem mergeSort_srt (l : List T) : l.toArray.toList.mergeSort (fun x y => !(ltOf cf) y x) = srt l := by
  have tr : ∀ a b c : T, (!(ltOf cf) b a) = true → (!(ltOf cf) c b) = true → (!(ltOf cf) c a) = true := by
    intro a b c h k
    have h' : lt b a = false := by simpa [ltOf, lt] using h
    have k' : lt c b = false := by simpa [ltOf, lt] using k
    have : lt c a = false := lt_ntrans k' h'
    simpa [ltOf, lt] using this
  have ttl : ∀ a b : T, (!(ltOf cf) b a || !(ltOf cf) a b) = true := by
    intro a b
    cases e : lt b a with
    | false => have e' : ltOf cf b a = false := e; simp [e']
    | true => have e' : ltOf cf a b = false := lt_asymm e; simp [e']
  refine srt_of ?_ (by simpa using List.mergeSort_perm l _)
  have s := List.pairwise_mergeSort tr ttl l.toArray.toList
  refine s.imp ?_
  intro a b h
  have : lt b a = false := by simpa [ltOf, lt] using h
  exact this
theorem enters36 : ∀ args w, (callFunc 36 args).run Tryd.prog w = .ok (.enter 36 args) w := enters_of Tryd.func36 (by kernel_rfl) rfl
theorem sortFunc_own (w : World) (base : Nat) (v : Value) (l : List T) (hown : OwnT w base v l) (hm : l.length ≤ 5000) (hbase : base ≤ w.heap.size) :
    Calls Tryd.prog 44 #[v, .func (.func 36) #[] #[]] w fun e w' => e = .returned (.tuple #[]) ∧ Out w' (.returned v) (srt l) ∧ Below base w w' := by
  by_cases h0 : l = []
  · subst h0
    obtain ⟨p, cap, rfl, hc, _, hp⟩ := hown.slice
    have K := AnyF.slices_SortFunc_none sortL p cap (.func (.func 36) #[] #[]) w
    refine K.mono fun e w' ⟨he, hw⟩ => ?_
    subst hw
    exact ⟨he, ⟨p, cap, rfl, by simp [srt], .inl rfl⟩, Below.refl _ _⟩
  · have hl : 0 < l.length := List.length_pos_iff.2 h0
    rcases hown.2 with ⟨rfl, hz⟩ | ⟨g, cap, cur, rfl, hb, hg, hc, hcm, hs, ht⟩
    · omega
    have hown' : w.ownsRow base 41 3 (.slice (some ⟨g, 0, none⟩) l.length cap) l.length (encs l) := hown
    have hrow : Row w g 0 l := by
      obtain ⟨p, cap', e, _, _, hp⟩ := hown.slice
      obtain ⟨b, off, e2, hr⟩ := hp.row hl
      rw [e2] at e
      simp at e
      obtain ⟨⟨rfl, rfl⟩, _⟩ := e
      exact hr
    have hlt : g < w.heap.size := (Array.getElem?_eq_some_iff.1 hg).1
    have hH : Go.Sort.HoldsK enc 3 w g 0 l.toArray := holds_of_row hrow fun j => hown'.frozenAt _
    have K := AnyQ.slices_SortFunc_total sortL 3 Tryd.isAgg41 Tryd.sizeOf41 enc (fun _ => rfl) (fun x u hu => by simp [enc] at hu; rcases hu with rfl | rfl | rfl <;> rfl) cf swo 36 #[] g 0 cap l.toArray w enters36
      (fun m os dk _ x y => compare_grow x y _) hH hlt (by simp; omega) (fun x y h k => lt_total h k)
    rw [mergeSort_srt] at K
    have K' : Calls Tryd.prog 44 #[.slice (some ⟨g, 0, none⟩) l.length cap, .func (.func 36) #[] #[]] w fun e w' => e = .returned (.tuple #[]) ∧ ∃ n os, w' = sortWorldK enc 3 w g 0 n (srt l).toArray os := by
      have e : l.toArray.size = l.length := by simp
      rw [e] at K
      exact K
    refine K'.mono fun e w' ⟨he, n, os, hw⟩ => ?_
    subst hw
    refine ⟨he, ⟨some ⟨g, 0, none⟩, cap, by rw [srt_len], by rw [srt_len]; exact hc, .inr ⟨g, 0, rfl, ?_⟩⟩, ?_⟩
    · exact row_of_holds (holdsK_sortWorldK_c enc 3 w g 0 l.toArray (srt l).toArray n os hH hlt (by simp [srt_len]))
    · have := sort_below (w := w) (base := base) (blk := g) (off := 0) (n := n) (d := (srt l).toArray) (os := os) hb
      rwa [Nat.min_eq_left hbase] at this
theorem Out.new {w w' : World} {v : Value} {l : List T} (h : Out w' (.returned v) l) (hn : ∀ k, v.ownBlock = some k → w.heap.size ≤ k) : OutN w w' (.returned v) l := by
  obtain ⟨p, cap, e, hc, hl⟩ := h
  refine ⟨p, cap, e, hc, ?_⟩
  injection e with e
  subst e
  rcases hl with rfl | ⟨b, off, rfl, hr⟩
  · exact .inl rfl
  · exact .inr ⟨b, off, rfl, fun e => Nat.lt_irrefl _ (Nat.lt_of_lt_of_le e (hn b rfl)), row_rowG hr⟩
theorem sort_any (p : Option Addr) (n cap : Nat) (l : List T) (w : World) (hn : l.length = n) (hm : n ≤ 5000) (hl : Has w p l) :
    Calls Tryd.prog 29 #[.slice p n cap] w fun e w' => OutN w w' e (srt l) ∧ Bel w w' := by
  have K1 := Lib.hid (fresh_own p n cap l w hn hm hl)
  have HN := Lib.hid hn
  clear hl hn
  go_enter Tryd.func29, Tryd.ntmps29
  go_wp2_with fail
  with_reducible refine (K1.out).mono ?_
  rintro e w1 ⟨v, rfl, hown, hb, hnil⟩
  have K2 := Lib.hid (sortFunc_own w1 w.heap.size v l hown (by have := HN.out; omega) hb.size)
  have HB := Lib.hid hb
  have HV : Hid (∀ k, v.ownBlock = some k → w.heap.size ≤ k) := Lib.hid (fun k hk => (hown.lt k hk).1)
  clear hown hnil hb
  go_wp2_with fail
  with_reducible refine (K2.out).mono ?_
  rintro e w2 ⟨rfl, hout, hb2⟩
  have HO : Hid (OutN w w2 (.returned v) (srt l)) := Lib.hid (hout.new HV.out)
  have HB2 : Hid (Bel w w2) := Lib.hid (bel_of (Below.trans HB.out.below hb2))
  clear hout hb2
  go_wp2
  go_ret
  exact ⟨HO.out, HB2.out⟩
end Go.Proofs.YtdoceldofkaapaaDoor
