/-
  The library's slices.SortFunc (at timers) at this program's own numbers: what their contracts ask of it.
  Contracts of slices.IsSortedFunc at timers, and of order.Sorted.
  Contracts of slices.SortFunc at timers and of order.Sort.
-/
import Derived.Shelf.SlSortCmp.NoneTotal
import Derived.Test.YtllohpojajijjaaGreatDoorProg
import Derived.Test.YtllohpojajijjaaGreatDoorXc
import Derived.Test.YtllohpojajijjaaGreatDoorXd
set_option linter.unusedVariables false
set_option linter.unusedSimpArgs false
namespace Go.Proofs.YtllohpojajijjaaGreatDoor
open Go.Shelf
def sortL_ren : Go.Shelf.Ren := ⟨fun | 6 => 56 | 15 => 78 | 14 => 77 | 28 => 94 | 29 => 95 | 20 => 86 | 21 => 87 | 22 => 88 | 23 => 89 | 24 => 90 | 25 => 91 | 26 => 92 | 27 => 93 | 46 => 97 | 47 => 98 | 48 => 99 | 49 => 100 | 50 => 101 | 57 => 102 | n => n, fun | 22 => 29 | 24 => 37 | 25 => 82 | 3 => 3 | 39 => 132 | 0 => 0 | 53 => 143 | 55 => 22 | 4 => 4 | 46 => 137 | 45 => 136 | 50 => 75 | 5 => 5 | 9 => 9 | 66 => 146 | 70 => 149 | 76 => 151 | 77 => 152 | n => n, fun | n => n⟩
theorem sortL : Go.Proofs.SlLaysF0.n6 Tryz.prog sortL_ren := {
  mixed := by kernel_rfl
  f6 := ⟨Tryz.f56.name, by decide, Tryz.func56.trans (congrArg some (by kernel_rfl))⟩
  f14 := ⟨Tryz.f77.name, by decide, Tryz.func77.trans (congrArg some (by kernel_rfl))⟩
  f15 := Tryz.func78.trans (congrArg some (by kernel_rfl))
  f20 := ⟨Tryz.f86.name, by decide, Tryz.func86.trans (congrArg some (by kernel_rfl))⟩
  f21 := ⟨Tryz.f87.name, by decide, Tryz.func87.trans (congrArg some (by kernel_rfl))⟩
  f22 := ⟨Tryz.f88.name, by decide, Tryz.func88.trans (congrArg some (by kernel_rfl))⟩
  f23 := ⟨Tryz.f89.name, by decide, Tryz.func89.trans (congrArg some (by kernel_rfl))⟩
  f24 := ⟨Tryz.f90.name, by decide, Tryz.func90.trans (congrArg some (by kernel_rfl))⟩
  f25 := ⟨Tryz.f91.name, by decide, Tryz.func91.trans (congrArg some (by kernel_rfl))⟩
  f26 := ⟨Tryz.f92.name, by decide, Tryz.func92.trans (congrArg some (by kernel_rfl))⟩
  f27 := ⟨Tryz.f93.name, by decide, Tryz.func93.trans (congrArg some (by kernel_rfl))⟩
  f28 := Tryz.func94.trans (congrArg some (by kernel_rfl))
  f29 := Tryz.func95.trans (congrArg some (by kernel_rfl))
  f46 := ⟨Tryz.f97.name, by decide, Tryz.func97.trans (congrArg some (by kernel_rfl))⟩
  f47 := Tryz.func98.trans (congrArg some (by kernel_rfl))
  f48 := Tryz.func99.trans (congrArg some (by kernel_rfl))
  f49 := ⟨Tryz.f100.name, by decide, Tryz.func100.trans (congrArg some (by kernel_rfl))⟩
  f50 := ⟨Tryz.f101.name, by decide, Tryz.func101.trans (congrArg some (by kernel_rfl))⟩
  f57 := ⟨Tryz.f102.name, by decide, Tryz.func102.trans (congrArg some (by kernel_rfl))⟩
  t0 := Tryz.underlying0
  a0 := Tryz.isAgg0
  z0 := Tryz.sizeOf0
  v0 := Tryz.zeroValue0
  t3 := Tryz.underlying3
  a3 := Tryz.isAgg3
  z3 := Tryz.sizeOf3
  v3 := Tryz.zeroValue3
  t4 := Tryz.underlying4
  a4 := Tryz.isAgg4
  z4 := Tryz.sizeOf4
  v4 := Tryz.zeroValue4
  t5 := Tryz.underlying5
  a5 := Tryz.isAgg5
  z5 := Tryz.sizeOf5
  v5 := Tryz.zeroValue5
  t9 := Tryz.underlying9
  a9 := Tryz.isAgg9
  z9 := Tryz.sizeOf9
  v9 := Tryz.zeroValue9
  t22 := Tryz.underlying29
  a22 := Tryz.isAgg29
  z22 := Tryz.sizeOf29
  v22 := Tryz.zeroValue29
  t25 := Tryz.underlying82
  a25 := Tryz.isAgg82
  z25 := Tryz.sizeOf82
  v25 := Tryz.zeroValue82
  t39 := Tryz.underlying132
  a39 := Tryz.isAgg132
  z39 := Tryz.sizeOf132
  v39 := Tryz.zeroValue132
  t45 := Tryz.underlying136
  a45 := Tryz.isAgg136
  z45 := Tryz.sizeOf136
  v45 := Tryz.zeroValue136
  t46 := Tryz.underlying137
  a46 := Tryz.isAgg137
  z46 := Tryz.sizeOf137
  v46 := Tryz.zeroValue137
  t50 := Tryz.underlying75
  a50 := Tryz.isAgg75
  z50 := Tryz.sizeOf75
  v50 := Tryz.zeroValue75
  t53 := Tryz.underlying143
  a53 := Tryz.isAgg143
  z53 := Tryz.sizeOf143
  v53 := Tryz.zeroValue143
  t55 := Tryz.underlying22
  a55 := Tryz.isAgg22
  z55 := Tryz.sizeOf22
  v55 := Tryz.zeroValue22
  t66 := Tryz.underlying146
  a66 := Tryz.isAgg146
  z66 := Tryz.sizeOf146
  v66 := Tryz.zeroValue146
  t70 := Tryz.underlying149
  a70 := Tryz.isAgg149
  z70 := Tryz.sizeOf149
  v70 := Tryz.zeroValue149
  t76 := Tryz.underlying151
  a76 := Tryz.isAgg151
  z76 := Tryz.sizeOf151
  v76 := Tryz.zeroValue151
  t77 := Tryz.underlying152
  a77 := Tryz.isAgg152
  z77 := Tryz.sizeOf152
  v77 := Tryz.zeroValue152 }
end Go.Proofs.YtllohpojajijjaaGreatDoor
namespace Go.Proofs.YtllohpojajijjaaGreatDoor
open Go.RowKit
end Go.Proofs.YtllohpojajijjaaGreatDoor
namespace Go.Proofs.YtllohpojajijjaaGreatDoor
open Go.RowKit
theorem fresh_own (p : Option Addr) (n cap : Nat) (l : List T) (w : World) (hn : l.length = n) (hm : n ≤ 5000) (hl : Has w p l) :
    Calls Tryz.prog 55 #[.slice p n cap] w fun e w' => ∃ v, e = .returned v ∧ OwnT w' w.heap.size v l ∧ Bel w w' ∧ (l = [] → v = .slice none 0 0 ) := by
  have HL := Lib.hid hl
  have HN := Lib.hid hn
  clear hl hn
  go_enter Tryz.func55, Tryz.ntmps55
  go_wp2_with (at_builtin; refine wpList_append_any rfl _ _ rfl w.heap.size _ [] rfl (OwnT.nil _ _) _ _ _ l rfl HN.out HL.out (by simp; omega) (Nat.le_refl _) ?_)
  intro v' w1 hown hgrow hnil
  have HO := Lib.hid hown
  have HB : Hid (Bel w w1) := Lib.hid (OwnT.grown (Bel.refl w) (OwnT.nil w w.heap.size) (Nat.le_refl _) hgrow)
  have HZ := Lib.hid hnil
  clear hown hgrow hnil
  go_wp2
  go_ret
  refine ⟨_, rfl, by simpa using HO.out, HB.out, fun e => ?_⟩
  have k := HZ.out
  exact k.2 (by rw [← HN.out, e]; rfl)
theorem toArr_get (l : List T) (i : Nat) (h : i < l.length) : l.toArray[i]! = l.getD i default := by
  rw [getElem!_pos _ i (by simpa using h)]
  simp [List.getD_eq_getElem?_getD, List.getElem?_eq_getElem h]
theorem flat_getT (l : List T) (i : Nat) (h : i < l.length) :
    (Go.Sort.flatK enc 3 l.toArray)[i * 3]! = .int .u64 (l.getD i default).a ∧ (Go.Sort.flatK enc 3 l.toArray)[i * 3 + 1]! = .int .u64 (l.getD i default).s ∧ (Go.Sort.flatK enc 3 l.toArray)[i * 3 + 2]! = .int .i64 (l.getD i default).p := by
  have hs : l.toArray.size = l.length := by simp
  refine ⟨?_, ?_, ?_⟩
  · rw [Go.Sort.get_flatK _ _ _ _ (by rw [hs]; omega), show i * 3 / 3 = i by omega, show i * 3 % 3 = 0 by omega, toArr_get l i h]; rfl
  · rw [Go.Sort.get_flatK _ _ _ _ (by rw [hs]; omega), show (i * 3 + 1) / 3 = i by omega, show (i * 3 + 1) % 3 = 1 by omega, toArr_get l i h]; rfl
  · rw [Go.Sort.get_flatK _ _ _ _ (by rw [hs]; omega), show (i * 3 + 2) / 3 = i by omega, show (i * 3 + 2) % 3 = 2 by omega, toArr_get l i h]; rfl
theorem holds_of_row {w : World} {b off : Nat} {l : List T} (hr : Row w b off l) (hf : ∀ j, w.frozen? ⟨b, off + j, none⟩ = false) : Go.Sort.HoldsK enc 3 w b off l.toArray := by
  intro j hj
  have hj' : j < l.length * 3 := by simpa using hj
  refine ⟨?_, hf j⟩
  have hi : j / 3 < l.length := by omega
  have k := hr (j / 3) hi
  have g := flat_getT l (j / 3) hi
  rcases (show j = j / 3 * 3 ∨ j = j / 3 * 3 + 1 ∨ j = j / 3 * 3 + 2 by omega) with e | e | e
  · rw [← e] at k g; rw [k.1, g.1]; rfl
  · rw [← e] at g; rw [show off + j / 3 * 3 + 1 = off + j by omega] at k; rw [k.2.1, g.2.1]; rfl
  · rw [← e] at g; rw [show off + j / 3 * 3 + 2 = off + j by omega] at k; rw [k.2.2, g.2.2]; rfl
theorem row_of_holds {w : World} {b off : Nat} {l : List T} (h : Go.Sort.HoldsK enc 3 w b off l.toArray) : Row w b off l := by
  intro i hi
  have g := flat_getT l i hi
  have k : ∀ j, j < l.length * 3 → w.cell? ⟨b, off + j, none⟩ = some ((Go.Sort.flatK enc 3 l.toArray)[j]!) := fun j hj => (h j (by simpa using hj)).1
  refine ⟨?_, ?_, ?_⟩
  · rw [k _ (by omega), g.1]
  · rw [Nat.add_assoc, k _ (by omega), g.2.1]
  · rw [Nat.add_assoc, k _ (by omega), g.2.2]
theorem sort_below {w : World} {base blk off n : Nat} {d : Array T} {os : Array Obj} (hb : base ≤ blk) : Below (min base w.heap.size) w (sortWorldK enc 3 w blk off n d os) := by
  refine ⟨rfl, rfl, rfl, ?_, fun k hk => ?_⟩
  · simp [sortWorldK, Go.Sort.putRowK, Go.Sort.grow, Go.Sort.ahead]
  · have h1 : k < w.heap.size := by omega
    have h2 : blk ≠ k := by omega
    simp [sortWorldK, Go.Sort.putRowK, Go.Sort.grow, Go.Sort.ahead, Go.Sort.putRow, Go.Sort.mapBlock, Array.getElem?_append, h1, Array.getElem_modify, h2]
theorem swo : Go.Sort.SWO (ltOf cf) where
  irrefl x := lt_irrefl x
  trans _ _ _ h k := lt_trans h k
  ntrans _ _ _ h k := lt_ntrans h k
theorem mergeSort_srt (l : List T) : l.toArray.toList.mergeSort (fun x y => !(ltOf cf) y x) = srt l := by
  have tr : ∀ a b c : T, (!(ltOf cf) b a) = true → (!(ltOf cf) c b) = true → (!(ltOf cf) c a) = true := by
    intro a b c h k
    have h' : lt b a = false := by simpa [ltOf, lt] using h
    have k' : lt c b = false := by simpa [ltOf, lt] using k
    have : lt c a = false := lt_ntrans k' h'
    simpa [ltOf, lt] using this
  have to : ∀ a b : T, (!(ltOf cf) b a || !(ltOf cf) a b) = true := by
    intro a b
    cases e : lt b a with
    | false => have e' : ltOf cf b a = false := e; simp [e']
    | true => have e' : ltOf cf a b = false := lt_asymm e; simp [e']
  refine srt_of ?_ (by simpa using List.mergeSort_perm l _)
  have s := List.pairwise_mergeSort tr to l.toArray.toList
  refine s.imp ?_
  intro a b h
  have : lt b a = false := by simpa [ltOf, lt] using h
  exact this
theorem enters33 : ∀ args w, (callFunc 33 args).run Tryz.prog w = .ok (.enter 33 args) w := enters_of Tryz.func33 (by kernel_rfl) rfl
theorem sortFunc_own (w : World) (base : Nat) (v : Value) (l : List T) (hown : OwnT w base v l) (hm : l.length ≤ 5000) (hbase : base ≤ w.heap.size) :
    Calls Tryz.prog 56 #[v, .func (.func 33) #[] #[]] w fun e w' => e = .returned (.tuple #[]) ∧ Out w' (.returned v) (srt l) ∧ Below base w w' := by
  by_cases h0 : l = []
  · subst h0
    obtain ⟨p, cap, rfl, hc, _, hp⟩ := hown.slice
    have K := AnyF.slices_SortFunc_none sortL p cap (.func (.func 33) #[] #[]) w
    refine K.mono fun e w' ⟨he, hw⟩ => ?_
    subst hw
    exact ⟨he, ⟨p, cap, rfl, by simp [srt], .inl rfl⟩, Below.refl _ _⟩
  · have hl : 0 < l.length := List.length_pos_iff.2 h0
    rcases hown.2 with ⟨rfl, hz⟩ | ⟨g, cap, cur, rfl, hb, hg, hc, hcm, hs, ht⟩
    · omega
    have hown' : w.ownsRow base 37 3 (.slice (some ⟨g, 0, none⟩) l.length cap) l.length (encs l) := hown
    have hrow : Row w g 0 l := by
      obtain ⟨p, cap', e, _, _, hp⟩ := hown.slice
      obtain ⟨b, off, e2, hr⟩ := hp.row hl
      rw [e2] at e
      simp at e
      obtain ⟨⟨rfl, rfl⟩, _⟩ := e
      exact hr
    have hlt : g < w.heap.size := (Array.getElem?_eq_some_iff.1 hg).1
    have hH : Go.Sort.HoldsK enc 3 w g 0 l.toArray := holds_of_row hrow fun j => hown'.frozenAt _
    have K := AnyQ.slices_SortFunc_total sortL 3 Tryz.isAgg37 Tryz.sizeOf37 enc (fun _ => rfl) (fun x u hu => by simp [enc] at hu; rcases hu with rfl | rfl | rfl <;> rfl) cf swo 33 #[] g 0 cap l.toArray w enters33
      (fun m os dk _ x y => compare_grow x y _) hH hlt (by simp; omega) (fun x y h k => lt_total h k)
    rw [mergeSort_srt] at K
    have K' : Calls Tryz.prog 56 #[.slice (some ⟨g, 0, none⟩) l.length cap, .func (.func 33) #[] #[]] w fun e w' => e = .returned (.tuple #[]) ∧ ∃ n os, w' = sortWorldK enc 3 w g 0 n (srt l).toArray os := by
      have e : l.toArray.size = l.length := by simp
      rw [e] at K
      exact K
    refine K'.mono fun e w' ⟨he, n, os, hw⟩ => ?_
    subst hw
    refine ⟨he, ⟨some ⟨g, 0, none⟩, cap, by rw [srt_len], by rw [srt_len]; exact hc, .inr ⟨g, 0, rfl, ?_⟩⟩, ?_⟩
    · exact row_of_holds (holdsK_sortWorldK_c enc 3 w g 0 l.toArray (srt l).toArray n os hH hlt (by simp [srt_len]))
    · have := sort_below (w := w) (base := base) (blk := g) (off := 0) (n := n) (d := (srt l).toArray) (os := os) hb
      rwa [Nat.min_eq_left hbase] at this
theorem Out.new {w w' : World} {v : Value} {l : List T} (h : Out w' (.returned v) l) (hn : ∀ k, v.ownBlock = some k → w.heap.size ≤ k) : OutN w w' (.returned v) l := by
  obtain ⟨p, cap, e, hc, hl⟩ := h
  refine ⟨p, cap, e, hc, ?_⟩
  injection e with e
  subst e
  rcases hl with rfl | ⟨b, off, rfl, hr⟩
  · exact .inl rfl
  · exact .inr ⟨b, off, rfl, fun e => Nat.lt_irrefl _ (Nat.lt_of_lt_of_le e (hn b rfl)), row_rowG hr⟩
theorem sort_any (p : Option Addr) (n cap : Nat) (l : List T) (w : World) (hn : l.length = n) (hm : n ≤ 5000) (hl : Has w p l) :
    Calls Tryz.prog 34 #[.slice p n cap] w fun e w' => OutN w w' e (srt l) ∧ Bel w w' := by
  have K1 := Lib.hid (fresh_own p n cap l w hn hm hl)
  have HN := Lib.hid hn
  clear hl hn
  go_enter Tryz.func34, Tryz.ntmps34
  go_wp2_with fail
  with_reducible refine (K1.out).mono ?_
  rintro e w1 ⟨v, rfl, hown, hb, hnil⟩
  have K2 := Lib.hid (sortFunc_own w1 w.heap.size v l hown (by have := HN.out; omega) hb.size)
  have HB := Lib.hid hb
  have HV : Hid (∀ k, v.ownBlock = some k → w.heap.size ≤ k) := Lib.hid (fun k hk => (hown.lt k hk).1)
  clear hown hnil hb
  go_wp2_with fail
  with_reducible refine (K2.out).mono ?_
  rintro e w2 ⟨rfl, hout, hb2⟩
  have HO : Hid (OutN w w2 (.returned v) (srt l)) := Lib.hid (hout.new HV.out)
  have HB2 : Hid (Bel w w2) := Lib.hid (bel_of (Below.trans HB.out.below hb2))
  clear hout hb2
  go_wp2
  go_ret
  exact ⟨HO.out, HB2.out⟩
end Go.Proofs.YtllohpojajijjaaGreatDoor
