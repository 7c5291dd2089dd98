/-
  What each act does to the list, and to the ring and the row that are that list: plain mathematics.
-/
import Derived.Test.YtmkpnojojkgmiaaQue
namespace Go.Proofs.Ytmkpnojojkgmiaa
/-- Those at other places. -/
def wo (l : List T) (k : Int) : List T := l.filter fun t => !decide (t.p = k)
def canE (P : Nat) (l : List T) (k : Int) : Int := if hp P k = true then (if (fnd l k).isSome = true then 0 else 5) else 1
def insE (P : Nat) (l : List T) (t : T) : Int := if hp P t.p = true then (if (fnd l t.p).isSome = true then 4 else 0) else 1
def insL (P : Nat) (l : List T) (t : T) : List T := if insE P l t = 0 then put l t else l
def movL (P : Nat) (l : List T) (t : T) : List T := if canE P l t.p = 0 then put (wo l t.p) t else l
theorem wo_none {l : List T} {k : Int} (h : fnd l k = none) : wo l k = l := by
  unfold wo
  rw [List.filter_eq_self]
  intro t ht
  simpa using fnd_none h t ht
theorem fnd_wo (l : List T) (k : Int) : fnd (wo l k) k = none := by
  unfold fnd wo
  rw [List.find?_eq_none]
  intro t ht
  simpa using (List.mem_filter.1 ht).2
theorem wo_so {l : List T} (h : So l) (k : Int) : So (wo l k) := h.filter _
theorem Rep.one_list {P : Nat} {g : Rg} {ls : Ls} (h : Rep P 1 g ls) {m : List Nat} (e : ls 0 = m) : Rep P 1 g (fun _ => m) := by
  have z : ∀ t, t < 1 → ls t = m := fun t ht => by obtain rfl : t = 0 := by omega
                                                   exact e
  refine ⟨fun t ht => ?_, fun t ht => ?_, fun t ht i hi => ?_, fun t ht i hi => ?_, h.le, fun t ht => ?_, fun i hi hn => ?_⟩
  · rw [← z t ht]; exact h.fw t ht
  · rw [← z t ht]; exact h.bw t ht
  · exact h.pl t ht i (by rw [z t ht]; exact hi)
  · exact h.li t ht i (by rw [z t ht]; exact hi)
  · rw [← z t ht]; exact h.nd t ht
  · exact h.al i hi (fun t ht => by rw [z t ht]; exact hn t ht)
theorem pls_wo {P : Nat} {g : Rg} {r : Nat → T} {l : List T} (h : Is P g r l) (k : Nat) : pls (wo l k) = (pls l).filter fun i => !decide (i = k) := by
  unfold pls wo
  rw [List.filter_map]
  congr 1
  apply List.filter_congr
  intro t ht
  have := (h.tm t ht).1
  simp only [Function.comp]
  congr 1
  simp only [decide_eq_decide]
  omega
theorem filter_mid {x y : List Nat} {k : Nat} (h : (x ++ k :: y).Nodup) : (x ++ k :: y).filter (fun i => !decide (i = k)) = x ++ y := by
  have n2 := List.nodup_append.1 h
  have n3 := List.nodup_cons.1 n2.2.1
  have e1 : x.filter (fun i => !decide (i = k)) = x := by
    rw [List.filter_eq_self]
    intro i hi
    simpa using n2.2.2 i hi k (by simp)
  have e2 : y.filter (fun i => !decide (i = k)) = y := by
    rw [List.filter_eq_self]
    intro i hi
    simp
    exact fun e => n3.1 (by rw [← e]; exact hi)
  rw [List.filter_append, List.filter_cons, e1, e2]
  simp
theorem Is.drop {P : Nat} {g : Rg} {r : Nat → T} {l : List T} (h : Is P g r l) {k : Nat} {x y : List Nat} (hl : pls l = x ++ k :: y) (z : T) :
    Is P (dropG g k (lst (P + 0) x) (fst (P + 0) y)) (upT r k z) (wo l k) := by
  have hr := h.rep.drop (t := 0) (p := k) (by omega) hl
  have e : pls (wo l k) = x ++ y := by
    rw [pls_wo h, hl]
    refine filter_mid ?_
    rw [← hl]
    exact h.nodup
  refine ⟨?_, fun t ht => ?_, wo_so h.so _⟩
  · refine hr.one_list ?_
    rw [upd_same, e]
  · obtain ⟨h1, h2⟩ := List.mem_filter.1 ht
    obtain ⟨a1, a2, a3⟩ := h.tm t h1
    refine ⟨a1, a2, ?_⟩
    have hne : ¬ pl t = k := fun e => by
      simp at h2
      exact h2 (by rw [a1, e])
    unfold upT
    rw [if_neg hne]
    exact a3
theorem Is.put {P : Nat} {g : Rg} {r : Nat → T} {l : List T} (h : Is P g r l) {k : Nat} {t : T} (hk : k < P) (ht : t.p = k) (hf : fnd l k = none) :
    Is P (putG g k (lst (P + 0) (pls (l.take (cnt l t)))) (fst (P + 0) (pls (l.drop (cnt l t))))) (upT r k t) (Ytmkpnojojkgmiaa.put l t) := by
  have hm := (h.out hk hf).1
  have hl : pls l = pls (l.take (cnt l t)) ++ pls (l.drop (cnt l t)) := by unfold pls; rw [← List.map_append, List.take_append_drop]
  have hr := h.rep.put (t := 0) (p := k) (by omega) hk (fun _ _ => hm) hl
  have ek : pl t = k := by unfold pl; rw [ht]; simp
  refine ⟨?_, fun u hu => ?_, put_so h.so t⟩
  · refine hr.one_list ?_
    rw [upd_same]
    unfold Ytmkpnojojkgmiaa.put pls
    rw [List.map_append, List.map_cons, ek]
  · have hu := (put_perm l t).subset hu
    rcases List.mem_cons.1 hu with rfl | hu
    · refine ⟨by rw [ht, ek], by rw [ek]; exact hk, ?_⟩
      unfold upT
      rw [if_pos ek]
    · obtain ⟨a1, a2, a3⟩ := h.tm u hu
      refine ⟨a1, a2, ?_⟩
      have hne : ¬ pl u = k := fun e => hm (by rw [← e]; exact List.mem_map.2 ⟨u, hu, rfl⟩)
      unfold upT
      rw [if_neg hne]
      exact a3
theorem Is.split {P : Nat} {g : Rg} {r : Nat → T} {l : List T} (h : Is P g r l) {k : Nat} {t : T} (hf : fnd l k = some t) : ∃ x y, pls l = x ++ k :: y := List.append_of_mem (h.inn hf).2.2.1
/-- The row's other places may be anything. -/
theorem Is.row {P : Nat} {g : Rg} {r r' : Nat → T} {l : List T} (h : Is P g r l) (e : ∀ k ∈ pls l, r' k = r k) : Is P g r' l :=
  ⟨h.rep, fun t ht => ⟨(h.tm t ht).1, (h.tm t ht).2.1, by rw [e _ (List.mem_map.2 ⟨t, ht, rfl⟩)]; exact (h.tm t ht).2.2⟩, h.so⟩
end Go.Proofs.Ytmkpnojojkgmiaa
