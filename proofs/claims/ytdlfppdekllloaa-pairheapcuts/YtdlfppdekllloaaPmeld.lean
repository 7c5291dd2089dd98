/-
  Contracts of meets and of Meld.
-/
import Derived.Test.YtdlfppdekllloaaPdue
set_option linter.unusedVariables false
set_option linter.unusedSimpArgs false
namespace Go.Proofs.Ytdlfppdekllloaa
open Go.RowKit
/-- Is there a place of the one at which the other has one, too, from i on? -/
def mt (wh vh : Nat → Option Nat) (P : Nat) : Bool := (List.range P).any fun k => (vh k).isSome && (wh k).isSome
theorem mt_yes {wh vh : Nat → Option Nat} {P k : Nat} (hk : k < P) (h1 : (vh k).isSome = true) (h2 : (wh k).isSome = true) : mt wh vh P = true := by
  unfold mt
  rw [List.any_eq_true]
  exact ⟨k, by simpa using hk, by rw [h1, h2]; rfl⟩
theorem mt_no {wh vh : Nat → Option Nat} {P : Nat} (h : ∀ k, k < P → (vh k).isSome = true → (wh k).isSome = false) : mt wh vh P = false := by
  unfold mt
  rw [List.any_eq_false]
  intro k hk
  have hk : k < P := by simpa using hk
  intro e
  rw [Bool.and_eq_true] at e
  rw [h k hk e.1] at e
  cases e.2
set_option maxRecDepth 100000 in
set_option maxHeartbeats 2000000 in
theorem meets_any (f g : Nat → Prop) (Q S O V P : Nat) (tr ur : Tr) (wh vh : Nat → Option Nat) (w : World) (h : Hm f w Q S P tr wh) (k : Hm g w O V P ur vh) (hP : P ≤ 1024) :
    Calls Try.prog 36 #[pt Q, pt O] w fun e w' => e = .returned (.bool (mt wh vh P)) ∧ w = w' := by
  have H := Lib.hid h
  have K := Lib.hid k
  have c1 := h.head.1.2
  have d1 := k.head.1.2
  clear h k
  go_enter Try.func36, Try.ntmps36
  go_wp2
  go_loopw [12] (fun v12 wr => wr = w ∧ ∃ i : Nat, v12 = .int .i64 i ∧ i ≤ P ∧ ∀ j, j < i → (vh j).isSome = true → (wh j).isSome = false) (fun v _ => P - (intOf v).toNat)
  case atStart => exact ⟨rfl, 0, rfl, Nat.zero_le _, fun j hj => by omega⟩
  case round =>
    obtain ⟨rfl, i, rfl, hi, hno⟩ := hrel
    have HNO := Lib.hid hno
    clear hno
    by_cases hiP : i < P
    · have b1 : (i : Int) < (P : Int) := by omega
      have s1' := H.out.at hiP
      have s2' := K.out.at hiP
      cases ev : vh i with
      | none =>
        rw [ev] at s2'
        have s2 : wr.cell? ⟨V, i, none⟩ = some pn := s2'
        have HN : Hid (∀ j, j < i + 1 → (vh j).isSome = true → (wh j).isSome = false) := Lib.hid (fun j hj e => by
          by_cases ej : j = i
          · subst ej; rw [ev] at e; cases e
          · exact HNO.out j (by omega) e)
        clear s1' s2' ev
        go_wp2
        go_roundw
        case rel => exact ⟨trivial, i + 1, by go_num, by omega, HN.out⟩
        case measure => simp [intOf]; omega
      | some a =>
        rw [ev] at s2'
        have s2 : wr.cell? ⟨V, i, none⟩ = some (pt a) := s2'
        cases ew : wh i with
        | none =>
          rw [ew] at s1'
          have s1 : wr.cell? ⟨S, i, none⟩ = some pn := s1'
          have HN : Hid (∀ j, j < i + 1 → (vh j).isSome = true → (wh j).isSome = false) := Lib.hid (fun j hj e => by
            by_cases ej : j = i
            · subst ej; rw [ew]; rfl
            · exact HNO.out j (by omega) e)
          clear s1' s2' ev ew
          go_wp2
          go_roundw
          case rel => exact ⟨trivial, i + 1, by go_num, by omega, HN.out⟩
          case measure => simp [intOf]; omega
        | some b =>
          rw [ew] at s1'
          have s1 : wr.cell? ⟨S, i, none⟩ = some (pt b) := s1'
          have HE : Hid (mt wh vh P = true) := Lib.hid (mt_yes hiP (by rw [ev]; rfl) (by rw [ew]; rfl))
          clear s1' s2' ev ew
          go_wp2
          go_ret
          rw [HE.out]
          exact ⟨rfl, rfl⟩
    · have b1 : ¬ (i : Int) < (P : Int) := by omega
      obtain rfl : i = P := by omega
      have HE : Hid (mt wh vh i = false) := Lib.hid (mt_no HNO.out)
      go_wp2
      go_ret
      rw [HE.out]
      exact ⟨rfl, rfl⟩
/-- The nodes of both, for the first i places; and those that are left there. -/
def mg (wh vh : Nat → Option Nat) (i : Nat) : Nat → Option Nat := fun k => if k < i then (vh k).or (wh k) else wh k
def cl (vh : Nat → Option Nat) (i : Nat) : Nat → Option Nat := fun k => if k < i then none else vh k
theorem mg_zero (wh vh : Nat → Option Nat) : mg wh vh 0 = wh := by funext k; unfold mg; simp
theorem cl_zero (vh : Nat → Option Nat) : cl vh 0 = vh := by funext k; unfold cl; simp
theorem mg_some {wh vh : Nat → Option Nat} {i a : Nat} (h : vh i = some a) : upN (mg wh vh i) i (some a) = mg wh vh (i + 1) := by
  funext k
  unfold upN mg
  by_cases e : k = i
  · subst e; rw [if_pos rfl, if_pos (by omega), h]; rfl
  · rw [if_neg e]
    by_cases e2 : k < i
    · rw [if_pos e2, if_pos (by omega)]
    · rw [if_neg e2, if_neg (by omega)]
theorem cl_some {vh : Nat → Option Nat} {i : Nat} : upN (cl vh i) i none = cl vh (i + 1) := by
  funext k
  unfold upN cl
  by_cases e : k = i
  · subst e; rw [if_pos rfl, if_pos (by omega)]
  · rw [if_neg e]
    by_cases e2 : k < i
    · rw [if_pos e2, if_pos (by omega)]
    · rw [if_neg e2, if_neg (by omega)]
theorem mg_none {wh vh : Nat → Option Nat} {i : Nat} (h : vh i = none) : mg wh vh i = mg wh vh (i + 1) := by
  funext k
  unfold mg
  by_cases e : k = i
  · subst e; rw [if_neg (by omega), if_pos (by omega), h]; rfl
  · by_cases e2 : k < i
    · rw [if_pos e2, if_pos (by omega)]
    · rw [if_neg e2, if_neg (by omega)]
theorem cl_none {vh : Nat → Option Nat} {i : Nat} (h : vh i = none) : cl vh i = cl vh (i + 1) := by
  funext k
  unfold cl
  by_cases e : k = i
  · subst e; rw [if_neg (by omega), if_pos (by omega), h]
  · by_cases e2 : k < i
    · rw [if_pos e2, if_pos (by omega)]
    · rw [if_neg e2, if_neg (by omega)]
theorem cl_all (vh : Nat → Option Nat) (P : Nat) : encN P (cl vh P) = encN P (fun _ => none) := by
  unfold encN
  apply List.map_congr_left
  intro k hk
  have hk : k < P := by simpa using hk
  unfold cl
  rw [if_pos hk]
theorem Wn.both {P : Nat} {tr ur xr : Tr} {wh vh : Nat → Option Nat} (h : Wn P tr wh) (k : Wn P ur vh) (hm : ∀ i, i < P → (vh i).isSome = true → (wh i).isSome = false) (nd : (tr.ads ++ ur.ads).Nodup) (pe : xr.ps.Perm (tr.ps ++ ur.ps)) : Wn P xr (mg wh vh P) := by
  have pa : xr.ads.Perm (tr.ads ++ ur.ads) := by
    have := pe.map (fun z : Nat × T => z.1)
    rw [List.map_append] at this
    exact this
  refine ⟨pa.nodup_iff.2 nd, fun z hz => ?_, fun j hj a e => ?_⟩
  · rcases List.mem_append.1 (pe.subset hz) with m | m
    · obtain ⟨j, j1, j2, j3⟩ := h.at_ z m
      refine ⟨j, j1, j2, ?_⟩
      unfold mg
      rw [if_pos j2]
      cases ev : vh j with
      | none => exact j3
      | some b => have := hm j j2 (by rw [ev]; rfl); rw [j3] at this; cases this
    · obtain ⟨j, j1, j2, j3⟩ := k.at_ z m
      refine ⟨j, j1, j2, ?_⟩
      unfold mg
      rw [if_pos j2, j3]
      rfl
  · unfold mg at e
    rw [if_pos hj] at e
    cases ev : vh j with
    | none =>
      rw [ev] at e
      obtain ⟨t, t1, t2⟩ := h.no j hj a e
      exact ⟨t, pe.symm.subset (List.mem_append.2 (.inl t1)), t2⟩
    | some b =>
      rw [ev] at e
      have e : b = a := Option.some.inj e
      subst e
      obtain ⟨t, t1, t2⟩ := k.no j hj b ev
      exact ⟨t, pe.symm.subset (List.mem_append.2 (.inr t1)), t2⟩
/-- Two queues lie side by side. -/
structure Pr (f g : Nat → Prop) (w : World) (Q S O V P : Nat) (tr ur : Tr) (wh vh : Nat → Option Nat) : Prop where
  h : Hm f w Q S P tr wh
  k : Hm g w O V P ur vh
  hw : Wn P tr wh
  kw : Wn P ur vh
  hr : tr.Root
  kr : ur.Root
  ho : tr.Ho
  ko : ur.Ho
  dj : ∀ j, f j → ¬ g j
/-- In the loop. -/
structure Lp (w wr : World) (S V P : Nat) (wh vh : Nat → Option Nat) (i : Nat) : Prop where
  s : wr.heap[S]? = some (.cells (encN P (mg wh vh i)).toArray 69 (0, 0))
  v : wr.heap[V]? = some (.cells (encN P (cl vh i)).toArray 69 (0, 0))
  off : Off (fun k => k = S ∨ k = V) w wr
theorem Lp.step {w wr : World} {S V P : Nat} {wh vh : Nat → Option Nat} {i a : Nat} (h : Lp w wr S V P wh vh i) (hv : vh i = some a) (hne : ¬ S = V) : Lp w ((wr.setCell ⟨S, i, none⟩ (pt a)).setCell ⟨V, i, none⟩ pn).drew S V P wh vh (i + 1) := by
  have s1 := row_set h.s i (some a)
  rw [mg_some hv] at s1
  have v1 : (wr.setCell ⟨S, i, none⟩ (pt a)).heap[V]? = _ := set_other h.v (fun e => hne e.symm) _
  have v2 := row_set v1 i none
  rw [cl_some] at v2
  refine ⟨set_other s1 hne _, v2, ?_⟩
  exact (off_set (off_set h.off (.inl rfl) _) (.inr rfl) _).drew
/-- Behind the melding. -/
theorem Pr.fin {f g : Nat → Prop} {w wr V3 : World} {Q S O V P : Nat} {tr ur : Tr} {wh vh : Nat → Option Nat} (p : Pr f g w Q S O V P tr ur wh vh) (hP : P ≤ 1024) (hf : ∀ j, f j → j < w.heap.size) (hg : ∀ j, g j → j < w.heap.size) (hm : ∀ i, i < P → (vh i).isSome = true → (wh i).isSome = false) (lp : Lp w wr S V P wh vh P) (nd : (tr.ads ++ ur.ads).Nodup) (q : Option Addr) (hq : ptv (mel tr ur).rt = .pointer q)
    (hi : Is V3 none (mel tr ur)) (o : Off (fun k => k ∈ tr.ads ∨ k ∈ ur.ads) wr.drew V3) :
    (V3.cell? ⟨Q, 0, none⟩ = some (ptv tr.rt) ∧ V3.frozen? ⟨Q, 0, none⟩ = false) ∧ ((V3.setCell ⟨Q, 0, none⟩ (.pointer q)).cell? ⟨O, 0, none⟩ = some (ptv ur.rt) ∧ (V3.setCell ⟨Q, 0, none⟩ (.pointer q)).frozen? ⟨O, 0, none⟩ = false) ∧
    ∃ f' g' : Nat → Prop, (∀ j, f' j → f j ∨ g j) ∧ (∀ j, g' j → g j) ∧ (∀ j, f' j → ¬ g' j) ∧ Qu f' ((V3.setCell ⟨Q, 0, none⟩ (.pointer q)).setCell ⟨O, 0, none⟩ pn) Q P (srt (srt tr.ts ++ srt ur.ts)) ∧ Qu g' ((V3.setCell ⟨Q, 0, none⟩ (.pointer q)).setCell ⟨O, 0, none⟩ pn) O P [] ∧ Off (fun j => f j ∨ g j) w ((V3.setCell ⟨Q, 0, none⟩ (.pointer q)).setCell ⟨O, 0, none⟩ pn) := by
  obtain ⟨a1, a2⟩ := p.h.apart
  obtain ⟨c1, c2⟩ := p.k.apart
  have ne : ∀ i j, f i → g j → ¬ i = j := fun i j h1 h2 e => p.dj i h1 (e ▸ h2)
  have nQO := ne Q O p.h.fQ p.k.fQ
  have nQV := ne Q V p.h.fQ p.k.fS
  have nSO := ne S O p.h.fS p.k.fQ
  have nSV := ne S V p.h.fS p.k.fS
  have od : Off (fun k => k = S ∨ k = V) w wr.drew := lp.off.drew
  have noQ : ¬ (Q ∈ tr.ads ∨ Q ∈ ur.ads) := fun e => by rcases e with e | e; exact (a2 Q e).1 rfl; exact ne Q Q p.h.fQ (p.k.ft Q e) rfl
  have noS : ¬ (S ∈ tr.ads ∨ S ∈ ur.ads) := fun e => by rcases e with e | e; exact (a2 S e).2 rfl; exact ne S S p.h.fS (p.k.ft S e) rfl
  have noO : ¬ (O ∈ tr.ads ∨ O ∈ ur.ads) := fun e => by rcases e with e | e; exact ne O O (p.h.ft O e) p.k.fQ rfl; exact (c2 O e).1 rfl
  have noV : ¬ (V ∈ tr.ads ∨ V ∈ ur.ads) := fun e => by rcases e with e | e; exact ne V V (p.h.ft V e) p.k.fS rfl; exact (c2 V e).2 rfl
  have q0 : wr.drew.heap[Q]? = _ := (od.block Q p.h.ltQ (fun e => by rcases e with e | e; exact a1 e; exact nQV e)).trans p.h.hQ
  have o0 : wr.drew.heap[O]? = _ := (od.block O p.k.ltQ (fun e => by rcases e with e | e; exact nSO e.symm; exact c1 e)).trans p.k.hQ
  have q1 : V3.heap[Q]? = _ := (o.block Q (Array.getElem?_eq_some_iff.1 q0).1 noQ).trans q0
  have o1 : V3.heap[O]? = _ := (o.block O (Array.getElem?_eq_some_iff.1 o0).1 noO).trans o0
  have s1 : V3.heap[S]? = _ := (o.block S (Array.getElem?_eq_some_iff.1 lp.s).1 noS).trans lp.s
  have v1 : V3.heap[V]? = _ := (o.block V (Array.getElem?_eq_some_iff.1 lp.v).1 noV).trans lp.v
  have o2 : (V3.setCell ⟨Q, 0, none⟩ (.pointer q)).heap[O]? = _ := set_other o1 (fun e => nQO e.symm) _
  have oo : Off (fun j => j = Q ∨ j = O) V3 ((V3.setCell ⟨Q, 0, none⟩ (.pointer q)).setCell ⟨O, 0, none⟩ pn) := off_set (off_set (Off.refl _ _) (.inl rfl) _) (.inr rfl) _
  have pm := mel_ps p.hr p.kr
  have pma : (mel tr ur).ads.Perm (tr.ads ++ ur.ads) := by
    have := pm.map (fun z : Nat × T => z.1)
    rw [List.map_append] at this
    exact this
  have oall : Off (fun j => f j ∨ g j) w ((V3.setCell ⟨Q, 0, none⟩ (.pointer q)).setCell ⟨O, 0, none⟩ pn) := by
    refine Off.trans (Off.trans (od.mono fun i _ e => ?_) o (fun i e => ?_)) oo (fun i e => ?_)
    · rcases e with e | e
      · rw [e]; exact .inl p.h.fS
      · rw [e]; exact .inr p.k.fS
    · rcases e with e | e
      · exact .inl (.inl (p.h.ft i e))
      · exact .inl (.inr (p.k.ft i e))
    · rcases e with e | e
      · rw [e]; exact .inl (.inl p.h.fQ)
      · rw [e]; exact .inl (.inr p.k.fQ)
  refine ⟨⟨by rw [cell_of_row V3 Q _ _ 71 (0, 0) q1]; rfl, frozen_of_row V3 Q _ _ 71 q1⟩, ⟨by rw [cell_of_row _ O _ _ 71 (0, 0) o2]; rfl, frozen_of_row _ O _ _ 71 o2⟩,
    fun j => f j ∨ (g j ∧ ¬ j = O ∧ ¬ j = V), fun j => j = O ∨ j = V, fun j e => by rcases e with e | e; exact .inl e; exact .inr e.1, fun j e => by rcases e with e | e; (rw [e]; exact p.k.fQ); (rw [e]; exact p.k.fS), fun j e e2 => ?_, ⟨⟨S, mel tr ur, mg wh vh P, ⟨?_, ?_, ?_, .inl p.h.fQ, .inl p.h.fS, fun a ha => ?_⟩, p.hw.both p.kw hm nd pm, mel_root p.hr p.kr, mel_ho p.hr p.kr p.ho p.ko, ?_⟩, hP, fun j e => ?_⟩,
    ⟨⟨V, .nil, fun _ => none, ⟨?_, ?_, trivial, .inl rfl, .inr rfl, fun a ha => by simp [Tr.ads, Tr.ps] at ha⟩, ⟨by simp [Tr.ads, Tr.ps], fun z hz => by simp [Tr.ps] at hz, fun k _ a e => by cases e⟩, trivial, trivial, rfl⟩, hP, fun j e => ?_⟩, oall⟩
  · rcases e with e | ⟨_, e1, e3⟩
    · rcases e2 with e2 | e2
      · exact ne j O e p.k.fQ e2
      · exact ne j V e p.k.fS e2
    · rcases e2 with e2 | e2
      · exact e1 e2
      · exact e3 e2
  · have := top_set q1 (.pointer q)
    rw [hq]
    exact set_other this nQO _
  · exact (oo.block S (Array.getElem?_eq_some_iff.1 s1).1 (fun e => by rcases e with e | e; exact a1 e.symm; exact nSO e)).trans s1
  · refine hi.off oo (fun a ha e => ?_)
    rcases e with e | e
    · exact noQ (by rw [← e]; exact List.mem_append.1 (pma.subset ha))
    · exact noO (by rw [← e]; exact List.mem_append.1 (pma.subset ha))
  · rcases List.mem_append.1 (pma.subset ha) with m | m
    · exact .inl (p.h.ft a m)
    · exact .inr ⟨p.k.ft a m, (c2 a m).1, (c2 a m).2⟩
  · have e : (mel tr ur).ts.Perm (tr.ts ++ ur.ts) := by
      have := pm.map (fun z : Nat × T => z.2)
      rw [List.map_append] at this
      exact this
    exact srt_same (e.trans ((srt_perm tr.ts).symm.append (srt_perm ur.ts).symm))
  · refine Nat.lt_of_lt_of_le ?_ oall.size
    rcases e with e | e
    · exact hf j e
    · exact hg j e.1
  · exact top_set o2 pn
  · have := (oo.block V (Array.getElem?_eq_some_iff.1 v1).1 (fun e => by rcases e with e | e; exact nQV e.symm; exact c1 e.symm)).trans v1
    rw [cl_all] at this
    exact this
  · refine Nat.lt_of_lt_of_le ?_ oall.size
    rcases e with e | e
    · rw [e]; exact hg O p.k.fQ
    · rw [e]; exact hg V p.k.fS
end Go.Proofs.Ytdlfppdekllloaa
