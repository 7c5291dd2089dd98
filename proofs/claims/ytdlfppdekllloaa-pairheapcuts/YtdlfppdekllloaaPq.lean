/-
  A queue is a list of timers in order; contracts of find, pending, Len, All, Min and Get.
-/
import Derived.Test.YtdlfppdekllloaaPgath
import Derived.Test.YtdlfppdekllloaaSort
set_option linter.unusedVariables false
set_option linter.unusedSimpArgs false
namespace Go.Proofs.Ytdlfppdekllloaa
open Go.RowKit
theorem cells_ne {w : World} {A B : Nat} {x y : Array Value} {s t : TypeId} (h : w.heap[A]? = some (.cells x s (0, 0))) (k : w.heap[B]? = some (.cells y t (0, 0))) (hne : s ≠ t) : ¬ A = B := by
  intro e
  subst e
  rw [h] at k
  injection k with k
  injection k with _ k
  exact hne k
theorem own_off0 {g : Nat → Prop} {w w' : World} {base : Nat} {v : Value} {l : List T} (h : OwnT w base v l) (hb : Off g w w') (hf : ∀ k, v.ownBlock = some k → ¬ g k) : OwnT w' base v l := by
  refine ⟨h.1, ?_⟩
  rcases h.2 with hn | ⟨b, cap, cur, rfl, hbb, hgg, rest⟩
  · exact .inl hn
  · exact .inr ⟨b, cap, cur, rfl, hbb, (hb.block b (Array.getElem?_eq_some_iff.1 hgg).1 (hf b rfl)).trans hgg, rest⟩
/-- Of each place the node of its timer. -/
def encN (P : Nat) (wh : Nat → Option Nat) : List Value := (List.range P).map fun k => ptv (wh k)
def upN (wh : Nat → Option Nat) (k : Nat) (x : Option Nat) : Nat → Option Nat := fun j => if j = k then x else wh j
theorem encN_len (P : Nat) (wh : Nat → Option Nat) : (encN P wh).length = P := by unfold encN; simp
theorem encN_get (P : Nat) (wh : Nat → Option Nat) (k : Nat) (hk : k < P) : (encN P wh)[k]? = some (ptv (wh k)) := by unfold encN; simp [hk]
theorem encN_up (P : Nat) (wh : Nat → Option Nat) (k : Nat) (x : Option Nat) : (encN P wh).set k (ptv x) = encN P (upN wh k x) := by
  apply List.ext_getElem?
  intro m
  by_cases hm : m < P
  · rw [encN_get P _ m hm]
    by_cases e : m = k
    · subst e
      rw [List.getElem?_set_self (by rw [encN_len]; exact hm)]
      unfold upN
      rw [if_pos rfl]
    · rw [List.getElem?_set_ne (fun h => e h.symm), encN_get P wh m hm]
      unfold upN
      rw [if_neg e]
  · rw [List.getElem?_eq_none (by rw [List.length_set, encN_len]; omega), List.getElem?_eq_none (by rw [encN_len]; omega)]
/-- A queue lies at block Q, the nodes of its places at block S, its tree's nodes each in a block; all blocks are in f. -/
structure Hm (f : Nat → Prop) (w : World) (Q S P : Nat) (tr : Tr) (wh : Nat → Option Nat) : Prop where
  hQ : w.heap[Q]? = some (.cells #[ptv tr.rt, .slice (some ⟨S, 0, none⟩) P P] 71 (0, 0))
  hS : w.heap[S]? = some (.cells (encN P wh).toArray 69 (0, 0))
  is : Is w none tr
  fQ : f Q
  fS : f S
  ft : ∀ a ∈ tr.ads, f a
theorem Hm.ltQ {f : Nat → Prop} {w : World} {Q S P : Nat} {tr : Tr} {wh : Nat → Option Nat} (h : Hm f w Q S P tr wh) : Q < w.heap.size := (Array.getElem?_eq_some_iff.1 h.hQ).1
theorem Hm.ltS {f : Nat → Prop} {w : World} {Q S P : Nat} {tr : Tr} {wh : Nat → Option Nat} (h : Hm f w Q S P tr wh) : S < w.heap.size := (Array.getElem?_eq_some_iff.1 h.hS).1
theorem Hm.off {f g : Nat → Prop} {w w' : World} {Q S P : Nat} {tr : Tr} {wh : Nat → Option Nat} (h : Hm f w Q S P tr wh) (k : Off g w w') (hg : ∀ i, f i → ¬ g i) : Hm f w' Q S P tr wh :=
  ⟨(k.block Q h.ltQ (hg _ h.fQ)).trans h.hQ, (k.block S h.ltS (hg _ h.fS)).trans h.hS, h.is.off k (fun a m => hg a (h.ft a m)), h.fQ, h.fS, h.ft⟩
theorem Hm.bel {f : Nat → Prop} {w w' : World} {Q S P : Nat} {tr : Tr} {wh : Nat → Option Nat} (h : Hm f w Q S P tr wh) (k : Bel w w') : Hm f w' Q S P tr wh := h.off k (fun _ _ e => e)
theorem Hm.head {f : Nat → Prop} {w : World} {Q S P : Nat} {tr : Tr} {wh : Nat → Option Nat} (h : Hm f w Q S P tr wh) :
    (w.cell? ⟨Q, 0, none⟩ = some (ptv tr.rt) ∧ w.cell? ⟨Q, 1, none⟩ = some (.slice (some ⟨S, 0, none⟩) P P)) ∧ (w.frozen? ⟨Q, 0, none⟩ = false ∧ ∀ j, w.frozen? ⟨S, j, none⟩ = false) :=
  ⟨(by constructor <;> (rw [cell_of_row w Q _ _ 71 (0, 0) h.hQ]; rfl)), frozen_of_row w Q _ _ 71 h.hQ, fun j => frozen_of_row w S j _ 69 h.hS⟩
theorem Hm.at {f : Nat → Prop} {w : World} {Q S P : Nat} {tr : Tr} {wh : Nat → Option Nat} (h : Hm f w Q S P tr wh) {k : Nat} (hk : k < P) : w.cell? ⟨S, k, none⟩ = some (ptv (wh k)) := by
  rw [cell_of_row w S _ _ 69 (0, 0) h.hS, List.getElem?_toArray]
  exact encN_get P wh k hk
theorem Hm.apart {f : Nat → Prop} {w : World} {Q S P : Nat} {tr : Tr} {wh : Nat → Option Nat} (h : Hm f w Q S P tr wh) : ¬ Q = S ∧ ∀ a ∈ tr.ads, ¬ a = Q ∧ ¬ a = S := by
  refine ⟨cells_ne h.hQ h.hS (by decide), fun a ha => ?_⟩
  obtain ⟨c, hc⟩ := h.is.ty a ha
  exact ⟨cells_ne hc h.hQ (by decide), cells_ne hc h.hS (by decide)⟩
/-- Each node is that of its timer's place, and no other. -/
structure Wn (P : Nat) (tr : Tr) (wh : Nat → Option Nat) : Prop where
  nd : tr.ads.Nodup
  at_ : ∀ z ∈ tr.ps, ∃ k : Nat, z.2.p = k ∧ k < P ∧ wh k = some z.1
  no : ∀ k, k < P → ∀ a, wh k = some a → ∃ t : T, (a, t) ∈ tr.ps ∧ t.p = k
theorem Wn.inj {P : Nat} {tr : Tr} {wh : Nat → Option Nat} (h : Wn P tr wh) {x y : Nat × T} (hx : x ∈ tr.ps) (hy : y ∈ tr.ps) (e : x.2.p = y.2.p) : x.1 = y.1 := by
  obtain ⟨j, j1, _, j3⟩ := h.at_ x hx
  obtain ⟨k, k1, _, k3⟩ := h.at_ y hy
  have : j = k := by omega
  subst this
  rw [j3] at k3
  exact Option.some.inj k3
theorem ps_one (l : List (Nat × T)) (hn : (l.map (·.1)).Nodup) (x : Nat × T) (hx : x ∈ l) (y : Nat × T) (hy : y ∈ l) (e : x.1 = y.1) : x = y := by
  induction l with
  | nil => simp at hx
  | cons z r ih =>
    rw [List.map_cons, List.nodup_cons] at hn
    rcases List.mem_cons.1 hx with hx | hx
    · rcases List.mem_cons.1 hy with hy | hy
      · rw [hx, hy]
      · exact (hn.1 (by rw [← hx]; exact List.mem_map.2 ⟨y, hy, e.symm⟩)).elim
    · rcases List.mem_cons.1 hy with hy | hy
      · exact (hn.1 (by rw [← hy]; exact List.mem_map.2 ⟨x, hx, e⟩)).elim
      · exact ih hn.2 hx hy
theorem map_nodup {α β γ : Type} (f : α → β) (g : α → γ) : ∀ (l : List α), (l.map f).Nodup → (∀ x ∈ l, ∀ y ∈ l, g x = g y → f x = f y) → (l.map g).Nodup
  | [], _, _ => List.nodup_nil
  | z :: r, hn, h => by
    rw [List.map_cons, List.nodup_cons] at hn ⊢
    refine ⟨fun m => ?_, map_nodup f g r hn.2 (fun x hx y hy => h x (by simp [hx]) y (by simp [hy]))⟩
    obtain ⟨y, hy, e⟩ := List.mem_map.1 m
    exact hn.1 (List.mem_map.2 ⟨y, hy, h y (by simp [hy]) z (by simp) e⟩)
theorem Wn.places {P : Nat} {tr : Tr} {wh : Nat → Option Nat} (h : Wn P tr wh) : (tr.ts.map T.p).Nodup := by
  unfold Tr.ts
  rw [List.map_map]
  exact map_nodup (fun z : Nat × T => z.1) _ tr.ps h.nd (fun x hx y hy e => h.inj hx hy e)
theorem Wn.tsNodup {P : Nat} {tr : Tr} {wh : Nat → Option Nat} (h : Wn P tr wh) : tr.ts.Nodup := by
  have := map_nodup T.p id tr.ts h.places (fun x _ y _ e => by have e : x = y := e; rw [e])
  simpa using this
theorem nodup_len : ∀ (P : Nat) (l : List Nat), l.Nodup → (∀ i ∈ l, i < P) → l.length ≤ P
  | 0, l, _, h => by
    cases l with
    | nil => simp
    | cons a r => have := h a (by simp); omega
  | P + 1, l, hn, h => by
    have h1 := nodup_len P (l.erase P) (hn.erase P) (fun i hi => by
      have h2 := h i (List.mem_of_mem_erase hi)
      have h3 : i ≠ P := fun e => by
        subst e
        exact absurd hi (List.Nodup.not_mem_erase hn)
      omega)
    have h2 := List.length_erase (a := P) (l := l)
    rw [h2] at h1
    split at h1 <;> omega
theorem Wn.len {P : Nat} {tr : Tr} {wh : Nat → Option Nat} (h : Wn P tr wh) : tr.ps.length ≤ P := by
  have k := nodup_len P (tr.ps.map fun z => z.2.p.toNat) (map_nodup (fun z : Nat × T => z.1) _ tr.ps h.nd (fun x hx y hy e => by
    obtain ⟨j, j1, _, _⟩ := h.at_ x hx
    obtain ⟨k, k1, _, _⟩ := h.at_ y hy
    exact h.inj hx hy (by omega))) (fun i hi => by
    obtain ⟨z, hz, rfl⟩ := List.mem_map.1 hi
    obtain ⟨k, k1, k2, _⟩ := h.at_ z hz
    omega)
  simpa using k
/-- A queue is that list; its blocks are in f. -/
structure Qu (f : Nat → Prop) (w : World) (Q P : Nat) (l : List T) : Prop where
  ex : ∃ S tr wh, Hm f w Q S P tr wh ∧ Wn P tr wh ∧ tr.Root ∧ tr.Ho ∧ srt tr.ts = l
  hP : P ≤ 1024
  lt_ : ∀ k, f k → k < w.heap.size
theorem Qu.off {f g : Nat → Prop} {w w' : World} {Q P : Nat} {l : List T} (h : Qu f w Q P l) (k : Off g w w') (hg : ∀ i, f i → ¬ g i) : Qu f w' Q P l := by
  obtain ⟨⟨S, tr, wh, h1, h2⟩, h3, h4⟩ := h
  exact ⟨⟨S, tr, wh, h1.off k hg, h2⟩, h3, fun i e => Nat.lt_of_lt_of_le (h4 i e) k.size⟩
theorem Qu.bel {f : Nat → Prop} {w w' : World} {Q P : Nat} {l : List T} (h : Qu f w Q P l) (k : Bel w w') : Qu f w' Q P l := h.off k (fun _ _ e => e)
theorem Qu.so {f : Nat → Prop} {w : World} {Q P : Nat} {l : List T} (h : Qu f w Q P l) : So l := by
  obtain ⟨⟨_, tr, _, _, _, _, _, rfl⟩, _⟩ := h
  exact srt_so _
theorem Qu.len {f : Nat → Prop} {w : World} {Q P : Nat} {l : List T} (h : Qu f w Q P l) : l.length ≤ P := by
  obtain ⟨⟨_, tr, _, _, h2, _, _, rfl⟩, _⟩ := h
  have := h2.len
  rw [srt_len]
  unfold Tr.ts
  simpa using this
theorem Qu.ltQ {f : Nat → Prop} {w : World} {Q P : Nat} {l : List T} (h : Qu f w Q P l) : Q < w.heap.size := by
  obtain ⟨⟨_, _, _, h1, _⟩, _⟩ := h
  exact h1.ltQ
theorem mem_ts {tr : Tr} {t : T} : t ∈ tr.ts ↔ ∃ a, (a, t) ∈ tr.ps := by
  unfold Tr.ts
  constructor
  · intro h
    obtain ⟨⟨a, s⟩, hz, rfl⟩ := List.mem_map.1 h
    exact ⟨a, hz⟩
  · rintro ⟨a, h⟩
    exact List.mem_map.2 ⟨(a, t), h, rfl⟩
/-- Each place is of one timer at most. -/
theorem Qu.places {f : Nat → Prop} {w : World} {Q P : Nat} {l : List T} (h : Qu f w Q P l) : (l.map T.p).Nodup ∧ ∀ t ∈ l, hp P t.p = true := by
  obtain ⟨⟨_, tr, wh, _, h2, _, _, rfl⟩, _⟩ := h
  refine ⟨((srt_perm tr.ts).map T.p).nodup_iff.2 h2.places, fun t ht => ?_⟩
  obtain ⟨a, hz⟩ := mem_ts.1 ((srt_perm tr.ts).subset ht)
  obtain ⟨k, k1, k2, _⟩ := h2.at_ _ hz
  rw [show t.p = k from k1]
  exact hp_yes k2
theorem Wn.place {P : Nat} {tr : Tr} {wh : Nat → Option Nat} (hw : Wn P tr wh) {k : Nat} (hk : k < P) : (wh k = none ∧ fnd (srt tr.ts) k = none) ∨ ∃ (a : Nat) (t : T), (a, t) ∈ tr.ps ∧ wh k = some a ∧ t.p = k ∧ fnd (srt tr.ts) k = some t := by
  have key : ∀ t, fnd (srt tr.ts) k = some t → ∃ a, (a, t) ∈ tr.ps ∧ t.p = k ∧ wh k = some a := fun t e => by
    obtain ⟨m, q⟩ := fnd_some e
    obtain ⟨a, hz⟩ := mem_ts.1 ((srt_perm tr.ts).subset m)
    obtain ⟨j, j1, j2, j3⟩ := hw.at_ _ hz
    have : j = k := by have j1 : t.p = j := j1; omega
    subst this
    exact ⟨a, hz, q, j3⟩
  cases e : wh k with
  | none =>
    refine .inl ⟨rfl, ?_⟩
    cases e2 : fnd (srt tr.ts) k with
    | none => rfl
    | some t => obtain ⟨a, _, _, h3⟩ := key t e2; rw [e] at h3; cases h3
  | some a =>
    obtain ⟨t, h1, h2⟩ := hw.no k hk a e
    refine .inr ⟨a, t, h1, rfl, h2, ?_⟩
    cases e2 : fnd (srt tr.ts) k with
    | none => exact absurd h2 (fnd_none e2 t ((srt_perm tr.ts).symm.subset (mem_ts.2 ⟨a, h1⟩)))
    | some s =>
      obtain ⟨b, h3, h4, h5⟩ := key s e2
      rw [e] at h5
      have : a = b := Option.some.inj h5
      subst this
      have := ps_one tr.ps hw.nd _ h1 _ h3 rfl
      injection this with _ this
      rw [this]
theorem Wn.outside {P : Nat} {tr : Tr} {wh : Nat → Option Nat} (h : Wn P tr wh) {k : Int} (hk : hp P k = false) : fnd (srt tr.ts) k = none := by
  cases e : fnd (srt tr.ts) k with
  | none => rfl
  | some t =>
    obtain ⟨m, q⟩ := fnd_some e
    obtain ⟨a, hz⟩ := mem_ts.1 ((srt_perm tr.ts).subset m)
    obtain ⟨j, j1, j2, j3⟩ := h.at_ _ hz
    rw [show k = j by have j1 : t.p = j := j1; omega, hp_yes j2] at hk
    cases hk
/-- Without one, in whatever order. -/
theorem Wn.without {P : Nat} {tr : Tr} {wh : Nat → Option Nat} (h : Wn P tr wh) {t : T} {m : List T} (hp : tr.ts.Perm (t :: m)) : srt m = wo (srt tr.ts) t.p := by
  symm
  refine srt_of (wo_so (srt_so _) _) ?_
  unfold wo
  have p1 : ((srt tr.ts).filter fun x => !decide (x.p = t.p)).Perm ((t :: m).filter fun x => !decide (x.p = t.p)) := ((srt_perm _).trans hp).filter _
  refine p1.trans ?_
  rw [List.filter_cons]
  simp only [decide_true, Bool.not_true, Bool.false_eq_true, if_false]
  rw [List.filter_eq_self.2]
  intro x hx
  have nd2 : ((t :: m).map T.p).Nodup := (hp.map T.p).nodup_iff.1 h.places
  rw [List.map_cons, List.nodup_cons] at nd2
  have hne : x.p ≠ t.p := fun e => nd2.1 (by rw [← e]; exact List.mem_map.2 ⟨x, hx, rfl⟩)
  rw [decide_eq_false hne]
  rfl
set_option maxRecDepth 100000 in
theorem find_out (f : Nat → Prop) (Q S P : Nat) (tr : Tr) (wh : Nat → Option Nat) (k : Int) (w : World) (h : Hm f w Q S P tr wh) (hk : hp P k = false) :
    Calls Try.prog 51 #[pt Q, .int .i64 k] w fun e w' => e = .returned (.tuple #[pn, .int .i64 1]) ∧ w = w' := by
  have c2 := h.head.1.2
  by_cases h0 : k < 0
  · clear h hk
    go_enter Try.func51, Try.ntmps51
    go_wp2
    exact bodyPost_ret (v := .tuple #[pn, .int .i64 1]) (by simp [results, Try.results51, go_sem]) rfl ⟨rfl, rfl⟩
  · have h1 : (P : Int) ≤ k := by
      unfold hp at hk
      simp at hk
      omega
    clear h hk
    go_enter Try.func51, Try.ntmps51
    go_wp2
    exact bodyPost_ret (v := .tuple #[pn, .int .i64 1]) (by simp [results, Try.results51, go_sem]) rfl ⟨rfl, rfl⟩
set_option maxRecDepth 100000 in
theorem find_no' (f : Nat → Prop) (Q S P : Nat) (tr : Tr) (wh : Nat → Option Nat) (k : Nat) (w : World) (h : Hm f w Q S P tr wh) (hk : k < P) (hn : wh k = none) :
    Calls Try.prog 51 #[pt Q, .int .i64 k] w fun e w' => e = .returned (.tuple #[pn, .int .i64 5]) ∧ w = w' := by
  have c2 := h.head.1.2
  have s0 : w.cell? ⟨S, k, none⟩ = some pn := by
    have e := h.at hk
    rw [hn] at e
    exact e
  have h1 : ¬ (P : Int) ≤ k := by omega
  have h2 : (k : Int) < P := by omega
  clear h hn
  go_enter Try.func51, Try.ntmps51
  go_wp2
  exact bodyPost_ret (v := .tuple #[pn, .int .i64 5]) (by simp [results, Try.results51, go_sem]) rfl ⟨rfl, rfl⟩
set_option maxRecDepth 100000 in
theorem find_at (f : Nat → Prop) (Q S P : Nat) (tr : Tr) (wh : Nat → Option Nat) (k a : Nat) (w : World) (h : Hm f w Q S P tr wh) (hk : k < P) (hn : wh k = some a) :
    Calls Try.prog 51 #[pt Q, .int .i64 k] w fun e w' => e = .returned (.tuple #[pt a, .int .i64 0]) ∧ w = w' := by
  have c2 := h.head.1.2
  have s0 : w.cell? ⟨S, k, none⟩ = some (pt a) := by
    have e := h.at hk
    rw [hn] at e
    exact e
  have h1 : ¬ (P : Int) ≤ k := by omega
  have h2 : (k : Int) < P := by omega
  clear h hn
  go_enter Try.func51, Try.ntmps51
  go_wp2
  exact bodyPost_ret (v := .tuple #[pt a, .int .i64 0]) (by simp [results, Try.results51, go_sem]) rfl ⟨rfl, rfl⟩
end Go.Proofs.Ytdlfppdekllloaa
