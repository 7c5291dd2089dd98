/-
  How a pairing heap lies in memory: each node in a block of its own, that names the first below it, the one beside it and the one back of it.
-/
import Derived.Test.YtdlfppdekllloaaPmath
import Derived.Test.YtdlfppdekllloaaCmp
set_option linter.unusedVariables false
set_option linter.unusedSimpArgs false
namespace Go.Proofs.Ytdlfppdekllloaa
open Go.RowKit
/-- A pointer to a node. -/
def ptv : Option Nat → Value
  | none => .pointer none
  | some a => .pointer (some ⟨a, 0, none⟩)
/-- A node's block. -/
abbrev nd (t : T) (f b k : Value) : Obj := .cells #[.int .u64 t.a, .int .u64 t.s, .int .i64 t.p, f, b, k] 92 (0, 0)
/-- A tree lies in memory; k is back of its top. -/
def Is (w : World) : Option Nat → Tr → Prop
  | _, .nil => True
  | k, .node a t l r => w.heap[a]? = some (nd t (ptv l.rt) (ptv r.rt) (ptv k)) ∧ Is w (some a) l ∧ Is w (some a) r
/-- What is about a hole lies in memory; h is in the hole. -/
def IsC (w : World) : List Fr → Option Nat → Prop
  | [], _ => True
  | f :: c, h => w.heap[f.a]? = some (nd f.t (ptv (if f.d = true then h else f.o.rt)) (ptv (if f.d = true then f.o.rt else h)) (ptv (bk c))) ∧ Is w (some f.a) f.o ∧ IsC w c (some f.a)
theorem is_plug (w : World) : ∀ (c : List Fr) (x : Tr), Is w none (plug c x) ↔ IsC w c x.rt ∧ Is w (bk c) x
  | [], x => by simp [plug, IsC, bk]
  | ⟨true, a, t, o⟩ :: c, x => by
    have ih := is_plug w c (.node a t x o)
    rw [plug, ih]
    simp only [IsC, Is, bk, Tr.rt, if_true]
    exact ⟨fun ⟨h1, h2, h3, h4⟩ => ⟨⟨h2, h4, h1⟩, h3⟩, fun ⟨⟨h2, h4, h1⟩, h3⟩ => ⟨h1, h2, h3, h4⟩⟩
  | ⟨false, a, t, o⟩ :: c, x => by
    have ih := is_plug w c (.node a t o x)
    rw [plug, ih]
    simp only [IsC, Is, bk, Tr.rt, Bool.false_eq_true, if_false]
    exact ⟨fun ⟨h1, h2, h3, h4⟩ => ⟨⟨h2, h3, h1⟩, h4⟩, fun ⟨⟨h2, h3, h1⟩, h4⟩ => ⟨h1, h2, h3, h4⟩⟩
theorem Is.lt {w : World} : ∀ {x : Tr} {k : Option Nat}, Is w k x → ∀ a ∈ x.ads, a < w.heap.size
  | .nil, _, _, a, h => by simp [Tr.ads, Tr.ps] at h
  | .node b t l r, k, h, a, m => by
    rw [Tr.ads_node] at m
    rcases List.mem_cons.1 m with rfl | m
    · exact (Array.getElem?_eq_some_iff.1 h.1).1
    · rcases List.mem_append.1 m with m | m
      · exact Is.lt h.2.1 a m
      · exact Is.lt h.2.2 a m
theorem Is.ty {w : World} : ∀ {x : Tr} {k : Option Nat}, Is w k x → ∀ a ∈ x.ads, ∃ c, w.heap[a]? = some (.cells c 92 (0, 0))
  | .nil, _, _, a, h => by simp [Tr.ads, Tr.ps] at h
  | .node b t l r, k, h, a, m => by
    rw [Tr.ads_node] at m
    rcases List.mem_cons.1 m with rfl | m
    · exact ⟨_, h.1⟩
    · rcases List.mem_append.1 m with m | m
      · exact Is.ty h.2.1 a m
      · exact Is.ty h.2.2 a m
theorem Is.val {w : World} : ∀ {x : Tr} {k : Option Nat}, Is w k x → ∀ a t, (a, t) ∈ x.ps → ∃ f b k', w.heap[a]? = some (nd t f b k')
  | .nil, _, _, a, t, h => by simp [Tr.ps] at h
  | .node b s l r, k, h, a, t, m => by
    simp only [Tr.ps, List.mem_cons, List.mem_append] at m
    rcases m with e | m | m
    · injection e with e1 e2
      subst e1 e2
      exact ⟨_, _, _, h.1⟩
    · exact Is.val h.2.1 a t m
    · exact Is.val h.2.2 a t m
theorem Is.keep {w w' : World} : ∀ {x : Tr} {k : Option Nat}, Is w k x → (∀ a ∈ x.ads, w'.heap[a]? = w.heap[a]?) → Is w' k x
  | .nil, _, _, _ => trivial
  | .node b t l r, k, h, hk => by
    rw [Tr.ads_node] at hk
    exact ⟨(hk b (by simp)).trans h.1, Is.keep h.2.1 (fun a m => hk a (by simp [m])), Is.keep h.2.2 (fun a m => hk a (by simp [m]))⟩
theorem Is.off {g : Nat → Prop} {w w' : World} {x : Tr} {k : Option Nat} (h : Is w k x) (o : Off g w w') (hg : ∀ a ∈ x.ads, ¬ g a) : Is w' k x :=
  h.keep (fun a m => o.block a (h.lt a m) (hg a m))
theorem Is.bel {w w' : World} {x : Tr} {k : Option Nat} (h : Is w k x) (o : Bel w w') : Is w' k x := h.off o (fun _ _ e => e)
theorem IsC.keep {w w' : World} : ∀ {c : List Fr} {h : Option Nat}, IsC w c h → (∀ z ∈ psC c, w'.heap[z.1]? = w.heap[z.1]?) → IsC w' c h
  | [], _, _, _ => trivial
  | f :: c, h, hc, hk => by
    have e : psC (f :: c) = (f.a, f.t) :: (f.o.ps ++ psC c) := rfl
    rw [e] at hk
    refine ⟨(hk (f.a, f.t) (List.mem_cons_self ..)).trans hc.1, Is.keep hc.2.1 (fun a m => ?_), IsC.keep hc.2.2 (fun z m => hk z (by simp [m]))⟩
    unfold Tr.ads at m
    obtain ⟨z, hz, rfl⟩ := List.mem_map.1 m
    exact hk z (by simp [hz])
theorem IsC.lt {w : World} : ∀ {c : List Fr} {h : Option Nat}, IsC w c h → ∀ z ∈ psC c, z.1 < w.heap.size
  | [], _, _, z, m => by simp [psC] at m
  | f :: c, h, hc, z, m => by
    have e : psC (f :: c) = (f.a, f.t) :: (f.o.ps ++ psC c) := rfl
    rw [e] at m
    rcases List.mem_cons.1 m with rfl | m
    · exact (Array.getElem?_eq_some_iff.1 hc.1).1
    · rcases List.mem_append.1 m with m | m
      · exact Is.lt hc.2.1 z.1 (List.mem_map.2 ⟨z, m, rfl⟩)
      · exact IsC.lt hc.2.2 z m
/-- The one back of a tree's top is another one. -/
theorem Is.back {w w' : World} {x : Tr} {k k' : Option Nat} (h : Is w k x) (hk : ∀ a ∈ x.ads, x.rt = some a ∨ w'.heap[a]? = w.heap[a]?) (hn : x.ads.Nodup) (ht : ∀ a t l r, x = .node a t l r → w'.heap[a]? = some (nd t (ptv l.rt) (ptv r.rt) (ptv k'))) : Is w' k' x := by
  cases x with
  | nil => trivial
  | node a t l r =>
    rw [Tr.ads_node] at hk hn
    obtain ⟨n1, n2⟩ := List.nodup_cons.1 hn
    refine ⟨ht a t l r rfl, Is.keep h.2.1 (fun b m => ?_), Is.keep h.2.2 (fun b m => ?_)⟩
    · rcases hk b (by simp [m]) with e | e
      · have e : a = b := by injection e
        subst e
        exact absurd (List.mem_append.2 (.inl m)) n1
      · exact e
    · rcases hk b (by simp [m]) with e | e
      · have e : a = b := by injection e
        subst e
        exact absurd (List.mem_append.2 (.inr m)) n1
      · exact e
theorem nd_cells {w : World} {a : Nat} {t : T} {f b k : Value} (h : w.heap[a]? = some (nd t f b k)) :
    (w.cell? ⟨a, 0, none⟩ = some (.int .u64 t.a) ∧ w.cell? ⟨a, 1, none⟩ = some (.int .u64 t.s) ∧ w.cell? ⟨a, 2, none⟩ = some (.int .i64 t.p) ∧ w.cell? ⟨a, 3, none⟩ = some f ∧ w.cell? ⟨a, 4, none⟩ = some b ∧ w.cell? ⟨a, 5, none⟩ = some k) ∧
    (w.frozen? ⟨a, 3, none⟩ = false ∧ w.frozen? ⟨a, 4, none⟩ = false ∧ w.frozen? ⟨a, 5, none⟩ = false) := by
  refine ⟨⟨?_, ?_, ?_, ?_, ?_, ?_⟩, frozen_of_row w a _ _ 92 h, frozen_of_row w a _ _ 92 h, frozen_of_row w a _ _ 92 h⟩ <;> (rw [cell_of_row w a _ _ 92 (0, 0) h]; rfl)
theorem nd3 {w : World} {a : Nat} {t : T} {f b k : Value} (h : w.heap[a]? = some (nd t f b k)) (v : Value) : (w.setCell ⟨a, 3, none⟩ v).heap[a]? = some (nd t v b k) := heap_setCell_same w a 3 _ 92 v h
theorem nd4 {w : World} {a : Nat} {t : T} {f b k : Value} (h : w.heap[a]? = some (nd t f b k)) (v : Value) : (w.setCell ⟨a, 4, none⟩ v).heap[a]? = some (nd t f v k) := heap_setCell_same w a 4 _ 92 v h
theorem nd5 {w : World} {a : Nat} {t : T} {f b k : Value} (h : w.heap[a]? = some (nd t f b k)) (v : Value) : (w.setCell ⟨a, 5, none⟩ v).heap[a]? = some (nd t f b v) := heap_setCell_same w a 5 _ 92 v h
theorem set_other {w : World} {a b j : Nat} {o : Obj} (h : w.heap[a]? = some o) (hne : ¬ a = b) (v : Value) : (w.setCell ⟨b, j, none⟩ v).heap[a]? = some o :=
  ((Off.setCell (Off.refl (fun k => k = b) w) (p := ⟨b, j, none⟩) (.inl rfl) v).block a (Array.getElem?_eq_some_iff.1 h).1 hne).trans h
theorem off_set {g : Nat → Prop} {w w' : World} (h : Off g w w') {b j : Nat} (hb : g b) (v : Value) : Off g w (w'.setCell ⟨b, j, none⟩ v) := Off.setCell h (p := ⟨b, j, none⟩) (.inl hb) v
/-- One has left: what stood beside it stands in its stead, and it stands alone. -/
theorem left {w w' : World} {f : Fr} {c : List Fr} {a : Nat} {t : T} {l r : Tr} (h : Is w none (plug (f :: c) (.node a t l r))) (hn : (plug (f :: c) (.node a t l r)).ads.Nodup)
    (o : Off (fun k => k = a ∨ k = f.a ∨ r.rt = some k) w w') (ha : w'.heap[a]? = some (nd t (ptv l.rt) (ptv none) (ptv none)))
    (hp : w'.heap[f.a]? = some (nd f.t (ptv (if f.d = true then r.rt else f.o.rt)) (ptv (if f.d = true then f.o.rt else r.rt)) (ptv (bk c))))
    (hr : ∀ b s m q, r = .node b s m q → w'.heap[b]? = some (nd s (ptv m.rt) (ptv q.rt) (ptv (some f.a)))) :
    Is w' none (plug (f :: c) r) ∧ Is w' none (.node a t l .nil) := by
  obtain ⟨h1, h2⟩ := (is_plug w (f :: c) (.node a t l r)).1 h
  have hn2 := (plug_ads (f :: c) (.node a t l r)).nodup_iff.1 hn
  have e : psC (f :: c) = (f.a, f.t) :: (f.o.ps ++ psC c) := rfl
  rw [Tr.ads_node, e] at hn2
  simp only [List.map_cons, List.map_append, List.cons_append, List.nodup_cons, List.nodup_append, List.mem_append, List.mem_cons, not_or] at hn2
  obtain ⟨⟨⟨n1, n2⟩, n3, n4, n5⟩, ⟨n6, n7, n8⟩, ⟨⟨n9, n10⟩, n11, n12, n13⟩, n14⟩ := hn2
  have hrm : ∀ b, r.rt = some b → b ∈ r.ads := fun b e => by
    cases r with
    | nil => cases e
    | node b' _ _ _ => injection e with e; subst e; rw [Tr.ads_node]; simp
  obtain ⟨i1, i2, i3⟩ := h1
  obtain ⟨j1, j2, j3⟩ := h2
  refine ⟨(is_plug w' (f :: c) r).2 ⟨⟨hp, ?_, ?_⟩, ?_⟩, ⟨ha, ?_, trivial⟩⟩
  · refine i2.off o (fun b m e => ?_)
    rcases e with rfl | rfl | e
    · exact n4 m
    · exact n9 m
    · exact n14 b (.inr (hrm b e)) b (.inr (.inl m)) rfl
  · refine i3.keep (fun z m => ?_)
    have mz : z.1 ∈ (psC c).map (·.1) := List.mem_map.2 ⟨z, m, rfl⟩
    refine o.block _ ?_ (fun e => ?_)
    · exact i3.lt z m
    · rcases e with e | e | e
      · exact n5 (e ▸ mz)
      · exact n10 (e ▸ mz)
      · exact n14 _ (.inr (hrm _ e)) _ (.inr (.inr mz)) rfl
  · refine Is.back (k := some a) j3 (fun b m => ?_) n7 hr
    by_cases e : r.rt = some b
    · exact .inl e
    · refine .inr (o.block b (j3.lt b m) (fun e2 => ?_))
      rcases e2 with rfl | rfl | e2
      · exact n2 m
      · exact n14 _ (.inr m) _ (.inl rfl) rfl
      · exact e e2
  · refine j2.off o (fun b m e => ?_)
    rcases e with rfl | rfl | e
    · exact n1 m
    · exact n14 _ (.inl m) _ (.inl rfl) rfl
    · exact n8 b m b (hrm b e) rfl
end Go.Proofs.Ytdlfppdekllloaa
