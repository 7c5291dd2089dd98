/-
  A pairing heap as a binary tree (first, beside), and one amidst it: plain mathematics, no program.
-/
import Derived.Test.YtdlfppdekllloaaActs
set_option linter.unusedVariables false
set_option linter.unusedSimpArgs false
namespace Go.Proofs.Ytdlfppdekllloaa
/-- A tree: a node's number, its timer, the leftmost one below it, the one beside it. -/
inductive Tr where
  | nil : Tr
  | node (a : Nat) (t : T) (l r : Tr) : Tr
/-- Its nodes. -/
def Tr.ps : Tr → List (Nat × T)
  | .nil => []
  | .node a t l r => (a, t) :: (l.ps ++ r.ps)
def Tr.rt : Tr → Option Nat
  | .nil => none
  | .node a _ _ _ => some a
def Tr.ads (x : Tr) : List Nat := x.ps.map (·.1)
def Tr.ts (x : Tr) : List T := x.ps.map (·.2)
theorem Tr.ads_node (a : Nat) (t : T) (l r : Tr) : (Tr.node a t l r).ads = a :: (l.ads ++ r.ads) := by unfold Tr.ads; simp [Tr.ps]
theorem Tr.ts_node (a : Nat) (t : T) (l r : Tr) : (Tr.node a t l r).ts = t :: (l.ts ++ r.ts) := by unfold Tr.ts; simp [Tr.ps]
/-- None is before the one above it. -/
def Tr.Ho : Tr → Prop
  | .nil => True
  | .node _ t l r => (∀ x ∈ l.ps, lt x.2 t = false) ∧ l.Ho ∧ r.Ho
/-- Nothing stands beside it. -/
def Tr.Root : Tr → Prop
  | .nil => True
  | .node _ _ _ r => r = .nil
theorem Tr.Root.cases {x : Tr} (h : x.Root) : x = .nil ∨ ∃ a t l, x = .node a t l .nil := by
  cases x with
  | nil => exact .inl rfl
  | node a t l r => cases h; exact .inr ⟨a, t, l, rfl⟩
/-- Two trees, melded. -/
def mel : Tr → Tr → Tr
  | .nil, b => b
  | .node a t l r, .nil => .node a t l r
  | .node a t l _, .node b s m _ => if lt s t = true then .node b s (.node a t l m) .nil else .node a t (.node b s m l) .nil
theorem mel_nodes (a b : Nat) (t s : T) (l r m q : Tr) : mel (.node a t l r) (.node b s m q) = if lt s t = true then .node b s (.node a t l m) .nil else .node a t (.node b s m l) .nil := rfl
theorem mel_nil (b : Tr) : mel .nil b = b := rfl
theorem mel_nil' (a : Tr) : mel a .nil = a := by cases a <;> rfl
theorem mel_root {x y : Tr} (hx : x.Root) (hy : y.Root) : (mel x y).Root := by
  rcases hx.cases with rfl | ⟨a, t, l, rfl⟩
  · exact hy
  · rcases hy.cases with rfl | ⟨b, s, m, rfl⟩
    · rfl
    · rw [mel_nodes]; split <;> rfl
theorem mel_ps {x y : Tr} (hx : x.Root) (hy : y.Root) : (mel x y).ps.Perm (x.ps ++ y.ps) := by
  rcases hx.cases with rfl | ⟨a, t, l, rfl⟩
  · exact List.Perm.refl _
  · rcases hy.cases with rfl | ⟨b, s, m, rfl⟩
    · rw [mel_nil']; simp [Tr.ps]
    · rw [mel_nodes]
      split
      · simp only [Tr.ps, List.append_nil, List.cons_append]
        refine (List.Perm.swap _ _ _).trans (List.Perm.cons _ ?_)
        exact List.perm_middle.symm
      · simp only [Tr.ps, List.append_nil, List.cons_append]
        refine List.Perm.cons _ ?_
        refine (List.Perm.cons _ List.perm_append_comm).trans ?_
        exact List.perm_middle.symm
theorem mel_ho {x y : Tr} (hx : x.Root) (hy : y.Root) (kx : x.Ho) (ky : y.Ho) : (mel x y).Ho := by
  rcases hx.cases with rfl | ⟨a, t, l, rfl⟩
  · exact ky
  · rcases hy.cases with rfl | ⟨b, s, m, rfl⟩
    · rw [mel_nil']; exact kx
    · obtain ⟨x1, x2, _⟩ := kx
      obtain ⟨y1, y2, _⟩ := ky
      rw [mel_nodes]
      split
      · rename_i h
        refine ⟨fun z hz => ?_, ⟨x1, x2, y2⟩, trivial⟩
        simp only [Tr.ps, List.mem_cons, List.mem_append] at hz
        rcases hz with rfl | hz | hz
        · exact lt_asymm h
        · exact lt_ntrans (x1 z hz) (lt_asymm h)
        · exact y1 z hz
      · rename_i h
        have h : lt s t = false := by simpa using h
        refine ⟨fun z hz => ?_, ⟨y1, y2, x2⟩, trivial⟩
        simp only [Tr.ps, List.mem_cons, List.mem_append] at hz
        rcases hz with rfl | hz | hz
        · exact h
        · exact lt_ntrans (y1 z hz) h
        · exact x1 z hz
/-- The first of all is the top. -/
theorem top_head {a : Nat} {t : T} {l : Tr} (h : (Tr.node a t l .nil).Ho) : ∃ r, srt (Tr.node a t l .nil).ts = t :: r := by
  have e : (Tr.node a t l .nil).ts = t :: l.ts := by rw [Tr.ts_node]; simp [Tr.ts, Tr.ps]
  rw [e]
  have so := srt_so (t :: l.ts)
  have pe := srt_perm (t :: l.ts)
  cases e2 : srt (t :: l.ts) with
  | nil => rw [e2] at pe; exact absurd pe.length_eq (by simp)
  | cons y r =>
    rw [e2] at so pe
    have h1 : lt y t = false := by
      have my : y ∈ t :: l.ts := pe.subset (by simp)
      rcases List.mem_cons.1 my with rfl | my
      · exact lt_irrefl _
      · unfold Tr.ts at my
        obtain ⟨z, hz, rfl⟩ := List.mem_map.1 my
        exact h.1 z hz
    have h2 : lt t y = false := by
      have mt : t ∈ y :: r := pe.symm.subset (by simp)
      rcases List.mem_cons.1 mt with rfl | mt
      · exact lt_irrefl _
      · exact (List.pairwise_cons.1 so).1 t mt
    rw [lt_total h1 h2]
    exact ⟨r, rfl⟩
/-- One step down: is the hole below (or beside), of which one, and what stands at the other side. -/
structure Fr where
  d : Bool
  a : Nat
  t : T
  o : Tr
/-- A tree with a hole, the innermost step first. -/
def plug : List Fr → Tr → Tr
  | [], x => x
  | ⟨true, a, t, o⟩ :: c, x => plug c (.node a t x o)
  | ⟨false, a, t, o⟩ :: c, x => plug c (.node a t o x)
def psC : List Fr → List (Nat × T)
  | [] => []
  | f :: c => (f.a, f.t) :: (f.o.ps ++ psC c)
def bk : List Fr → Option Nat
  | [] => none
  | x :: _ => some x.a
theorem plug_ps : ∀ (c : List Fr) (x : Tr), (plug c x).ps.Perm (x.ps ++ psC c)
  | [], x => by simp [plug, psC]
  | ⟨true, a, t, o⟩ :: c, x => by
    refine (plug_ps c (.node a t x o)).trans ?_
    simp only [Tr.ps, psC, List.cons_append, List.append_assoc]
    exact List.perm_middle.symm
  | ⟨false, a, t, o⟩ :: c, x => by
    refine (plug_ps c (.node a t o x)).trans ?_
    simp only [Tr.ps, psC, List.cons_append, List.append_assoc]
    refine List.Perm.trans (List.Perm.cons _ ?_) List.perm_middle.symm
    rw [← List.append_assoc, ← List.append_assoc]
    exact List.perm_append_comm.append_right _
theorem find_aux : ∀ (x : Tr) (c : List Fr) (a : Nat) (t : T), (a, t) ∈ x.ps → ∃ c' l r, plug c x = plug c' (.node a t l r)
  | .nil, c, a, t, h => by simp [Tr.ps] at h
  | .node b s l r, c, a, t, h => by
    simp only [Tr.ps, List.mem_cons, List.mem_append] at h
    rcases h with h | h | h
    · injection h with h1 h2
      subst h1 h2
      exact ⟨c, l, r, rfl⟩
    · obtain ⟨c', l', r', e⟩ := find_aux l (⟨true, b, s, r⟩ :: c) a t h
      exact ⟨c', l', r', e⟩
    · obtain ⟨c', l', r', e⟩ := find_aux r (⟨false, b, s, l⟩ :: c) a t h
      exact ⟨c', l', r', e⟩
theorem find_in {x : Tr} {a : Nat} {t : T} (h : (a, t) ∈ x.ps) : ∃ c l r, x = plug c (.node a t l r) := find_aux x [] a t h
theorem plug_ho : ∀ (c : List Fr) (x : Tr), (plug c x).Ho → x.Ho ∧ ∀ y : Tr, y.Ho → (∀ z ∈ y.ps, z ∈ x.ps) → (plug c y).Ho
  | [], x, h => ⟨h, fun _ k _ => k⟩
  | ⟨true, a, t, o⟩ :: c, x, h => by
    obtain ⟨h1, h2⟩ := plug_ho c (.node a t x o) h
    refine ⟨h1.2.1, fun y k hs => ?_⟩
    refine h2 (.node a t y o) ⟨fun z hz => h1.1 z (hs z hz), k, h1.2.2⟩ (fun z hz => ?_)
    simp only [Tr.ps, List.mem_cons, List.mem_append] at hz ⊢
    rcases hz with e | e | e
    · exact .inl e
    · exact .inr (.inl (hs z e))
    · exact .inr (.inr e)
  | ⟨false, a, t, o⟩ :: c, x, h => by
    obtain ⟨h1, h2⟩ := plug_ho c (.node a t o x) h
    refine ⟨h1.2.2, fun y k hs => ?_⟩
    refine h2 (.node a t o y) ⟨h1.1, h1.2.1, k⟩ (fun z hz => ?_)
    simp only [Tr.ps, List.mem_cons, List.mem_append] at hz ⊢
    rcases hz with e | e | e
    · exact .inl e
    · exact .inr (.inl e)
    · exact .inr (.inr (hs z e))
/-- What is in the hole does not change the top. -/
theorem plug_rt : ∀ (c : List Fr) (f : Fr) (x y : Tr), (plug (f :: c) x).rt = (plug (f :: c) y).rt
  | [], ⟨true, a, t, o⟩, x, y => rfl
  | [], ⟨false, a, t, o⟩, x, y => rfl
  | g :: c, ⟨true, a, t, o⟩, x, y => plug_rt c g (.node a t x o) (.node a t y o)
  | g :: c, ⟨false, a, t, o⟩, x, y => plug_rt c g (.node a t o x) (.node a t o y)
theorem plug_top : ∀ (c : List Fr) (f : Fr) (x : Tr), ∃ a t, (a, t) ∈ psC (f :: c) ∧ (plug (f :: c) x).rt = some a
  | [], ⟨true, a, t, o⟩, x => ⟨a, t, by simp [psC], rfl⟩
  | [], ⟨false, a, t, o⟩, x => ⟨a, t, by simp [psC], rfl⟩
  | g :: c, ⟨true, a, t, o⟩, x => by
    obtain ⟨b, s, h, e⟩ := plug_top c g (.node a t x o)
    exact ⟨b, s, List.mem_cons_of_mem _ (List.mem_append.2 (.inr h)), e⟩
  | g :: c, ⟨false, a, t, o⟩, x => by
    obtain ⟨b, s, h, e⟩ := plug_top c g (.node a t o x)
    exact ⟨b, s, List.mem_cons_of_mem _ (List.mem_append.2 (.inr h)), e⟩
theorem plug_ne : ∀ (c : List Fr) (f : Fr) (x : Tr), ∃ a t l r, plug (f :: c) x = .node a t l r
  | [], ⟨true, a, t, o⟩, x => ⟨_, _, _, _, rfl⟩
  | [], ⟨false, a, t, o⟩, x => ⟨_, _, _, _, rfl⟩
  | g :: c, ⟨true, a, t, o⟩, x => plug_ne c g _
  | g :: c, ⟨false, a, t, o⟩, x => plug_ne c g _
/-- The top of a tree with a hole stays one, whatever is put into the hole, unless the hole is beside it. -/
theorem plug_root : ∀ (c : List Fr) (f : Fr) (x y : Tr), (y = .nil ∨ ¬ x = .nil) → (plug (f :: c) x).Root → (plug (f :: c) y).Root
  | [], ⟨true, a, t, o⟩, x, y, _, h => h
  | [], ⟨false, a, t, o⟩, x, y, hy, h => by
    have h : x = .nil := h
    rcases hy with rfl | k
    · rfl
    · exact absurd h k
  | g :: c, ⟨true, a, t, o⟩, x, y, _, h => plug_root c g (.node a t x o) (.node a t y o) (.inr (by simp)) h
  | g :: c, ⟨false, a, t, o⟩, x, y, _, h => plug_root c g (.node a t o x) (.node a t o y) (.inr (by simp)) h
theorem plug_ads (c : List Fr) (x : Tr) : (plug c x).ads.Perm (x.ads ++ (psC c).map (·.1)) := by
  have := (plug_ps c x).map (·.1)
  rw [List.map_append] at this
  exact this
end Go.Proofs.Ytdlfppdekllloaa
