/-
  A queue in memory: its chains, its row of timers; and the list of timers that it is.
-/
import Derived.Test.YtmkpnojojkgmiaaRep
import Derived.Test.YtmkpnojojkgmiaaAll
import Derived.Test.YtmkpnojojkgmiaaCmp
namespace Go.Proofs.Ytmkpnojojkgmiaa
open Go.RowKit
/-- What a queue turns. -/
def Foot (G R : Nat) : Nat → Prop := fun k => k = G ∨ k = R
/-- A row of timers, as cells. -/
def encQ (n : Nat) (r : Nat → T) : List Value := (List.range n).flatMap fun i => enc (r i)
theorem encQ_get (n : Nat) (r : Nat → T) (i j : Nat) (hi : i < n) (hj : j < 3) : (encQ n r)[i * 3 + j]? = (enc (r i))[j]? :=
  flat_get (fun i => enc (r i)) 3 (fun _ => rfl) (List.range n) i j i (by simp [hi]) hj
theorem encQ_len (n : Nat) (r : Nat → T) : (encQ n r).length = n * 3 := by
  unfold encQ
  induction n with
  | zero => rfl
  | succ n ih => rw [List.range_succ, List.flatMap_append, List.length_append, ih]; simp [enc]; omega
theorem encQ_ext {n : Nat} {r : Nat → T} {l : List Value} (hl : l.length = n * 3) (h : ∀ i j, i < n → j < 3 → l[i * 3 + j]? = (enc (r i))[j]?) : l = encQ n r := by
  apply List.ext_getElem?
  intro k
  by_cases hk : k < n * 3
  · have e : k / 3 * 3 + k % 3 = k := by omega
    have h1 := h (k / 3) (k % 3) (by omega) (by omega)
    have h2 := encQ_get n r (k / 3) (k % 3) (by omega) (by omega)
    rw [e] at h1 h2
    rw [h1, h2]
  · rw [List.getElem?_eq_none (by omega), List.getElem?_eq_none (by rw [encQ_len]; omega)]
/-- One timer of the row is another one. -/
def upT (r : Nat → T) (i : Nat) (t : T) : Nat → T := fun k => if k = i then t else r k
theorem encQ_up (n : Nat) (r : Nat → T) (i : Nat) (t : T) (hi : i < n) : (((encQ n r).set (i * 3) (.int .u64 t.a)).set (i * 3 + 1) (.int .u64 t.s)).set (i * 3 + 2) (.int .i64 t.p) = encQ n (upT r i t) := by
  refine encQ_ext (by simp [encQ_len]) (fun a j ha hj => ?_)
  by_cases e : a = i
  · subst e
    unfold upT
    rw [if_pos rfl]
    obtain rfl | rfl | rfl : j = 0 ∨ j = 1 ∨ j = 2 := by omega
    · rw [show a * 3 + 0 = a * 3 from rfl, List.getElem?_set_ne (by omega), List.getElem?_set_ne (by omega), List.getElem?_set_self (by rw [encQ_len]; omega)]; rfl
    · rw [List.getElem?_set_ne (by omega), List.getElem?_set_self (by simp [encQ_len]; omega)]; rfl
    · rw [List.getElem?_set_self (by simp [encQ_len]; omega)]; rfl
  · unfold upT
    rw [if_neg e, List.getElem?_set_ne (by omega), List.getElem?_set_ne (by omega), List.getElem?_set_ne (by omega), encQ_get n r a j ha hj]
/-- A queue lies at block Q, its chains at B and G, its row at R. -/
structure Que (w : World) (Q B G R P : Nat) (g : Rg) (r : Nat → T) : Prop where
  hQ : w.heap[Q]? = some (.cells #[.pointer (some ⟨B, 0, none⟩), .slice (some ⟨R, 0, none⟩) P P] 69 (0, 0))
  ch : Chn w B G P 1 g
  hR : w.heap[R]? = some (.cells (encQ P r).toArray 38 (0, 0))
  nQG : ¬ Q = G
  nQR : ¬ Q = R
  nBR : ¬ B = R
  nGR : ¬ G = R
theorem Que.ltQ {w : World} {Q B G R P : Nat} {g : Rg} {r : Nat → T} (h : Que w Q B G R P g r) : Q < w.heap.size := (Array.getElem?_eq_some_iff.1 h.hQ).1
theorem Que.ltR {w : World} {Q B G R P : Nat} {g : Rg} {r : Nat → T} (h : Que w Q B G R P g r) : R < w.heap.size := (Array.getElem?_eq_some_iff.1 h.hR).1
theorem Que.off {f : Nat → Prop} {w w' : World} {Q B G R P : Nat} {g : Rg} {r : Nat → T} (h : Que w Q B G R P g r) (k : Off f w w') (hq : ¬ f Q) (hb : ¬ f B) (hg : ¬ f G) (hr : ¬ f R) : Que w' Q B G R P g r :=
  ⟨(k.block Q h.ltQ hq).trans h.hQ, h.ch.off k hb hg, (k.block R h.ltR hr).trans h.hR, h.nQG, h.nQR, h.nBR, h.nGR⟩
theorem Que.bel {w w' : World} {Q B G R P : Nat} {g : Rg} {r : Nat → T} (h : Que w Q B G R P g r) (k : Bel w w') : Que w' Q B G R P g r := h.off k (fun e => e) (fun e => e) (fun e => e) (fun e => e)
/-- The chains have turned. -/
theorem Que.chain {w w' : World} {Q B G R P : Nat} {g g' : Rg} {r : Nat → T} (h : Que w Q B G R P g r) (k : Off (Only G) w w') (hc : Chn w' B G P 1 g') : Que w' Q B G R P g' r :=
  ⟨(k.block Q h.ltQ h.nQG).trans h.hQ, hc, (k.block R h.ltR (fun e => h.nGR e.symm)).trans h.hR, h.nQG, h.nQR, h.nBR, h.nGR⟩
theorem Que.head {w : World} {Q B G R P : Nat} {g : Rg} {r : Nat → T} (h : Que w Q B G R P g r) : w.cell? ⟨Q, 0, none⟩ = some (.pointer (some ⟨B, 0, none⟩)) ∧ w.cell? ⟨Q, 1, none⟩ = some (.slice (some ⟨R, 0, none⟩) P P) := (box2 h.hQ).1
theorem Que.at {w : World} {Q B G R P : Nat} {g : Rg} {r : Nat → T} (h : Que w Q B G R P g r) {i : Nat} (hi : i < P) : (w.cell? ⟨R, i * 3, none⟩ = some (.int .u64 (r i).a) ∧ w.cell? ⟨R, i * 3 + 1, none⟩ = some (.int .u64 (r i).s) ∧ w.cell? ⟨R, i * 3 + 2, none⟩ = some (.int .i64 (r i).p)) ∧
    (∀ j, w.frozen? ⟨R, j, none⟩ = false) := by
  refine ⟨⟨?_, ?_, ?_⟩, fun j => frozen_of_row w R j _ 38 h.hR⟩
  · rw [cell_of_row w R _ _ 38 (0, 0) h.hR, List.getElem?_toArray]; exact encQ_get _ r i 0 hi (by omega)
  · rw [cell_of_row w R _ _ 38 (0, 0) h.hR, List.getElem?_toArray]; exact encQ_get _ r i 1 hi (by omega)
  · rw [cell_of_row w R _ _ 38 (0, 0) h.hR, List.getElem?_toArray]; exact encQ_get _ r i 2 hi (by omega)
/-- A timer is laid at a place. -/
abbrev set3 (w : World) (R i : Nat) (t : T) : World := ((w.setCell ⟨R, i * 3, none⟩ (.int .u64 t.a)).setCell ⟨R, i * 3 + 1, none⟩ (.int .u64 t.s)).setCell ⟨R, i * 3 + 2, none⟩ (.int .i64 t.p)
theorem Que.put {w : World} {Q B G R P : Nat} {g : Rg} {r : Nat → T} (h : Que w Q B G R P g r) {i : Nat} (hi : i < P) (t : T) : Que (set3 w R i t) Q B G R P g (upT r i t) ∧ Off (Only R) w (set3 w R i t) := by
  have o1 : Off (Only R) w (set3 w R i t) :=
    Off.setCell (Off.setCell (Off.setCell (Off.refl (Only R) w) (p := ⟨R, i * 3, none⟩) (.inl rfl) _) (p := ⟨R, i * 3 + 1, none⟩) (.inl rfl) _) (p := ⟨R, i * 3 + 2, none⟩) (.inl rfl) _
  refine ⟨⟨(o1.block Q h.ltQ h.nQR).trans h.hQ, h.ch.off o1 h.nBR h.nGR, ?_, h.nQG, h.nQR, h.nBR, h.nGR⟩, o1⟩
  have e1 := heap_setCell_same w R (i * 3) _ 38 (.int .u64 t.a) h.hR
  have e2 := heap_setCell_same _ R (i * 3 + 1) _ 38 (.int .u64 t.s) e1
  have e3 := heap_setCell_same _ R (i * 3 + 2) _ 38 (.int .i64 t.p) e2
  rw [List.setIfInBounds_toArray, List.setIfInBounds_toArray, List.setIfInBounds_toArray, encQ_up P r i t hi] at e3
  exact e3
/-- A timer's place. -/
def pl (t : T) : Nat := t.p.toNat
/-- The places of a list. -/
def pls (l : List T) : List Nat := l.map pl
/-- The ring and the row are that list. -/
structure Is (P : Nat) (g : Rg) (r : Nat → T) (l : List T) : Prop where
  rep : Rep P 1 g (fun _ => pls l)
  tm : ∀ t ∈ l, t.p = pl t ∧ pl t < P ∧ r (pl t) = t
  so : So l
/-- A queue is that list. -/
structure Qu (w : World) (Q B G R P : Nat) (l : List T) : Prop where
  ex : ∃ g r, Que w Q B G R P g r ∧ Is P g r l
  hP : P ≤ 1024
theorem Qu.bel {w w' : World} {Q B G R P : Nat} {l : List T} (h : Qu w Q B G R P l) (k : Bel w w') : Qu w' Q B G R P l := by
  obtain ⟨⟨g, r, h1, h2⟩, h3⟩ := h
  exact ⟨⟨g, r, h1.bel k, h2⟩, h3⟩
theorem Qu.off {f : Nat → Prop} {w w' : World} {Q B G R P : Nat} {l : List T} (h : Qu w Q B G R P l) (k : Off f w w') (hq : ¬ f Q) (hb : ¬ f B) (hg : ¬ f G) (hr : ¬ f R) : Qu w' Q B G R P l := by
  obtain ⟨⟨g, r, h1, h2⟩, h3⟩ := h
  exact ⟨⟨g, r, h1.off k hq hb hg hr, h2⟩, h3⟩
theorem Is.nodup {P : Nat} {g : Rg} {r : Nat → T} {l : List T} (h : Is P g r l) : (pls l).Nodup := h.rep.nd 0 (by omega)
theorem Is.lt {P : Nat} {g : Rg} {r : Nat → T} {l : List T} (h : Is P g r l) : ∀ y ∈ pls l, y < P := h.rep.pl 0 (by omega)
theorem Is.len {P : Nat} {g : Rg} {r : Nat → T} {l : List T} (h : Is P g r l) : l.length ≤ P := by
  have := nodup_len P _ h.nodup h.lt
  simpa [pls] using this
/-- The one at a place. -/
def fnd (l : List T) (k : Int) : Option T := l.find? fun t => decide (t.p = k)
theorem fnd_some {l : List T} {k : Int} {t : T} (h : fnd l k = some t) : t ∈ l ∧ t.p = k := by
  unfold fnd at h
  refine ⟨List.mem_of_find?_eq_some h, ?_⟩
  simpa using List.find?_some h
theorem fnd_none {l : List T} {k : Int} (h : fnd l k = none) : ∀ t ∈ l, ¬ t.p = k := by
  unfold fnd at h
  intro t ht
  simpa using List.find?_eq_none.1 h t ht
theorem Is.inn {P : Nat} {g : Rg} {r : Nat → T} {l : List T} (h : Is P g r l) {k : Nat} {t : T} (hf : fnd l k = some t) : k < P ∧ r k = t ∧ k ∈ pls l ∧ (g k).li = 0 := by
  obtain ⟨h1, h2⟩ := fnd_some hf
  obtain ⟨h3, h4, h5⟩ := h.tm t h1
  have e : pl t = k := by unfold pl; rw [h2]; simp
  rw [e] at h4 h5
  have hm : k ∈ pls l := by rw [← e]; exact List.mem_map.2 ⟨t, h1, rfl⟩
  exact ⟨h4, h5, hm, h.rep.li 0 (by omega) k hm⟩
theorem Is.out {P : Nat} {g : Rg} {r : Nat → T} {l : List T} (h : Is P g r l) {k : Nat} (hk : k < P) (hf : fnd l k = none) : k ∉ pls l ∧ g k = al0 := by
  have hm : k ∉ pls l := fun e => by
    obtain ⟨t, ht, e⟩ := List.mem_map.1 e
    refine fnd_none hf t ht ?_
    rw [(h.tm t ht).1, e]
  exact ⟨hm, h.rep.al k hk (fun _ _ => hm)⟩
theorem Is.outside {P : Nat} {g : Rg} {r : Nat → T} {l : List T} (h : Is P g r l) {k : Int} (hk : hp P k = false) : fnd l k = none := by
  cases e : fnd l k with
  | none => rfl
  | some t =>
    obtain ⟨h1, h2⟩ := fnd_some e
    obtain ⟨h3, h4, _⟩ := h.tm t h1
    rw [← h2, h3, hp_yes h4] at hk
    cases hk
/-- What is told of a timer, if there is one. -/
def ansT : Option T → Value
  | some t => .tuple #[.agg #[.int .u64 t.a, .int .u64 t.s, .int .i64 t.p], .bool true]
  | none => .tuple #[.agg #[.int .u64 0, .int .u64 0, .int .i64 0], .bool false]
theorem box3 {w : World} {T : Nat} {a b c : Value} {t : TypeId} (h : w.heap[T]? = some (.cells #[a, b, c] t (0, 0))) :
    (w.cell? ⟨T, 0, none⟩ = some a ∧ w.cell? ⟨T, 1, none⟩ = some b ∧ w.cell? ⟨T, 2, none⟩ = some c) ∧ (w.frozen? ⟨T, 0, none⟩ = false ∧ w.frozen? ⟨T, 1, none⟩ = false ∧ w.frozen? ⟨T, 2, none⟩ = false) := by
  refine ⟨⟨?_, ?_, ?_⟩, frozen_of_row w T _ _ t h, frozen_of_row w T _ _ t h, frozen_of_row w T _ _ t h⟩ <;> (rw [cell_of_row w T _ _ t (0, 0) h]; rfl)
theorem off3 (w : World) (T : Nat) (a b c : Value) : Off (fun k => k = T) w (((w.setCell ⟨T, 0, none⟩ a).setCell ⟨T, 1, none⟩ b).setCell ⟨T, 2, none⟩ c) :=
  Off.setCell (p := ⟨T, 2, none⟩) (off2 w T a b) (.inl rfl) c
theorem bel3 {w w' : World} (h : Bel w w') {T : Nat} (hT : w.heap.size ≤ T) (a b c : Value) : Bel w (((w'.setCell ⟨T, 0, none⟩ a).setCell ⟨T, 1, none⟩ b).setCell ⟨T, 2, none⟩ c) :=
  ((h.setCell (p := ⟨T, 0, none⟩) hT a).setCell (p := ⟨T, 1, none⟩) hT b).setCell (p := ⟨T, 2, none⟩) hT c
theorem at_any (Q B G R P : Nat) (g : Rg) (r : Nat → T) (k : Nat) (w : World) (h : Que w Q B G R P g r) (hk : k < P) (hP : P ≤ 1024) :
    Calls Try.prog 29 #[.pointer (some ⟨Q, 0, none⟩), .int .i64 k] w fun e w' => e = .returned (.agg #[.int .u64 (r k).a, .int .u64 (r k).s, .int .i64 (r k).p]) ∧ Bel w w' := by
  obtain ⟨c0, c1⟩ := h.head
  obtain ⟨⟨x0, x1, x2⟩, _⟩ := h.at hk
  have lQ := h.ltQ
  have lR := h.ltR
  generalize (r k).a = a at *
  generalize (r k).s = s at *
  generalize (r k).p = p at *
  clear h
  go_enter Try.func29, Try.ntmps29
  go_wp2
  refine bodyPost_ret (v := .agg #[.int .u64 a, .int .u64 s, .int .i64 p]) (by simp [results, Try.results29, go_sem]) rfl ⟨rfl, (Bel.refl _).alloc _ _⟩
end Go.Proofs.Ytmkpnojojkgmiaa
