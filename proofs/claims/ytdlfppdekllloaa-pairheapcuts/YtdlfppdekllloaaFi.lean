/-
  A queue, and a list of timers that lies beside it: what each call keeps.
-/
import Derived.Test.YtdlfppdekllloaaWorks
import Derived.Test.YtdlfppdekllloaaBuilt
set_option linter.unusedVariables false
set_option linter.unusedSimpArgs false
namespace Go.Proofs.Ytdlfppdekllloaa
open Go.RowKit
structure Fi (w wr : World) (Q P : Nat) (l : List T) (pa : Option Addr) (L : List T) : Prop where
  ex : ∃ f, Qu f wr Q P l ∧ (∀ k, f k → w.heap.size ≤ k) ∧ Lies f wr pa (encs L)
  bel : Bel w wr
section
variable {w wr : World} {Q P : Nat} {l L : List T} {pa : Option Addr}
theorem Fi.le {w2 : World} (h : Fi w wr Q P l pa L) (k : Bel wr w2) : Fi w w2 Q P l pa L := by
  obtain ⟨⟨f, h1, h2, h3⟩, h4⟩ := h
  exact ⟨⟨f, h1.bel k, h2, h3.bel k⟩, h4.trans k⟩
theorem Fi.has (h : Fi w wr Q P l pa L) : Has wr pa L := by
  obtain ⟨⟨f, h1, h2, h3⟩, h4⟩ := h
  exact h3.has
theorem fi_cancel {k : Int} (h : Fi w wr Q P l pa L) : Calls Try.prog 25 #[.pointer (some ⟨Q, 0, none⟩), .int .i64 k] wr fun e w2 => e = .returned (canV ((fnd l k).getD default) (canE P l k)) ∧ Fi w w2 Q P (wo l k) pa L := by
  obtain ⟨⟨f, h1, h2, h3⟩, h4⟩ := h
  exact (cancel_any f Q P l k wr h1).mono fun e w2 ⟨he, hq, ho⟩ => ⟨he, ⟨f, hq, h2, h3.off ho (fun i e => e)⟩, Off.trans h4 ho (fun i e => .inr (h2 i e))⟩
theorem fi_cancel_box {k : Int} (h : Fi w wr Q P l pa L) (c : Array Value) (t : TypeId) : Calls Try.prog 25 #[.pointer (some ⟨Q, 0, none⟩), .int .i64 k] (wr.alloc (.cells c t)) fun e w2 => e = .returned (canV ((fnd l k).getD default) (canE P l k)) ∧ Fi w w2 Q P (wo l k) pa L ∧ w2.heap[wr.heap.size]? = some (.cells c t (0, 0)) := by
  obtain ⟨⟨f, h1, h2, h3⟩, h4⟩ := h
  have hb : Bel wr (wr.alloc (.cells c t)) := (Bel.refl wr).alloc c t
  exact (cancel_any f Q P l k _ (h1.bel hb)).mono fun e w2 ⟨he, hq, ho⟩ => ⟨he, ⟨⟨f, hq, h2, (h3.bel hb).off ho (fun i e => e)⟩, Off.trans (h4.trans hb) ho (fun i e => .inr (h2 i e))⟩, (ho.block _ (by simp) (fun e => Nat.lt_irrefl _ (h1.lt_ _ e))).trans (heap_alloc_new _ _)⟩
theorem fi_min (h : Fi w wr Q P l pa L) : Calls Try.prog 26 #[.pointer (some ⟨Q, 0, none⟩)] wr fun e w2 => e = .returned (ansT l.head?) ∧ Bel wr w2 := by
  obtain ⟨⟨f, h1, h2, h3⟩, h4⟩ := h
  exact min_any f Q P l wr h1
theorem fi_len (h : Fi w wr Q P l pa L) : Calls Try.prog 21 #[.pointer (some ⟨Q, 0, none⟩)] wr fun e w2 => e = .returned (.int .i64 l.length) ∧ Bel wr w2 := by
  obtain ⟨⟨f, h1, h2, h3⟩, h4⟩ := h
  exact len_any f Q P l wr h1
theorem fi_all (h : Fi w wr Q P l pa L) : Calls Try.prog 20 #[.pointer (some ⟨Q, 0, none⟩)] wr fun e w2 => ∃ p c, e = .returned (.slice p l.length c) ∧ Has w2 p l ∧ Bel wr w2 := by
  obtain ⟨⟨f, h1, h2, h3⟩, h4⟩ := h
  exact (all_any f Q P l wr h1).mono fun e w2 ⟨⟨p, c, he, _, hl⟩, hb⟩ => ⟨p, c, he, hl.has, hb⟩
theorem Fi.so (h : Fi w wr Q P l pa L) : So l := by
  obtain ⟨⟨f, h1, _⟩, _⟩ := h
  exact h1.so
theorem Fi.nodup (h : Fi w wr Q P l pa L) : (l.map T.p).Nodup ∧ ∀ t ∈ l, hp P t.p = true := by
  obtain ⟨⟨f, h1, _⟩, _⟩ := h
  exact h1.places
end
/-- A queue behind acts, and all that pend in it, as a list. -/
theorem bu_all {w w1 : World} {Q P : Nat} {l : List T} (h : Bu w w1 Q P l) : Calls Try.prog 20 #[.pointer (some ⟨Q, 0, none⟩)] w1 fun e w2 => ∃ p c, e = .returned (.slice p l.length c) ∧ l.length ≤ c ∧ Fi w w2 Q P l p l := by
  obtain ⟨⟨f, h1, h2⟩, h3⟩ := h
  exact (all_any f Q P l w1 h1).mono fun e w2 ⟨⟨p, c, he, hc, hl⟩, hb⟩ => ⟨p, c, he, hc, ⟨f, h1.bel hb, h2, hl.mono (fun b _ e => h1.lt_ b e)⟩, h3.trans hb⟩
theorem Bu.le {w w1 w2 : World} {Q P : Nat} {l : List T} (h : Bu w w1 Q P l) (k : Bel w1 w2) : Bu w w2 Q P l := by
  obtain ⟨⟨f, h1, h2⟩, h3⟩ := h
  exact ⟨⟨f, h1.bel k, h2⟩, h3.trans k⟩
theorem Bu.len {w w1 : World} {Q P : Nat} {l : List T} (h : Bu w w1 Q P l) : l.length ≤ 1024 := by
  obtain ⟨⟨f, h1, h2⟩, h3⟩ := h
  exact Nat.le_trans h1.len h1.hP
end Go.Proofs.Ytdlfppdekllloaa
