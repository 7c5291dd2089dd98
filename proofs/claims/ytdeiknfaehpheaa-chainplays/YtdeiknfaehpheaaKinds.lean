/-
  What an operation of the document's calls gives; the contracts of cat and with in these words.
-/
import Derived.Test.YtdeiknfaehpheaaRapp
import Derived.Test.YtdeiknfaehpheaaTail
namespace Go.Proofs.Ytdeiknfaehpheaa
open Go.RowKit
theorem store_op {P : Program} {ops : Array Oper} {Q : Exit → Act → World → Prop} {i : Nat} {K : Act → World → Prop} {a : Act} {w w' : World} {o : Oper}
    (hi : ops[i]? = some o) (hg : o.guard = none) (hd : o.dst = none) (h : (execOp a.eval o).run P w = .ok .skip w') (hk : K a w') : wpOp P ops Q i K a w := by
  unfold wpOp
  simp only [hi, Region.wanted, hg, if_true]
  refine .inl ?_
  unfold Oper.wp
  rw [h]
  show K (a.put o.dst undef) w'
  rw [hd]
  exact hk
theorem assign_op {P : Program} {ops : Array Oper} {Q : Exit → Act → World → Prop} {i : Nat} {K : Act → World → Prop} {a : Act} {w : World} {o : Oper} {d : Tmp} {v : Value}
    (hi : ops[i]? = some o) (hg : o.guard = none) (hd : o.dst = some d) (h : (execOp a.eval o).run P w = .ok (.value v) w) (hk : K { a with tmps := a.tmps.setIfInBounds d v } w) : wpOp P ops Q i K a w := by
  unfold wpOp
  simp only [hi, Region.wanted, hg, if_true]
  refine .inl ?_
  unfold Oper.wp
  rw [h]
  show K (a.put o.dst v) w
  rw [hd]
  exact hk
theorem row_end {P : Program} {ops : Array Oper} {Q : Exit → Act → World → Prop} {i : Nat} {a : Act} {w : World} (h : Q .normal a w) : rowWp P ops Q 0 i a w := h
/-- The footprint, and one block more. -/
def fT (f : Nat → Prop) (T : Nat) : Nat → Prop := fun k => f k ∨ k = T
theorem RefIn.fT {f : Nat → Prop} {w : World} {p : Option Addr} {L : Nat} {ls : Ls} (h : RefIn f w p L ls) {T : Nat} (hT : w.heap.size ≤ T) : RefIn (fT f T) w p L ls := h.mono (fun b hb e => by rcases e with e | e; exact e; omega)
theorem RefIn.unT {f : Nat → Prop} {w : World} {p : Option Addr} {L : Nat} {ls : Ls} {T : Nat} {a b : Value} (h : RefIn (Ytdeiknfaehpheaa.fT f T) w p L ls) : RefIn f ((w.setCell ⟨T, 0, none⟩ a).setCell ⟨T, 1, none⟩ b) p L ls :=
  (h.off (off2 w T a b) (fun _ e => .inr e)).mono (fun _ _ e => .inl e)
theorem fT_lt {f : Nat → Prop} {w w' : World} {T : Nat} (hf : ∀ j, f j → j < w.heap.size) (h : w.heap.size ≤ w'.heap.size) (hT : T < w'.heap.size) : ∀ j, fT f T j → j < w'.heap.size := fun j e => by
  rcases e with e | e
  · have := hf j e; omega
  · omega
theorem getD_of {a : Array Value} {t : Nat} {v : Value} (h : a[t]? = some v) : a.getD t undef = v := by
  obtain ⟨h1, h2⟩ := Array.getElem?_eq_some_iff.1 h
  simp [Array.getD, h1, h2]
theorem arr_eq {xs ys : Array Value} (hs : xs.size = ys.size) (h : ∀ t, t < ys.size → xs[t]? = ys[t]?) : xs = ys := by
  apply Array.ext_getElem?
  intro t
  by_cases ht : t < ys.size
  · exact h t ht
  · rw [Array.getElem?_eq_none (by omega), Array.getElem?_eq_none (by omega)]
theorem self_get {a : Array Value} {t : Nat} (h : t < a.size) : a[t]? = some (a.getD t undef) := by simp [Array.getD, h]
/-- A value of its own, a list, chains, or a new place for chains. -/
inductive Kd where
  | val (c : Value)
  | lst (f : Nat → Prop) (l : List Nat)
  | rf (f : Nat → Prop) (P L : Nat) (ls : Ls)
  | box (m : Nat)
def Kd.ok : Kd → Value → World → Prop
  | .val c, v, _ => v = c
  | .lst f l, v, w => ∃ q k, v = .slice q l.length k ∧ l.length ≤ k ∧ LiesT f w q 3 (encI l)
  | .rf f P L ls, v, w => ∃ p c, v = rv P p L c ∧ L ≤ c ∧ RefIn f w p L ls
  | .box m, v, w => ∃ b, v = .pointer (some ⟨b, 0, none⟩) ∧ m ≤ b ∧ w.heap[b]? = some (.cells #[.int .i64 0, .slice none 0 0] 27 (0, 0))
theorem Kd.mono (k : Kd) (v : Value) (w w' : World) (h : k.ok v w) (hb : Bel w w') : k.ok v w' := by
  cases k with
  | val c => exact h
  | lst f l => obtain ⟨q, k, h1, h2, h3⟩ := h; exact ⟨q, k, h1, h2, h3.bel hb⟩
  | rf f P L ls => obtain ⟨q, k, h1, h2, h3⟩ := h; exact ⟨q, k, h1, h2, h3.bel hb⟩
  | box m => obtain ⟨b, h1, h2, h3⟩ := h; exact ⟨b, h1, h2, hb.heap h3⟩
def RKd (Ks : List Kd) (i : Nat) (v : Value) (w : World) : Prop := match Ks[i]? with
  | some k => k.ok v w
  | none => False
theorem RKd_mono (Ks : List Kd) (i : Nat) (v : Value) (w w' : World) (h : RKd Ks i v w) (hb : Bel w w') : RKd Ks i v w' := by
  unfold RKd at *
  cases hk : Ks[i]? with
  | none => rw [hk] at h; exact h
  | some k => rw [hk] at h; exact k.mono v w w' h hb
theorem gotV {ops : Array Oper} {Ks : List Kd} {a : Act} {w : World} {j : Nat} {d : Tmp} {c : Value} (h : Has ops (RKd Ks) a w j) (hd : dstOf ops j = d) (hk : Ks[j]? = some (.val c)) : a.tmps[d]? = some c := by
  obtain ⟨v, hv, hr⟩ := h
  unfold RKd at hr
  rw [hk] at hr
  have hr' : v = c := hr
  rw [← hd, hv, hr']
theorem gotL {ops : Array Oper} {Ks : List Kd} {a : Act} {w : World} {j : Nat} {d : Tmp} {f : Nat → Prop} {l : List Nat} (h : Has ops (RKd Ks) a w j) (hd : dstOf ops j = d) (hk : Ks[j]? = some (.lst f l)) : ∃ q k, a.tmps[d]? = some (.slice q l.length k) ∧ l.length ≤ k ∧ LiesT f w q 3 (encI l) := by
  obtain ⟨v, hv, hr⟩ := h
  unfold RKd at hr
  rw [hk] at hr
  obtain ⟨q, k, rfl, h2, h3⟩ := hr
  exact ⟨q, k, by rw [← hd]; exact hv, h2, h3⟩
theorem gotR {ops : Array Oper} {Ks : List Kd} {a : Act} {w : World} {j : Nat} {d : Tmp} {f : Nat → Prop} {P L : Nat} {ls : Ls} (h : Has ops (RKd Ks) a w j) (hd : dstOf ops j = d) (hk : Ks[j]? = some (.rf f P L ls)) : ∃ p c, a.tmps[d]? = some (rv P p L c) ∧ L ≤ c ∧ RefIn f w p L ls := by
  obtain ⟨v, hv, hr⟩ := h
  unfold RKd at hr
  rw [hk] at hr
  obtain ⟨q, k, rfl, h2, h3⟩ := hr
  exact ⟨q, k, by rw [← hd]; exact hv, h2, h3⟩
theorem gotB {ops : Array Oper} {Ks : List Kd} {a : Act} {w : World} {j : Nat} {d : Tmp} {m : Nat} (h : Has ops (RKd Ks) a w j) (hd : dstOf ops j = d) (hk : Ks[j]? = some (.box m)) : ∃ b, a.tmps[d]? = some (.pointer (some ⟨b, 0, none⟩)) ∧ m ≤ b ∧ w.heap[b]? = some (.cells #[.int .i64 0, .slice none 0 0] 27 (0, 0)) := by
  obtain ⟨v, hv, hr⟩ := h
  unfold RKd at hr
  rw [hk] at hr
  obtain ⟨b, rfl, h2, h3⟩ := hr
  exact ⟨b, by rw [← hd]; exact hv, h2, h3⟩
theorem newL (w : World) (x : Nat) : LiesT nof (w.alloc (.cells #[.int .i64 x] 3)) (some ⟨w.heap.size, 0, none⟩) 3 (encI [x]) := ⟨(lies_one w x _ rfl).any, .inr ⟨_, _, _, _, rfl, heap_alloc_new _ _⟩⟩
theorem newB (w : World) : (w.alloc (.cells #[.int .i64 0, .slice none 0 0] 27)).heap[w.heap.size]? = some (.cells #[.int .i64 0, .slice none 0 0] 27 (0, 0)) := heap_alloc_new _ _
/-- The address of what is left of a slice. -/
def cutP (q : Option Addr) (c i : Nat) : Option Addr := if c = i then q else q.map (·.add (i * 1))
theorem addr_add (b off j : Nat) : (⟨b, off, none⟩ : Addr).add j = ⟨b, off + j, none⟩ := by unfold Addr.add; split <;> simp_all
theorem RowG.take {w : World} {b off : Nat} {l : List Nat} (h : RowG w b off (encI l)) (c : Nat) : RowG w b off (encI (l.take c)) := fun j u hu => h j u (by
  unfold encI at hu ⊢
  rw [List.map_take, List.getElem?_take] at hu
  split at hu
  · exact hu
  · cases hu)
theorem Lies.take {f : Nat → Prop} {w : World} {q : Option Addr} {l : List Nat} (h : Lies f w q (encI l)) (c : Nat) : Lies f w q (encI (l.take c)) := by
  rcases h with h | ⟨b, off, e, hf, h⟩
  · have : l = [] := by unfold encI at h; simpa using h
    exact .inl (by rw [this]; simp [encI])
  · exact .inr ⟨b, off, e, hf, h.take c⟩
theorem Lies.cut {f : Nat → Prop} {w : World} {q : Option Addr} {l : List Nat} {c : Nat} (h : Lies f w q (encI l)) (hc : l.length ≤ c) (i : Nat) : Lies f w (cutP q c i) (encI (l.drop i)) := by
  unfold cutP
  by_cases e : c = i
  · rw [List.drop_eq_nil_of_le (by omega)]
    exact .inl rfl
  · rw [if_neg e]
    rcases h with h | ⟨b, off, rfl, hf, h⟩
    · have : l = [] := by unfold encI at h; simpa using h
      exact .inl (by rw [this]; simp [encI])
    · refine .inr ⟨b, off + i, by rw [Option.map_some, addr_add, Nat.mul_one], hf, fun j u hu => ?_⟩
      rw [Nat.add_assoc]
      refine h (i + j) u ?_
      unfold encI at hu ⊢
      rw [List.map_drop, List.getElem?_drop] at hu
      exact hu
theorem slice_to (q : Option Addr) (n c i : Nat) (h : i ≤ c) (w : World) : (Instr.slice 36 (.slice q n c) none (some (.int .i64 (i : Int))) none).run Try.prog w = .ok (.slice q i c) w := by
  have h1 : (i : Int) ≤ c := by omega
  rw [run_slice_h w 36 q n c Try.underlying36 .i64 i (by omega) h1]
  have e : (if c = 0 then q else q.map (·.add (0 * 1))) = q := by
    split
    · rfl
    · cases q with
      | none => rfl
      | some a => simp [Addr.add]
  simp [go_sem, sliced]
theorem slice_from (q : Option Addr) (n c i : Nat) (h : i ≤ n) (hc : n ≤ c) (w : World) : (Instr.slice 36 (.slice q n c) (some (.int .i64 (i : Int))) none none).run Try.prog w = .ok (.slice (cutP q c i) (n - i) (c - i)) w := by
  have h1 : (i : Int) ≤ n := by omega
  have h2 : (n : Int) ≤ c := by omega
  simp [go_sem, sliced, cutP, h1, h2]
theorem cat_k (f : Nat → Prop) (pa pb : Option Addr) (n m ca cb : Nat) (a b : List Nat) (w : World) (ha : a.length = n) (hb : b.length = m) (hn : n ≤ 5000) (hm : m ≤ 5000) (la : Lies nof w pa (encI a)) (lb : Lies nof w pb (encI b)) (hf : ∀ j, f j → j < w.heap.size) :
    Calls Try.prog 46 #[.slice pa n ca, .slice pb m cb] w fun e w' => ∃ v, e = .returned v ∧ (Kd.lst f (a ++ b)).ok v w' ∧ Bel w w' :=
  (cat_any pa pb n m ca cb a b w ha hb hn hm la lb).mono fun e w' ⟨q, k, h1, h2, h3, h4⟩ => ⟨_, h1, ⟨q, k, by rw [List.length_append, ha, hb], by rw [List.length_append, ha, hb]; exact h2, h3.mono (fun b _ e => hf b e)⟩, h4⟩
theorem with_k (f : Nat → Prop) (P : Nat) (p : Option Addr) (L c : Nat) (ls : Ls) (i : Nat) (q : Option Addr) (n k : Nat) (l : List Nat) (w : World) (hR : RefIn f w p L ls) (hL : L ≤ 1024) (hi : i < L) (hn : l.length = n) (hk : n ≤ k) (hl : LiesT f w q 3 (encI l)) (hf : ∀ j, f j → j < w.heap.size) :
    Calls Try.prog 45 #[rv P p L c, .int .i64 i, .slice q n k] w fun e w' => ∃ v, e = .returned v ∧ (Kd.rf f P L (upd ls i l)).ok v w' ∧ Bel w w' :=
  (with_any f P p L c ls i q n k l w hR hL hi hn hk hl hf).mono fun e w' ⟨p', c', h1, h2, h3, h4⟩ => ⟨_, h1, ⟨p', c', rfl, h2, h3⟩, h4⟩
end Go.Proofs.Ytdeiknfaehpheaa
