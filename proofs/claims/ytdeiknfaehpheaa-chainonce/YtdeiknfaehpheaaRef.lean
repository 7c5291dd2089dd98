/-
  The document's chains in memory; contracts of its calls that only read: Index, Has, Is, Which, All, Beside; and of Same.
-/
import Derived.Test.YtdeiknfaehpheaaRep
namespace Go.Proofs.Ytdeiknfaehpheaa
open Go.RowKit
/-- Of which type the block is. -/
def Ty (w : World) (p : Option Addr) (e : TypeId) (cs : List Value) : Prop := cs = [] ∨ ∃ b off cur fr, p = some ⟨b, off, none⟩ ∧ w.heap[b]? = some (.cells cur e fr)
/-- A list that lies outside f, in a block of its type. -/
def LiesT (f : Nat → Prop) (w : World) (p : Option Addr) (e : TypeId) (cs : List Value) : Prop := Lies f w p cs ∧ Ty w p e cs
theorem LiesT.bel {f : Nat → Prop} {w w' : World} {p : Option Addr} {e : TypeId} {cs : List Value} (h : LiesT f w p e cs) (k : Bel w w') : LiesT f w' p e cs :=
  ⟨h.1.bel k, by rcases h.2 with h2 | ⟨b, off, cur, fr, e1, e2⟩; exact .inl h2; exact .inr ⟨b, off, cur, fr, e1, k.heap e2⟩⟩
theorem LiesT.off {f g : Nat → Prop} {w w' : World} {p : Option Addr} {e : TypeId} {cs : List Value} (h : LiesT f w p e cs) (k : Off g w w') (hg : ∀ i, g i → f i) : LiesT f w' p e cs := by
  refine ⟨h.1.off k hg, ?_⟩
  rcases h.1 with h1 | ⟨b1, off1, e0, hf, _⟩
  · exact .inl h1
  rcases h.2 with h2 | ⟨b, off, cur, fr, e1, e2⟩
  · exact .inl h2
  · rw [e0] at e1
    injection e1 with e1
    injection e1 with e1
    subst e1
    exact .inr ⟨b1, off1, cur, fr, e0, (k.block b1 (Array.getElem?_eq_some_iff.1 e2).1 (fun e => hf (hg _ e))).trans e2⟩
theorem LiesT.mono {f g : Nat → Prop} {w : World} {p : Option Addr} {e : TypeId} {cs : List Value} (h : LiesT f w p e cs) (k : ∀ b, b < w.heap.size → g b → f b) : LiesT g w p e cs := ⟨h.1.mono k, h.2⟩
/-- A block of another type may turn. -/
theorem LiesT.apart {f : Nat → Prop} {w w' : World} {p : Option Addr} {e e2 : TypeId} {cs : List Value} {T : Nat} {cur : Array Value} {fr : Nat × Nat} (h : LiesT f w p e cs) (k : Off (fun i => i = T) w w') (hT : w.heap[T]? = some (.cells cur e2 fr)) (he : e ≠ e2) : LiesT f w' p e cs := by
  rcases h with ⟨h1, h2⟩
  rcases h2 with h2 | ⟨b, off, cur2, fr2, e1, h2⟩
  · exact ⟨.inl h2, .inl h2⟩
  have hb : ¬ b = T := fun eb => by
    rw [eb, hT] at h2
    injection h2 with h2
    injection h2 with _ h3
    exact he h3.symm
  refine ⟨?_, .inr ⟨b, off, cur2, fr2, e1, (k.block b (Array.getElem?_eq_some_iff.1 h2).1 hb).trans h2⟩⟩
  rcases h1 with h1 | ⟨b1, off1, e0, hf, h1⟩
  · exact .inl h1
  · rw [e0] at e1
    injection e1 with e1
    injection e1 with e1
    subst e1
    exact .inr ⟨b1, off1, e0, hf, fun j u hu => k.cell hb (h1 j u hu)⟩
/-- The document's lists lie outside f. -/
def RefIn (f : Nat → Prop) (w : World) (p : Option Addr) (L : Nat) (ls : Ls) : Prop :=
  ∃ hs : List Sh, hs.length = L ∧ LiesT f w p 36 (encS hs) ∧ ∀ t s, hs[t]? = some s → s.n = (ls t).length ∧ s.n ≤ s.c ∧ LiesT f w s.p 3 (encI (ls t))
abbrev rv (P : Nat) (p : Option Addr) (L c : Nat) : Value := .agg #[.int .i64 P, .slice p L c]
theorem RefIn.bel {f : Nat → Prop} {w w' : World} {p : Option Addr} {L : Nat} {ls : Ls} (h : RefIn f w p L ls) (k : Bel w w') : RefIn f w' p L ls := by
  obtain ⟨hs, h1, h2, h3⟩ := h
  exact ⟨hs, h1, h2.bel k, fun t s e => ⟨(h3 t s e).1, (h3 t s e).2.1, (h3 t s e).2.2.bel k⟩⟩
theorem RefIn.off {f g : Nat → Prop} {w w' : World} {p : Option Addr} {L : Nat} {ls : Ls} (h : RefIn f w p L ls) (k : Off g w w') (hg : ∀ i, g i → f i) : RefIn f w' p L ls := by
  obtain ⟨hs, h1, h2, h3⟩ := h
  exact ⟨hs, h1, h2.off k hg, fun t s e => ⟨(h3 t s e).1, (h3 t s e).2.1, (h3 t s e).2.2.off k hg⟩⟩
theorem RefIn.mono {f g : Nat → Prop} {w : World} {p : Option Addr} {L : Nat} {ls : Ls} (h : RefIn f w p L ls) (k : ∀ b, b < w.heap.size → g b → f b) : RefIn g w p L ls := by
  obtain ⟨hs, h1, h2, h3⟩ := h
  exact ⟨hs, h1, h2.mono k, fun t s e => ⟨(h3 t s e).1, (h3 t s e).2.1, (h3 t s e).2.2.mono k⟩⟩
theorem RefIn.apart {f : Nat → Prop} {w w' : World} {p : Option Addr} {L : Nat} {ls : Ls} {T : Nat} {cur : Array Value} {fr : Nat × Nat} (h : RefIn f w p L ls) (k : Off (fun i => i = T) w w') (hT : w.heap[T]? = some (.cells cur 27 fr)) : RefIn f w' p L ls := by
  obtain ⟨hs, h1, h2, h3⟩ := h
  exact ⟨hs, h1, h2.apart k hT (by decide), fun t s e => ⟨(h3 t s e).1, (h3 t s e).2.1, (h3 t s e).2.2.apart k hT (by decide)⟩⟩
theorem RefIn.any {f : Nat → Prop} {w : World} {p : Option Addr} {L : Nat} {ls : Ls} (h : RefIn f w p L ls) : RefIn nof w p L ls := h.mono (fun _ _ e => e.elim)
/-- One of the lists. -/
theorem RefIn.at {f : Nat → Prop} {w : World} {p : Option Addr} {L : Nat} {ls : Ls} (h : RefIn f w p L ls) {t : Nat} (ht : t < L) :
    ∃ b off q c, p = some ⟨b, off, none⟩ ∧ ¬ f b ∧ w.cell? ⟨b, off + t, none⟩ = some (.slice q (ls t).length c) ∧ (ls t).length ≤ c ∧ Lies f w q (encI (ls t)) := by
  obtain ⟨hs, h1, h2, h3⟩ := h
  obtain ⟨b, off, rfl, hf, hr⟩ := lies_sh h2.1 (i := t) (by omega)
  obtain ⟨s, hs'⟩ : ∃ s, hs[t]? = some s := ⟨_, List.getElem?_eq_getElem (by omega)⟩
  obtain ⟨e1, e2, e3⟩ := h3 t s hs'
  have := row_sh hr hs'
  rw [e1] at this e2
  exact ⟨b, off, s.p, s.c, rfl, hf, this, e2, e3.1⟩
theorem take_ne {l : List Nat} {m y : Nat} {x : Int} (h : ∀ z ∈ l.take m, ¬ (z : Int) = x) (hy : l[m]? = some y) (hx : ¬ (y : Int) = x) : ∀ z ∈ l.take (m + 1), ¬ (z : Int) = x := by
  intro z hz
  rw [List.take_add_one, hy] at hz
  simp at hz
  rcases hz with e | e
  · exact h z e
  · rw [e]; exact hx
theorem rindex_any (p : Option Addr) (n c : Nat) (l : List Nat) (x : Int) (w : World) (hl : l.length = n) (hn : n ≤ 2048) (hp : Lies nof w p (encI l)) :
    Calls Try.prog 18 #[.slice p n c, .int .i64 x] w fun e w' => ((∃ k y : Nat, e = .returned (.int .i64 k) ∧ l[k]? = some y ∧ (y : Int) = x ∧ ∀ z ∈ l.take k, ¬ (z : Int) = x) ∨ (e = .returned (.int .i64 (-1)) ∧ ∀ z ∈ l, ¬ (z : Int) = x)) ∧ w = w' := by
  have HP := Lib.hid hp
  have HL := Lib.hid hl
  clear hp hl
  go_enter Try.func18, Try.ntmps18
  go_wp2
  go_loopw [5] (fun v wr => ∃ m : Nat, v = .int .i64 m ∧ m ≤ n ∧ (∀ z ∈ l.take m, ¬ (z : Int) = x) ∧ wr = w) (fun v _ => n - (intOf v).toNat)
  case atStart => exact ⟨0, rfl, by omega, by simp, rfl⟩
  case round =>
    obtain ⟨m, rfl, hi, hnot, rfl⟩ := hrel
    have HNot := Lib.hid hnot
    clear hnot
    by_cases hlt : m < n
    · obtain ⟨b, off, rfl, _, hr⟩ := lies_int HP.out (i := m) (by have := HL.out; omega)
      obtain ⟨y, hy⟩ : ∃ y, l[m]? = some y := ⟨_, List.getElem?_eq_getElem (by have := HL.out; omega)⟩
      have x0 := row_int hr hy
      have HY := Lib.hid hy
      clear hr hy
      by_cases he : (y : Int) = x
      · have hd : ((y : Int) == x) = true := by simpa using he
        have HE := Lib.hid he
        clear he
        go_wp2
        go_ret
        exact ⟨.inl ⟨m, y, rfl, HY.out, HE.out, HNot.out⟩, rfl⟩
      · have hd : ((y : Int) == x) = false := by simpa using he
        have HM := Lib.hid (take_ne HNot.out HY.out he)
        clear he
        go_wp2
        go_roundw
        case rel => exact ⟨m + 1, by go_num, by omega, HM.out, trivial⟩
        case measure => simp [intOf]; omega
    · obtain rfl : m = n := by omega
      have HE : Hid (l.take m = l) := Lib.hid (List.take_of_length_le (by have := HL.out; omega))
      go_wp2
      go_ret
      exact ⟨.inr ⟨rfl, by have := HNot.out; rw [HE.out] at this; exact this⟩, rfl⟩
theorem rindex_in (p : Option Addr) (n c : Nat) (l a b : List Nat) (x : Nat) (w : World) (hl : l.length = n) (hn : n ≤ 2048) (hp : Lies nof w p (encI l)) (hs : l = a ++ x :: b) (hx : x ∉ a) :
    Calls Try.prog 18 #[.slice p n c, .int .i64 x] w fun e w' => e = .returned (.int .i64 a.length) ∧ w = w' :=
  (rindex_any p n c l x w hl hn hp).mono fun e w' ⟨h, hw⟩ => by
    refine ⟨?_, hw⟩
    rcases h with ⟨k, y, rfl, h1, h2, h3⟩ | ⟨_, h2⟩
    · have hy : y = x := by omega
      subst hy
      have hk : k = a.length := by
        rcases Nat.lt_trichotomy k a.length with e | e | e
        · rw [hs, List.getElem?_append_left e] at h1
          exact absurd (List.mem_of_getElem? h1) hx
        · exact e
        · refine absurd rfl (h3 y ?_)
          rw [hs, List.take_append]
          refine List.mem_append_right _ ?_
          have : 0 < k - a.length := by omega
          obtain ⟨j, hj⟩ : ∃ j, k - a.length = j + 1 := ⟨k - a.length - 1, by omega⟩
          rw [hj]
          simp
      rw [hk]
    · exact absurd rfl (h2 x (by rw [hs]; simp))
theorem rindex_out (p : Option Addr) (n c : Nat) (l : List Nat) (x : Int) (w : World) (hl : l.length = n) (hn : n ≤ 2048) (hp : Lies nof w p (encI l)) (hx : ∀ z ∈ l, ¬ (z : Int) = x) :
    Calls Try.prog 18 #[.slice p n c, .int .i64 x] w fun e w' => e = .returned (.int .i64 (-1)) ∧ w = w' :=
  (rindex_any p n c l x w hl hn hp).mono fun e w' ⟨h, hw⟩ => by
    refine ⟨?_, hw⟩
    rcases h with ⟨k, y, rfl, h1, h2, h3⟩ | ⟨h1, _⟩
    · exact absurd h2 (hx y (List.mem_of_getElem? h1))
    · exact h1
theorem rhas_any (P : Nat) (p : Option Addr) (L c : Nat) (i : Int) (w : World) :
    Calls Try.prog 42 #[rv P p L c, .int .i64 i] w fun e w' => e = .returned (.bool (hp L i)) ∧ Bel w w' := by
  unfold hp
  by_cases h0 : 0 ≤ i
  · go_enter Try.func42, Try.ntmps42
    go_wp2
    go_ret
    exact ⟨ret_bool (by simp [h0]), (Bel.refl _).alloc _ _⟩
  · go_enter Try.func42, Try.ntmps42
    go_wp2
    go_ret
    exact ⟨ret_bool (by simp; omega), (Bel.refl _).alloc _ _⟩
theorem ris_any (P : Nat) (p : Option Addr) (L c : Nat) (i : Int) (w : World) :
    Calls Try.prog 43 #[rv P p L c, .int .i64 i] w fun e w' => e = .returned (.bool (hp P i)) ∧ Bel w w' := by
  unfold hp
  by_cases h0 : 0 ≤ i
  · go_enter Try.func43, Try.ntmps43
    go_wp2
    go_ret
    exact ⟨ret_bool (by simp [h0]), (Bel.refl _).alloc _ _⟩
  · go_enter Try.func43, Try.ntmps43
    go_wp2
    go_ret
    exact ⟨ret_bool (by simp; omega), (Bel.refl _).alloc _ _⟩
theorem rwhich_any (P : Nat) (p : Option Addr) (L c : Nat) (ls : Ls) (x : Int) (w : World) (hR : RefIn nof w p L ls) (hL : L ≤ 1024) (hb : ∀ t, t < L → (ls t).length ≤ 2048) :
    Calls Try.prog 44 #[rv P p L c, .int .i64 x] w fun e w' => ((∃ t : Nat, t < L ∧ e = .returned (.int .i64 t) ∧ ∃ y ∈ ls t, (y : Int) = x) ∨ (e = .returned (.int .i64 (-1)) ∧ ∀ t, t < L → ∀ z ∈ ls t, ¬ (z : Int) = x)) ∧ Bel w w' := by
  have HR := Lib.hid hR
  have HLb := Lib.hid hb
  clear hR hb
  go_enter Try.func44, Try.ntmps44
  go_wp2
  generalize hW : w.alloc (.cells #[.int .i64 P, .slice p L c] 27) = W
  have HB : Hid (Bel w W) := Lib.hid (by rw [← hW]; exact (Bel.refl _).alloc _ _)
  have c1 : W.cell? ⟨w.heap.size, 1, none⟩ = some (.slice p L c) := by rw [← hW]; simp [go_sem]
  clear hW
  go_loopw [5] (fun v wr => ∃ m : Nat, v = .int .i64 m ∧ m ≤ L ∧ (∀ t, t < m → ∀ z ∈ ls t, ¬ (z : Int) = x) ∧ wr = W) (fun v _ => L - (intOf v).toNat)
  case atStart => exact ⟨0, rfl, by omega, fun t ht => by omega, rfl⟩
  case round =>
    obtain ⟨m, rfl, hi, hnot, rfl⟩ := hrel
    have HNot := Lib.hid hnot
    clear hnot
    by_cases hlt : m < L
    · obtain ⟨b, off, q, cq, rfl, _, x0, hcq, hq⟩ := (HR.out.bel HB.out).at hlt
      have KI := Lib.hid (rindex_any q (ls m).length cq (ls m) x wr rfl (HLb.out m hlt) hq)
      clear hq
      generalize hln : (ls m).length = n at *
      clear hln
      go_wp2_with fail
      with_reducible refine (KI.out).mono ?_
      rintro e w1 ⟨(⟨k, y, rfl, h1, h2, h3⟩ | ⟨rfl, h2⟩), rfl⟩
      · have HE : Hid (∃ y ∈ ls m, (y : Int) = x) := Lib.hid ⟨y, List.mem_of_getElem? h1, h2⟩
        clear h1 h2 h3
        go_wp2
        go_ret
        exact ⟨.inl ⟨m, hlt, rfl, HE.out⟩, HB.out⟩
      · have HE : Hid (∀ t, t < m + 1 → ∀ z ∈ ls t, ¬ (z : Int) = x) := Lib.hid (fun t ht z hz => by
          by_cases e : t = m
          · subst e; exact h2 z hz
          · exact HNot.out t (by omega) z hz)
        clear h2
        go_wp2
        go_roundw
        case rel => exact ⟨m + 1, by go_num, by omega, HE.out, trivial⟩
        case measure => simp [intOf]; omega
    · obtain rfl : m = L := by omega
      go_wp2
      go_ret
      exact ⟨.inr ⟨rfl, HNot.out⟩, HB.out⟩
/-- Each place is in one list at most, once, and is a place. -/
structure Good (P L : Nat) (ls : Ls) : Prop where
  pl : ∀ t, t < L → ∀ i ∈ ls t, i < P
  nd : ∀ t, t < L → (ls t).Nodup
  one : ∀ s t i, s < L → t < L → i ∈ ls s → i ∈ ls t → s = t
theorem Rep.good {P L : Nat} {g : Rg} {ls : Ls} (h : Rep P L g ls) : Good P L ls := ⟨h.pl, h.nd, fun _ _ _ hs ht h1 h2 => h.one hs ht h1 h2⟩
theorem Good.len {P L : Nat} {ls : Ls} (h : Good P L ls) {t : Nat} (ht : t < L) : (ls t).length ≤ P := nodup_len P _ (h.nd t ht) (h.pl t ht)
theorem rwhich_in (P : Nat) (p : Option Addr) (L c : Nat) (ls : Ls) (i t : Nat) (w : World) (hR : RefIn nof w p L ls) (hP : P ≤ 1024) (hL : L ≤ 1024) (hg : Good P L ls) (ht : t < L) (hi : i ∈ ls t) :
    Calls Try.prog 44 #[rv P p L c, .int .i64 i] w fun e w' => e = .returned (.int .i64 t) ∧ Bel w w' :=
  (rwhich_any P p L c ls i w hR hL (fun s hs => Nat.le_trans (hg.len hs) (by omega))).mono fun e w' ⟨h, hb⟩ => by
    refine ⟨?_, hb⟩
    rcases h with ⟨s, hs, rfl, y, hy, hyi⟩ | ⟨_, h2⟩
    · have : y = i := by omega
      subst this
      rw [hg.one s t y hs ht hy hi]
    · exact absurd rfl (h2 t ht i hi)
theorem rwhich_out (P : Nat) (p : Option Addr) (L c : Nat) (ls : Ls) (x : Int) (w : World) (hR : RefIn nof w p L ls) (hP : P ≤ 1024) (hL : L ≤ 1024) (hg : Good P L ls) (hx : ∀ t, t < L → ∀ z ∈ ls t, ¬ (z : Int) = x) :
    Calls Try.prog 44 #[rv P p L c, .int .i64 x] w fun e w' => e = .returned (.int .i64 (-1)) ∧ Bel w w' :=
  (rwhich_any P p L c ls x w hR hL (fun s hs => Nat.le_trans (hg.len hs) (by omega))).mono fun e w' ⟨h, hb⟩ => by
    refine ⟨?_, hb⟩
    rcases h with ⟨s, hs, rfl, y, hy, hyi⟩ | ⟨h1, _⟩
    · exact absurd hyi (hx s hs y hy)
    · exact h1
theorem rall_no (P : Nat) (p : Option Addr) (L c : Nat) (x : Int) (w : World) (hx : hp L x = false) :
    Calls Try.prog 47 #[rv P p L c, .int .i64 x] w fun e w' => e = .returned (.slice none 0 0) ∧ Bel w w' := by
  have K := Lib.hid (rhas_any P p L c x)
  rw [hx] at K
  unfold rv at *
  clear hx
  go_enter Try.func47, Try.ntmps47
  go_wp2_with fail
  with_reducible refine (K.out _).mono ?_
  rintro e w1 ⟨rfl, hb⟩
  have HB : Hid (Bel w w1) := Lib.hid (((Bel.refl _).alloc _ _).trans hb)
  clear hb
  go_wp2
  go_ret
  exact ⟨rfl, HB.out⟩
theorem rall_yes (P : Nat) (p : Option Addr) (L c : Nat) (ls : Ls) (t : Nat) (w : World) (hR : RefIn nof w p L ls) (ht : t < L) (hL : L ≤ 1024) :
    Calls Try.prog 47 #[rv P p L c, .int .i64 t] w fun e w' => ∃ q k, e = .returned (.slice q (ls t).length k) ∧ (ls t).length ≤ k ∧ Lies nof w' q (encI (ls t)) ∧ Bel w w' := by
  have K := Lib.hid (rhas_any P p L c t)
  rw [hp_yes ht] at K
  obtain ⟨b, off, q, cq, rfl, _, x0, hcq, hq⟩ := hR.at ht
  have HQ := Lib.hid hq
  unfold rv at *
  clear hR hq
  generalize encI (ls t) = cs at *
  generalize (ls t).length = n at *
  go_enter Try.func47, Try.ntmps47
  go_wp2_with fail
  with_reducible refine (K.out _).mono ?_
  rintro e w1 ⟨rfl, hb⟩
  have HB : Hid (Bel w w1) := Lib.hid (((Bel.refl _).alloc _ _).trans hb)
  have d1 : w1.cell? ⟨w.heap.size, 1, none⟩ = some (.slice (some ⟨b, off, none⟩) L c) := hb.cell (by simp [go_sem])
  have x1 := HB.out.cell x0
  clear hb x0
  go_wp2
  go_ret
  exact ⟨_, _, rfl, hcq, HQ.out.bel HB.out, HB.out⟩
theorem same_yes (p q : Option Addr) (n c k : Nat) (l : List Nat) (w : World) (hn : l.length = n) (hm : n ≤ 2048) (hp : Lies nof w p (encI l)) (hq : Lies nof w q (encI l)) :
    Calls Try.prog 22 #[.slice p n c, .slice q n k] w fun e w' => e = .returned (.bool true) ∧ Bel w w' := by
  have HP := Lib.hid hp
  have HQ := Lib.hid hq
  have HN := Lib.hid hn
  clear hp hq hn
  go_enter Try.func22, Try.ntmps22
  go_wp2
  go_loopw [5] (fun v wr => ∃ m : Nat, v = .int .i64 m ∧ m ≤ n ∧ Bel w wr) (fun v _ => n - (intOf v).toNat)
  case atStart => exact ⟨0, rfl, by omega, Bel.refl _⟩
  case round =>
    obtain ⟨m, rfl, hi, hb⟩ := hrel
    have HB := Lib.hid hb
    clear hb
    by_cases hlt : m < n
    · obtain ⟨b, off, rfl, _, hr⟩ := lies_int HP.out (i := m) (by have := HN.out; omega)
      obtain ⟨b2, off2, rfl, _, hr2⟩ := lies_int HQ.out (i := m) (by have := HN.out; omega)
      obtain ⟨y, hy⟩ : ∃ y, l[m]? = some y := ⟨_, List.getElem?_eq_getElem (by have := HN.out; omega)⟩
      have x0 := HB.out.cell (row_int hr hy)
      have x1 := HB.out.cell (row_int hr2 hy)
      clear hr hr2 hy
      go_wp2
      go_quiet (fail)
      go_wp2
      go_roundw
      case rel => exact ⟨m + 1, by go_num, by omega, HB.out.drewN _⟩
      case measure => simp [intOf]; omega
    · obtain rfl : m = n := by omega
      go_wp2
      go_ret
      exact ⟨rfl, HB.out⟩
end Go.Proofs.Ytdeiknfaehpheaa
