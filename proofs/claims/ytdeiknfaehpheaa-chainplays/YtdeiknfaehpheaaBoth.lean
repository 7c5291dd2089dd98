/-
  What each call does to the program's chains and to the document's: the same.
-/
import Derived.Test.YtdeiknfaehpheaaRinsOk
import Derived.Test.YtdeiknfaehpheaaRdropOk
import Derived.Test.YtdeiknfaehpheaaRsplOk
import Derived.Test.YtdeiknfaehpheaaAll
namespace Go.Proofs.Ytdeiknfaehpheaa
open Go.RowKit
/-- Chains lie there, and they are those lists. -/
structure Ch (w : World) (B G P L : Nat) (ls : Ls) : Prop where
  ex : ∃ g, Chn w B G P L g ∧ Rep P L g ls
  hP : P ≤ 1024
  hL : L ≤ 1024
theorem Ch.bel {w w' : World} {B G P L : Nat} {ls : Ls} (h : Ch w B G P L ls) (k : Bel w w') : Ch w' B G P L ls := by
  obtain ⟨⟨g, h1, h2⟩, h3, h4⟩ := h
  exact ⟨⟨g, h1.bel k, h2⟩, h3, h4⟩
theorem Ch.off {f : Nat → Prop} {w w' : World} {B G P L : Nat} {ls : Ls} (h : Ch w B G P L ls) (k : Off f w w') (hb : ¬ f B) (hg : ¬ f G) : Ch w' B G P L ls := by
  obtain ⟨⟨g, h1, h2⟩, h3, h4⟩ := h
  exact ⟨⟨g, h1.off k hb hg, h2⟩, h3, h4⟩
theorem Ch.good {w : World} {B G P L : Nat} {ls : Ls} (h : Ch w B G P L ls) : Good P L ls := by
  obtain ⟨⟨g, _, h2⟩, _, _⟩ := h
  exact h2.good
theorem Ch.ltG {w : World} {B G P L : Nat} {ls : Ls} (h : Ch w B G P L ls) : G < w.heap.size ∧ B < w.heap.size ∧ ¬ B = G := by
  obtain ⟨⟨g, h1, _⟩, _, _⟩ := h
  exact ⟨h1.ltG, h1.ltB, h1.ne⟩
/-- What a call of the program's does. -/
def PDo (P L : Nat) (ls : Ls) (fn : FuncId) (args : List Value) (er : Int) (ls' : Ls) : Prop :=
  ∀ w B G, Ch w B G P L ls → Calls Try.prog fn (#[.pointer (some ⟨B, 0, none⟩)] ++ args.toArray) w fun e w' => e = .returned (.int .i64 er) ∧ Ch w' B G P L ls' ∧ Off (Only G) w w'
/-- What a call of the document's does. -/
def RDo (P L : Nat) (ls : Ls) (fn : FuncId) (args : List Value) (er : Int) (ls' : Ls) : Prop :=
  ∀ (f : Nat → Prop) w p c, RefIn f w p L ls → (∀ j, f j → j < w.heap.size) → L ≤ c → Calls Try.prog fn (#[rv P p L c] ++ args.toArray) w fun e w' => ∃ p' c', e = .returned (.tuple #[rv P p' L c', .int .i64 er]) ∧ L ≤ c' ∧ RefIn f w' p' L ls' ∧ Bel w w'
theorem pdo_no {P L : Nat} {ls : Ls} {fn : FuncId} {args : List Value} {er : Int} (h : ∀ w B G g, Chn w B G P L g → Rep P L g ls → P ≤ 1024 → L ≤ 1024 → Calls Try.prog fn (#[.pointer (some ⟨B, 0, none⟩)] ++ args.toArray) w fun e w' => e = .returned (.int .i64 er) ∧ Bel w w') : PDo P L ls fn args er ls :=
  fun w B G hc => by
    obtain ⟨⟨g, h1, h2⟩, h3, h4⟩ := hc
    exact (h w B G g h1 h2 h3 h4).mono fun e w' ⟨he, hb⟩ => ⟨he, ⟨⟨g, h1.bel hb, h2⟩, h3, h4⟩, hb.off _⟩
theorem pdo_yes {P L : Nat} {ls ls' : Ls} {fn : FuncId} {args : List Value} {er : Int} (h : ∀ w B G g, Chn w B G P L g → Rep P L g ls → P ≤ 1024 → L ≤ 1024 → ∃ g', Rep P L g' ls' ∧ Calls Try.prog fn (#[.pointer (some ⟨B, 0, none⟩)] ++ args.toArray) w fun e w' => e = .returned (.int .i64 er) ∧ Chn w' B G P L g' ∧ Off (Only G) w w') : PDo P L ls fn args er ls' :=
  fun w B G hc => by
    obtain ⟨⟨g, h1, h2⟩, h3, h4⟩ := hc
    obtain ⟨g', hr, hk⟩ := h w B G g h1 h2 h3 h4
    exact hk.mono fun e w' ⟨he, hc, ho⟩ => ⟨he, ⟨⟨g', hc, hr⟩, h3, h4⟩, ho⟩
theorem rdo_no {P L : Nat} {ls : Ls} {fn : FuncId} {args : List Value} {er : Int} (h : ∀ w p c, RefIn nof w p L ls → Calls Try.prog fn (#[rv P p L c] ++ args.toArray) w fun e w' => e = .returned (.tuple #[rv P p L c, .int .i64 er]) ∧ Bel w w') : RDo P L ls fn args er ls :=
  fun f w p c hR _ hc => (h w p c hR.any).mono fun e w' ⟨he, hb⟩ => ⟨p, c, he, hc, hR.bel hb, hb⟩
theorem hp_false {a b : Bool} (h : (a && b) = false) : a = false ∨ (a = true ∧ b = false) := by cases a <;> simp_all
theorem append_both (P L : Nat) (ls : Ls) (hP : P ≤ 1024) (hL : L ≤ 1024) (hg : Good P L ls) (t x : Int) : ∃ er ls', PDo P L ls 24 [.int .i64 t, .int .i64 x] er ls' ∧ RDo P L ls 26 [.int .i64 t, .int .i64 x] er ls' := by
  cases hb : hp L t && hp P x with
  | false =>
    exact ⟨1, ls, pdo_no fun w B G g h _ h3 h4 => append_arg B G P L g t x w h h3 h4 hb, rdo_no fun w p c _ => rappend_arg P p L c t x w hb⟩
  | true =>
    rw [Bool.and_eq_true] at hb
    obtain ⟨t, rfl, ht⟩ := hp_nat hb.1
    obtain ⟨x, rfl, hx⟩ := hp_nat hb.2
    by_cases hi : ∃ s, s < L ∧ x ∈ ls s
    · obtain ⟨s, hs, hi⟩ := hi
      exact ⟨4, ls, pdo_no fun w B G g h h2 h3 h4 => append_in B G P L g t x w h h3 h4 ht hx (by rw [h2.li s hs x hi]; omega), rdo_no fun w p c hR => rappend_in P p L c ls t x s w hR hP hL hg ht hx hs hi⟩
    · have hi2 : ∀ s, s < L → x ∉ ls s := fun s hs h => hi ⟨s, hs, h⟩
      refine ⟨0, upd ls t (ls t ++ [x]), pdo_yes fun w B G g h h2 h3 h4 => ⟨putG g x (lst (P + t) (ls t)) (P + t), ?_, ?_⟩, fun f w p c hR hf _ => rappend_ok f P p L c ls t x w hR hP hL hg ht hx hi2 hf⟩
      · have := h2.put (x := ls t) (y := []) ht hx hi2 (by simp)
        exact this
      · exact append_ok B G P L g t x (lst (P + t) (ls t)) w h h3 h4 ht hx (by rw [h2.al x hx hi2]) (h2.lst_lt ht (fun i hi => hi)) (h2.endah ht)
theorem insert_both (P L : Nat) (ls : Ls) (hP : P ≤ 1024) (hL : L ≤ 1024) (hg : Good P L ls) (x y : Int) : ∃ er ls', PDo P L ls 19 [.int .i64 x, .int .i64 y] er ls' ∧ RDo P L ls 27 [.int .i64 x, .int .i64 y] er ls' := by
  cases hb : hp P x && hp P y with
  | false =>
    refine ⟨1, ls, pdo_no fun w B G g h _ _ _ => insert_arg B G P L g x y w h hb, rdo_no fun w p c _ => ?_⟩
    rcases hp_false hb with h1 | ⟨h1, h2⟩
    · exact rinsert_arg1 P p L c x y w h1
    · exact rinsert_arg2 P p L c x y w h1 h2
  | true =>
    rw [Bool.and_eq_true] at hb
    obtain ⟨x, rfl, hx⟩ := hp_nat hb.1
    obtain ⟨y, rfl, hy⟩ := hp_nat hb.2
    by_cases hi : ∃ s, s < L ∧ x ∈ ls s
    · obtain ⟨s, hs, hi⟩ := hi
      exact ⟨4, ls, pdo_no fun w B G g h h2 h3 h4 => insert_in B G P L g x y w h h3 h4 hx hy (by rw [h2.li s hs x hi]; omega), rdo_no fun w p c hR => rinsert_in P p L c ls x y s w hR hP hL hg hx hy hs hi⟩
    · have hi2 : ∀ s, s < L → x ∉ ls s := fun s hs h => hi ⟨s, hs, h⟩
      by_cases hj : ∃ s, s < L ∧ y ∈ ls s
      · obtain ⟨s, hs, hj⟩ := hj
        obtain ⟨a, b, hl⟩ := List.append_of_mem hj
        refine ⟨0, upd ls s (a ++ x :: y :: b), pdo_yes fun w B G g h h2 h3 h4 => ⟨putG g x (lst (P + s) a) y, ?_, ?_⟩, fun f w p c hR hf _ => rinsert_ok f P p L c ls x y s a b w hR hP hL hg hs hf hx hl hi2⟩
        · exact h2.put (x := a) (y := y :: b) hs hx hi2 hl
        · exact insert_ok B G P L g x y (lst (P + s) a) w h h3 h4 hx hy (by rw [h2.al x hx hi2]) (by rw [h2.li s hs y hj]; omega) (h2.lst_lt hs (fun i hi => by rw [hl]; simp [hi])) (h2.ahead hs hl)
      · have hj2 : ∀ s, s < L → y ∉ ls s := fun s hs h => hj ⟨s, hs, h⟩
        exact ⟨5, ls, pdo_no fun w B G g h h2 h3 h4 => insert_none B G P L g x y w h h3 h4 hx hy (by rw [h2.al x hx hi2]) (by rw [h2.al y hy hj2]), rdo_no fun w p c hR => rinsert_none P p L c ls x y w hR hP hL hg hx hy hi2 hj2⟩
theorem drop_both (P L : Nat) (ls : Ls) (hP : P ≤ 1024) (hL : L ≤ 1024) (hg : Good P L ls) (x : Int) : ∃ er ls', PDo P L ls 20 [.int .i64 x] er ls' ∧ RDo P L ls 28 [.int .i64 x] er ls' := by
  cases hb : hp P x with
  | false => exact ⟨1, ls, pdo_no fun w B G g h _ _ _ => drop_arg B G P L g x w h hb, rdo_no fun w p c _ => rdrop_arg P p L c x w hb⟩
  | true =>
    obtain ⟨x, rfl, hx⟩ := hp_nat hb
    by_cases hj : ∃ s, s < L ∧ x ∈ ls s
    · obtain ⟨s, hs, hj⟩ := hj
      obtain ⟨a, b, hl⟩ := List.append_of_mem hj
      refine ⟨0, upd ls s (a ++ b), pdo_yes fun w B G g h h2 h3 h4 => ⟨dropG g x (lst (P + s) a) (fst (P + s) b), h2.drop hs hl, ?_⟩, fun f w p c hR hf _ => rdrop_ok f P p L c ls x s a b w hR hP hL hg hs hf hl⟩
      exact drop_ok B G P L g x (lst (P + s) a) (fst (P + s) b) w h h3 h4 hx (by rw [h2.li s hs x hj]; omega) (h2.lst_lt hs (fun i hi => by rw [hl]; simp [hi])) (h2.fst_lt hs (fun i hi => by rw [hl]; simp [hi])) (h2.ahead hs hl) (h2.behind hs hl)
    · have hj2 : ∀ s, s < L → x ∉ ls s := fun s hs h => hj ⟨s, hs, h⟩
      exact ⟨5, ls, pdo_no fun w B G g h h2 h3 h4 => drop_none B G P L g x w h h3 h4 hx (by rw [h2.al x hx hj2]), rdo_no fun w p c hR => rdrop_none P p L c ls x w hR hP hL hg hx hj2⟩
theorem upd_nothing {ls : Ls} {t f : Nat} (h : ls f = []) : upd (upd ls t (ls t ++ ls f)) f [] = ls := by
  funext k
  unfold upd
  by_cases h1 : k = f
  · rw [if_pos h1, h1, h]
  · rw [if_neg h1]
    by_cases h2 : k = t
    · rw [if_pos h2, h2, h]; simp
    · rw [if_neg h2]
theorem head_fst {l : List Nat} (E : Nat) (h : l ≠ []) : l.head? = some (fst E l) := by
  cases l with
  | nil => exact absurd rfl h
  | cons a r => rfl
theorem splice_prog (P L : Nat) (ls : Ls) (t f : Nat) (ht : t < L) (hf : f < L) (htf : ¬ t = f) : PDo P L ls 21 [.int .i64 t, .int .i64 f] 0 (upd (upd ls t (ls t ++ ls f)) f []) := by
  by_cases h0 : ls f = []
  · rw [upd_nothing h0]
    exact pdo_no fun w B G g h h2 h3 h4 => splice_same B G P L g t f (ls f) w h h3 h4 ht hf (h2.nd f hf) (h2.pl f hf) (h2.fwd hf) (.inr h0)
  · refine pdo_yes fun w B G g h h2 h3 h4 => ⟨_, h2.splice ht hf htf h0, ?_⟩
    exact splice_ok B G P L g t f (ls f) (fst (P + f) (ls f)) (lst (P + t) (ls t)) (lst (P + f) (ls f)) w h h3 h4 ht hf htf (h2.nd f hf) (h2.pl f hf) (h2.fwd hf) (head_fst _ h0) (h2.lst_lt ht (fun i hi => hi)) (h2.lst_lt hf (fun i hi => hi)) (h2.endah ht) (h2.endah hf)
theorem splice_both (P L : Nat) (ls : Ls) (hP : P ≤ 1024) (hL : L ≤ 1024) (hg : Good P L ls) (t f : Int) : ∃ er ls', PDo P L ls 21 [.int .i64 t, .int .i64 f] er ls' ∧ RDo P L ls 29 [.int .i64 t, .int .i64 f] er ls' := by
  cases hb : hp L t && hp L f with
  | false =>
    refine ⟨1, ls, pdo_no fun w B G g h _ h3 h4 => splice_arg B G P L g t f w h h3 h4 hb, rdo_no fun w p c _ => ?_⟩
    rcases hp_false hb with h1 | ⟨h1, h2⟩
    · exact rsplice_arg1 P p L c t f w h1
    · exact rsplice_arg2 P p L c t f w h1 h2
  | true =>
    rw [Bool.and_eq_true] at hb
    obtain ⟨t, rfl, ht⟩ := hp_nat hb.1
    obtain ⟨f, rfl, hf⟩ := hp_nat hb.2
    by_cases htf : t = f
    · subst htf
      exact ⟨0, ls, pdo_no fun w B G g h h2 h3 h4 => splice_same B G P L g t t (ls t) w h h3 h4 ht hf (h2.nd t hf) (h2.pl t hf) (h2.fwd hf) (.inl rfl), rdo_no fun w p c hR => rsplice_same P p L c t w ht⟩
    · exact ⟨0, _, splice_prog P L ls t f ht hf htf, fun f' w p c hR hf' _ => rsplice_ok f' P p L c ls t f w hR hP hL hg ht hf' hf htf⟩
end Go.Proofs.Ytdeiknfaehpheaa
