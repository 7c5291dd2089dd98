/-
  Contract of a wheel's cut: those of a list that are due are taken out.
-/
import Derived.Test.YtllohpojajijjaaGreatDoorWop
set_option linter.unusedVariables false
set_option linter.unusedSimpArgs false
namespace Go.Proofs.YtllohpojajijjaaGreatDoor
open Go.RowKit
theorem OwnT.off {f : Nat → Prop} {w w' : World} {base : Nat} {v : Value} {l : List T} (h : OwnT w base v l) (hb : Off f w w') (hf : ∀ k, f k → k < base) : OwnT w' base v l := by
  refine ⟨h.1, ?_⟩
  rcases h.2 with hn | ⟨g, cap, cur, rfl, hbb, hgg, rest⟩
  · exact .inl hn
  · exact .inr ⟨g, cap, cur, rfl, hbb, (hb.block g (Array.getElem?_eq_some_iff.1 hgg).1 (fun e => by have := hf g e; omega)).trans hgg, rest⟩
theorem OwnT.low {w : World} {a b : Nat} {v : Value} {l : List T} (h : OwnT w b v l) (hab : a ≤ b) : OwnT w a v l := by
  refine ⟨h.1, ?_⟩
  rcases h.2 with hn | ⟨g, cap, cur, e, hb, rest⟩
  · exact .inl hn
  · exact .inr ⟨g, cap, cur, e, Nat.le_trans hab hb, rest⟩
/-- Those due of xs are taken out of l. -/
def rmv (l xs : List T) (now : Int) : List T := xs.foldl (fun l x => if x.a ≤ now then wo l x.p else l) l
theorem rmv_snoc (l xs : List T) (now : Int) (x : T) : rmv l (xs ++ [x]) now = if x.a ≤ now then wo (rmv l xs now) x.p else rmv l xs now := by unfold rmv; rw [List.foldl_append]; rfl
theorem rmv_filter (now : Int) : ∀ (xs l : List T), rmv l xs now = l.filter fun y => xs.all fun x => !(decide (x.a ≤ now) && decide (y.p = x.p))
  | [], l => by
    have e : rmv l [] now = l := rfl
    rw [e]
    exact (List.filter_eq_self.2 (fun y _ => by simp)).symm
  | x :: r, l => by
    have ih := rmv_filter now r (if x.a ≤ now then wo l x.p else l)
    have e : rmv l (x :: r) now = rmv (if x.a ≤ now then wo l x.p else l) r now := rfl
    rw [e, ih]
    by_cases h : x.a ≤ now
    · rw [if_pos h]
      unfold wo
      rw [List.filter_filter]
      congr 1
      funext y
      simp only [List.all_cons, decide_eq_true h, Bool.true_and]
      rw [Bool.and_comm]
    · rw [if_neg h]
      congr 1
      funext y
      simp only [List.all_cons, decide_eq_false h, Bool.false_and, Bool.not_false, Bool.true_and]
/-- What is due in a list, and what is left. -/
def dueIn (S : Nat) (s now : Int) (t : Nat) (l : List T) : List T := l.filter fun y => decide (lof S s y = t) && decide (y.a ≤ now)
def leftIn (S : Nat) (s now : Int) (t : Nat) (l : List T) : List T := l.filter fun y => !(decide (lof S s y = t) && decide (y.a ≤ now))
section
variable {P L S : Nat} {s now : Int} {ls : Ls} {r : Nat → T} {l : List T} {t : Nat}
theorem Is.mem_list (hi : Is P L (lof S s) ls r l) (ht : t < L) (y : T) : y ∈ (ls t).map r ↔ y ∈ l ∧ lof S s y = t := by
  rw [List.mem_map]
  constructor
  · rintro ⟨i, h1, h2⟩
    obtain ⟨x, hx, e, e2⟩ := hi.al t ht i h1
    have := (hi.tm x hx).2.2.1
    rw [e, h2] at this
    rw [this]
    exact ⟨hx, e2⟩
  · rintro ⟨h1, h2⟩
    obtain ⟨_, _, h3, _, h4⟩ := hi.tm y h1
    rw [h2] at h4
    exact ⟨pl y, h4, h3⟩
theorem Is.rmv_eq (hi : Is P L (lof S s) ls r l) (ht : t < L) : rmv l ((ls t).map r) now = leftIn S s now t l := by
  rw [rmv_filter]
  unfold leftIn
  apply List.filter_congr
  intro y hy
  rw [Bool.eq_iff_iff]
  simp only [List.all_eq_true, Bool.not_eq_true', Bool.and_eq_false_imp, decide_eq_true_eq, decide_eq_false_iff_not]
  constructor
  · intro h e e2
    exact h y ((hi.mem_list ht y).2 ⟨hy, e⟩) e2 rfl
  · intro h x hx e2 e3
    obtain ⟨hx1, hx2⟩ := (hi.mem_list ht x).1 hx
    have : y = x := hi.same hy hx1 (by have := (hi.tm y hy).1; have := (hi.tm x hx1).1; omega)
    subst this
    exact h hx2 e2
theorem Is.due_perm (hi : Is P L (lof S s) ls r l) (ht : t < L) (hnd : (ls t).Nodup) : (((ls t).map r).filter fun y => decide (y.a ≤ now)).Perm (dueIn S s now t l) := by
  have hn : ((ls t).map r).Nodup := by
    unfold List.Nodup
    rw [List.pairwise_map]
    refine hnd.imp_of_mem ?_
    intro a b ha hb hab e
    obtain ⟨x, hx, e1, _⟩ := hi.al t ht a ha
    obtain ⟨y, hy, e2, _⟩ := hi.al t ht b hb
    have h1 := (hi.tm x hx).2.2.1
    have h2 := (hi.tm y hy).2.2.1
    rw [e1] at h1
    rw [e2] at h2
    rw [h1, h2] at e
    rw [e] at e1
    omega
  unfold dueIn
  refine (List.perm_ext_iff_of_nodup (hn.filter _) (hi.lnd.filter _)).2 fun y => ?_
  rw [List.mem_filter, List.mem_filter, hi.mem_list ht]
  simp only [Bool.and_eq_true, decide_eq_true_eq, and_assoc]
end
theorem leftIn_sub {S : Nat} {s now : Int} {t : Nat} {l : List T} : ∀ y ∈ leftIn S s now t l, y ∈ l := fun y hy => (List.mem_filter.1 hy).1
section
variable {Q B G R P b : Nat} {s k : Int} {l : List T}
set_option maxRecDepth 100000 in
set_option maxHeartbeats 2000000 in
theorem cut_any {t : Nat} (now : Int) (w : World) (q : Wh w Q B G R P b s k l) (ht : t < slo b + 1) :
    Calls Tryz.prog 39 #[.pointer (some ⟨Q, 0, none⟩), .int .i64 t, .int .u64 now] w fun e w' => (∃ d v, d.Perm (dueIn (slo b) s now t l) ∧ e = .returned v ∧ OwnT w' w.heap.size v d) ∧ Wh w' Q B G R P b s k (leftIn (slo b) s now t l) ∧ Off (Fo Q G R) w w' := by
  have HWH := Lib.hid q
  obtain ⟨⟨ls, r, F, q1, q2⟩, q3⟩ := q
  have K1 := Lib.hid (in_any ht w q1)
  have hlen := q1.lslen ht
  have HLT := Lib.hid q1.lt
  have HEQ := Lib.hid (q1.is.rmv_eq (now := now) ht)
  have HPE := Lib.hid (q1.is.due_perm (now := now) ht (q1.rep ht).1)
  have lQ := q1.lt.1
  have hx0 : ((ls t).map r).length ≤ 1024 := by simpa using hlen
  generalize (ls t).map r = xs at *
  obtain ⟨n, hn⟩ : ∃ n, xs.length = n := ⟨_, rfl⟩
  have HN := Lib.hid hn
  rw [hn] at hx0
  have KC : Hid (∀ w' m (p : Int), Wh w' Q B G R P b s k m → Calls Tryz.prog 21 #[.pointer (some ⟨Q, 0, none⟩), .int .i64 p] w' fun e w2 => (∃ v, e = .returned v) ∧ Wh w2 Q B G R P b s k (wo m p) ∧ Off (Fo Q G R) w' w2) :=
    Lib.hid (fun w' m p h => (cancel_any p w' h).mono fun e w2 ⟨h1, h2, h3⟩ => ⟨⟨_, h1⟩, h2, h3⟩)
  clear q1 q2 q3 hlen hn
  go_enter Tryz.func39, Tryz.ntmps39
  go_wp2_with fail
  with_reducible refine K1.out.mono ?_
  rintro e w1 ⟨⟨p, c, rfl, hc, hl⟩, hb⟩
  rw [HN.out] at hc ⊢
  have HW1 := Lib.hid (HWH.out.bel hb)
  have HB1 := Lib.hid hb
  have HL := Lib.hid hl
  have HF : Hid (∀ i, Fo Q G R i → i < w.heap.size) := Lib.hid (fun i e => by obtain ⟨a1, a2, a3, a4⟩ := HLT.out; rcases e with e | e | e <;> omega)
  clear hl hb K1
  go_wp2
  go_loopw [7, 9, 16] (fun o _ v wr => ∃ m : Nat, v = .int .i64 m ∧ m ≤ n ∧ OwnT wr w1.heap.size o ((xs.take m).filter fun y => decide (y.a ≤ now)) ∧ Wh wr Q B G R P b s k (rmv l (xs.take m) now) ∧ Off (Fo Q G R) w1 wr) (fun _ _ v _ => n - (intOf v).toNat)
  case atStart => exact ⟨0, rfl, by omega, OwnT.nil _ _, HW1.out, Off.refl _ _⟩
  case round =>
    obtain ⟨m, rfl, hm, ho, hq, hoff⟩ := hrel
    have HO := Lib.hid ho
    have HQ := Lib.hid hq
    have HOF := Lib.hid hoff
    clear ho hq hoff
    by_cases hlt : m < n
    · obtain ⟨x, hx⟩ : ∃ x, xs[m]? = some x := ⟨_, List.getElem?_eq_getElem (by have := HN.out; omega)⟩
      have hxd : xs.getD m default = x := by rw [List.getD_eq_getElem?_getD, hx]; rfl
      obtain ⟨bb, off, rfl, hbb, hr⟩ := HL.out.row (fun e => by have := encs_len xs; rw [e] at this; simp at this; have := HN.out; omega)
      have hnf : ¬ Fo Q G R bb := fun e => hbb (HF.out bb e)
      obtain ⟨x0, x1, x2⟩ := rowG_row (RowG.off hr hnf HOF.out) m (by have := HN.out; omega)
      rw [hxd] at x0 x1 x2
      have HT : Hid (xs.take (m + 1) = xs.take m ++ [x]) := Lib.hid (by
        obtain ⟨h1, h2⟩ := List.getElem?_eq_some_iff.1 hx
        rw [List.take_succ_eq_append_getElem h1, h2])
      have HTL : Hid (((xs.take m).filter fun y => decide (y.a ≤ now)).length ≤ m) := Lib.hid (by
        have h1 := List.length_filter_le (fun y : T => decide (y.a ≤ now)) (xs.take m)
        have h2 := List.length_take_le m xs
        omega)
      have hbX : Bel wr (wr.alloc (.cells #[.int .u64 x.a, .int .u64 x.s, .int .i64 x.p] 37)) := (Bel.refl _).alloc _ _
      have HNX : Hid ((wr.alloc (.cells #[.int .u64 x.a, .int .u64 x.s, .int .i64 x.p] 37)).heap[wr.heap.size]? = some (.cells #[.int .u64 x.a, .int .u64 x.s, .int .i64 x.p] 37 (0, 0))) := Lib.hid (heap_alloc_new _ _)
      have HQX := Lib.hid (HQ.out.bel hbX)
      have HOX := Lib.hid (HO.out.bel hbX)
      have HOFX := Lib.hid (HOF.out.then (hbX.off (Fo Q G R)))
      clear hbX hr hx hxd hbb hnf
      by_cases hd : x.a ≤ now
      · have KX := Lib.hid (KC.out _ _ x.p HQX.out)
        have HR : Hid (rmv l (xs.take (m + 1)) now = wo (rmv l (xs.take m) now) x.p) := Lib.hid (by rw [HT.out, rmv_snoc, if_pos hd])
        have HD : Hid (((xs.take (m + 1)).filter fun y => decide (y.a ≤ now)) = ((xs.take m).filter fun y => decide (y.a ≤ now)) ++ [x]) := Lib.hid (by rw [HT.out, List.filter_append]; simp [hd])
        go_wp2_with fail
        with_reducible refine KX.out.mono ?_
        rintro e w3 ⟨⟨v3, rfl⟩, hq3, ho3⟩
        have hx3 : w3.heap[wr.heap.size]? = some (.cells #[.int .u64 x.a, .int .u64 x.s, .int .i64 x.p] 37 (0, 0)) := (ho3.block _ (by simp) (fun e => by have := HF.out _ e; have := HB1.out.size; have := HOF.out.size; omega)).trans HNX.out
        obtain ⟨⟨b0, b1, b2⟩, _⟩ := box3 hx3
        have HQ3 := Lib.hid hq3
        have HO3 : Hid (OwnT w3 w1.heap.size _ ((xs.take m).filter fun y => decide (y.a ≤ now))) := Lib.hid (HOX.out.off ho3 (fun k e => Nat.lt_of_lt_of_le (HF.out k e) HB1.out.size))
        have HOF3 := Lib.hid (HOFX.out.then ho3)
        have HZ3 := Lib.hid HOF3.out.size
        have hlt3 : wr.heap.size < w3.heap.size := (Array.getElem?_eq_some_iff.1 hx3).1
        have HH : Hid (Has (w3.alloc (.cells #[.int .u64 x.a, .int .u64 x.s, .int .i64 x.p] 37)) (some ⟨w3.heap.size, 0, none⟩) [x]) := Lib.hid (has_one w3 x)
        clear hq3 ho3 hx3 x0 x1 x2
        go_wp2_with (at_builtin; refine wpList_append_any rfl (.tmp 28) (.tmp 30) rfl w1.heap.size _ ((xs.take m).filter fun y => decide (y.a ≤ now)) rfl (HO3.out.bel ((Bel.refl _).alloc _ _)) _ _ _ [x] rfl rfl HH.out (by have := HTL.out; omega) (by have := HZ3.out; simp; omega) ?_)
        intro v' w4 hown hgrow hnil
        have hb4 : Bel w3 (w3.alloc (.cells #[.int .u64 x.a, .int .u64 x.s, .int .i64 x.p] 37)) := (Bel.refl _).alloc _ _
        have HO4 : Hid (OwnT w4 w1.heap.size v' ((xs.take (m + 1)).filter fun y => decide (y.a ≤ now))) := Lib.hid (by rw [HD.out]; exact hown)
        have ho4 : Off (fun k => w1.heap.size ≤ k) w3 w4 := (hb4.off _).grown hgrow (fun k hk => .inl (HO3.out.lt k hk).1)
        have HOF4 : Hid (Off (Fo Q G R) w1 w4) := Lib.hid ((HOF3.out.alloc _ _).grown hgrow (fun k hk => .inr (HO3.out.lt k hk).1))
        have HQ4 := Lib.hid (HQ3.out.off ho4 (fun i e e2 => by obtain ⟨a1, a2, a3, a4⟩ := HLT.out; have := HB1.out.size; have h2 : w1.heap.size ≤ i := e2; rcases e with e | e | e | e <;> omega) (fun e => by have h2 : w1.heap.size ≤ 0 := e; have := HB1.out.size; have := HLT.out.1; omega))
        clear hown hgrow hnil hb4 ho4
        go_wp2
        go_roundw
        case rel => exact ⟨m + 1, by go_num, by omega, HO4.out, by rw [HR.out]; exact HQ4.out, HOF4.out⟩
        case measure => simp [intOf]; omega
      · have HR : Hid (rmv l (xs.take (m + 1)) now = rmv l (xs.take m) now) := Lib.hid (by rw [HT.out, rmv_snoc, if_neg hd])
        have HD : Hid (((xs.take (m + 1)).filter fun y => decide (y.a ≤ now)) = ((xs.take m).filter fun y => decide (y.a ≤ now))) := Lib.hid (by rw [HT.out, List.filter_append]; simp [hd])
        go_wp2
        go_roundw
        case rel => exact ⟨m + 1, by go_num, by omega, by rw [HD.out]; exact HOX.out, by rw [HR.out]; exact HQX.out, HOFX.out⟩
        case measure => simp [intOf]; omega
    · obtain rfl : m = n := by omega
      have HE : Hid (xs.take m = xs) := Lib.hid (List.take_of_length_le (by have := HN.out; omega))
      go_wp2
      go_ret
      have k := HO.out.low HB1.out.size
      have k2 := HQ.out
      rw [HE.out] at k k2
      rw [HEQ.out] at k2
      exact ⟨⟨_, _, HPE.out, rfl, k⟩, k2, (HB1.out.off (Fo Q G R)).then HOF.out⟩
end
end Go.Proofs.YtllohpojajijjaaGreatDoor
