/-
  Contracts of timers in lists of places: Some, New, Cut.
-/
import Derived.Test.YtdoceldofkaapaaDoorXal
import Derived.Test.YtdoceldofkaapaaDoorNew
import Derived.Test.YtdoceldofkaapaaDoorXan
set_option linter.unusedVariables false
set_option linter.unusedSimpArgs false
namespace Go.Proofs.YtdoceldofkaapaaDoor
open Go.RowKit
section
variable {Z B G R P L : Nat} {lo : T → Nat} {ls : Ls} {r : Nat → T} {l : List T}
/-- Does a list have anything? -/
def has1 (xs : List Nat) : Bool := !xs.isEmpty
theorem some_any {t : Nat} (ht : t < L) (w : World) (q : Qp w Z B G R P L lo ls r l) :
    Calls Tryd.prog 47 #[.pointer (some ⟨Z, 0, none⟩), .int .i64 t] w fun e w' => e = .returned (.bool (has1 (ls t))) ∧ Bel w w' := by
  have K1 := Lib.hid (first_qp q ht)
  obtain ⟨c0, c1⟩ := q.head
  have lZ := q.lt.1
  cases e : ls t with
  | nil =>
    rw [e] at K1
    clear q e
    unfold ans at K1
    go_enter Tryd.func47, Tryd.ntmps47
    go_wp2_with fail
    with_reducible refine K1.out.mono ?_
    rintro e w1 ⟨rfl, hb⟩
    go_wp2
    go_ret
    exact ⟨rfl, hb⟩
  | cons y s =>
    rw [e] at K1
    clear q e
    unfold ans at K1
    go_enter Tryd.func47, Tryd.ntmps47
    go_wp2_with fail
    with_reducible refine K1.out.mono ?_
    rintro e w1 ⟨rfl, hb⟩
    go_wp2
    go_ret
    exact ⟨rfl, hb⟩
/-- What is left in the lists, in their order: each list has only lost some. -/
def Sb (L : Nat) (ls : Ls) (r : Nat → T) (ls' : Ls) (r' : Nat → T) : Prop := ∀ u, u < L → ((ls' u).map r').Sublist ((ls u).map r)
theorem Sb.refl (L : Nat) (ls : Ls) (r : Nat → T) : Sb L ls r ls r := fun _ _ => List.Sublist.refl _
theorem Sb.trans {L : Nat} {a b c : Ls} {x y z : Nat → T} (h : Sb L a x b y) (k : Sb L b y c z) : Sb L a x c z := fun u hu => (k u hu).trans (h u hu)
theorem map_out {r : Nat → T} {k : Nat} {z : T} {xs : List Nat} (h : k ∉ xs) : xs.map (upT r k z) = xs.map r := by
  apply List.map_congr_left
  intro i hi
  unfold upT
  have hne : i ≠ k := fun e => h (by rw [← e]; exact hi)
  rw [if_neg hne]
theorem Is.outof (hi : Is P L lo ls r l) {k : Nat} {x : T} (hf : fnd l k = some x) {u : Nat} (hu : u < L) (hne : u ≠ lo x) : k ∉ ls u := by
  intro hk
  obtain ⟨y, hy, e1, e2⟩ := hi.al u hu k hk
  obtain ⟨h1, h2⟩ := fnd_some hf
  have e3 : pl x = k := by unfold pl; rw [h2]; simp
  have : y = x := hi.same hy h1 (by omega)
  subst this
  exact hne e2.symm
theorem Sb.drop (hi : Is P L lo ls r l) {k : Nat} {x z : T} {a b : List Nat} (hf : fnd l k = some x) (hnd : (ls (lo x)).Nodup) (hl : ls (lo x) = a ++ k :: b) : Sb L ls r (upd ls (lo x) (a ++ b)) (upT r k z) := by
  intro u hu
  by_cases e : u = lo x
  · subst e
    rw [upd_same, hl]
    rw [hl] at hnd
    have h1 := List.nodup_append.1 hnd
    have h2 := (List.nodup_cons.1 h1.2.1).1
    have h3 : k ∉ a := fun e => h1.2.2 k e k (by simp) rfl
    rw [map_out (by simp [h2, h3])]
    exact ((List.Sublist.refl a).append (List.sublist_cons_self k b)).map r
  · rw [upd_other _ _ e, map_out (hi.outof hf hu e)]
    exact List.Sublist.refl _
/-- Those due of xs are taken out of l. -/
def rmv (l xs : List T) (now : Int) : List T := xs.foldl (fun l x => if x.a ≤ now then wo l x.p else l) l
theorem rmv_snoc (l xs : List T) (now : Int) (x : T) : rmv l (xs ++ [x]) now = if x.a ≤ now then wo (rmv l xs now) x.p else rmv l xs now := by unfold rmv; rw [List.foldl_append]; rfl
theorem rmv_filter (now : Int) : ∀ (xs l : List T), rmv l xs now = l.filter fun y => xs.all fun x => !(decide (x.a ≤ now) && decide (y.p = x.p))
  | [], l => by
    have e : rmv l [] now = l := rfl
    rw [e]
    exact (List.filter_eq_self.2 (fun y _ => by simp)).symm
  | x :: r, l => by
    have ih := rmv_filter now r (if x.a ≤ now then wo l x.p else l)
    have e : rmv l (x :: r) now = rmv (if x.a ≤ now then wo l x.p else l) r now := rfl
    rw [e, ih]
    by_cases h : x.a ≤ now
    · rw [if_pos h]
      unfold wo
      rw [List.filter_filter]
      congr 1
      funext y
      simp only [List.all_cons, decide_eq_true h, Bool.true_and]
      rw [Bool.and_comm]
    · rw [if_neg h]
      congr 1
      funext y
      simp only [List.all_cons, decide_eq_false h, Bool.false_and, Bool.not_false, Bool.true_and]
theorem Is.rmv_eq (hi : Is P L lo ls r l) {t : Nat} {now : Int} (ht : t < L) : rmv l ((ls t).map r) now = leftL lo now t l := by
  rw [rmv_filter]
  unfold leftL
  apply List.filter_congr
  intro y hy
  rw [Bool.eq_iff_iff]
  simp only [List.all_eq_true, Bool.not_eq_true', Bool.and_eq_false_imp, decide_eq_true_eq, decide_eq_false_iff_not]
  constructor
  · intro h e e2
    exact h y ((hi.mem_list ht y).2 ⟨hy, e⟩) e2 rfl
  · intro h x hx e2 e3
    obtain ⟨hx1, hx2⟩ := (hi.mem_list ht x).1 hx
    have : y = x := hi.same hy hx1 (by have := (hi.tm y hy).1; have := (hi.tm x hx1).1; omega)
    subst this
    exact h hx2 e2
theorem Is.map_nodup (hi : Is P L lo ls r l) {t : Nat} (ht : t < L) (hnd : (ls t).Nodup) : ((ls t).map r).Nodup := by
  unfold List.Nodup
  rw [List.pairwise_map]
  refine hnd.imp_of_mem ?_
  intro a b ha hb hab e
  obtain ⟨x, hx, e1, _⟩ := hi.al t ht a ha
  obtain ⟨y, hy, e2, _⟩ := hi.al t ht b hb
  have h1 := (hi.tm x hx).2.2.1
  have h2 := (hi.tm y hy).2.2.1
  rw [e1] at h1
  rw [e2] at h2
  rw [h1, h2] at e
  rw [e] at e1
  omega
theorem Is.lnd' (hi : Is P L lo ls r l) : l.Nodup := by
  have h1 := hi.nd
  unfold pls List.Nodup at h1
  rw [List.pairwise_map] at h1
  exact h1.imp (fun hab e => hab (by rw [e]))
theorem Is.due_perm (hi : Is P L lo ls r l) {t : Nat} {now : Int} (ht : t < L) (hnd : (ls t).Nodup) : (((ls t).map r).filter fun y => decide (y.a ≤ now)).Perm (dueL lo now t l) := by
  unfold dueL
  refine (List.perm_ext_iff_of_nodup ((hi.map_nodup ht hnd).filter _) (hi.lnd'.filter _)).2 fun y => ?_
  rw [List.mem_filter, List.mem_filter, hi.mem_list ht]
  simp only [Bool.and_eq_true, decide_eq_true_eq, and_assoc]
end
theorem leftL_sub {lo : T → Nat} {now : Int} {t : Nat} {l : List T} : ∀ y ∈ leftL lo now t l, y ∈ l := fun y hy => (List.mem_filter.1 hy).1
theorem OwnT.off {f : Nat → Prop} {w w' : World} {base : Nat} {v : Value} {l : List T} (h : OwnT w base v l) (hb : Off f w w') (hf : ∀ k, f k → k < base) : OwnT w' base v l := by
  refine ⟨h.1, ?_⟩
  rcases h.2 with hn | ⟨g, cap, cur, rfl, hbb, hgg, rest⟩
  · exact .inl hn
  · exact .inr ⟨g, cap, cur, rfl, hbb, (hb.block g (Array.getElem?_eq_some_iff.1 hgg).1 (fun e => by have := hf g e; omega)).trans hgg, rest⟩
theorem OwnT.low {w : World} {a b : Nat} {v : Value} {l : List T} (h : OwnT w b v l) (hab : a ≤ b) : OwnT w a v l := by
  refine ⟨h.1, ?_⟩
  rcases h.2 with hn | ⟨g, cap, cur, e, hb, rest⟩
  · exact .inl hn
  · exact .inr ⟨g, cap, cur, e, Nat.le_trans hab hb, rest⟩
section
variable {Z B G R P L : Nat} {lo : T → Nat} {ls : Ls} {r : Nat → T} {l : List T}
theorem take_any (p : Int) (w : World) (q : Qp w Z B G R P L lo ls r l) :
    Calls Tryd.prog 37 #[.pointer (some ⟨Z, 0, none⟩), .int .i64 p] w fun e w' => (∃ v, e = .returned v) ∧ (∃ ls' r', Qp w' Z B G R P L lo ls' r' (wo l p) ∧ Sb L ls r ls' r' ∧ ∀ u, (∀ x ∈ l, x.p = p → lo x ≠ u) → ls' u = ls u) ∧ Off (Fo2 G R) w w' := by
  rcases canE_cases P l p with ⟨h, hc⟩ | ⟨h, j, rfl, hj, x, hf⟩
  · have hf : fnd l p = none := by
      rcases hc with ⟨_, hk⟩ | ⟨_, _, hf⟩
      · exact q.is.outside hk
      · exact hf
    rw [wo_none hf]
    exact (take_no p w q h).mono fun e w' ⟨h1, h2⟩ => ⟨⟨_, h1⟩, ⟨ls, r, q.bel h2, Sb.refl _ _ _, fun _ _ => rfl⟩, h2.off _⟩
  · obtain ⟨a, b, hl, hk⟩ := take_ok w q hf
    have hlo := (q.is.inn hf).2.2.1
    refine hk.mono fun e w' ⟨h1, h2, h3⟩ => ⟨⟨_, h1⟩, ⟨_, _, h2, Sb.drop q.is hf (q.rep hlo).1 hl, fun u hu => upd_other _ _ (fun e => ?_)⟩, h3⟩
    obtain ⟨k1, k2⟩ := fnd_some hf
    exact hu x k1 k2 e.symm
set_option maxRecDepth 100000 in
set_option maxHeartbeats 2000000 in
theorem pcut_any {t : Nat} (ht : t < L) (now : Int) (w : World) (q : Qp w Z B G R P L lo ls r l) :
    Calls Tryd.prog 39 #[.pointer (some ⟨Z, 0, none⟩), .int .i64 t, .int .u64 now] w fun e w' => (∃ d v, d.Perm (dueL lo now t l) ∧ e = .returned v ∧ OwnT w' w.heap.size v d) ∧ (∃ ls' r', Qp w' Z B G R P L lo ls' r' (leftL lo now t l) ∧ Sb L ls r ls' r' ∧ ∀ u, u ≠ t → ls' u = ls u) ∧ Off (Fo2 G R) w w' := by
  have HWH := Lib.hid q
  have K1 := Lib.hid (in_any ht w q)
  have hlen := q.lslen ht
  have HLT := Lib.hid q.lt
  have HEQ := Lib.hid (q.is.rmv_eq (now := now) ht)
  have HPE := Lib.hid (q.is.due_perm (now := now) ht (q.rep ht).1)
  have HIS := Lib.hid q.is
  have HML : Hid (∀ y, y ∈ (ls t).map r → y ∈ l ∧ lo y = t) := Lib.hid (fun y hy => (q.is.mem_list ht y).1 hy)
  have lZ := q.lt.1
  have hx0 : ((ls t).map r).length ≤ 1024 := by simpa using hlen
  generalize (ls t).map r = xs at *
  obtain ⟨n, hn⟩ : ∃ n, xs.length = n := ⟨_, rfl⟩
  have HN := Lib.hid hn
  rw [hn] at hx0
  have KC : Hid (∀ w' m (p : Int) ls1 r1, Qp w' Z B G R P L lo ls1 r1 m → Calls Tryd.prog 37 #[.pointer (some ⟨Z, 0, none⟩), .int .i64 p] w' fun e w2 => (∃ v, e = .returned v) ∧ (∃ ls' r', Qp w2 Z B G R P L lo ls' r' (wo m p) ∧ Sb L ls1 r1 ls' r' ∧ ∀ u, (∀ x ∈ m, x.p = p → lo x ≠ u) → ls' u = ls1 u) ∧ Off (Fo2 G R) w' w2) :=
    Lib.hid (fun w' m p ls1 r1 h => take_any p w' h)
  clear q hlen hn
  go_enter Tryd.func39, Tryd.ntmps39
  go_wp2_with fail
  with_reducible refine K1.out.mono ?_
  rintro e w1 ⟨⟨p, c, rfl, hc, hl⟩, hb⟩
  rw [HN.out] at hc ⊢
  have HW1 := Lib.hid (HWH.out.bel hb)
  have HB1 := Lib.hid hb
  have HL := Lib.hid hl
  have HF : Hid (∀ i, Fo2 G R i → i < w.heap.size) := Lib.hid (fun i e => by obtain ⟨a1, a2, a3, a4⟩ := HLT.out; rcases e with e | e <;> omega)
  clear hl hb K1
  go_wp2
  go_loopw [7, 9, 14] (fun o _ v wr => ∃ m : Nat, v = .int .i64 m ∧ m ≤ n ∧ OwnT wr w1.heap.size o ((xs.take m).filter fun y => decide (y.a ≤ now)) ∧ (∃ ls' r', Qp wr Z B G R P L lo ls' r' (rmv l (xs.take m) now) ∧ Sb L ls r ls' r' ∧ ∀ u, u ≠ t → ls' u = ls u) ∧ Off (Fo2 G R) w1 wr) (fun _ _ v _ => n - (intOf v).toNat)
  case atStart => exact ⟨0, rfl, by omega, OwnT.nil _ _, ⟨ls, r, HW1.out, Sb.refl _ _ _, fun _ _ => rfl⟩, Off.refl _ _⟩
  case round =>
    obtain ⟨m, rfl, hm, ho, ⟨ls1, r1, hq, hsb, hls⟩, hoff⟩ := hrel
    have HO := Lib.hid ho
    have HQ := Lib.hid hq
    have HSB := Lib.hid hsb
    have HLS := Lib.hid hls
    have HOF := Lib.hid hoff
    clear ho hq hoff hsb hls
    by_cases hlt : m < n
    · obtain ⟨x, hx⟩ : ∃ x, xs[m]? = some x := ⟨_, List.getElem?_eq_getElem (by have := HN.out; omega)⟩
      have hxd : xs.getD m default = x := by rw [List.getD_eq_getElem?_getD, hx]; rfl
      obtain ⟨bb, off, rfl, hbb, hr⟩ := HL.out.row (fun e => by have := encs_len xs; rw [e] at this; simp at this; have := HN.out; omega)
      have hnf : ¬ Fo2 G R bb := fun e => hbb (HF.out bb e)
      obtain ⟨x0, x1, x2⟩ := rowG_row (RowG.off hr hnf HOF.out) m (by have := HN.out; omega)
      rw [hxd] at x0 x1 x2
      have HT : Hid (xs.take (m + 1) = xs.take m ++ [x]) := Lib.hid (by
        obtain ⟨h1, h2⟩ := List.getElem?_eq_some_iff.1 hx
        rw [List.take_succ_eq_append_getElem h1, h2])
      have HTL : Hid (((xs.take m).filter fun y => decide (y.a ≤ now)).length ≤ 1024) := Lib.hid (by
        have h1 := List.length_filter_le (fun y => decide (y.a ≤ now)) (xs.take m)
        have h2 : (xs.take m).length ≤ n := by rw [List.length_take]; omega
        omega)
      have HXM := Lib.hid (HML.out x (List.mem_of_getElem? hx))
      have hbX : Bel wr (wr.alloc (.cells #[.int .u64 x.a, .int .u64 x.s, .int .i64 x.p] 41)) := (Bel.refl _).alloc _ _
      have HNX : Hid ((wr.alloc (.cells #[.int .u64 x.a, .int .u64 x.s, .int .i64 x.p] 41)).heap[wr.heap.size]? = some (.cells #[.int .u64 x.a, .int .u64 x.s, .int .i64 x.p] 41 (0, 0))) := Lib.hid (heap_alloc_new _ _)
      have HQX := Lib.hid (HQ.out.bel hbX)
      have HOX := Lib.hid (HO.out.bel hbX)
      have HOFX := Lib.hid (HOF.out.then (hbX.off (Fo2 G R)))
      clear hbX hr hx hxd hbb hnf
      by_cases hd : x.a ≤ now
      · have KX := Lib.hid (KC.out _ _ x.p _ _ HQX.out)
        have HR : Hid (rmv l (xs.take (m + 1)) now = wo (rmv l (xs.take m) now) x.p) := Lib.hid (by rw [HT.out, rmv_snoc, if_pos hd])
        have HD : Hid (((xs.take (m + 1)).filter fun y => decide (y.a ≤ now)) = ((xs.take m).filter fun y => decide (y.a ≤ now)) ++ [x]) := Lib.hid (by rw [HT.out, List.filter_append]; simp [hd])
        have HU : Hid (∀ u, u ≠ t → ∀ y ∈ rmv l (xs.take m) now, y.p = x.p → lo y ≠ u) := Lib.hid (fun u hu y hy e => by
          have h1 : y ∈ l := by rw [rmv_filter] at hy; exact (List.mem_filter.1 hy).1
          obtain ⟨h2, h3⟩ := HXM.out
          have h4 : y = x := HIS.out.same h1 h2 (by unfold pl; rw [e])
          rw [h4, h3]
          exact fun e => hu e.symm)
        go_wp2_with fail
        with_reducible refine KX.out.mono ?_
        rintro e w3 ⟨⟨v3, rfl⟩, ⟨ls3, r3, hq3, hsb3, hls3⟩, ho3⟩
        have hx3 : w3.heap[wr.heap.size]? = some (.cells #[.int .u64 x.a, .int .u64 x.s, .int .i64 x.p] 41 (0, 0)) := (ho3.block _ (by simp) (fun e => by have := HF.out _ e; have := HB1.out.size; have := HOF.out.size; omega)).trans HNX.out
        obtain ⟨⟨b0, b1, b2⟩, _⟩ := box3 hx3
        have HQ3 := Lib.hid hq3
        have HSB3 := Lib.hid (HSB.out.trans hsb3)
        have HLS3 : Hid (∀ u, u ≠ t → ls3 u = ls u) := Lib.hid (fun u hu => (hls3 u (HU.out u hu)).trans (HLS.out u hu))
        have HO3 : Hid (OwnT w3 w1.heap.size _ ((xs.take m).filter fun y => decide (y.a ≤ now))) := Lib.hid (HOX.out.off ho3 (fun k e => Nat.lt_of_lt_of_le (HF.out k e) HB1.out.size))
        have HOF3 := Lib.hid (HOFX.out.then ho3)
        have HZ3 := Lib.hid HOF3.out.size
        have hlt3 : wr.heap.size < w3.heap.size := (Array.getElem?_eq_some_iff.1 hx3).1
        have HH : Hid (Has (w3.alloc (.cells #[.int .u64 x.a, .int .u64 x.s, .int .i64 x.p] 41)) (some ⟨w3.heap.size, 0, none⟩) [x]) := Lib.hid (has_one w3 x)
        clear hq3 ho3 hx3 x0 x1 x2 hsb3 hls3
        go_wp2_with (at_builtin; refine wpList_append_any rfl (.tmp 26) (.tmp 28) rfl w1.heap.size _ ((xs.take m).filter fun y => decide (y.a ≤ now)) rfl (HO3.out.bel ((Bel.refl _).alloc _ _)) _ _ _ [x] rfl rfl HH.out (by have := HTL.out; omega) (by have := HZ3.out; simp; omega) ?_)
        intro v' w4 hown hgrow hnil
        have hb4 : Bel w3 (w3.alloc (.cells #[.int .u64 x.a, .int .u64 x.s, .int .i64 x.p] 41)) := (Bel.refl _).alloc _ _
        have HO4 : Hid (OwnT w4 w1.heap.size v' ((xs.take (m + 1)).filter fun y => decide (y.a ≤ now))) := Lib.hid (by rw [HD.out]; exact hown)
        have ho4 : Off (fun k => w1.heap.size ≤ k) w3 w4 := (hb4.off _).grown hgrow (fun k hk => .inl (HO3.out.lt k hk).1)
        have HOF4 : Hid (Off (Fo2 G R) w1 w4) := Lib.hid ((HOF3.out.alloc _ _).grown hgrow (fun k hk => .inr (HO3.out.lt k hk).1))
        have HQ4 := Lib.hid (HQ3.out.off ho4 (fun e => by obtain ⟨a1, a2, a3, a4⟩ := HLT.out; have := HB1.out.size; have h2 : w1.heap.size ≤ Z := e; omega) (fun e => by obtain ⟨a1, a2, a3, a4⟩ := HLT.out; have := HB1.out.size; have h2 : w1.heap.size ≤ B := e; omega) (fun e => by obtain ⟨a1, a2, a3, a4⟩ := HLT.out; have := HB1.out.size; have h2 : w1.heap.size ≤ G := e; omega) (fun e => by obtain ⟨a1, a2, a3, a4⟩ := HLT.out; have := HB1.out.size; have h2 : w1.heap.size ≤ R := e; omega))
        clear hown hgrow hnil hb4 ho4
        go_wp2
        go_roundw
        case rel => exact ⟨m + 1, by go_num, by omega, HO4.out, ⟨ls3, r3, by rw [HR.out]; exact HQ4.out, HSB3.out, HLS3.out⟩, HOF4.out⟩
        case measure => simp [intOf]; omega
      · have HR : Hid (rmv l (xs.take (m + 1)) now = rmv l (xs.take m) now) := Lib.hid (by rw [HT.out, rmv_snoc, if_neg hd])
        have HD : Hid (((xs.take (m + 1)).filter fun y => decide (y.a ≤ now)) = ((xs.take m).filter fun y => decide (y.a ≤ now))) := Lib.hid (by rw [HT.out, List.filter_append]; simp [hd])
        go_wp2
        go_roundw
        case rel => exact ⟨m + 1, by go_num, by omega, by rw [HD.out]; exact HOX.out, ⟨ls1, r1, by rw [HR.out]; exact HQX.out, HSB.out, HLS.out⟩, HOFX.out⟩
        case measure => simp [intOf]; omega
    · obtain rfl : m = n := by omega
      have HE : Hid (xs.take m = xs) := Lib.hid (List.take_of_length_le (by have := HN.out; omega))
      go_wp2
      go_ret
      have k := HO.out.low HB1.out.size
      have k2 := HQ.out
      rw [HE.out] at k k2
      rw [HEQ.out] at k2
      exact ⟨⟨_, _, HPE.out, rfl, k⟩, ⟨ls1, r1, k2, HSB.out, HLS.out⟩, (HB1.out.off (Fo2 G R)).then HOF.out⟩
end
end Go.Proofs.YtdoceldofkaapaaDoor
