/-
  Contract of a queue's Due.
-/
import Derived.Test.YtmkpnojojkgmiaaCancel
import Derived.Test.YtmkpnojojkgmiaaTold
namespace Go.Proofs.Ytmkpnojojkgmiaa
open Go.RowKit
theorem So.at {d m : List T} {x : T} (h : So (d ++ x :: m)) : ∀ y ∈ m, x.a ≤ y.a := by
  intro y hy
  have h1 := (List.pairwise_append.1 h).2.1
  have h2 := (List.pairwise_cons.1 h1).1 y hy
  rw [lt_no] at h2
  unfold Lt at h2
  omega
theorem due_split {d m : List T} {now : Int} (h : So (d ++ m)) (hd : ∀ x ∈ d, x.a ≤ now) (hm : ∀ x ∈ m.head?, ¬ x.a ≤ now) : due (d ++ m) now true = d ∧ due (d ++ m) now false = m := by
  have hm2 : ∀ x ∈ m, ¬ x.a ≤ now := by
    cases m with
    | nil => intro x hx; simp at hx
    | cons y r =>
      have h1 := hm y (by simp)
      intro x hx
      rcases List.mem_cons.1 hx with rfl | hx
      · exact h1
      · have := h.at x hx; omega
  have e1 : d.filter (fun x => decide (x.a ≤ now) == true) = d := by rw [List.filter_eq_self]; intro x hx; simpa using hd x hx
  have e2 : m.filter (fun x => decide (x.a ≤ now) == true) = [] := by rw [List.filter_eq_nil_iff]; intro x hx; simpa using hm2 x hx
  have e3 : d.filter (fun x => decide (x.a ≤ now) == false) = [] := by rw [List.filter_eq_nil_iff]; intro x hx; simpa using hd x hx
  have e4 : m.filter (fun x => decide (x.a ≤ now) == false) = m := by rw [List.filter_eq_self]; intro x hx; simpa using hm2 x hx
  unfold due
  rw [List.filter_append, List.filter_append, e1, e2, e3, e4]
  simp
theorem Is.mid {P : Nat} {g : Rg} {r : Nat → T} {d m : List T} {x : T} (h : Is P g r (d ++ x :: m)) : Met (fun i => (g i).bh) P (pl x) (pls m) := by
  have e : pls (d ++ x :: m) = pls d ++ pl x :: pls m := by unfold pls; simp
  exact h.rep.next (t := 0) (by omega) e
theorem Is.tail {P : Nat} {g : Rg} {r : Nat → T} {d m : List T} (h : Is P g r (d ++ m)) : (pls m).Nodup ∧ ∀ y ∈ pls m, y < P := by
  have e : pls (d ++ m) = pls d ++ pls m := by unfold pls; simp
  have h1 := h.nodup
  have h2 := h.lt
  rw [e] at h1 h2
  exact ⟨(List.nodup_append.1 h1).2.1, fun y hy => h2 y (by simp [hy])⟩
theorem fnd_head {P : Nat} {g : Rg} {r : Nat → T} {x : T} {m : List T} (h : Is P g r (x :: m)) : fnd (x :: m) (pl x) = some x := by
  unfold fnd
  rw [List.find?_cons_of_pos]
  simpa using (h.tm x (by simp)).1
theorem wo_head {P : Nat} {g : Rg} {r : Nat → T} {x : T} {m : List T} (h : Is P g r (x :: m)) : wo (x :: m) (pl x) = m := by
  unfold wo
  rw [List.filter_cons_of_neg (by simpa using (h.tm x (by simp)).1), List.filter_eq_self]
  intro y hy
  have h1 := h.nodup
  have e : pls (x :: m) = pl x :: pls m := rfl
  rw [e] at h1
  have h2 := (List.nodup_cons.1 h1).1
  have h3 := (h.tm y (by simp [hy])).1
  simp
  intro e2
  refine h2 (List.mem_map.2 ⟨y, hy, ?_⟩)
  omega
theorem lies_i (w : World) (x : Nat) (t : TypeId) : Lies nof (w.alloc (.cells #[.int .i64 (x : Nat)] t)) (some ⟨w.heap.size, 0, none⟩) (encI [x]) := by
  refine .inr ⟨_, _, rfl, fun e => e, fun j u hu => ?_⟩
  have hj : j = 0 := by have := (List.getElem?_eq_some_iff.1 hu).1; simp [encI] at this; omega
  subst hj
  simp [encI] at hu
  subst hu
  simp [go_sem]
/-- The number of what may be there. -/
def pv (o : Option Nat) : Int := (o.getD 0 : Nat)
theorem ans_eq (o : Option Nat) : ans o = .tuple #[.int .i64 (pv o), .bool o.isSome] := by cases o <;> rfl
theorem fieldA (a s p : Int) (w : World) : (Instr.field 38 (.agg #[.int .u64 a, .int .u64 s, .int .i64 p]) 0).run Try.prog w = .ok (.int .u64 a) w := by kernel_rfl
def lenOf : Value → Nat
  | .slice _ n _ => n
  | _ => 0
set_option maxRecDepth 100000 in
set_option maxHeartbeats 2000000 in
theorem due_any (Q B G R P : Nat) (l : List T) (now : Int) (w : World) (h : Qu w Q B G R P l) :
    Calls Try.prog 11 #[.pointer (some ⟨Q, 0, none⟩), .int .u64 now] w fun e w' => OutN w w' e (due l now true) ∧ Qu w' Q B G R P (due l now false) ∧ Off (Foot G R) w w' := by
  have HU := Lib.hid h
  obtain ⟨⟨g, r, h, hi⟩, hP⟩ := h
  have HA := Lib.hid h
  have HI := Lib.hid hi
  obtain ⟨c0, c1⟩ := h.head
  have K1 := Lib.hid (first_all Q B G R P g r l w h hi hP)
  have hlen : l.length ≤ 1024 := Nat.le_trans hi.len hP
  have K2 : Hid (∀ w' p c (d m : List T), l = d ++ m → Bel w w' → Lies (old w) w' p (encI (pls d)) → Calls Try.prog 27 #[.pointer (some ⟨Q, 0, none⟩), .slice p d.length c, .func (.func 32) #[] #[]] w' fun e w2 => OutN w' w2 e d ∧ Qu w2 Q B G R P m ∧ Off (Foot G R) w' w2) := Lib.hid (fun w' p c d m hl hb hp => by
    have hq := h.bel hb
    have l1 := hq.ltQ
    have l2 := hq.ltR
    have l3 := hq.ch.ltB
    have l4 := hq.ch.ltG
    have hfo : ∀ k, Foot G R k → k < w'.heap.size := fun k e => by rcases e with e | e <;> omega
    have hold : ∀ b, b < w'.heap.size → Foot G R b → old w b := fun b _ e => by
      have := h.ltR
      have := h.ch.ltG
      unfold old
      rcases e with e | e <;> omega
    refine (told_any 32 (enters_of Try.func32 (by kernel_rfl) rfl) Q d.length c p (pls d) d (Foot G R) (fun i w2 => Qu w2 Q B G R P (l.drop i)) w' (by simp [pls]) rfl (by rw [hl] at hlen; simp at hlen; omega) hfo (hp.mono hold) ?_ ?_ ?_).mono fun e w2 ⟨h1, h2, h3⟩ => ⟨h1, by rw [hl] at h2; simpa using h2, h3⟩
    · intro i a b ha k
      exact ha.off k (by omega) (by omega) (by omega) (by omega)
    · exact HU.out.bel hb
    · intro i a y x hy hx ha
      obtain ⟨h1, h2⟩ := List.getElem?_eq_some_iff.1 hx
      have hyx : y = pl x := by
        have : (pls d)[i]? = some (pl x) := by unfold pls; rw [List.getElem?_map, hx]; rfl
        rw [hy] at this
        exact Option.some.inj this
      have hll : l[i]? = some x := by rw [hl, List.getElem?_append_left h1]; exact hx
      obtain ⟨h3, h4⟩ := List.getElem?_eq_some_iff.1 hll
      have hdr : l.drop i = x :: l.drop (i + 1) := by rw [List.drop_eq_getElem_cons h3, h4]
      rw [hyx]
      rw [hdr] at ha
      obtain ⟨⟨g2, r2, q2, i2⟩, hP2⟩ := ha
      have k := out_any Q B G R P _ (pl x) x a ⟨⟨g2, r2, q2, i2⟩, hP2⟩ (fnd_head i2)
      rw [wo_head i2] at k
      exact k)
  have KN : Hid (∀ w' (d m : List T) (x : T), l = d ++ x :: m → Bel w w' → Calls Try.prog 31 #[.pointer (some ⟨B, 0, none⟩), .int .i64 (pl x)] w' fun e w2 => e = .returned (ans (pls m).head?) ∧ Bel w' w2) := Lib.hid (fun w' d m x hl hb => by
    have hi2 := hi
    rw [hl] at hi2
    have e : d ++ x :: m = (d ++ [x]) ++ m := by simp
    have hi3 := hi2
    rw [e] at hi3
    exact next_yes B G P 1 g (pl x) (pls m) w' (h.bel hb).ch hP (by omega) (hi2.tm x (by simp)).2.1 hi3.tail.1 hi3.tail.2 hi2.mid)
  have KA : Hid (∀ w' (d m : List T) (x : T), l = d ++ x :: m → Bel w w' → Calls Try.prog 29 #[.pointer (some ⟨Q, 0, none⟩), .int .i64 (pl x)] w' fun e w2 => e = .returned (.agg #[.int .u64 x.a, .int .u64 x.s, .int .i64 x.p]) ∧ Bel w' w2) := Lib.hid (fun w' d m x hl hb => by
    obtain ⟨_, h1, h2⟩ := hi.tm x (by rw [hl]; simp)
    have k := at_any Q B G R P g r (pl x) w' (h.bel hb) h1 hP
    rw [h2] at k
    exact k)
  have CQ : Hid (∀ w', Bel w w' → w'.cell? ⟨Q, 0, none⟩ = some (.pointer (some ⟨B, 0, none⟩))) := Lib.hid (fun w' hb => (h.bel hb).head.1)
  clear h hi
  go_enter Try.func11, Try.ntmps11
  go_wp2_with fail
  with_reducible refine K1.out.mono ?_
  rintro e w1 ⟨rfl, hb⟩
  have HB1 := Lib.hid hb
  clear hb c0 c1
  simp only [ans_eq] at *
  generalize hv0 : pv (pls l).head? = v0 at *
  generalize hs0 : (pls l).head?.isSome = s0 at *
  have HV0 := Lib.hid hv0
  have HS0 := Lib.hid hs0
  clear hv0 hs0
  go_wp2
  go_loopw [5, 6, 7] (fun o v b wr => ∃ d m : List T, l = d ++ m ∧ (∀ x ∈ d, x.a ≤ now) ∧ v = .int .i64 (pv (pls m).head?) ∧ b = .bool (pls m).head?.isSome ∧ wr.ownsRow 0 3 1 o d.length (encI (pls d)) ∧ (∀ k, o.ownBlock = some k → w.heap.size ≤ k) ∧ Bel w wr) (fun o _ _ _ => l.length - lenOf o)
  case atStart => exact ⟨[], l, rfl, fun x hx => by simp at hx, by rw [HV0.out], by rw [HS0.out], World.ownsRow_nil _ _ _ _, fun k e => by simp [Value.ownBlock] at e, HB1.out⟩
  case round =>
    clear HB1 K1
    obtain ⟨d, m, hl, hd, rfl, rfl, ho, hown, hb⟩ := hrel
    obtain ⟨p, c, rfl, hc, _, hlies⟩ := own_slice ho (old w) (fun k e => by have := hown k e; unfold old; omega)
    have HL := Lib.hid hlies
    have HO := Lib.hid ho
    have HW := Lib.hid hown
    have HB := Lib.hid hb
    have HD := Lib.hid hl
    have HDA := Lib.hid hd
    have HSo : Hid (So (d ++ m)) := Lib.hid (by rw [← hl]; exact HI.out.so)
    have hdl : d.length ≤ 1024 := by have := congrArg List.length hl; simp at this; omega
    have c0 := CQ.out _ hb
    clear ho hown hlies hb hl hd
    cases m with
    | nil =>
      have HE := Lib.hid (due_split HSo.out HDA.out (now := now) (fun x hx => by simp at hx))
      simp only [pls, List.map_nil, List.head?_nil, pv, Option.getD_none, Option.isSome_none]
      change _
      go_wp2_with fail
      with_reducible refine (K2.out wr p c d _ HD.out HB.out HL.out).mono ?_
      rintro e w5 ⟨⟨p2, c2, rfl, hc2, hl2⟩, hq2, ho2⟩
      have HL2 : Hid (Lies (old w) w5 p2 (encs d)) := Lib.hid (hl2.mono (fun b _ e => Nat.lt_of_lt_of_le e HB.out.size))
      have HQ2 := Lib.hid hq2
      have HO2 := Lib.hid ((HB.out.off (Foot G R)).then ho2)
      clear hl2 hq2 ho2
      go_wp2
      go_ret
      rw [HD.out, HE.out.1, HE.out.2]
      exact ⟨⟨p2, c2, rfl, hc2, HL2.out⟩, HQ2.out, HO2.out⟩
    | cons x m =>
      have KX := Lib.hid (KA.out wr d m x HD.out HB.out)
      have hF := fieldA x.a x.s x.p
      simp only [pls, List.map_cons, List.head?_cons, pv, Option.getD_some, Option.isSome_some]
      by_cases hx : x.a ≤ now
      · have KY := Lib.hid (fun w' (h : Bel w w') => KN.out w' d m x HD.out h)
        go_wp2_with fail
        with_reducible refine KX.out.mono ?_
        rintro e w2 ⟨rfl, hb2⟩
        have HB2 := Lib.hid (HB.out.trans hb2)
        have HO2 := Lib.hid (own_bel HO.out hb2)
        have hdl2 : d.length < 1024 := by have := congrArg List.length HD.out; simp at this; omega
        have HDA2 : Hid (∀ y ∈ d ++ [x], y.a ≤ now) := Lib.hid (fun y hy => by
          rcases List.mem_append.1 hy with hy | hy
          · exact HDA.out y hy
          · simp at hy; subst hy; exact hx)
        have HPL : Hid (encI (pls (d ++ [x])) = encI (pls d) ++ encI [pl x]) := Lib.hid (by unfold pls; rw [List.map_append, encI_append]; rfl)
        clear hb2
        generalize pl x = k at *
        go_wp2_with (at_builtin; refine wpList_append_gen el66 rfl (.tmp 34) (.tmp 36) rfl _ d.length (encI (pls d)) rfl (own_bel HO2.out ((Bel.refl _).alloc _ _)) _ _ _ (encI [k]) rfl rfl (lies_i _ _ _) (encI_one _) (by omega) ?_)
        intro v' w3 hown hgrow hfr
        have HB3 : Hid (Bel w w3) := Lib.hid ((HB2.out.alloc _ _).grown hgrow (fun j hj => .inr (HW.out j hj)))
        have HO3 : Hid (w3.ownsRow 0 3 1 v' (d ++ [x]).length (encI (pls (d ++ [x])))) := Lib.hid (by rw [HPL.out, List.length_append]; exact hown)
        have HF3 : Hid (∀ j, v'.ownBlock = some j → w.heap.size ≤ j) := Lib.hid (fun j hj => by
          rcases hfr j hj with e | e
          · exact HW.out j e
          · have := HB2.out.size; first | omega | (simp at e; omega))
        have c3 := CQ.out _ HB3.out
        clear hown hgrow hfr
        obtain ⟨p3, cc3, rfl, _⟩ := own_slice HO3.out nof (fun _ _ e => e)
        go_wp2_with fail
        with_reducible refine (KY.out _ HB3.out).mono ?_
        rintro e w4 ⟨rfl, hb4⟩
        have HB4 := Lib.hid (HB3.out.trans hb4)
        have HO4 := Lib.hid (own_bel HO3.out hb4)
        clear hb4
        go_wp2
        go_roundw
        case rel => exact ⟨d ++ [x], m, by rw [HD.out]; simp, HDA2.out, rfl, rfl, by simpa [pls] using HO4.out, by simpa using HF3.out, HB4.out⟩
        case measure => simp [lenOf]; have := congrArg List.length HD.out; simp at this; omega
      · have HE := Lib.hid (due_split HSo.out HDA.out (now := now) (fun y hy => by simp at hy; subst hy; exact hx))
        go_wp2_with fail
        with_reducible refine KX.out.mono ?_
        rintro e w2 ⟨rfl, hb2⟩
        have HB2 := Lib.hid (HB.out.trans hb2)
        have HL3 := Lib.hid (HL.out.bel hb2)
        clear hb2
        go_wp2_with fail
        with_reducible refine (K2.out w2 p c d _ HD.out HB2.out HL3.out).mono ?_
        rintro e w5 ⟨⟨p2, c2, rfl, hc2, hl2⟩, hq2, ho2⟩
        have HL2 : Hid (Lies (old w) w5 p2 (encs d)) := Lib.hid (hl2.mono (fun b _ e => Nat.lt_of_lt_of_le e HB2.out.size))
        have HQ2 := Lib.hid hq2
        have HO2 := Lib.hid ((HB2.out.off (Foot G R)).then ho2)
        clear hl2 hq2 ho2
        go_wp2
        go_ret
        rw [HD.out, HE.out.1, HE.out.2]
        exact ⟨⟨p2, c2, rfl, hc2, HL2.out⟩, HQ2.out, HO2.out⟩
end Go.Proofs.Ytmkpnojojkgmiaa
