/-
  Contract of melded.
-/
import Derived.Test.YtdlfppdekllloaaPfun
import Derived.Test.YtdlfppdekllloaaSort
set_option linter.unusedVariables false
set_option linter.unusedSimpArgs false
namespace Go.Proofs.Ytdlfppdekllloaa
open Go.RowKit
/-- The one tree stands below the other one's top. -/
theorem borne {w w' : World} {a b : Nat} {t s : T} {l m : Tr} (hx : Is w none (.node a t l .nil)) (hy : Is w none (.node b s m .nil)) (hn : ((Tr.node a t l .nil).ads ++ (Tr.node b s m .nil).ads).Nodup)
    (o : Off (fun k => k = a ∨ k = b ∨ l.rt = some k) w w') (ha : w'.heap[a]? = some (nd t (pt b) pn pn)) (hb : w'.heap[b]? = some (nd s (ptv m.rt) (ptv l.rt) (pt a)))
    (hl : ∀ c u p q, l = .node c u p q → w'.heap[c]? = some (nd u (ptv p.rt) (ptv q.rt) (pt b))) : Is w' none (.node a t (.node b s m l) .nil) := by
  rw [Tr.ads_node, Tr.ads_node] at hn
  have e : Tr.nil.ads = [] := rfl
  rw [e, List.append_nil, List.append_nil] at hn
  simp only [List.cons_append, List.nodup_cons, List.nodup_append, List.mem_append, List.mem_cons, not_or] at hn
  obtain ⟨⟨n1, n2, n3⟩, n4, ⟨n5, n6⟩, n7⟩ := hn
  refine ⟨ha, ⟨hb, ?_, ?_⟩, trivial⟩
  · refine hy.2.1.off o (fun c hc e => ?_)
    rcases e with rfl | rfl | e
    · exact n3 hc
    · exact n5 hc
    · exact n7 c (rt_mem e) c (.inr hc) rfl
  · refine Is.back (k := some a) hx.2.1 (fun c hc => ?_) n4 hl
    by_cases e : l.rt = some c
    · exact .inl e
    · refine .inr (o.block c (hx.2.1.lt c hc) (fun e2 => ?_))
      rcases e2 with rfl | rfl | e2
      · exact n1 hc
      · exact n7 c hc c (.inl rfl) rfl
      · exact e e2
/-- bear, over trees. -/
theorem bear_any (a b : Nat) (t s : T) (l m : Tr) (w : World) (hx : Is w none (.node a t l .nil)) (hy : Is w none (.node b s m .nil)) (hn : ((Tr.node a t l .nil).ads ++ (Tr.node b s m .nil).ads).Nodup) :
    Calls Try.prog 55 #[pt a, pt b] w fun e w' => e = .returned (.tuple #[]) ∧ Is w' none (.node a t (.node b s m l) .nil) ∧ Off (fun k => k ∈ (Tr.node a t l .nil).ads ∨ k ∈ (Tr.node b s m .nil).ads) w w' := by
  have ma : a ∈ (Tr.node a t l .nil).ads := by rw [Tr.ads_node]; simp
  have mb : b ∈ (Tr.node b s m .nil).ads := by rw [Tr.ads_node]; simp
  have hab : ¬ a = b := fun e => (List.nodup_append.1 hn).2.2 a ma b mb e
  rcases rt_cases l with ⟨rfl, _⟩ | ⟨c, u, p, q, rfl, _⟩
  · refine (bear_nil a b t s _ _ _ _ _ w hx.1 hy.1 hab).mono fun e W ⟨he, e1, e2, e3⟩ => ⟨he, ?_, e3.mono fun i _ e => by rcases e with rfl | rfl; exact .inl ma; exact .inr mb⟩
    exact borne hx hy hn (e3.mono fun i _ e => by rcases e with e | e; exact .inl e; exact .inr (.inl e)) e1 e2 (fun _ _ _ _ e => by cases e)
  · have mc : c ∈ (Tr.node a t (.node c u p q) .nil).ads := by rw [Tr.ads_node, Tr.ads_node]; simp
    have hca : ¬ c = a := fun e => by
      have h1 := (List.nodup_append.1 hn).1
      rw [Tr.ads_node, Tr.ads_node] at h1
      exact (List.nodup_cons.1 h1).1 (by rw [e]; simp)
    have hcb : ¬ c = b := fun e => (List.nodup_append.1 hn).2.2 c mc b mb e
    refine (bear_some a b c t s u _ _ _ _ _ _ _ _ w hx.1 hy.1 hx.2.1.1 hab hca hcb).mono fun e W ⟨he, e1, e2, e4, e3⟩ => ⟨he, ?_, e3.mono fun i _ e => by rcases e with rfl | rfl | rfl; exact .inl ma; exact .inr mb; exact .inl mc⟩
    exact borne hx hy hn (e3.mono fun i _ e => by rcases e with e | e | e; exact .inl e; exact .inr (.inl e); exact .inr (.inr (by rw [e]; rfl))) e1 e2 (fun _ _ _ _ e => by cases e; exact e4)
abbrev cmpV : Value := .func (.func 38) #[] #[]
set_option maxHeartbeats 1000000 in
theorem mel_two (a b : Nat) (t s : T) (l m : Tr) (w : World) (hx : Is w none (.node a t l .nil)) (hy : Is w none (.node b s m .nil)) (hn : ((Tr.node a t l .nil).ads ++ (Tr.node b s m .nil).ads).Nodup) :
    Calls Try.prog 37 #[pt a, pt b, cmpV] w fun e w' => e = .returned (ptv (mel (.node a t l .nil) (.node b s m .nil)).rt) ∧ Is w' none (mel (.node a t l .nil) (.node b s m .nil)) ∧ Off (fun k => k ∈ (Tr.node a t l .nil).ads ∨ k ∈ (Tr.node b s m .nil).ads) w w' := by
  obtain ⟨⟨a0, a1, a2, _⟩, _⟩ := nd_cells hx.1
  obtain ⟨⟨b0, b1, b2, _⟩, _⟩ := nd_cells hy.1
  have K1 := Lib.hid (fun w' (o : Bel w w') => bear_any a b t s l m w' (hx.bel o) (hy.bel o) hn)
  have K2 := Lib.hid (fun w' (o : Bel w w') => bear_any b a s t m l w' (hy.bel o) (hx.bel o) (List.perm_append_comm.nodup_iff.1 hn))
  have E := Lib.hid (mel_nodes a b t s l .nil m .nil)
  have hlt : decide (cf s t < 0) = lt s t := rfl
  generalize mel (.node a t l .nil) (.node b s m .nil) = M at *
  generalize (Tr.node a t l .nil).ads = A at *
  generalize (Tr.node b s m .nil).ads = B at *
  have HLT := Lib.hid hlt
  have EN := enters38
  clear hx hy hn hlt
  go_enter Try.func37, Try.ntmps37
  go_wp2
  go_region_held3 (fun w' => w'.cell? ⟨a, 0, none⟩ = some (.int .u64 t.a) ∧ w'.cell? ⟨a, 1, none⟩ = some (.int .u64 t.s) ∧ w'.cell? ⟨a, 2, none⟩ = some (.int .i64 t.p) ∧ w'.cell? ⟨b, 0, none⟩ = some (.int .u64 s.a) ∧ w'.cell? ⟨b, 1, none⟩ = some (.int .u64 s.s) ∧ w'.cell? ⟨b, 2, none⟩ = some (.int .i64 s.p)) (first | exact ⟨a0, a1, a2, b0, b1, b2⟩ | exact ⟨hg1.cell a0, hg1.cell a1, hg1.cell a2, hg1.cell b0, hg1.cell b1, hg1.cell b2⟩)
    (first | (go_at_call 38; refine (compare_any s t _).mono ?_; rintro e w1 ⟨rfl, hg1⟩))
  have HB : Hid (Bel w w1) := Lib.hid ((Bel.refl _).drew.trans hg1)
  clear hg1
  by_cases h : cf s t < 0
  · rw [decide_eq_true h] at HLT
    have e := E.out
    rw [if_pos HLT.out.symm] at e
    subst e
    clear E
    go_wp2_with fail
    with_reducible refine (K2.out _ HB.out).mono ?_
    rintro e w2 ⟨rfl, hi, ho⟩
    have HI := Lib.hid hi
    have HO : Hid (Off (fun k => k ∈ A ∨ k ∈ B) w w2) := Lib.hid ((HB.out.off _).then (ho.mono fun i _ e => e.symm))
    clear hi ho
    go_wp2
    go_ret
    exact ⟨rfl, HI.out, HO.out⟩
  · rw [decide_eq_false h] at HLT
    have e := E.out
    rw [if_neg (by rw [← HLT.out]; simp)] at e
    subst e
    clear E
    go_wp2_with fail
    with_reducible refine (K1.out _ HB.out).mono ?_
    rintro e w2 ⟨rfl, hi, ho⟩
    have HI := Lib.hid hi
    have HO : Hid (Off (fun k => k ∈ A ∨ k ∈ B) w w2) := Lib.hid ((HB.out.off _).then ho)
    clear hi ho
    go_wp2
    go_ret
    exact ⟨rfl, HI.out, HO.out⟩
theorem mel_left (v : Value) (w : World) : Calls Try.prog 37 #[pn, v, cmpV] w fun e w' => e = .returned v ∧ w = w' := by
  go_enter Try.func37, Try.ntmps37
  go_wp2
  go_ret
  exact ⟨rfl, rfl⟩
theorem mel_right (a : Nat) (w : World) : Calls Try.prog 37 #[pt a, pn, cmpV] w fun e w' => e = .returned (pt a) ∧ w = w' := by
  go_enter Try.func37, Try.ntmps37
  go_wp2
  go_ret
  exact ⟨rfl, rfl⟩
/-- Two trees, melded. -/
theorem melded_any (x y : Tr) (w : World) (rx : x.Root) (ry : y.Root) (hx : Is w none x) (hy : Is w none y) (hn : (x.ads ++ y.ads).Nodup) :
    Calls Try.prog 37 #[ptv x.rt, ptv y.rt, cmpV] w fun e w' => e = .returned (ptv (mel x y).rt) ∧ Is w' none (mel x y) ∧ Off (fun k => k ∈ x.ads ∨ k ∈ y.ads) w w' := by
  rcases rx.cases with rfl | ⟨a, t, l, rfl⟩
  · exact (mel_left (ptv y.rt) w).mono fun e w' ⟨he, hw⟩ => ⟨he, by rw [← hw]; exact hy, by rw [← hw]; exact Off.refl _ _⟩
  · rcases ry.cases with rfl | ⟨b, s, m, rfl⟩
    · refine (mel_right a w).mono fun e w' ⟨he, hw⟩ => ?_
      rw [mel_nil', ← hw]
      exact ⟨he, hx, Off.refl _ _⟩
    · exact mel_two a b t s l m w hx hy hn
end Go.Proofs.Ytdlfppdekllloaa
