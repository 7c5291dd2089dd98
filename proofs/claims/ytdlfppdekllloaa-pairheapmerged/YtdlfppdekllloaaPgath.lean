/-
  Contract of gathered: one tree of all that stood below a node.
-/
import Derived.Test.YtdlfppdekllloaaPgs
import Derived.Stop.RegionWithIn
set_option linter.unusedVariables false
set_option linter.unusedSimpArgs false
namespace Go.Proofs.Ytdlfppdekllloaa
open Go.RowKit Go.Shelf
attribute [local go_sem] Oper.semAt_some
theorem new4 (w : World) (a b c d : Array Value) (ta tb tc td : TypeId) : ∃ W, (((w.alloc (.cells a ta)).alloc (.cells b tb)).alloc (.cells c tc)).alloc (.cells d td) = W ∧ Bel w W ∧ W.heap.size = w.heap.size + 1 + 1 + 1 + 1 ∧ W.heap[w.heap.size]? = some (.cells a ta (0, 0)) ∧ W.heap[w.heap.size + 1]? = some (.cells b tb (0, 0)) ∧ W.heap[w.heap.size + 1 + 1]? = some (.cells c tc (0, 0)) ∧ W.heap[w.heap.size + 1 + 1 + 1]? = some (.cells d td (0, 0)) := by
  have n1 := heap_alloc_new (w.alloc (.cells a ta)) (.cells b tb)
  have n2 := heap_alloc_new ((w.alloc (.cells a ta)).alloc (.cells b tb)) (.cells c tc)
  have n3 := heap_alloc_new (((w.alloc (.cells a ta)).alloc (.cells b tb)).alloc (.cells c tc)) (.cells d td)
  refine ⟨_, rfl, ((((Bel.refl w).alloc _ _).alloc _ _).alloc _ _).alloc _ _, by simp, ?_, ?_, ?_, ?_⟩
  · rw [Below.heap_alloc _ _ _ (by simp; omega), Below.heap_alloc _ _ _ (by simp; omega), Below.heap_alloc _ _ _ (by simp), heap_alloc_new]
  · rw [Below.heap_alloc _ _ _ (by simp), Below.heap_alloc _ _ _ (by simp)]
    simpa using n1
  · rw [Below.heap_alloc _ _ _ (by simp)]
    simpa using n2
  · simpa using n3
theorem Gs.re {w W : World} {c : List Fr} {n : Nat} {tn : T} {L R X Y : Tr} {fs gs : List Tr} {cb ab pb sb Nb B0 : Nat} {sv pv : Value} {ps : List (Option Nat)} (h : Gs w W c n tn L R X fs cb ab pb sb Nb B0 sv pv ps) (hf : Fst w W c n tn L R Y gs) : Gs w W c n tn L R Y gs cb ab pb sb Nb B0 sv pv ps := { h with fs := hf }
theorem keeps_mono {B C : Nat} {W W' : World} (h : KeepsFrom B W W') (hB : B ≤ C) : KeepsFrom C W W' := ⟨h.size, fun k o hk => h.same k o (Nat.le_trans hB hk)⟩
/-- A region without a defer statement goes in a round as it goes anywhere. -/
theorem any_round {l n : Nat} {P : Program} {md : Region.Mode} {ops : Array Oper} {Q : Exit → Act → World → Prop} (hops : ∀ (i : Nat) (o : Oper), ops[i]? = some o → ∀ c, o.op ≠ Op.defer c) : ∀ (fuel : Nat) (listed : Array Bool) (a : Act) (w : World), wpAnyIn Fence.wide n P md ops Q fuel listed a w → wpAnyIn (Fence.wide.inRound l) n P md ops Q fuel listed a w
  | 0, _, _, _, h => h
  | fuel + 1, listed, a, w, h => by
    refine ⟨h.1, fun i hi => ?_⟩
    have k := h.2 i hi
    unfold wpOpIn at k ⊢
    cases ho : ops[i]? with
    | none =>
      rw [ho] at k
      exact any_round hops fuel _ _ _ k
    | some o =>
      rw [ho] at k
      simp only at k ⊢
      by_cases hw : Region.wanted o (yielded ops a.tmps) = true
      · rw [if_pos hw] at k ⊢
        have k := Oper.wpIn_mono (fun a w h => any_round (l := l) hops fuel (listed.setIfInBounds i true) a w h) k
        unfold Oper.wpIn at k ⊢
        rw [Oper.semAt_plain _ _ _ (hops i o ho)] at k ⊢
        exact k
      · rw [if_neg hw] at k ⊢
        exact ⟨k.1, any_round hops fuel _ _ _ k.2⟩
theorem step_append_in {n : Nat} {ops : Array Oper} {o : Oper} {a : Act} {w w' : World} {K : Act → World → Prop} {Q : Exit → Act → World → Prop} {E : Prop} (hgd : o.guard = none) (s x : Operand)
    (ho : o.op = .call { callee := .builtin .append, args := #[s, x], argTypes := #[68, 68] }) {v y v' : Value} (hs : a.eval s = v) (hx : a.eval x = y) (hrun : (Builtin.append_ #[68, 68] o.type #[v, y]).run Try.prog w = .ok v' w') (h : K (a.put o.dst v') w') :
    if Region.wanted o (yielded ops a.tmps) = true then Oper.wpIn Fence.wide n Try.prog o a w K Q else E := by
  have hw : Region.wanted o (yielded ops a.tmps) = true := by simp [Region.wanted, hgd]
  rw [if_pos hw]
  unfold Oper.wpIn
  refine ⟨fun _ _ => trivial, ?_⟩
  rw [Oper.semAt_plain Fence.wide _ _ (by rw [ho]; intro c hc'; cases hc')]
  simp [execOp, ho, resolve, invoke, builtin, hs, hx, hrun, Result.andThen]
  exact h
/-- Between two rounds. -/
def Gi (w : World) (c : List Fr) (n : Nat) (tn : T) (L R : Tr) (cb ab pb sb Nb B0 : Nat) (pre : List Nat) (W : World) : Prop :=
  ∃ X s ts v, kids L = pre ++ kids X ∧ ts.length ≤ pre.length ∧ Gs w W c n tn L R X (s :: ts) cb ab pb sb Nb B0 (ptv s.rt) v (ts.map Tr.rt)
theorem gi_own {w : World} {c : List Fr} {n : Nat} {tn : T} {L R : Tr} {cb ab pb sb Nb B0 : Nat} (B : Nat) (hB : w.heap.size ≤ B) : OwnFrom B (Gi w c n tn L R cb ab pb sb Nb B0) := by
  rintro pre W W' row ⟨X, s, ts, v, h1, h2, h3⟩ hg hr
  exact ⟨X, s, ts, v, h1, h2, h3.own hg (fun r e => ⟨Nat.le_trans hB (hr r e).1, (hr r e).2⟩)⟩
theorem gi_kids {w : World} {c : List Fr} {n : Nat} {tn : T} {L R : Tr} {cb ab pb sb Nb B0 : Nat} (pre : List Nat) (W : World) (h : Gi w c n tn L R cb ab pb sb Nb B0 pre W) : KidsR Nb n (kids L) pre W := by
  obtain ⟨X, s, ts, v, h1, h2, h3⟩ := h
  exact h3.kidsR pre h1
theorem kids_len (L : Tr) : (kids L).length ≤ L.ads.length := (kids_sub L).length_le
set_option maxRecDepth 100000 in
set_option maxHeartbeats 4000000 in
theorem gathered_any (c : List Fr) (n : Nat) (tn : T) (L R : Tr) (w : World) (h : Is w none (plug c (.node n tn L R))) (hn : (plug c (.node n tn L R)).ads.Nodup) (ho : L.Ho) (hlen : L.ads.length ≤ 2048) :
    Calls Try.prog 62 #[pt n, cmpV] w fun e w' => ∃ g, e = .returned (ptv g.rt) ∧ Fst w w' c n tn L R .nil [g] := by
  have hmf : ∀ (fn : Fn) (first cap : Array Value) (w : World), (Instr.makeFunc fn first cap).run Try.prog w = .ok (.func fn first cap) w := fun _ _ _ _ => rfl
  have hkn : (kids L).Nodup := by
    have h1 := (plug_swap (c := c) (n := n) (tn := tn) (R := R) L).nodup_iff.1 hn
    exact (List.nodup_append.1 h1).1.sublist (kids_sub L)
  have hkl : (kids L).length ≤ 2048 := Nat.le_trans (kids_len L) hlen
  have F0 := Lib.hid (Fst.start h hn ho)
  have H4 := Lib.hid (new4 w #[cmpV] #[pn] #[.slice none 0 0] #[pn] 81 69 68 69)
  have K1 := Lib.hid (fun w' => below_new n w')
  have HKN := Lib.hid hkn
  clear h hn ho hkn
  refine (callsIn_wide (n := 4)).1 ?_
  have hro : Fence.wide.round = none := rfl
  refine callsIn_of_wp_marks Try.func62 rfl trivial ?_ hro
  simp only [Try.ntmps62, List.size_toArray, List.length_cons, List.length_nil, Nat.reduceAdd, Nat.reduceSub, Array.replicate_succ, Array.replicate_zero, List.push_toArray, List.append_toArray, List.nil_append, List.cons_append]
  refine wpIn_wide.2 ?_
  go_upto_region 4 with (fail)
  obtain ⟨W, eW, hB, hz, n0, n1, n2, n3⟩ := H4.out
  rw [eW]
  clear H4 eW
  obtain ⟨cb, ecb⟩ : ∃ b, w.heap.size = b := ⟨_, rfl⟩
  obtain ⟨ab, eab⟩ : ∃ b, w.heap.size + 1 = b := ⟨_, rfl⟩
  obtain ⟨pb, epb⟩ : ∃ b, w.heap.size + 1 + 1 = b := ⟨_, rfl⟩
  obtain ⟨sb, esb⟩ : ∃ b, w.heap.size + 1 + 1 + 1 = b := ⟨_, rfl⟩
  rw [esb] at n3 ⊢
  rw [epb] at n2 ⊢
  rw [eab] at n1 ⊢
  rw [ecb] at n0 ⊢
  have HF := Lib.hid (F0.out.bel hB)
  go_wp2_with fail
  with_reducible refine (K1.out _).mono ?_
  rintro e w3 ⟨Nb, rfl, hbn, hNb, hb3⟩
  have hB3 := hB.trans hb3
  have hlt := hbn.lt
  have G0 : Gi w c n tn L R cb ab pb sb Nb w3.heap.size [] w3 := ⟨L, .nil, [], .slice none 0 0, rfl, Nat.le_refl _, ⟨(HF.out.bel hb3).nil, hb3.heap n3, hb3.heap n2, World.ownsRow_nil _ _ _ _, fun k e => by simp [Value.ownBlock] at e, hb3.heap n0, hb3.heap n1, hbn, by omega, by omega, by omega, by omega, by omega, hlt, Nat.le_refl _⟩⟩
  have hw3 : w.heap.size ≤ w3.heap.size := hB3.size
  clear K1 HF F0 n0 n1 n2 n3 hb3 hbn
  go_wp2
  refine (wpIn_wide (n := 4)).1 ?_
  obtain ⟨B0, eB0⟩ : ∃ b, w3.heap.size = b := ⟨_, rfl⟩
  rw [eB0] at G0
  refine range_told (by omega) (gf := 83) (lb := #[pt Nb]) rfl (enters_of Try.func83 (by kernel_rfl) rfl) (below_tells 3 (by omega) Nb n (kids L) HKN.out) (fun _ => rfl)
    (Gi w c n tn L R cb ab pb sb Nb B0) (gi_own _ hw3) (fun pre W h => gi_kids pre W h) G0 ?a1 ?assign ?body ?done
  case assign =>
    intro l x W K hK
    gi_wp2
    exact hK
  case body =>
    rintro l pre x W1 ⟨r, hr⟩ ⟨X, s, ts, v, h1, h2, h3⟩
    rw [hr] at h1
    have e := List.append_cancel_left h1
    cases X with
    | nil => cases e
    | node a t lx rx =>
      injection e with e1 e2
      subst e1
      have hpl : pre.length < 2048 := by rw [hr] at hkl; simp at hkl; omega
      have hr2 : kids L = (pre ++ [x]) ++ kids rx := by rw [hr, ← e2]; simp
      have H3 := Lib.hid h3
      have KL := Lib.hid h3.fs.leave
      have HR := Lib.hid hr2
      clear h1 hr e2 hr2 h3
      rcases rt_cases s with ⟨rfl, _⟩ | ⟨a2, t2, l2, r2, rfl, _⟩
      · rw [show ptv Tr.nil.rt = pn from rfl] at H3
        gi_wp2_with ((refine ⟨trivial, ?_⟩); gi_at_call 63; (with_reducible refine (CallsIn.inRound l (callsIn_wide.2 KL.out)).mono ?_); rintro e w2 ⟨rfl, hf2, ho2⟩; have G2 := Lib.hid (H3.out.turn ho2 hf2); have c3 := G2.out.bs.cell; have f3 := G2.out.bs.frozen)
        have G4 := G2.out.single (pt x)
        exact ⟨(keeps_off ho2 _ (fun k _ e h => by omega)).trans ((KeepsOthers.setCell w2 _ _).from _), trivial, rx, .node x t lx .nil, ts, v, HR.out, by simp; omega, G4.1.re (G4.1.fs.perm (List.Perm.swap _ _ _)).unnil⟩
      · rw [show ptv (Tr.node a2 t2 l2 r2).rt = pt a2 from rfl] at H3
        gi_wp2_with ((refine ⟨trivial, ?_⟩); gi_at_call 63; (with_reducible refine (CallsIn.inRound l (callsIn_wide.2 KL.out)).mono ?_); rintro e w2 ⟨rfl, hf2, ho2⟩; have G2 := Lib.hid (H3.out.turn ho2 hf2); have c3 := G2.out.bs.cell; have c4 := G2.out.bp.cell; have c5 := G2.out.bc.cell)
        have KM : Hid (Calls Try.prog 37 #[pt a2, pt x, cmpV] w2.drew fun e w4 => ∃ q g cap w5, e = .returned (.pointer q) ∧ w4.cell? ⟨pb, 0, none⟩ = some v ∧ w4.cell? ⟨sb, 0, none⟩ = some (pt a2) ∧ w4.cell? ⟨cb, 0, none⟩ = some cmpV ∧ (w4.alloc (.cells #[.pointer q] 69)).cell? ⟨pb, 0, none⟩ = some v ∧
            (Builtin.append_ #[68, 68] 68 #[v, .slice (some ⟨w4.heap.size, 0, none⟩) 1 1]).run Try.prog (w4.alloc (.cells #[.pointer q] 69)) = .ok (.slice (some ⟨g, 0, none⟩) (ts.length + 1) cap) w5 ∧
            (w5.cell? ⟨pb, 0, none⟩ = some v ∧ w5.frozen? ⟨pb, 0, none⟩ = false) ∧ ((w5.setCell ⟨pb, 0, none⟩ (.slice (some ⟨g, 0, none⟩) (ts.length + 1) cap)).cell? ⟨sb, 0, none⟩ = some (pt a2) ∧ (w5.setCell ⟨pb, 0, none⟩ (.slice (some ⟨g, 0, none⟩) (ts.length + 1) cap)).frozen? ⟨sb, 0, none⟩ = false) ∧
            Hid (KeepsFrom w.heap.size W1 ((w5.setCell ⟨pb, 0, none⟩ (.slice (some ⟨g, 0, none⟩) (ts.length + 1) cap)).setCell ⟨sb, 0, none⟩ pn) ∧ Gi w c n tn L R cb ab pb sb Nb B0 (pre ++ [x]) ((w5.setCell ⟨pb, 0, none⟩ (.slice (some ⟨g, 0, none⟩) (ts.length + 1) cap)).setCell ⟨sb, 0, none⟩ pn))) := Lib.hid (by
          have f6 : Fst w w2.drew c n tn L R rx (.node a2 t2 l2 r2 :: .node x t lx .nil :: ts) := (hf2.perm (List.Perm.swap _ _ _)).bel (Bel.refl w2).drew
          refine f6.meld.mono fun e w4 ⟨he, hf4, ho4⟩ => ?_
          obtain ⟨q, hq⟩ := ptv_is (mel (.node a2 t2 l2 r2) (.node x t lx .nil)).rt
          have G4 := G2.out.drew.turn ho4 hf4
          obtain ⟨g, cap, w5, e1, e2, e3, e4, e5⟩ := G4.append (by rw [List.length_map]; omega)
          rw [List.length_map] at e1 e3 e4 e5
          rw [hq] at e1 he
          refine ⟨q, g, cap, w5, he, G4.bp.cell, G4.bs.cell, G4.bc.cell, ((Bel.refl w4).alloc _ _).cell G4.bp.cell, e1, e2, e3, Lib.hid ⟨?_, ?_⟩⟩
          · exact (keeps_old ho2).trans ((keeps_bel (Bel.refl w2).drew _).trans ((keeps_old ho4).trans e5))
          · refine ⟨rx, .nil, ts ++ [mel (.node a2 t2 l2 r2) (.node x t lx .nil)], .slice (some ⟨g, 0, none⟩) (ts.length + 1) cap, HR.out, by simp; omega, ?_⟩
            rw [List.map_append]
            exact e4.re (e4.fs.perm (List.perm_append_comm (l₁ := [_]))).nil)
        clear G2 H3 KL hf2
        gi_wp2
        refine wpIn_region_any (by kernel_rfl) (any_round (fun i o h => by rcases i with _ | _ | _ | _ | _ | _ | _ | _ | _ | i <;> first | (injection h with h; subst h; intro c hc; cases hc) | cases h) _ _ _ _ ?_)
        change wpAnyIn _ _ _ _ _ _ _ _ _ (World.drew _)
        refine wpAnyIn_take (i := 2) (v := pt x) rfl rfl (by kernel_rfl) (by kernel_rfl) (by kernel_rfl) (fun _ _ _ h => h) ⟨Or.inl ⟨by rfl, ?_⟩, fun _ => rfl⟩ ?_
        · intro w9
          go_simp
        refine wpAnyIn_ready (rs := [0, 1, 3]) (by kernel_rfl) (by simp) ?_
        refine AllReadyIn.cons rfl (fun K hK => ?_) ?_
        · go_simp
          refine hK _ _ ?_
          clear hK K
          refine wpAnyIn_ready (rs := [1, 3]) (by kernel_rfl) (by simp) ?_
          refine AllReadyIn.cons rfl (fun K hK => ?_) ?_
          · go_simp
            refine hK _ _ ?_
            clear hK K
            refine wpAnyIn_ready (rs := [3]) (by kernel_rfl) (by simp) ?_
            refine AllReadyIn.cons rfl (fun K hK => ?_) AllReadyIn.nil
            go_simp
            refine hK _ _ ?_
            clear hK K
            refine wpAnyIn_ready (rs := [4]) (by kernel_rfl) (by simp) ?_
            refine AllReadyIn.cons rfl (fun K hK => ?_) AllReadyIn.nil
            go_simp
            gi_wp2_with ((refine ⟨trivial, ?_⟩); gi_at_call 37; (with_reducible refine (callsIn_wide.2 KM.out).mono ?_); rintro e w4 ⟨q, g, cap, w5, rfl, d1, d2, d3, d8, hrun, ⟨d4, d5⟩, ⟨d6, d7⟩, HE⟩)
            refine wpAnyIn_ready (rs := [5]) (by kernel_rfl) (by simp) ?_
            refine AllReadyIn.cons rfl (fun K hK => ?_) AllReadyIn.nil
            go_simp
            refine hK _ _ ?_
            clear hK K
            refine wpAnyIn_ready (rs := [6]) (by kernel_rfl) (by simp) ?_
            refine AllReadyIn.cons rfl (fun K hK => ?_) AllReadyIn.nil
            refine step_append_in rfl (.tmp 17) (.tmp 22) rfl rfl rfl hrun ?_
            refine hK _ _ ?_
            clear hK K
            go_simp
            refine wpAnyIn_ready (rs := [7]) (by kernel_rfl) (by simp) ?_
            refine AllReadyIn.cons rfl (fun K hK => ?_) AllReadyIn.nil
            go_simp
            refine hK _ _ ?_
            clear hK K
            refine wpAnyIn_ready (rs := [8]) (by kernel_rfl) (by simp) ?_
            refine AllReadyIn.cons rfl (fun K hK => ?_) AllReadyIn.nil
            go_simp
            refine hK _ _ ?_
            clear hK K
            refine wpAnyIn_done (by kernel_rfl) ?_ _
            gi_wp2
            exact ⟨keeps_mono HE.out.1 (by omega), trivial, HE.out.2⟩
          refine AllReadyIn.cons rfl (fun K hK => ?_) AllReadyIn.nil
          go_simp
          refine hK _ _ ?_
          clear hK K
          refine wpAnyIn_ready (rs := [1]) (by kernel_rfl) (by simp) ?_
          refine AllReadyIn.cons rfl (fun K hK => ?_) AllReadyIn.nil
          go_simp
          refine hK _ _ ?_
          clear hK K
          refine wpAnyIn_ready (rs := [4]) (by kernel_rfl) (by simp) ?_
          refine AllReadyIn.cons rfl (fun K hK => ?_) AllReadyIn.nil
          go_simp
          gi_wp2_with ((refine ⟨trivial, ?_⟩); gi_at_call 37; (with_reducible refine (callsIn_wide.2 KM.out).mono ?_); rintro e w4 ⟨q, g, cap, w5, rfl, d1, d2, d3, d8, hrun, ⟨d4, d5⟩, ⟨d6, d7⟩, HE⟩)
          refine wpAnyIn_ready (rs := [5]) (by kernel_rfl) (by simp) ?_
          refine AllReadyIn.cons rfl (fun K hK => ?_) AllReadyIn.nil
          go_simp
          refine hK _ _ ?_
          clear hK K
          refine wpAnyIn_ready (rs := [6]) (by kernel_rfl) (by simp) ?_
          refine AllReadyIn.cons rfl (fun K hK => ?_) AllReadyIn.nil
          refine step_append_in rfl (.tmp 17) (.tmp 22) rfl rfl rfl hrun ?_
          refine hK _ _ ?_
          clear hK K
          go_simp
          refine wpAnyIn_ready (rs := [7]) (by kernel_rfl) (by simp) ?_
          refine AllReadyIn.cons rfl (fun K hK => ?_) AllReadyIn.nil
          go_simp
          refine hK _ _ ?_
          clear hK K
          refine wpAnyIn_ready (rs := [8]) (by kernel_rfl) (by simp) ?_
          refine AllReadyIn.cons rfl (fun K hK => ?_) AllReadyIn.nil
          go_simp
          refine hK _ _ ?_
          clear hK K
          refine wpAnyIn_done (by kernel_rfl) ?_ _
          gi_wp2
          exact ⟨keeps_mono HE.out.1 (by omega), trivial, HE.out.2⟩
        refine AllReadyIn.cons rfl (fun K hK => ?_) ?_
        · go_simp
          refine hK _ _ ?_
          clear hK K
          refine wpAnyIn_ready (rs := [0, 3]) (by kernel_rfl) (by simp) ?_
          refine AllReadyIn.cons rfl (fun K hK => ?_) ?_
          · go_simp
            refine hK _ _ ?_
            clear hK K
            refine wpAnyIn_ready (rs := [3]) (by kernel_rfl) (by simp) ?_
            refine AllReadyIn.cons rfl (fun K hK => ?_) AllReadyIn.nil
            go_simp
            refine hK _ _ ?_
            clear hK K
            refine wpAnyIn_ready (rs := [4]) (by kernel_rfl) (by simp) ?_
            refine AllReadyIn.cons rfl (fun K hK => ?_) AllReadyIn.nil
            go_simp
            gi_wp2_with ((refine ⟨trivial, ?_⟩); gi_at_call 37; (with_reducible refine (callsIn_wide.2 KM.out).mono ?_); rintro e w4 ⟨q, g, cap, w5, rfl, d1, d2, d3, d8, hrun, ⟨d4, d5⟩, ⟨d6, d7⟩, HE⟩)
            refine wpAnyIn_ready (rs := [5]) (by kernel_rfl) (by simp) ?_
            refine AllReadyIn.cons rfl (fun K hK => ?_) AllReadyIn.nil
            go_simp
            refine hK _ _ ?_
            clear hK K
            refine wpAnyIn_ready (rs := [6]) (by kernel_rfl) (by simp) ?_
            refine AllReadyIn.cons rfl (fun K hK => ?_) AllReadyIn.nil
            refine step_append_in rfl (.tmp 17) (.tmp 22) rfl rfl rfl hrun ?_
            refine hK _ _ ?_
            clear hK K
            go_simp
            refine wpAnyIn_ready (rs := [7]) (by kernel_rfl) (by simp) ?_
            refine AllReadyIn.cons rfl (fun K hK => ?_) AllReadyIn.nil
            go_simp
            refine hK _ _ ?_
            clear hK K
            refine wpAnyIn_ready (rs := [8]) (by kernel_rfl) (by simp) ?_
            refine AllReadyIn.cons rfl (fun K hK => ?_) AllReadyIn.nil
            go_simp
            refine hK _ _ ?_
            clear hK K
            refine wpAnyIn_done (by kernel_rfl) ?_ _
            gi_wp2
            exact ⟨keeps_mono HE.out.1 (by omega), trivial, HE.out.2⟩
          refine AllReadyIn.cons rfl (fun K hK => ?_) AllReadyIn.nil
          go_simp
          refine hK _ _ ?_
          clear hK K
          refine wpAnyIn_ready (rs := [0, 4]) (by kernel_rfl) (by simp) ?_
          refine AllReadyIn.cons rfl (fun K hK => ?_) ?_
          · go_simp
            refine hK _ _ ?_
            clear hK K
            refine wpAnyIn_ready (rs := [4]) (by kernel_rfl) (by simp) ?_
            refine AllReadyIn.cons rfl (fun K hK => ?_) AllReadyIn.nil
            go_simp
            gi_wp2_with ((refine ⟨trivial, ?_⟩); gi_at_call 37; (with_reducible refine (callsIn_wide.2 KM.out).mono ?_); rintro e w4 ⟨q, g, cap, w5, rfl, d1, d2, d3, d8, hrun, ⟨d4, d5⟩, ⟨d6, d7⟩, HE⟩)
            refine wpAnyIn_ready (rs := [5]) (by kernel_rfl) (by simp) ?_
            refine AllReadyIn.cons rfl (fun K hK => ?_) AllReadyIn.nil
            go_simp
            refine hK _ _ ?_
            clear hK K
            refine wpAnyIn_ready (rs := [6]) (by kernel_rfl) (by simp) ?_
            refine AllReadyIn.cons rfl (fun K hK => ?_) AllReadyIn.nil
            refine step_append_in rfl (.tmp 17) (.tmp 22) rfl rfl rfl hrun ?_
            refine hK _ _ ?_
            clear hK K
            go_simp
            refine wpAnyIn_ready (rs := [7]) (by kernel_rfl) (by simp) ?_
            refine AllReadyIn.cons rfl (fun K hK => ?_) AllReadyIn.nil
            go_simp
            refine hK _ _ ?_
            clear hK K
            refine wpAnyIn_ready (rs := [8]) (by kernel_rfl) (by simp) ?_
            refine AllReadyIn.cons rfl (fun K hK => ?_) AllReadyIn.nil
            go_simp
            refine hK _ _ ?_
            clear hK K
            refine wpAnyIn_done (by kernel_rfl) ?_ _
            gi_wp2
            exact ⟨keeps_mono HE.out.1 (by omega), trivial, HE.out.2⟩
          refine AllReadyIn.cons rfl (fun K hK => ?_) AllReadyIn.nil
          go_simp
          gi_wp2_with ((refine ⟨trivial, ?_⟩); gi_at_call 37; (with_reducible refine (callsIn_wide.2 KM.out).mono ?_); rintro e w4 ⟨q, g, cap, w5, rfl, d1, d2, d3, d8, hrun, ⟨d4, d5⟩, ⟨d6, d7⟩, HE⟩)
          refine wpAnyIn_ready (rs := [0, 5]) (by kernel_rfl) (by simp) ?_
          refine AllReadyIn.cons rfl (fun K hK => ?_) ?_
          · go_simp
            refine hK _ _ ?_
            clear hK K
            refine wpAnyIn_ready (rs := [5]) (by kernel_rfl) (by simp) ?_
            refine AllReadyIn.cons rfl (fun K hK => ?_) AllReadyIn.nil
            go_simp
            refine hK _ _ ?_
            clear hK K
            refine wpAnyIn_ready (rs := [6]) (by kernel_rfl) (by simp) ?_
            refine AllReadyIn.cons rfl (fun K hK => ?_) AllReadyIn.nil
            refine step_append_in rfl (.tmp 17) (.tmp 22) rfl rfl rfl hrun ?_
            refine hK _ _ ?_
            clear hK K
            go_simp
            refine wpAnyIn_ready (rs := [7]) (by kernel_rfl) (by simp) ?_
            refine AllReadyIn.cons rfl (fun K hK => ?_) AllReadyIn.nil
            go_simp
            refine hK _ _ ?_
            clear hK K
            refine wpAnyIn_ready (rs := [8]) (by kernel_rfl) (by simp) ?_
            refine AllReadyIn.cons rfl (fun K hK => ?_) AllReadyIn.nil
            go_simp
            refine hK _ _ ?_
            clear hK K
            refine wpAnyIn_done (by kernel_rfl) ?_ _
            gi_wp2
            exact ⟨keeps_mono HE.out.1 (by omega), trivial, HE.out.2⟩
          refine AllReadyIn.cons rfl (fun K hK => ?_) AllReadyIn.nil
          go_simp
          refine hK _ _ ?_
          clear hK K
          refine wpAnyIn_ready (rs := [0]) (by kernel_rfl) (by simp) ?_
          refine AllReadyIn.cons rfl (fun K hK => ?_) AllReadyIn.nil
          go_simp
          refine hK _ _ ?_
          clear hK K
          refine wpAnyIn_ready (rs := [6]) (by kernel_rfl) (by simp) ?_
          refine AllReadyIn.cons rfl (fun K hK => ?_) AllReadyIn.nil
          refine step_append_in rfl (.tmp 17) (.tmp 22) rfl rfl rfl hrun ?_
          refine hK _ _ ?_
          clear hK K
          go_simp
          refine wpAnyIn_ready (rs := [7]) (by kernel_rfl) (by simp) ?_
          refine AllReadyIn.cons rfl (fun K hK => ?_) AllReadyIn.nil
          go_simp
          refine hK _ _ ?_
          clear hK K
          refine wpAnyIn_ready (rs := [8]) (by kernel_rfl) (by simp) ?_
          refine AllReadyIn.cons rfl (fun K hK => ?_) AllReadyIn.nil
          go_simp
          refine hK _ _ ?_
          clear hK K
          refine wpAnyIn_done (by kernel_rfl) ?_ _
          gi_wp2
          exact ⟨keeps_mono HE.out.1 (by omega), trivial, HE.out.2⟩
        refine AllReadyIn.cons rfl (fun K hK => ?_) AllReadyIn.nil
        go_simp
        refine hK _ _ ?_
        clear hK K
        refine wpAnyIn_ready (rs := [0, 1]) (by kernel_rfl) (by simp) ?_
        refine AllReadyIn.cons rfl (fun K hK => ?_) ?_
        · go_simp
          refine hK _ _ ?_
          clear hK K
          refine wpAnyIn_ready (rs := [1]) (by kernel_rfl) (by simp) ?_
          refine AllReadyIn.cons rfl (fun K hK => ?_) AllReadyIn.nil
          go_simp
          refine hK _ _ ?_
          clear hK K
          refine wpAnyIn_ready (rs := [4]) (by kernel_rfl) (by simp) ?_
          refine AllReadyIn.cons rfl (fun K hK => ?_) AllReadyIn.nil
          go_simp
          gi_wp2_with ((refine ⟨trivial, ?_⟩); gi_at_call 37; (with_reducible refine (callsIn_wide.2 KM.out).mono ?_); rintro e w4 ⟨q, g, cap, w5, rfl, d1, d2, d3, d8, hrun, ⟨d4, d5⟩, ⟨d6, d7⟩, HE⟩)
          refine wpAnyIn_ready (rs := [5]) (by kernel_rfl) (by simp) ?_
          refine AllReadyIn.cons rfl (fun K hK => ?_) AllReadyIn.nil
          go_simp
          refine hK _ _ ?_
          clear hK K
          refine wpAnyIn_ready (rs := [6]) (by kernel_rfl) (by simp) ?_
          refine AllReadyIn.cons rfl (fun K hK => ?_) AllReadyIn.nil
          refine step_append_in rfl (.tmp 17) (.tmp 22) rfl rfl rfl hrun ?_
          refine hK _ _ ?_
          clear hK K
          go_simp
          refine wpAnyIn_ready (rs := [7]) (by kernel_rfl) (by simp) ?_
          refine AllReadyIn.cons rfl (fun K hK => ?_) AllReadyIn.nil
          go_simp
          refine hK _ _ ?_
          clear hK K
          refine wpAnyIn_ready (rs := [8]) (by kernel_rfl) (by simp) ?_
          refine AllReadyIn.cons rfl (fun K hK => ?_) AllReadyIn.nil
          go_simp
          refine hK _ _ ?_
          clear hK K
          refine wpAnyIn_done (by kernel_rfl) ?_ _
          gi_wp2
          exact ⟨keeps_mono HE.out.1 (by omega), trivial, HE.out.2⟩
        refine AllReadyIn.cons rfl (fun K hK => ?_) AllReadyIn.nil
        go_simp
        refine hK _ _ ?_
        clear hK K
        refine wpAnyIn_ready (rs := [0, 4]) (by kernel_rfl) (by simp) ?_
        refine AllReadyIn.cons rfl (fun K hK => ?_) ?_
        · go_simp
          refine hK _ _ ?_
          clear hK K
          refine wpAnyIn_ready (rs := [4]) (by kernel_rfl) (by simp) ?_
          refine AllReadyIn.cons rfl (fun K hK => ?_) AllReadyIn.nil
          go_simp
          gi_wp2_with ((refine ⟨trivial, ?_⟩); gi_at_call 37; (with_reducible refine (callsIn_wide.2 KM.out).mono ?_); rintro e w4 ⟨q, g, cap, w5, rfl, d1, d2, d3, d8, hrun, ⟨d4, d5⟩, ⟨d6, d7⟩, HE⟩)
          refine wpAnyIn_ready (rs := [5]) (by kernel_rfl) (by simp) ?_
          refine AllReadyIn.cons rfl (fun K hK => ?_) AllReadyIn.nil
          go_simp
          refine hK _ _ ?_
          clear hK K
          refine wpAnyIn_ready (rs := [6]) (by kernel_rfl) (by simp) ?_
          refine AllReadyIn.cons rfl (fun K hK => ?_) AllReadyIn.nil
          refine step_append_in rfl (.tmp 17) (.tmp 22) rfl rfl rfl hrun ?_
          refine hK _ _ ?_
          clear hK K
          go_simp
          refine wpAnyIn_ready (rs := [7]) (by kernel_rfl) (by simp) ?_
          refine AllReadyIn.cons rfl (fun K hK => ?_) AllReadyIn.nil
          go_simp
          refine hK _ _ ?_
          clear hK K
          refine wpAnyIn_ready (rs := [8]) (by kernel_rfl) (by simp) ?_
          refine AllReadyIn.cons rfl (fun K hK => ?_) AllReadyIn.nil
          go_simp
          refine hK _ _ ?_
          clear hK K
          refine wpAnyIn_done (by kernel_rfl) ?_ _
          gi_wp2
          exact ⟨keeps_mono HE.out.1 (by omega), trivial, HE.out.2⟩
        refine AllReadyIn.cons rfl (fun K hK => ?_) AllReadyIn.nil
        go_simp
        gi_wp2_with ((refine ⟨trivial, ?_⟩); gi_at_call 37; (with_reducible refine (callsIn_wide.2 KM.out).mono ?_); rintro e w4 ⟨q, g, cap, w5, rfl, d1, d2, d3, d8, hrun, ⟨d4, d5⟩, ⟨d6, d7⟩, HE⟩)
        refine wpAnyIn_ready (rs := [0, 5]) (by kernel_rfl) (by simp) ?_
        refine AllReadyIn.cons rfl (fun K hK => ?_) ?_
        · go_simp
          refine hK _ _ ?_
          clear hK K
          refine wpAnyIn_ready (rs := [5]) (by kernel_rfl) (by simp) ?_
          refine AllReadyIn.cons rfl (fun K hK => ?_) AllReadyIn.nil
          go_simp
          refine hK _ _ ?_
          clear hK K
          refine wpAnyIn_ready (rs := [6]) (by kernel_rfl) (by simp) ?_
          refine AllReadyIn.cons rfl (fun K hK => ?_) AllReadyIn.nil
          refine step_append_in rfl (.tmp 17) (.tmp 22) rfl rfl rfl hrun ?_
          refine hK _ _ ?_
          clear hK K
          go_simp
          refine wpAnyIn_ready (rs := [7]) (by kernel_rfl) (by simp) ?_
          refine AllReadyIn.cons rfl (fun K hK => ?_) AllReadyIn.nil
          go_simp
          refine hK _ _ ?_
          clear hK K
          refine wpAnyIn_ready (rs := [8]) (by kernel_rfl) (by simp) ?_
          refine AllReadyIn.cons rfl (fun K hK => ?_) AllReadyIn.nil
          go_simp
          refine hK _ _ ?_
          clear hK K
          refine wpAnyIn_done (by kernel_rfl) ?_ _
          gi_wp2
          exact ⟨keeps_mono HE.out.1 (by omega), trivial, HE.out.2⟩
        refine AllReadyIn.cons rfl (fun K hK => ?_) AllReadyIn.nil
        go_simp
        refine hK _ _ ?_
        clear hK K
        refine wpAnyIn_ready (rs := [0]) (by kernel_rfl) (by simp) ?_
        refine AllReadyIn.cons rfl (fun K hK => ?_) AllReadyIn.nil
        go_simp
        refine hK _ _ ?_
        clear hK K
        refine wpAnyIn_ready (rs := [6]) (by kernel_rfl) (by simp) ?_
        refine AllReadyIn.cons rfl (fun K hK => ?_) AllReadyIn.nil
        refine step_append_in rfl (.tmp 17) (.tmp 22) rfl rfl rfl hrun ?_
        refine hK _ _ ?_
        clear hK K
        go_simp
        refine wpAnyIn_ready (rs := [7]) (by kernel_rfl) (by simp) ?_
        refine AllReadyIn.cons rfl (fun K hK => ?_) AllReadyIn.nil
        go_simp
        refine hK _ _ ?_
        clear hK K
        refine wpAnyIn_ready (rs := [8]) (by kernel_rfl) (by simp) ?_
        refine AllReadyIn.cons rfl (fun K hK => ?_) AllReadyIn.nil
        go_simp
        refine hK _ _ ?_
        clear hK K
        refine wpAnyIn_done (by kernel_rfl) ?_ _
        gi_wp2
        exact ⟨keeps_mono HE.out.1 (by omega), trivial, HE.out.2⟩
  case done =>
    rintro D xs W1 hD hS hI hK
    have hS : xs = kids L := hS
    subst hS
    obtain ⟨X, s, ts, v, h1, h2, h3⟩ := hI
    have hX : X = .nil := by
      have e := congrArg List.length h1
      rw [List.length_append] at e
      cases X with
      | nil => rfl
      | node a t l r => simp [kids] at e
    subst hX
    obtain ⟨q, hq⟩ := ptv_is s.rt
    have c1 := h3.bs.cell
    have c2 := h3.ba.cell
    have f2 := h3.ba.frozen
    rw [hq] at c1
    obtain ⟨p0, c0, rfl, _, _, hlies⟩ := own_slice h3.row (fun k => k < w.heap.size ∨ k = ab) (fun k e e2 => by have := h3.rb k e; have := h3.l0; have := h3.l1; have := h3.l2; have := h3.l3; have := h3.l4; have := h3.l5; omega)
    have q0 := h3.l0
    have q1 := h3.l1
    have q2 := h3.l2
    have oa : Off (fun k => k = ab) W1 (W1.setCell ⟨ab, 0, none⟩ (.pointer q)) := off_set (Off.refl (fun k => k = ab) _) rfl _
    have hK2 : (W1.setCell ⟨ab, 0, none⟩ (.pointer q)).heap[D]? = some (.deferred (some [])) := (KeepsOthers.setCell W1 ⟨ab, 0, none⟩ (.pointer q)).same D _ hK rfl
    have oD : Off (fun k => k = ab ∨ k = D) W1 ((W1.setCell ⟨ab, 0, none⟩ (.pointer q)).putObj D (.deferred none)) := Off.trans (oa.mono fun i _ e => .inl e) (off_grown (grownBy_putObj' _ D _)) (fun i e => .inl (.inr (by cases e; rfl)))
    have fin : Hid (CallsDIn Fence.wide 3 Try.prog 69 #[pt pb, pt ab, pt cb] .returning ((W1.setCell ⟨ab, 0, none⟩ (.pointer q)).putObj D (.deferred none)) fun e u' W' => u' = .returning ∧ (∃ v, e = .returned v) ∧ ∃ g, Fst w W' c n tn L R .nil [g] ∧ Boxed W' ab 69 (ptv g.rt)) := Lib.hid (by
      have nD : ∀ B t v, Boxed W1 B t v → ¬ B = D := fun B t v hb e => by
        have hb : W1.heap[B]? = _ := hb
        rw [e, hK] at hb
        injection hb with hb
        cases hb
      refine close_any w _ c n tn L R .nil s ts pb ab cb p0 c0 .returning (h3.fs.turn oD (fun k e => by rcases e with e | e <;> omega)) ?_ (box_off h3.bc oD (by have := nD _ _ _ h3.bc; omega)) (by have := box_off h3.bp oD (by have := nD _ _ _ h3.bp; omega); rw [List.length_map] at this; exact this) ?_ (by omega) q0 (by omega)
      · rw [hq]
        exact box_off (h3.ba.set (.pointer q)) (off_grown (grownBy_putObj' _ D _)) (fun e => by cases e; exact nD _ _ _ h3.ba rfl)
      · have l2 := hlies.off oa (fun k e => .inr e)
        exact l2.kept (grownBy_putObj' _ D _) (fun r e => by cases e; exact ⟨_, hK2, rfl⟩))
    clear h3 h1
    go_wp2
    refine ⟨by simp, .inl ⟨_, _, rfl, run_takeDeferred hK2, ?_⟩⟩
    refine ⟨by simp, .inr ⟨fun _ => by omega, _, _, 69, #[pt pb, pt ab, pt cb], rfl, by simp [go_sem], fun _ _ => trivial, fin.out.mono ?_⟩⟩
    rintro e u' W' ⟨rfl, ⟨v', rfl⟩, g, hg, hbg⟩
    have hc := hbg.cell
    obtain ⟨q', hq'⟩ := ptv_is g.rt
    rw [hq'] at hc
    refine ⟨ptv g.rt, ?_, g, rfl, hg⟩
    rw [hq']
    simp [results, Try.results62, go_sem, hc]
end Go.Proofs.Ytdlfppdekllloaa
