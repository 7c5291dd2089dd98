/-
  Contracts of slices.Grow and slices.Concat at timers: of two or three lists.
  Contract of a wheel of four levels: Due.
-/
import Derived.Shelf.Spec.SlicesGrow
import Derived.Test.YtdoceldofkaapaaGreatDoorXao
import Derived.Test.YtdoceldofkaapaaGreatDoorRcs
import Derived.Test.YtdoceldofkaapaaGreatDoorRins
set_option linter.unusedVariables false
set_option linter.unusedSimpArgs false
namespace Go.Proofs.YtdoceldofkaapaaGreatDoor
open Go.RowKit Go.Shelf
def growL_ren : Go.Shelf.Ren := ⟨fun | 4 => 108 | n => n, fun | 22 => 29 | 25 => 37 | 3 => 3 | 4 => 4 | 9 => 9 | 20 => 20 | 0 => 0 | n => n, fun | n => n⟩
theorem growL : Go.Proofs.Lays8.n4 Tryz.prog growL_ren := {
  mixed := by kernel_rfl
  f4 := ⟨Tryz.f108.name, by decide, Tryz.func108.trans (congrArg some (by kernel_rfl))⟩
  t0 := Tryz.underlying0
  a0 := Tryz.isAgg0
  z0 := Tryz.sizeOf0
  v0 := Tryz.zeroValue0
  t3 := Tryz.underlying3
  a3 := Tryz.isAgg3
  z3 := Tryz.sizeOf3
  v3 := Tryz.zeroValue3
  t4 := Tryz.underlying4
  a4 := Tryz.isAgg4
  z4 := Tryz.sizeOf4
  v4 := Tryz.zeroValue4
  t9 := Tryz.underlying9
  a9 := Tryz.isAgg9
  z9 := Tryz.sizeOf9
  v9 := Tryz.zeroValue9
  t20 := Tryz.underlying20
  a20 := Tryz.isAgg20
  z20 := Tryz.sizeOf20
  v20 := Tryz.zeroValue20
  t22 := Tryz.underlying29
  a22 := Tryz.isAgg29
  z22 := Tryz.sizeOf29
  v22 := Tryz.zeroValue29 }
end Go.Proofs.YtdoceldofkaapaaGreatDoor
namespace Go.Proofs.YtdoceldofkaapaaGreatDoor
open Go.RowKit
/-- The first k of some lists, one behind the other. -/
def tot (ls : Nat → List T) : Nat → List T
  | 0 => []
  | k + 1 => tot ls k ++ ls k
theorem tot_mono (ls : Nat → List T) {a b : Nat} (h : a ≤ b) : (tot ls a).length ≤ (tot ls b).length := by
  induction b with
  | zero => obtain rfl : a = 0 := by omega
            exact Nat.le_refl _
  | succ b ih =>
    by_cases e : a = b + 1
    · subst e; exact Nat.le_refl _
    · rw [tot, List.length_append]; have := ih (by omega); omega
theorem grow_some (n : Nat) (w : World) (h0 : 1 ≤ n) (hm : n ≤ 5000) :
    Calls Tryz.prog 108 #[.slice none 0 0, .int .i64 n] w fun e w' => ∃ v, e = .returned v ∧ OwnT w' w.heap.size v [] ∧ Bel w w' := by
  obtain ⟨i0, hi, hz0, hz1, hz2⟩ := info_parts info37
  have K := Any8.slices_Grow_grow growL i0 _ hi hz0 (by rw [hz1]; decide) none 0 0 n [] w (by omega) (by omega) (by rw [hz2]; omega) (by omega) (by simp) (fun _ => rfl) (by simp)
  refine K.mono fun e w' ⟨he, hw⟩ => ?_
  subst hw
  refine ⟨_, he, ?_, (Bel.refl w).drew.alloc _ _⟩
  have hge := grownCap_ge w (0 + n) 0 37
  have hmx := grownCap_le_maxLen w (0 + n) 0 37 (by unfold maxLen; omega)
  refine World.ownsRow_made w.drew _ (grownCap w (0 + n) 0 37) (Nat.le_refl _) hmx ?_
  simp only [List.toArray, Array.size_append, size_zeroCells]
  show 0 + (0 + n - 0) * 3 + (grownCap w (0 + n) 0 37 - (0 + n)) * 3 = _
  omega
theorem grow_none (w : World) :
    Calls Tryz.prog 108 #[.slice none 0 0, .int .i64 0] w fun e w' => e = .returned (.slice none 0 0) ∧ Bel w w' := by
  go_enter Tryz.func108, Tryz.ntmps108
  go_wp2
  go_ret
  exact ⟨rfl, Bel.refl _⟩
theorem grow_any (n : Nat) (w : World) (hm : n ≤ 5000) :
    Calls Tryz.prog 108 #[.slice none 0 0, .int .i64 n] w fun e w' => ∃ v, e = .returned v ∧ OwnT w' w.heap.size v [] ∧ Bel w w' := by
  by_cases h : 1 ≤ n
  · exact grow_some n w h hm
  · obtain rfl : n = 0 := by omega
    exact (grow_none w).mono fun e w' ⟨h1, h2⟩ => ⟨_, h1, OwnT.nil _ _, h2⟩
set_option maxHeartbeats 1000000 in
theorem concat_any (g M : Nat) (hM : M ≤ 3) (ls : Nat → List T) (q : Nat → Option Addr) (L C : Nat → Nat) (w : World) (hL : ∀ k, k < M → (ls k).length = L k) (hH : ∀ k, k < M → Has w (q k) (ls k)) (hm : (tot ls M).length ≤ 5000)
    (hc : ∀ k, k < M → w.cell? ⟨g, k, none⟩ = some (.slice (q k) (L k) (C k))) :
    Calls Tryz.prog 71 #[.slice (some ⟨g, 0, none⟩) M M] w fun e w' => ∃ v, e = .returned v ∧ OwnT w' w.heap.size v (tot ls M) ∧ Bel w w' := by
  have HL := Lib.hid hL
  have HH := Lib.hid hH
  have HC := Lib.hid hc
  have HM := Lib.hid hm
  clear hL hH hc hm
  go_enter Tryz.func71, Tryz.ntmps71
  go_wp2
  go_loop [3, 11] (fun s i => ∃ k : Nat, k ≤ M ∧ i = .int .i64 k ∧ s = .int .i64 (tot ls k).length) (fun _ i => M - (intOf i).toNat)
  case atStart => exact ⟨0, by omega, rfl, rfl⟩
  case round =>
    obtain ⟨k, hk, rfl, rfl⟩ := hrel
    by_cases h : k < M
    · have ck := HC.out k h
      have hs : (tot ls (k + 1)).length = (tot ls k).length + L k := by rw [tot, List.length_append, HL.out k h]
      have hle := tot_mono ls (show k + 1 ≤ M by omega)
      have hle2 := HM.out
      have b1 : ((tot ls k).length : Int) + (L k : Int) ≤ 5000 := by omega
      generalize (tot ls k).length = n1 at *
      have HS := Lib.hid hs
      clear hs hle hle2
      go_wp2
      go_round
      case rel => exact ⟨k + 1, by omega, by go_num, by rw [HS.out]; go_num⟩
      case measure => simp [intOf]; omega
    · obtain rfl : M = k := by omega
      obtain ⟨n, hn⟩ : ∃ n, (tot ls M).length = n := ⟨_, rfl⟩
      rw [hn]
      have K := Lib.hid (fun w => grow_any n w (by have := HM.out; omega))
      clear hn
      go_wp2_with fail
      with_reducible refine (K.out _).mono ?_
      rintro e w1 ⟨v, rfl, ho, hb⟩
      have HO := Lib.hid ho
      have HB := Lib.hid hb
      clear ho hb
      go_wp2
      go_loopw [6, 27] (fun o i wr => ∃ k : Nat, k ≤ M ∧ i = .int .i64 k ∧ OwnT wr w.heap.size o (tot ls k) ∧ Bel w wr) (fun _ i _ => M - (intOf i).toNat)
      case atStart => exact ⟨0, by omega, rfl, HO.out, HB.out⟩
      case round =>
        obtain ⟨k, hk, rfl, ho2, hb2⟩ := hrel
        have HO2 := Lib.hid ho2
        have HB2 := Lib.hid hb2
        clear ho2 hb2
        by_cases h : k < M
        · have ck := HB2.out.cell (HC.out k h)
          have hle : (tot ls k).length + L k ≤ 1000000 := by
            have h1 := tot_mono ls (show k + 1 ≤ M by omega)
            have h2 := HM.out
            rw [tot, List.length_append, HL.out k h] at h1
            omega
          have HLE := Lib.hid hle
          clear hle
          go_wp2_with (at_builtin; refine wpList_append_any rfl (.tmp 31) (.tmp 32) rfl w.heap.size _ (tot ls k) rfl HO2.out _ _ _ (ls k) rfl (HL.out k h) ((HH.out k h).bel HB2.out) HLE.out HB2.out.size ?_)
          intro v3 w3 hown hgrow hnil
          have HO3 := Lib.hid hown
          have HB3 : Hid (Bel w w3) := Lib.hid (OwnT.grown HB2.out HO2.out HB2.out.size hgrow)
          clear hown hgrow hnil ck
          go_wp2
          go_roundw
          case rel => exact ⟨k + 1, by omega, by go_num, HO3.out, HB3.out⟩
          case measure => simp [intOf]; omega
        · obtain rfl : M = k := by omega
          go_wp2
          go_ret
          exact ⟨_, rfl, HO2.out, HB2.out⟩
theorem own_len {w : World} {base : Nat} {v : Value} {l : List T} (h : OwnT w base v l) : ∃ q c, v = .slice q l.length c ∧ l.length ≤ c ∧ Has w q l := by
  obtain ⟨p, c, e, h1, _, h2⟩ := h.slice
  exact ⟨p, c, e, h1, h2⟩
theorem concat2 (g : Nat) (p1 p2 : Option Addr) (l1 l2 : List T) (n1 n2 c1 c2 : Nat) (w : World) (e1 : l1.length = n1) (e2 : l2.length = n2) (h1 : Has w p1 l1) (h2 : Has w p2 l2)
    (hm : n1 + n2 ≤ 5000) (k0 : w.cell? ⟨g, 0, none⟩ = some (.slice p1 n1 c1)) (k1 : w.cell? ⟨g, 1, none⟩ = some (.slice p2 n2 c2)) :
    Calls Tryz.prog 71 #[.slice (some ⟨g, 0, none⟩) 2 2] w fun e w' => ∃ v, e = .returned v ∧ OwnT w' w.heap.size v (l1 ++ l2) ∧ Bel w w' := by
  have et : tot (fun k => if k = 0 then l1 else l2) 2 = l1 ++ l2 := by simp [tot]
  have K := concat_any g 2 (by omega) (fun k => if k = 0 then l1 else l2) (fun k => if k = 0 then p1 else p2) (fun k => if k = 0 then n1 else n2) (fun k => if k = 0 then c1 else c2) w
    (fun k hk => by obtain rfl | rfl : k = 0 ∨ k = 1 := by omega
                    all_goals simp [e1, e2])
    (fun k hk => by obtain rfl | rfl : k = 0 ∨ k = 1 := by omega
                    all_goals simp [h1, h2])
    (by rw [et, List.length_append, e1, e2]; exact hm)
    (fun k hk => by obtain rfl | rfl : k = 0 ∨ k = 1 := by omega
                    all_goals simp [k0, k1])
  rw [et] at K
  exact K
theorem concat3 (g : Nat) (p1 p2 p3 : Option Addr) (l1 l2 l3 : List T) (n1 n2 n3 c1 c2 c3 : Nat) (w : World) (e1 : l1.length = n1) (e2 : l2.length = n2) (e3 : l3.length = n3) (h1 : Has w p1 l1) (h2 : Has w p2 l2) (h3 : Has w p3 l3)
    (hm : n1 + n2 + n3 ≤ 5000) (k0 : w.cell? ⟨g, 0, none⟩ = some (.slice p1 n1 c1)) (k1 : w.cell? ⟨g, 1, none⟩ = some (.slice p2 n2 c2)) (k2 : w.cell? ⟨g, 2, none⟩ = some (.slice p3 n3 c3)) :
    Calls Tryz.prog 71 #[.slice (some ⟨g, 0, none⟩) 3 3] w fun e w' => ∃ v, e = .returned v ∧ OwnT w' w.heap.size v ((l1 ++ l2) ++ l3) ∧ Bel w w' := by
  have et : tot (fun k => if k = 0 then l1 else if k = 1 then l2 else l3) 3 = (l1 ++ l2) ++ l3 := by simp [tot]
  have K := concat_any g 3 (by omega) (fun k => if k = 0 then l1 else if k = 1 then l2 else l3) (fun k => if k = 0 then p1 else if k = 1 then p2 else p3) (fun k => if k = 0 then n1 else if k = 1 then n2 else n3) (fun k => if k = 0 then c1 else if k = 1 then c2 else c3) w
    (fun k hk => by obtain rfl | rfl | rfl : k = 0 ∨ k = 1 ∨ k = 2 := by omega
                    all_goals simp [e1, e2, e3])
    (fun k hk => by obtain rfl | rfl | rfl : k = 0 ∨ k = 1 ∨ k = 2 := by omega
                    all_goals simp [h1, h2, h3])
    (by rw [et]; simp [e1, e2, e3]; omega)
    (fun k hk => by obtain rfl | rfl | rfl : k = 0 ∨ k = 1 ∨ k = 2 := by omega
                    all_goals simp [k0, k1, k2])
  rw [et] at K
  exact K
end Go.Proofs.YtdoceldofkaapaaGreatDoor
namespace Go.Proofs.YtdoceldofkaapaaGreatDoor
open Go.RowKit
theorem Vis.up {b : Nat} {s now : Int} {l : List T} {V : List Nat} (h : Vis b s now (leftL (lw b s) now 0 l) V) : Vis b s now l V := by
  refine ⟨h.two, fun x hx m hm h1 => h.bg x ?_ m hm h1⟩
  unfold leftL
  rw [List.mem_filter]
  refine ⟨hx, ?_⟩
  have h2 : lw b s x ≠ 0 := fun e => by
    have := (lv_neg b s x.a).2 (lw_zero.1 e)
    omega
  simp [h2]
section
variable {w : World} {Q Z B G R P b : Nat} {s k : Int} {l : List T}
/-- The base has gone on, and all that pend lie where they lay. -/
theorem Wr.based (h : Wr w Q Z B G R P b s k l) (s' k' : Int) (hs' : Tk s') (he : ∀ x ∈ l, lw b s' x = lw b s x) : Wr ((w.setCell ⟨Q, 22, none⟩ (.int .u64 s')).setCell ⟨Q, 23, none⟩ (.int .i64 k')) Q Z B G R P b s' k' l ∧ Off (Only Q) w ((w.setCell ⟨Q, 22, none⟩ (.int .u64 s')).setCell ⟨Q, 23, none⟩ (.int .i64 k')) := by
  obtain ⟨⟨ls, r, F, q1, q2, q4⟩, q3⟩ := h
  obtain ⟨a1, a2⟩ := q1.own (i := 22) (v := .int .u64 s') (cs' := rcells Z b (fst4 b) F s' k) (by omega) rfl
  obtain ⟨a3, a4⟩ := a1.own (i := 23) (v := .int .i64 k') (cs' := rcells Z b (fst4 b) F s' k') (by omega) rfl
  have o := a2.then a4
  have r4 : Rest w Q Z B G R b s' l := ⟨q3.hb, hs', q3.tl, q3.tab, q3.zs⟩
  exact ⟨⟨⟨ls, r, F, a3.other he, q2, q4⟩, r4.off o q3.only⟩, o⟩
theorem Wr.so (h : Wr w Q Z B G R P b s k l) : So l := by
  obtain ⟨⟨ls, r, F, q1, q2, q4⟩, q3⟩ := h
  exact q1.ql.is.so
theorem Wr.plc (h : Wr w Q Z B G R P b s k l) : (l.map T.p).Nodup ∧ (∀ t ∈ l, ∃ j : Nat, t.p = j ∧ j < P) ∧ l.length ≤ 1024 := by
  obtain ⟨⟨ls, r, F, q1, q2, q4⟩, q3⟩ := h
  have hi := q1.ql.is
  refine ⟨?_, fun t ht => ⟨pl t, (hi.tm t ht).1, (hi.tm t ht).2.1⟩, Nat.le_trans hi.len q1.ql.hP⟩
  refine List.pairwise_map.2 ?_
  have hn : l.Pairwise (fun x y => pl x ≠ pl y) := List.pairwise_map.1 hi.nd
  exact hn.imp (fun e h => e (by unfold pl; rw [h]))
theorem fnd_free {l : List T} {x : T} (h : ∀ y ∈ l, ¬ y.p = x.p) {j : Nat} (e : x.p = j) : fnd l j = none := by
  cases hf : fnd l j with
  | none => rfl
  | some y =>
    obtain ⟨h1, h2⟩ := fnd_some hf
    exact absurd (by rw [h2, e]) (h y h1)
theorem puts_perm : ∀ (ts m : List T), (ts.foldl put m).Perm (m ++ ts)
  | [], m => by simp
  | t :: r, m => (puts_perm r (put m t)).trans ((List.Perm.append_right r (put_perm m t)).trans (by simpa using (List.perm_middle (a := t) (l₁ := m) (l₂ := r)).symm))
end
theorem due_fresh {l M xs : List T} {P : Nat} {now : Int} (h : (M ++ xs).Perm (due l now false)) (hp : (l.map T.p).Nodup ∧ (∀ t ∈ l, ∃ j : Nat, t.p = j ∧ j < P) ∧ l.length ≤ 1024) {m : Nat} {x : T} (hx : xs[m]? = some x) :
    x ∈ l ∧ ∃ j : Nat, x.p = j ∧ j < P ∧ fnd ((xs.take m).foldl put M) j = none := by
  have hxl : x ∈ l := (List.mem_filter.1 (h.mem_iff.1 (List.mem_append_right M (List.mem_of_getElem? hx)))).1
  obtain ⟨j, e, hj⟩ := hp.2.1 x hxl
  refine ⟨hxl, j, e, hj, fnd_free (fun y hy => ?_) e⟩
  have h1 : ((M ++ xs).map T.p).Nodup := (h.map T.p).nodup_iff.2 (hp.1.sublist ((List.filter_sublist (l := l)).map T.p))
  obtain ⟨h2, h3⟩ := List.getElem?_eq_some_iff.1 hx
  have e2 : M ++ xs = (M ++ xs.take m) ++ x :: xs.drop (m + 1) := by
    rw [List.append_assoc, ← h3, ← List.drop_eq_getElem_cons h2, List.take_append_drop]
  rw [e2, List.map_append] at h1
  have h4 := (List.nodup_append.1 h1).2.2
  exact h4 _ (List.mem_map.2 ⟨y, (puts_perm _ _).mem_iff.1 hy, rfl⟩) _ (List.mem_map.2 ⟨x, by simp, rfl⟩)
section
variable {Q Z B G R P b : Nat} {s k : Int} {l : List T}
set_option maxRecDepth 100000 in
set_option maxHeartbeats 4000000 in
theorem hdue_any (now : Int) (w : World) (q : Wr w Q Z B G R P b s k l) (hnow : Tk now) :
    Calls Tryz.prog 38 #[.pointer (some ⟨Q, 0, none⟩), .int .u64 now] w fun e w' => OutN w w' e (due l now true) ∧ Wr w' Q Z B G R P b (max s now) (IntKind.i64.wrap (k + (csc b s now l : Int))) (due l now false) ∧ Off (Fo Q G R) w w' := by
  have HLT := Lib.hid q.lt
  have HFW : Hid (∀ i, Fo Q G R i → i < w.heap.size) := Lib.hid (fun i e => fo_lt HLT.out e)
  have HSO := Lib.hid q.so
  have HPL := Lib.hid q.plc
  have HTL := Lib.hid q.re.tl
  have HTS : Hid (Tk (max s now)) := Lib.hid (by
    obtain ⟨x1, x2⟩ := q.re.ts
    obtain ⟨x3, x4⟩ := hnow
    exact ⟨by omega, by omega⟩)
  have hzero : lsn b (-1) 0 = 0 := rfl
  have K1 : Hid (Calls Tryz.prog 68 #[.pointer (some ⟨Q, 0, none⟩), spV (-1) 0, .int .u64 now] w fun e w2 => (∃ d p c, d.Perm (dueL (lw b s) now 0 l) ∧ e = .returned (.slice p d.length c) ∧ OwnT w2 w.heap.size (.slice p d.length c) d) ∧ Wr w2 Q Z B G R P b s k (leftL (lw b s) now 0 l) ∧ Off (Fo Q G R) w w2) :=
    Lib.hid (by have := rcut_any (v := -1) (u := 0) now w q (.inl rfl); rwa [hzero] at this)
  have K2 := Lib.hid (fun w' m h => cutSlots_any (Q := Q) (Z := Z) (B := B) (G := G) (R := R) (P := P) (b := b) (s := s) (k := k) (l := m) now w' h hnow)
  have K3 := Lib.hid (fun w' m h => far_any (Q := Q) (Z := Z) (B := B) (G := G) (R := R) (P := P) (b := b) (s := s) (k := k) (l := m) now w' h hnow)
  have lQ := q.lt.1
  obtain ⟨s2, hs2⟩ : ∃ s2, max s now = s2 := ⟨_, rfl⟩
  obtain ⟨k2, hk2⟩ : ∃ k2, IntKind.i64.wrap (k + (csc b s now l : Int)) = k2 := ⟨_, rfl⟩
  have HS2 := Lib.hid hs2
  have HK2 := Lib.hid hk2
  rw [hk2, hs2]
  clear q hnow hzero hs2 hk2
  go_enter Tryz.func38, Tryz.ntmps38
  go_wp2_with fail
  with_reducible refine K1.out.mono ?_
  rintro e w1 ⟨⟨d0, p0, c0, hd0, rfl, ho0⟩, hq1, hf1⟩
  have HD0 := Lib.hid hd0
  have HW0 := Lib.hid ho0
  have HQ1 := Lib.hid hq1
  have HF1 := Lib.hid hf1
  clear hd0 ho0 hq1 hf1 K1
  go_wp2_with fail
  with_reducible refine (K2.out _ _ HQ1.out).mono ?_
  rintro e w2 ⟨⟨V, dv, pv, cv, cc, pc, ccap, hdv, hcv, rfl, hov, hoc, hvis, hq2⟩, hf2⟩
  have HDV := Lib.hid hdv
  have HCV := Lib.hid hcv
  have HOV := Lib.hid (hov.low HF1.out.size)
  have HOC := Lib.hid (hoc.low HF1.out.size)
  have HVI := Lib.hid hvis.up
  have HQ2 := Lib.hid hq2
  have HF2 := Lib.hid (HF1.out.then hf2)
  have HW02 := Lib.hid (HW0.out.off hf2 (fun i e => HFW.out i e))
  clear hdv hcv hov hoc hvis hq2 hf2 K2 HQ1 HW0
  go_wp2_with fail
  with_reducible refine (K3.out _ _ HQ2.out).mono ?_
  rintro e w3 ⟨⟨df, pf, cf, sf, ps, cs, hdf, hsf, rfl, hof, hos⟩, hq3, hf3⟩
  have HDF := Lib.hid hdf
  have HSF := Lib.hid hsf
  have HOF := Lib.hid (hof.low HF2.out.size)
  have HOS := Lib.hid (hos.low HF2.out.size)
  have HF3 := Lib.hid (HF2.out.then hf3)
  have HW03 := Lib.hid (HW02.out.off hf3 (fun i e => HFW.out i e))
  have HOV3 := Lib.hid (HOV.out.off hf3 (fun i e => HFW.out i e))
  have HOC3 := Lib.hid (HOC.out.off hf3 (fun i e => HFW.out i e))
  have HQ3 := Lib.hid hq3
  clear hdf hsf hof hos hq3 hf3 K3 HQ2 HW02 HOV HOC
  obtain ⟨_, _, c22, c23, fz⟩ := HQ3.out.cells
  have f22 := fz 22
  have f23 := fz 23
  have lQ3 : Q < w3.heap.size := HQ3.out.lt.1
  have hlc : cc.length = csc b s now l := due_count HVI.out HCV.out
  have HTR : Hid (((d0 ++ dv) ++ df).Perm (due l now true)) := Lib.hid (due_true HVI.out HD0.out HDV.out HDF.out)
  have HFA : Hid (((fL b s now (vL (lw b s) V (leftL (lw b s) now 0 l)) ++ cc) ++ sf).Perm (due l now false)) := Lib.hid (due_false HVI.out rfl HCV.out HSF.out)
  have HLE : Hid (∀ x ∈ fL b s now (vL (lw b s) V (leftL (lw b s) now 0 l)), lw b (max s now) x = lw b s x) := Lib.hid (fun x hx => (due_left HVI.out hx).2.2.2)
  generalize fL b s now (vL (lw b s) V (leftL (lw b s) now 0 l)) = M3 at *
  obtain ⟨n0, hn0⟩ : ∃ n, d0.length = n := ⟨_, rfl⟩
  obtain ⟨nv, hnv⟩ : ∃ n, dv.length = n := ⟨_, rfl⟩
  obtain ⟨nc, hnc⟩ : ∃ n, cc.length = n := ⟨_, rfl⟩
  obtain ⟨nf, hnf⟩ : ∃ n, df.length = n := ⟨_, rfl⟩
  obtain ⟨ns, hns⟩ : ∃ n, sf.length = n := ⟨_, rfl⟩
  have hle1 : n0 + nv + nf ≤ 1024 := by
    have h1 := HTR.out.length_eq
    rw [List.length_append, List.length_append, hn0, hnv, hnf] at h1
    have h2 := List.length_filter_le (fun x => decide (x.a ≤ now) == true) l
    have h3 := HPL.out.2.2
    unfold due at h1
    omega
  have hle2 : nc + ns ≤ 1024 := by
    have h1 := HFA.out.length_eq
    rw [List.length_append, List.length_append, hnc, hns] at h1
    have h2 := List.length_filter_le (fun x => decide (x.a ≤ now) == false) l
    have h3 := HPL.out.2.2
    unfold due at h1
    omega
  have HN0 := Lib.hid hn0
  have HNV := Lib.hid hnv
  have HNC := Lib.hid hnc
  have HNF := Lib.hid hnf
  have HNS := Lib.hid hns
  rw [hn0] at HW03
  rw [hnv] at HOV3
  rw [hnc] at HOC3 hlc
  rw [hnf] at HOF
  rw [hns] at HOS
  have hk2 : IntKind.i64.wrap (k + (nc : Int)) = k2 := by rw [hlc]; exact HK2.out
  rw [hn0, hnv, hnc, hnf, hns]
  clear hn0 hnv hnc hnf hns hlc fz
  have hs2 := HS2.out
  rw [hs2] at HTS HLE
  have HB := HQ3.out.based s2 k2 HTS.out HLE.out
  have HQ5 := Lib.hid HB.1
  have HO5 : Hid (Off (Fo Q G R) w3 ((w3.setCell ⟨Q, 22, none⟩ (.int .u64 s2)).setCell ⟨Q, 23, none⟩ (.int .i64 k2))) := Lib.hid HB.2.foQ
  clear HB
  go_upto_region 6 with (fail)
  have HWW := Lib.hid (HF3.out.then HO5.out)
  clear hs2 hk2 c22 c23 f22 f23
  generalize (w3.setCell ⟨Q, 22, none⟩ (.int .u64 s2)).setCell ⟨Q, 23, none⟩ (.int .i64 k2) = W5 at *
  have HD05 := Lib.hid (HW03.out.off HO5.out HFW.out)
  have HDV5 := Lib.hid (HOV3.out.off HO5.out HFW.out)
  have HDF5 := Lib.hid (HOF.out.off HO5.out HFW.out)
  have HHC : Hid (Has W5 pc cc) := Lib.hid (own_has (HOC3.out.off HO5.out HFW.out))
  have HHS : Hid (Has W5 ps sf) := Lib.hid (own_has (HOS.out.off HO5.out HFW.out))
  have K4 : Hid (∀ w', Bel W5 w' → ∀ g, w'.cell? ⟨g, 0, none⟩ = some (.slice pc nc ccap) → w'.cell? ⟨g, 1, none⟩ = some (.slice ps ns cs) → Calls Tryz.prog 71 #[.slice (some ⟨g, 0, none⟩) 2 2] w' fun e w2 => ∃ p c, e = .returned (.slice p (nc + ns) c) ∧ nc + ns ≤ c ∧ Lies (old W5) w2 p (encs (cc ++ sf)) ∧ Bel w' w2) :=
    Lib.hid (fun w' hb g h0 h1 => (concat2 g pc ps cc sf nc ns ccap cs w' HNC.out HNS.out (HHC.out.bel hb) (HHS.out.bel hb) (by omega) h0 h1).mono (fun e w2 ⟨v, e1, e2, e3⟩ => by
      obtain ⟨p, c, h2, h3, h4⟩ := (e2.low hb.size).lies (w := W5) (Nat.le_refl _)
      rw [List.length_append, HNC.out, HNS.out] at h2 h3
      exact ⟨p, c, e1.trans (congrArg _ h2), h3, h4, e3⟩))
  have HZ5 := Lib.hid HWW.out.size
  clear HW03 HOV3 HOC3 HOF HOS HHC HHS HQ3 HF3
  generalize hxs : cc ++ sf = xs at *
  have HXS := Lib.hid hxs
  obtain ⟨nx, hnx⟩ : ∃ nx, nc + ns = nx := ⟨_, rfl⟩
  have HNX : Hid (xs.length = nx) := Lib.hid (by rw [← HXS.out, List.length_append, HNC.out, HNS.out, hnx])
  rw [hnx] at K4 hle2
  have HFA2 : Hid ((M3 ++ xs).Perm (due l now false)) := Lib.hid (by rw [← HXS.out, ← List.append_assoc]; exact HFA.out)
  have KI : Hid (∀ w' m (x : T) (j : Nat), Wr w' Q Z B G R P b s2 k2 m → Tk x.a → x.p = j → j < P → fnd m j = none → Calls Tryz.prog 37 #[.pointer (some ⟨Q, 0, none⟩), .agg #[.int .u64 x.a, .int .u64 x.s, .int .i64 x.p]] w' fun e w2 => e = .returned (.int .i64 0) ∧ Wr w2 Q Z B G R P b s2 k2 (put m x) ∧ Off (Fo Q G R) w' w2) :=
    Lib.hid (fun w' m x j h1 h2 h3 h4 h5 => rins_ok x w' h1 h2 h3 h4 h5)
  clear hxs hnx
  have lQ5 : Q < W5.heap.size := HQ5.out.lt.1
  go_wp2_with fail
  have HB6 : Hid (Bel W5 (W5.alloc (.cells #[.slice pc nc ccap, .slice ps ns cs] 29))) := Lib.hid ((Bel.refl _).alloc _ _)
  have HN6 : Hid ((W5.alloc (.cells #[.slice pc nc ccap, .slice ps ns cs] 29)).heap[W5.heap.size]? = some (.cells #[.slice pc nc ccap, .slice ps ns cs] 29 (0, 0))) := Lib.hid (heap_alloc_new _ _)
  with_reducible refine (K4.out _ HB6.out _ (box2 HN6.out).1.1 (box2 HN6.out).1.2).mono ?_
  rintro e w6 ⟨p6, c6, rfl, hc6, hl6, hb6⟩
  have HL6 := Lib.hid hl6
  have HQ6 := Lib.hid (HQ5.out.bel (HB6.out.trans hb6))
  have HO6 := Lib.hid (((HB6.out.trans hb6).off (Fo Q G R)))
  clear hl6 hb6 K4 HQ5 HB6 HN6 lQ5
  have lQ6 : Q < w6.heap.size := HQ6.out.lt.1
  go_wp2
  go_loopw [11, 51] (fun _ v wr => ∃ m : Nat, v = .int .i64 m ∧ m ≤ nx ∧ Wr wr Q Z B G R P b s2 k2 ((xs.take m).foldl put M3) ∧ Off (Fo Q G R) w6 wr) (fun _ v _ => nx - (intOf v).toNat)
  case atStart => exact ⟨0, rfl, by omega, HQ6.out, Off.refl _ _⟩
  case round =>
    obtain ⟨m, rfl, hm, hq, hoff⟩ := hrel
    have HQ := Lib.hid hq
    have HOF2 := Lib.hid hoff
    have lQr : Q < wr.heap.size := hq.lt.1
    clear hq hoff
    by_cases hlt : m < nx
    · obtain ⟨x, hx⟩ : ∃ x, xs[m]? = some x := ⟨_, List.getElem?_eq_getElem (by have := HNX.out; omega)⟩
      have hxd : xs.getD m default = x := by rw [List.getD_eq_getElem?_getD, hx]; rfl
      obtain ⟨bb, off, rfl, hbb, hr⟩ := HL6.out.row (fun e => by have := encs_len xs; rw [e] at this; simp at this; have := HNX.out; omega)
      have hnf : ¬ Fo Q G R bb := fun e => hbb (by have := HFW.out bb e; have := HZ5.out; unfold old; omega)
      obtain ⟨x0, x1, x2⟩ := rowG_row (RowG.off hr hnf HOF2.out) m (by have := HNX.out; omega)
      rw [hxd] at x0 x1 x2
      have HT : Hid (((xs.take (m + 1)).foldl put M3) = put ((xs.take m).foldl put M3) x) := Lib.hid (by
        obtain ⟨h1, h2⟩ := List.getElem?_eq_some_iff.1 hx
        rw [List.take_succ_eq_append_getElem h1, h2, List.foldl_append]
        rfl)
      obtain ⟨hxl, j, hxj, hj, hfn⟩ := due_fresh HFA2.out HPL.out hx
      have hbX : Bel wr (wr.alloc (.cells #[.int .u64 x.a, .int .u64 x.s, .int .i64 x.p] 37)) := (Bel.refl _).alloc _ _
      have KX := Lib.hid (KI.out _ _ x j (HQ.out.bel hbX) (HTL.out x hxl) hxj hj hfn)
      have HOX := Lib.hid (HOF2.out.then (hbX.off (Fo Q G R)))
      clear hbX hr hx hxd hbb hnf hxl hxj hj hfn HQ
      go_wp2_with fail
      with_reducible refine KX.out.mono ?_
      rintro e w7 ⟨rfl, hq7, ho7⟩
      have HQ7 : Hid (Wr w7 Q Z B G R P b s2 k2 ((xs.take (m + 1)).foldl put M3)) := Lib.hid (by rw [HT.out]; exact hq7)
      have HO7 := Lib.hid (HOX.out.then ho7)
      clear hq7 ho7 KX HT HOX
      go_wp2
      go_roundw
      case rel => exact ⟨m + 1, by go_num, by omega, HQ7.out, HO7.out⟩
      case measure => simp [intOf]; omega
    · obtain rfl : m = nx := by omega
      have hend : (xs.take m).foldl put M3 = due l now false := by
        rw [List.take_of_length_le (by have := HNX.out; omega)]
        have := due_ends (cV := xs) (fs := []) HSO.out HQ6.out.so (by rw [List.append_nil]; exact HFA2.out)
        rwa [List.append_nil] at this
      have HQF : Hid (Wr wr Q Z B G R P b s2 k2 (due l now false)) := Lib.hid (by rw [← hend]; exact HQ.out)
      have HOW := Lib.hid (HWW.out.then (HO6.out.then HOF2.out))
      have HH0 : Hid (Has wr p0 d0) := Lib.hid (own_has (HD05.out.off (HO6.out.then HOF2.out) HFW.out))
      have HHV : Hid (Has wr pv dv) := Lib.hid (own_has (HDV5.out.off (HO6.out.then HOF2.out) HFW.out))
      have HHF : Hid (Has wr pf df) := Lib.hid (own_has (HDF5.out.off (HO6.out.then HOF2.out) HFW.out))
      have HSR : Hid (srt ((d0 ++ dv) ++ df) = due l now true) := Lib.hid (srt_of (HSO.out.filter _) HTR.out.symm).symm
      have HLN : Hid (((d0 ++ dv) ++ df).length ≤ 5000) := Lib.hid (by
        rw [List.length_append, List.length_append, HN0.out, HNV.out, HNF.out]; omega)
      have K5 : Hid (∀ w', Bel wr w' → ∀ g, w'.cell? ⟨g, 0, none⟩ = some (.slice p0 n0 c0) → w'.cell? ⟨g, 1, none⟩ = some (.slice pv nv cv) → w'.cell? ⟨g, 2, none⟩ = some (.slice pf nf cf) → Calls Tryz.prog 71 #[.slice (some ⟨g, 0, none⟩) 3 3] w' fun e w2 => (∃ p c, e = .returned (.slice p ((d0 ++ dv) ++ df).length c) ∧ Has w2 p ((d0 ++ dv) ++ df)) ∧ Bel w' w2) :=
        Lib.hid (fun w' hb g h0 h1 h2 => (concat3 g p0 pv pf d0 dv df n0 nv nf c0 cv cf w' HN0.out HNV.out HNF.out (HH0.out.bel hb) (HHV.out.bel hb) (HHF.out.bel hb) (by omega) h0 h1 h2).mono (fun e w2 ⟨v, e1, e2, e3⟩ => by
          obtain ⟨p, c, h2, h3, h4⟩ := own_len e2
          exact ⟨⟨p, c, e1.trans (congrArg _ h2), h4⟩, e3⟩))
      have K6 := Lib.hid (fun w' p c h => sort_any p ((d0 ++ dv) ++ df).length c ((d0 ++ dv) ++ df) w' rfl HLN.out h)
      generalize (d0 ++ dv) ++ df = dd at *
      have HZW := Lib.hid HOW.out.size
      clear hend HQ HOF2 HH0 HHV HHF HD05 HDV5 HDF5 HQ6 HO6 HL6 HWW
      go_wp2_with fail
      have HB8 : Hid (Bel wr (wr.alloc (.cells #[.slice p0 n0 c0, .slice pv nv cv, .slice pf nf cf] 29))) := Lib.hid ((Bel.refl _).alloc _ _)
      have HN8 : Hid ((wr.alloc (.cells #[.slice p0 n0 c0, .slice pv nv cv, .slice pf nf cf] 29)).heap[wr.heap.size]? = some (.cells #[.slice p0 n0 c0, .slice pv nv cv, .slice pf nf cf] 29 (0, 0))) := Lib.hid (heap_alloc_new _ _)
      with_reducible refine (K5.out _ HB8.out _ (box3 HN8.out).1.1 (box3 HN8.out).1.2.1 (box3 HN8.out).1.2.2).mono ?_
      rintro e w8 ⟨⟨p8, c8, rfl, hh8⟩, hb8⟩
      have HB9 := Lib.hid (HB8.out.trans hb8)
      have K7 := Lib.hid (K6.out w8 p8 c8 hh8)
      clear hh8 hb8 HB8 HN8 K5 K6
      go_wp2_with fail
      with_reducible refine K7.out.mono ?_
      rintro e w9 ⟨ho9, hb9⟩
      have HB10 := Lib.hid (HB9.out.trans hb9)
      rw [HSR.out] at ho9
      obtain ⟨p9, c9, rfl, hc9, hl9⟩ := ho9
      have HL9 : Hid (Lies (old w) w9 p9 (encs (due l now true))) := Lib.hid (hl9.mono (fun i _ e => by have h1 := HZW.out; have h2 := HB9.out.size; unfold old at e ⊢; omega))
      clear hl9 hb9
      go_wp2
      go_ret
      exact ⟨⟨p9, c9, rfl, hc9, HL9.out⟩, HQF.out.bel HB10.out, HOW.out.then (HB10.out.off _)⟩
end
end Go.Proofs.YtdoceldofkaapaaGreatDoor
