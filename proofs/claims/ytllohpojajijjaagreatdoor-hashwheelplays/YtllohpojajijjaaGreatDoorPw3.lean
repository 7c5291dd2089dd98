/-
  Contracts of a queue of places: pending, Len, All.
-/
import Derived.Test.YtllohpojajijjaaGreatDoorPw
set_option linter.unusedVariables false
set_option linter.unusedSimpArgs false
namespace Go.Proofs.YtllohpojajijjaaGreatDoor
open Go.RowKit
/-- Those that pend, place by place. -/
def pnd (l : List T) (n : Nat) : List T := (List.range n).filterMap fun i => fnd l (i : Nat)
theorem pnd_zero (l : List T) : pnd l 0 = [] := rfl
theorem pnd_none {l : List T} {n : Nat} (h : fnd l (n : Nat) = none) : pnd l (n + 1) = pnd l n := by unfold pnd; rw [List.range_succ, List.filterMap_append]; simp [h]
theorem pnd_some {l : List T} {n : Nat} {x : T} (h : fnd l (n : Nat) = some x) : pnd l (n + 1) = pnd l n ++ [x] := by unfold pnd; rw [List.range_succ, List.filterMap_append]; simp [h]
theorem pnd_len (l : List T) (n : Nat) : (pnd l n).length ≤ n := by
  unfold pnd
  have := List.length_filterMap_le (fun i : Nat => fnd l (i : Nat)) (List.range n)
  simpa using this
section
variable {Q B G R P L : Nat} {lo : T → Nat} {ls : Ls} {r : Nat → T} {h : Hd} {l : List T}
theorem Is.lnd (hi : Is P L lo ls r l) : l.Nodup := by
  have h1 := hi.nd
  unfold pls List.Nodup at h1
  rw [List.pairwise_map] at h1
  exact h1.imp (fun hab e => hab (by rw [e]))
theorem Is.pnd_perm (hi : Is P L lo ls r l) : (pnd l P).Perm l := by
  refine (List.perm_ext_iff_of_nodup ?_ hi.lnd).2 fun x => ?_
  · unfold pnd List.Nodup
    rw [List.pairwise_filterMap]
    refine (List.nodup_range (n := P)).imp ?_
    intro a b hab x hx y hy e
    subst e
    have h1 := (fnd_some hx).2
    have h2 := (fnd_some hy).2
    omega
  · unfold pnd
    rw [List.mem_filterMap]
    constructor
    · rintro ⟨i, _, hx⟩; exact (fnd_some hx).1
    · intro hx; exact ⟨pl x, by simpa using (hi.tm x hx).2.1, hi.find hx⟩
set_option maxHeartbeats 1000000 in
set_option maxRecDepth 100000 in
theorem pending_any (w : World) (q : Qp w Q B G R P L lo ls r h l) :
    Calls Tryz.prog 27 #[.pointer (some ⟨Q, 0, none⟩)] w fun e w' => OutN w w' e (pnd l P) ∧ Bel w w' := by
  have HA := Lib.hid q
  obtain ⟨c0, c1⟩ := q.head
  have lQ := q.lt.1
  have hP := q.hP
  have K1 : Hid (∀ (i : Nat) w', Bel w w' → Calls Tryz.prog 13 #[.pointer (some ⟨Q, 0, none⟩), .int .i64 i] w' fun e w2 => e = .returned (ansT (fnd l (i : Nat))) ∧ Bel w' w2) := Lib.hid (fun i w' hb => get_any (i : Nat) w' (q.bel hb))
  clear q
  go_enter Tryz.func27, Tryz.ntmps27
  go_wp2
  clear c0 c1
  go_loopw [3, 4, 5, 6, 12] (fun o _ _ _ v wr => ∃ m : Nat, v = .int .i64 m ∧ m ≤ P ∧ OwnT wr w.heap.size o (pnd l m) ∧ Bel w wr) (fun _ _ _ _ v _ => P - (intOf v).toNat)
  case atStart => exact ⟨0, rfl, by omega, OwnT.nil _ _, Bel.refl _⟩
  case round =>
    obtain ⟨m, rfl, hm, ho, hb⟩ := hrel
    have HO := Lib.hid ho
    have HB := Lib.hid hb
    clear ho hb
    have HTL := Lib.hid (pnd_len l m)
    by_cases hlt : m < P
    · have KS := Lib.hid (K1.out m wr HB.out)
      cases hf : fnd l (m : Nat) with
      | none =>
        rw [hf] at KS
        have HT := Lib.hid (pnd_none hf)
        clear hf
        unfold ansT at KS
        go_wp2_with fail
        with_reducible refine KS.out.mono ?_
        rintro e w1 ⟨rfl, hb1⟩
        have HO1 := Lib.hid (HO.out.bel (hb1.alloc #[.int .u64 0, .int .u64 0, .int .i64 0] 37))
        have HB1 := Lib.hid (HB.out.trans (hb1.alloc #[.int .u64 0, .int .u64 0, .int .i64 0] 37))
        clear hb1
        go_wp2
        go_roundw
        case rel => exact ⟨m + 1, by go_num, by omega, by rw [HT.out]; exact HO1.out, HB1.out⟩
        case measure => simp [intOf]; omega
      | some x =>
        rw [hf] at KS
        have HT := Lib.hid (pnd_some hf)
        clear hf
        unfold ansT at KS
        simp only at KS
        go_wp2_with fail
        with_reducible refine KS.out.mono ?_
        rintro e w1 ⟨rfl, hb1⟩
        have HO1 := Lib.hid (HO.out.bel (hb1.alloc #[.int .u64 x.a, .int .u64 x.s, .int .i64 x.p] 37))
        have HH : Hid (Has ((w1.alloc (.cells #[.int .u64 x.a, .int .u64 x.s, .int .i64 x.p] 37)).alloc (.cells #[.int .u64 x.a, .int .u64 x.s, .int .i64 x.p] 37)) (some ⟨w1.heap.size + 1, 0, none⟩) [x]) := Lib.hid (by have := has_one (w1.alloc (.cells #[.int .u64 x.a, .int .u64 x.s, .int .i64 x.p] 37)) x; rw [World.size_alloc] at this; exact this)
        have HZ : Hid (w.heap.size ≤ w1.heap.size) := Lib.hid (HB.out.trans hb1).size
        have HB1 := Lib.hid (HB.out.trans (hb1.alloc #[.int .u64 x.a, .int .u64 x.s, .int .i64 x.p] 37))
        clear hb1
        go_wp2_with (at_builtin; refine wpList_append_any rfl (.tmp 22) (.tmp 24) rfl w.heap.size _ (pnd l m) rfl (HO1.out.bel ((Bel.refl _).alloc _ _)) _ _ _ [x] rfl rfl HH.out (by have := HTL.out; omega) (by have := HZ.out; simp; omega) ?_)
        intro v' w2 hown hgrow hnil
        have HO2 : Hid (OwnT w2 w.heap.size v' (pnd l (m + 1))) := Lib.hid (by rw [HT.out]; exact hown)
        have HB2 : Hid (Bel w w2) := Lib.hid ((HB1.out.alloc _ _).grown hgrow (fun k hk => .inr (HO1.out.lt k hk).1))
        clear hown hgrow hnil
        go_wp2
        go_roundw
        case rel => exact ⟨m + 1, by go_num, by omega, HO2.out, HB2.out⟩
        case measure => simp [intOf]; omega
    · obtain rfl : m = P := by omega
      go_wp2
      go_ret
      exact ⟨HO.out.outN (w := w) (Nat.le_refl _), HB.out⟩
theorem count_any (w : World) (q : Qp w Q B G R P L lo ls r h l) :
    Calls Tryz.prog 12 #[.pointer (some ⟨Q, 0, none⟩)] w fun e w' => e = .returned (.int .i64 l.length) ∧ Bel w w' := by
  have K1 := Lib.hid (pending_any w q)
  have HE := Lib.hid q.is.pnd_perm.length_eq
  have lQ := q.lt.1
  clear q
  go_enter Tryz.func12, Tryz.ntmps12
  go_wp2_with fail
  with_reducible refine K1.out.mono ?_
  rintro e w1 ⟨⟨p, c, rfl, hc, hl⟩, hb⟩
  rw [HE.out] at *
  clear hl
  go_wp2
  go_ret
  exact ⟨rfl, hb⟩
theorem all_any (w : World) (q : Qp w Q B G R P L lo ls r h l) :
    Calls Tryz.prog 18 #[.pointer (some ⟨Q, 0, none⟩)] w fun e w' => OutN w w' e l ∧ Bel w w' := by
  have K1 := Lib.hid (pending_any w q)
  have hp := q.is.pnd_perm
  have HE := Lib.hid hp.length_eq
  have HS : Hid (srt (pnd l P) = l) := Lib.hid (srt_of q.is.so hp.symm).symm
  have hlen : l.length ≤ 1024 := Nat.le_trans q.is.len q.hP
  clear q hp
  go_enter Tryz.func18, Tryz.ntmps18
  go_wp2_with fail
  with_reducible refine K1.out.mono ?_
  rintro e w1 ⟨⟨p, c, rfl, hc, hl⟩, hb⟩
  have K2 := Lib.hid (sort_any p _ c (pnd l P) w1 rfl (by rw [HE.out]; omega) hl.has)
  have HB := Lib.hid hb
  clear hl hb
  go_wp2_with fail
  with_reducible refine K2.out.mono ?_
  rintro e w2 ⟨⟨p2, c2, rfl, hc2, hl2⟩, hb2⟩
  rw [HS.out] at *
  have HL2 : Hid (Lies (old w) w2 p2 (encs l)) := Lib.hid (hl2.mono (fun b _ e => Nat.lt_of_lt_of_le e HB.out.size))
  have HB2 := Lib.hid (HB.out.trans hb2)
  clear hl2 hb2
  go_wp2
  go_ret
  exact ⟨⟨p2, c2, rfl, hc2, HL2.out⟩, HB2.out⟩
end
end Go.Proofs.YtllohpojajijjaaGreatDoor
