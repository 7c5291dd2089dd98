/-
  Contracts of slab's Worn, Image and New.
-/
import Derived.Test.YtlohpccfanmiiaaAt
namespace Go.Proofs.Ytlohpccfanmiiaa
open Go.RowKit
/-- How many are left, and worn. -/
def leftS (S : St) : Int := S.pl - S.tk.length + S.fr.length
def wornS (S : St) : Int := S.pl - lenS S - leftS S
theorem left_bel (B : Nat) (f : Nat → Prop) (S : St) (w : World) (h : Slb w B f S) (hs : Sm S) :
    Calls Try.prog 18 #[.pointer (some ⟨B, 0, none⟩)] w fun e w' => e = .returned (.int .i64 (leftS S)) ∧ Bel w w' :=
  (left_any B f S w h hs).mono fun e w' ⟨he, k, hk⟩ => ⟨he, by rw [hk]; exact (Bel.refl w).drewN k⟩
theorem worn_any (B : Nat) (f : Nat → Prop) (S : St) (w : World) (h : Slb w B f S) (hs : Sm S) :
    Calls Try.prog 19 #[.pointer (some ⟨B, 0, none⟩)] w fun e w' => e = .returned (.int .i64 (wornS S)) ∧ Bel w w' := by
  obtain ⟨pt, ct, pf, cf, c0, c1, c2, c3, _, _, _, _⟩ := h.read
  have p0 := hs.p0
  have p1 := hs.p1
  have t1 := hs.t1
  have f1 := hs.f1
  have KL := Lib.hid (fun w' (hb : Bel w w') => len_any B f S w' (h.bel hb) hs)
  have KF := Lib.hid (fun w' (hb : Bel w w') => left_bel B f S w' (h.bel hb) hs)
  have l1 := lenS_le S
  have l2 : leftS S = S.pl - S.tk.length + S.fr.length := rfl
  unfold wornS
  obtain ⟨P, hP⟩ : ∃ P, S.pl = P := ⟨_, rfl⟩
  obtain ⟨n, hn⟩ : ∃ n, S.tk.length = n := ⟨_, rfl⟩
  obtain ⟨m, hm⟩ : ∃ m, S.fr.length = m := ⟨_, rfl⟩
  obtain ⟨L, hL⟩ : ∃ L, lenS S = L := ⟨_, rfl⟩
  obtain ⟨F, hF⟩ : ∃ F, leftS S = F := ⟨_, rfl⟩
  rw [hF, hP, hn, hm] at l2
  rw [hL, hn] at l1
  rw [hL] at KL
  rw [hF] at KF
  rw [hP] at p0 p1 c0
  rw [hn] at t1 
  rw [hm] at f1 
  rw [hP, hL, hF]
  have w1 : IntKind.i64.wrap (P - L) = P - L := i64_in _ (by omega) (by omega)
  have w2 : IntKind.i64.wrap (P - L - F) = P - L - F := i64_in _ (by omega) (by omega)
  clear hs h hP hn hm c1 c2 c3 hL hF l2
  go_enter Try.func19, Try.ntmps19
  go_wp2
  go_region_held3 (fun w' => Bel w w' ∧ w'.cell? ⟨B, 0, none⟩ = some (.int .i64 P))
    (first | exact ⟨(Bel.refl w).drew, c0⟩ | exact ⟨Bel.trans (And.left (by assumption)) hg1, hg1.cell (And.right (by assumption))⟩)
    (first | (go_at_call 17; (with_reducible refine (KL.out _ (And.left (by assumption))).mono ?_); rintro e w3 ⟨rfl, hg1⟩) | (go_at_call 18; (with_reducible refine (KF.out _ (And.left (by assumption))).mono ?_); rintro e w3 ⟨rfl, hg1⟩))
  all_goals
    go_wp2
    go_ret
    exact ⟨rfl, And.left (by assumption)⟩
/-- How often each was taken. -/
def us (l : List Pl) : List Int := l.map (·.u)
theorem us_len (l : List Pl) : (us l).length = l.length := by unfold us; simp
theorem uses_take (l : List Pl) (k : Nat) (x : Pl) (h : l[k]? = some x) : us (l.take (k + 1)) = us (l.take k) ++ [x.u] := by
  unfold us
  rw [List.take_add_one, h, List.map_append]
  rfl
theorem lies_one (w : World) (x : Int) (B : Nat) (hB : w.heap.size = B) : Lies nof (w.alloc (.cells #[.int .i64 x] 3)) (some ⟨B, 0, none⟩) (encI [x]) := by
  subst hB
  refine .inr ⟨_, _, rfl, fun e => e, fun j u hu => ?_⟩
  have hj : j < 1 := by have := (List.getElem?_eq_some_iff.1 hu).1; rw [encI_len] at this; simpa using this
  obtain rfl : j = 0 := by omega
  have e : u = .int .i64 x := by simpa [encI] using hu.symm
  rw [e]
  simp [go_sem]
set_option maxHeartbeats 1000000 in
theorem image_any (B : Nat) (f : Nat → Prop) (S : St) (w : World) (h : Slb w B f S) (hs : Sm S) :
    Calls Try.prog 20 #[.pointer (some ⟨B, 0, none⟩)] w fun e w' => ∃ p c q k, e = .returned (.tuple #[.slice p S.tk.length c, .slice q S.fr.length k]) ∧ S.tk.length ≤ c ∧ S.fr.length ≤ k ∧
      Lies (old w) w' p (encI (us S.tk)) ∧ Lies (old w) w' q (encI S.fr) ∧ Bel w w' := by
  obtain ⟨pt, ct, pf, cf, c0, c1, c2, c3, _, hcf, ht, hf⟩ := h.read
  have t1 := hs.t1
  have f1 := hs.f1
  obtain ⟨l, hl⟩ : ∃ l, S.tk = l := ⟨_, rfl⟩
  obtain ⟨r, hr⟩ : ∃ r, S.fr = r := ⟨_, rfl⟩
  rw [hl] at t1 c2 ht ⊢
  rw [hr] at f1 c3 hf hcf ⊢
  obtain ⟨n, hn⟩ : ∃ n, l.length = n := ⟨_, rfl⟩
  obtain ⟨m, hm⟩ : ∃ m, r.length = m := ⟨_, rfl⟩
  rw [hn] at t1 c2 ⊢
  rw [hm] at f1 c3 hcf ⊢
  have HT := Lib.hid ht
  have HF := Lib.hid hf
  have HN := Lib.hid hn
  have HM := Lib.hid hm
  clear hs h hn hm c1 c0 ht hf hl hr
  go_enter Try.func20, Try.ntmps20
  go_wp2
  go_loopw [4, 6, 12] (fun o _ v wr => ∃ m : Nat, v = .int .i64 m ∧ m ≤ n ∧ wr.ownsRow 0 3 1 o m (encI (us (l.take m))) ∧ (∀ k, o.ownBlock = some k → w.heap.size ≤ k) ∧ Bel w wr) (fun _ _ v _ => n - (intOf v).toNat)
  case atStart => exact ⟨0, rfl, by omega, World.ownsRow_nil _ _ _ _, (fun _ e => by cases e), Bel.refl _⟩
  case round =>
    obtain ⟨j, rfl, hi, ho, hob, hb⟩ := hrel
    have HB := Lib.hid hb
    have HO := Lib.hid ho
    have HOB := Lib.hid hob
    clear hb ho hob
    by_cases hlt : j < n
    · obtain ⟨b, off, rfl, _, hr⟩ := lies_pl HT.out (i := j) (by have := HN.out; omega)
      obtain ⟨x, hx⟩ : ∃ x, l[j]? = some x := ⟨_, List.getElem?_eq_getElem (by have := HN.out; omega)⟩
      obtain ⟨x0, x1⟩ := row_pl hr hx
      have x0 := HB.out.cell x0
      have x1 := HB.out.cell x1
      have HE := Lib.hid (uses_take l j x hx)
      clear hr hx
      obtain ⟨u, a⟩ := x
      go_wp2_with (at_builtin; refine wpList_append_gen el28 rfl (.tmp 16) (.tmp 19) rfl _ j (encI (us (l.take j))) rfl (own_bel HO.out (((Bel.refl _).alloc _ _).alloc _ _)) _ _ _ (encI [u]) rfl rfl (lies_one _ _ _ (by simp)) (encI_one _) (by omega) ?_)
      intro v' w1 hown hgrow hnew
      have HO1 : Hid (w1.ownsRow 0 3 1 v' (j + 1) (encI (us (l.take (j + 1))))) := Lib.hid (by rw [HE.out, encI_append]; exact hown)
      have HB1 : Hid (Bel w w1) := Lib.hid (Off.grown ((HB.out.alloc _ _).alloc _ _) hgrow (fun k e => .inr (HOB.out k e)))
      have HOB1 : Hid (∀ k, v'.ownBlock = some k → w.heap.size ≤ k) := Lib.hid (fun k e => by
        rcases hnew k e with e | e
        · exact HOB.out k e
        · have := HB.out.size; omega)
      clear hown hgrow hnew x0 x1
      go_wp2
      go_roundw
      case rel => exact ⟨j + 1, by go_num, by omega, HO1.out, HOB1.out, HB1.out⟩
      case measure => simp [intOf]; omega
    · obtain rfl : j = n := by omega
      have HE : Hid (l.take j = l) := Lib.hid (List.take_of_length_le (by have := HN.out; omega))
      obtain ⟨p, c, hv, hc, _, hp⟩ := own_slice HO.out (old w) (fun k e => by have := HOB.out k e; unfold old; omega)
      rw [HE.out] at hp
      have HP := Lib.hid hp
      rw [hv]
      have c3 := HB.out.cell c3
      clear hp hv
      go_wp2_with fail
      with_reducible refine (list_any B pf m cf r _ c3 HM.out f1 (HF.out.bel HB.out)).mono ?_
      rintro e w2 ⟨q, k, rfl, hk, hq, hb2⟩
      have HQ : Hid (Lies (old w) w2 q (encI r)) := Lib.hid (hq.fresh (fun k e => by have := HB.out.size; unfold old at e; omega))
      have HB2 := Lib.hid hb2
      clear hq hb2
      go_wp2
      go_ret2
      exact ⟨p, c, q, k, rfl, hc, hk, HP.out.bel HB2.out, HQ.out, HB.out.trans HB2.out⟩
/-- A new slab. -/
def newS (P G : Int) : St := ⟨P, G, [], []⟩
theorem new_yes (P G : Int) (w : World) (h0 : 0 ≤ P) (h1 : P ≤ 1024) (h2 : 1 ≤ G) (h3 : G ≤ 65535) :
    Calls Try.prog 10 #[.int .i64 P, .int .i64 G] w fun e w' => e = .returned (.tuple #[.pointer (some ⟨w.heap.size, 0, none⟩), .int .i64 0]) ∧ Slb w' w.heap.size (· = w.heap.size) (newS P G) ∧ Bel w w' ∧ w.heap.size < w'.heap.size := by
  have a0 : ¬ P < 0 := by omega
  have a1 : ¬ 1024 < P := by omega
  have a2 : ¬ G < 1 := by omega
  have a3 : ¬ 65535 < G := by omega
  go_enter Try.func10, Try.ntmps10
  go_wp2
  go_ret2
  refine ⟨rfl, ⟨.slice none 0 0, .slice none 0 0, ?_, World.ownsRow_nil _ _ _ _, World.ownsRow_nil _ _ _ _, by simp [Value.ownBlock], by simp [Value.ownBlock], by simp [Value.ownBlock], rfl, by simp [Value.ownBlock], by simp [Value.ownBlock], by simp⟩, (Bel.refl _).alloc _ _, by simp⟩
  exact heap_alloc_new w _
theorem new_no (P G : Int) (w : World) (h : ¬ (0 ≤ P ∧ P ≤ 1024 ∧ 1 ≤ G ∧ G ≤ 65535)) :
    Calls Try.prog 10 #[.int .i64 P, .int .i64 G] w fun e w' => e = .returned (.tuple #[.pointer none, .int .i64 1]) ∧ w = w' := by
  by_cases a0 : P < 0
  · go_enter Try.func10, Try.ntmps10
    go_wp2
    go_ret2
    exact ⟨rfl, rfl⟩
  · by_cases a1 : 1024 < P
    · go_enter Try.func10, Try.ntmps10
      go_wp2
      go_ret2
      exact ⟨rfl, rfl⟩
    · by_cases a2 : G < 1
      · go_enter Try.func10, Try.ntmps10
        go_wp2
        go_ret2
        exact ⟨rfl, rfl⟩
      · have a3 : 65535 < G := by omega
        clear h
        go_enter Try.func10, Try.ntmps10
        go_wp2
        go_ret2
        exact ⟨rfl, rfl⟩
end Go.Proofs.Ytlohpccfanmiiaa
