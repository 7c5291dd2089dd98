/-
  A row of marks: how it lies in memory, how it is made and set.
  Contracts of the document's Slots and looked.
  Contracts of the document's wheel: New and Do.
-/
import Derived.Test.YtdoceldofkaapaaGreatDoorXac
import Derived.Test.YtdoceldofkaapaaGreatDoorXab
import Derived.Test.YtdoceldofkaapaaGreatDoorXad
import Derived.BigQuiet
import Derived.OwnWalk
import Derived.Test.YtdoceldofkaapaaGreatDoorXaa
import Derived.Test.YtdoceldofkaapaaGreatDoorDdo
set_option linter.unusedVariables false
set_option linter.unusedSimpArgs false
namespace Go.Proofs.YtdoceldofkaapaaGreatDoor
open Go.RowKit
def encB (l : List Bool) : Array Value := (l.map Value.bool).toArray
def Marks (w : World) (M : Nat) (l : List Bool) : Prop := w.heap[M]? = some (.cells (encB l) 4 (0, 0))
theorem marks_get {w : World} {M : Nat} {l : List Bool} (h : Marks w M l) {k : Nat} {b : Bool} (hk : l[k]? = some b) : w.cell? ⟨M, k, none⟩ = some (.bool b) ∧ w.frozen? ⟨M, k, none⟩ = false := by
  refine ⟨?_, frozen_of_row w M k _ 4 h⟩
  rw [cell_of_row w M k _ 4 (0, 0) h]
  unfold encB
  simp [hk]
theorem marks_set {w : World} {M : Nat} {l : List Bool} (h : Marks w M l) (k : Nat) : Marks (w.setCell ⟨M, k, none⟩ (.bool true)) M (l.set k true) ∧ Off (fun j => j = M) w (w.setCell ⟨M, k, none⟩ (.bool true)) := by
  refine ⟨?_, Off.setCell (Off.refl (fun j => j = M) w) (p := ⟨M, k, none⟩) (.inl rfl) _⟩
  unfold Marks
  rw [heap_setCell_same w M k _ 4 _ h]
  congr 2
  unfold encB
  rw [List.map_set]
  simp
theorem info4 : (Tryz.prog.info? 4).map (fun i => (i.zero, i.size, i.bytes)) = some (some (.bool false), 1, 1) := by kernel_rfl
theorem made_marks {w' : World} {n M : Nat} (h : w'.ownsRow 0 4 1 (.slice (some ⟨M, 0, none⟩) n n) n (madeCells #[Value.bool false] n).toList) : Marks w' M (List.replicate n false) := by
  rcases h.2 with ⟨e, _⟩ | ⟨g, cap, cur, e, _, hg, _, _, hs, ht⟩
  · cases e
  · injection e with e1 e2 e3
    injection e1 with e1
    injection e1 with e1
    subst e1 e3
    unfold Marks
    rw [hg]
    congr 2
    unfold encB
    have h1 : cur.toList.take (n * 1) = cur.toList := List.take_of_length_le (by rw [Array.length_toList, hs]; omega)
    rw [h1, toList_madeCells_one] at ht
    apply Array.ext'
    rw [ht]
    simp
end Go.Proofs.YtdoceldofkaapaaGreatDoor
namespace Go.Proofs.YtdoceldofkaapaaGreatDoor
open Go.RowKit
theorem slots_any (b : Nat) (hb : b ≤ 6) (w : World) :
    Calls Tryz.prog 83 #[.int .i64 b] w fun e w' => e = .returned (.int .u64 (slo b)) ∧ w = w' := by
  go_enter Tryz.func83, Tryz.ntmps83
  go_wp2
  go_loopw [3, 4] (fun v i wr => ∃ m : Nat, v = .int .u64 (slo m) ∧ i = .int .i64 m ∧ m ≤ b ∧ wr = w) (fun _ i _ => b - (intOf i).toNat)
  case atStart => exact ⟨0, rfl, rfl, Nat.zero_le _, by trivial⟩
  case round =>
    obtain ⟨m, rfl, rfl, hm, rfl⟩ := hrel
    by_cases h : m < b
    · have h1 : (m : Int) < (b : Int) := by omega
      have hs := slo_step m
      have hz := (slo_le (b := m) (by omega)).2
      generalize slo m = z at *
      have HS := Lib.hid hs
      clear hs
      go_wp2
      go_roundw
      case rel => exact ⟨m + 1, by rw [HS.out]; go_num, by go_num, by omega, by trivial⟩
      case measure => simp [intOf]; omega
    · obtain rfl : m = b := by omega
      go_wp2
      go_ret
      first | exact ⟨rfl, rfl⟩ | exact ⟨rfl, trivial⟩
theorem take_snoc (l : List T) (i : Nat) (h : i < l.length) : l.take (i + 1) = l.take i ++ [l.getD i default] := by
  rw [List.take_succ_eq_append_getElem h]
  have e : l.getD i default = l[i] := by simp [List.getD_eq_getElem?_getD, List.getElem?_eq_getElem h]
  rw [e]
/-- Ticks. -/
def Tk (x : Int) : Prop := 0 ≤ x ∧ x ≤ 18446744073709551615
/-- The base, and how many slots were looked into, behind an act. -/
def stB (s : Int) (a : Ak) : Int := if a.k = 3 then max s a.now else s
def stK (b : Nat) (s lk : Int) (l : List T) (a : Ak) : Int := if a.k = 3 then lks (slo b) s a.now l else lk
end Go.Proofs.YtdoceldofkaapaaGreatDoor
namespace Go.Proofs.YtdoceldofkaapaaGreatDoor
open Go.RowKit
/-- A wheel, as a value. -/
abbrev whV (P : Int) (p : Option Addr) (n c : Nat) (b s lk : Int) : Value := .agg #[.int .i64 P, .slice p n c, .int .i64 b, .int .u64 s, .int .i64 lk]
/-- How many have cascaded, behind an act. -/
def stKh (b : Nat) (s lk : Int) (l : List T) (a : Ak) : Int := if a.k = 3 then lk + csc b s a.now l else lk
theorem wnew_no (P bits base : Int) (w : World) (h : ¬ ((0 ≤ P ∧ P ≤ 1024) ∧ 1 ≤ bits ∧ bits ≤ 6)) :
    Calls Tryz.prog 27 #[.int .i64 P, .int .i64 bits, .int .u64 base] w fun e w' => e = .returned (.tuple #[whV 0 none 0 0 0 0 0, .int .i64 1]) ∧ Bel w w' := by
  have HB0 : Hid (Bel w (w.alloc (.cells #[.int .i64 0, .slice none 0 0, .int .i64 0, .int .u64 0, .int .i64 0] 65))) := Lib.hid ((Bel.refl _).alloc _ _)
  have HN0 : Hid ((w.alloc (.cells #[.int .i64 0, .slice none 0 0, .int .i64 0, .int .u64 0, .int .i64 0] 65)).heap[w.heap.size]? = some (.cells #[.int .i64 0, .slice none 0 0, .int .i64 0, .int .u64 0, .int .i64 0] 65 (0, 0))) := Lib.hid (heap_alloc_new _ _)
  have KY := Lib.hid (fun w' (h : 0 ≤ P ∧ P ≤ 1024) => dnew_yes P w' h)
  have KN := Lib.hid (fun w' (h : ¬ (0 ≤ P ∧ P ≤ 1024)) => dnew_no P w' h)
  have key : ∀ (wz W : World) (hb : Bel W wz) (hB : Bel w W) (b : Nat) (hbz : w.heap.size ≤ b), Bel w (sto5 wz b (.int .i64 0) (.slice none 0 0) (.int .i64 0) (.int .u64 0) (.int .i64 0)) := fun wz W hb hB b hbz => Off.trans (hB.trans hb) (offs5 wz b _ _ _ _ _) (fun i e => .inr (by have : i = b := e; omega))
  by_cases hP : 0 ≤ P ∧ P ≤ 1024
  · have hbits : bits < 1 ∨ ¬ bits < 1 ∧ 6 < bits := by omega
    clear h
    rcases hbits with h1 | ⟨h1, h2⟩
    all_goals
      go_enter Tryz.func27, Tryz.ntmps27
      go_upto_region 1 with (fail)
      obtain ⟨b6, e6⟩ : ∃ b, w.heap.size = b := ⟨_, rfl⟩
      have KEY := Lib.hid key
      rw [e6] at HN0 KEY ⊢
      clear e6 key
      generalize w.alloc (.cells #[.int .i64 0, .slice none 0 0, .int .i64 0, .int .u64 0, .int .i64 0] 65) = W at *
      go_wp2_with fail
      with_reducible refine (KY.out _ hP).mono ?_
      rintro e w1 ⟨rfl, hb⟩
      have HB1 := Lib.hid (hb.alloc #[.int .i64 P, .slice none 0 0] 31)
      clear hb
      go_upto_region 2 with (fail)
      generalize w1.alloc (.cells #[.int .i64 P, .slice none 0 0] 31) = W1 at *
      obtain ⟨⟨y0, y1, y2, y3, y4⟩, f0, f1, f2, f3, f4⟩ := box5 (HB1.out.heap HN0.out)
      have HE := Lib.hid (KEY.out W1 W HB1.out HB0.out b6 (Nat.le_refl _))
      go_wp2
      exact bodyPost_ret (v := .tuple #[whV 0 none 0 0 0 0 0, .int .i64 1]) (by simp [results, Tryz.results27, go_sem, y0, y1, y2, y3, y4]) rfl ⟨rfl, HE.out⟩
  · clear h
    go_enter Tryz.func27, Tryz.ntmps27
    go_upto_region 1 with (fail)
    obtain ⟨b6, e6⟩ : ∃ b, w.heap.size = b := ⟨_, rfl⟩
    have KEY := Lib.hid key
    rw [e6] at HN0 KEY ⊢
    clear e6 key
    generalize w.alloc (.cells #[.int .i64 0, .slice none 0 0, .int .i64 0, .int .u64 0, .int .i64 0] 65) = W at *
    go_wp2_with fail
    with_reducible refine (KN.out _ hP).mono ?_
    rintro e w1 ⟨rfl, hb⟩
    have HB1 := Lib.hid (hb.alloc #[.int .i64 0, .slice none 0 0] 31)
    clear hb
    go_upto_region 2 with (fail)
    generalize w1.alloc (.cells #[.int .i64 0, .slice none 0 0] 31) = W1 at *
    obtain ⟨⟨y0, y1, y2, y3, y4⟩, f0, f1, f2, f3, f4⟩ := box5 (HB1.out.heap HN0.out)
    have HE := Lib.hid (KEY.out W1 W HB1.out HB0.out b6 (Nat.le_refl _))
    go_wp2
    exact bodyPost_ret (v := .tuple #[whV 0 none 0 0 0 0 0, .int .i64 1]) (by simp [results, Tryz.results27, go_sem, y0, y1, y2, y3, y4]) rfl ⟨rfl, HE.out⟩
theorem wnew_yes (P bits base : Int) (w : World) (h : (0 ≤ P ∧ P ≤ 1024) ∧ 1 ≤ bits ∧ bits ≤ 6) :
    Calls Tryz.prog 27 #[.int .i64 P, .int .i64 bits, .int .u64 base] w fun e w' => e = .returned (.tuple #[whV P none 0 0 bits base 0, .int .i64 0]) ∧ Bel w w' := by
  have HB0 : Hid (Bel w (w.alloc (.cells #[.int .i64 0, .slice none 0 0, .int .i64 0, .int .u64 0, .int .i64 0] 65))) := Lib.hid ((Bel.refl _).alloc _ _)
  have HN0 : Hid ((w.alloc (.cells #[.int .i64 0, .slice none 0 0, .int .i64 0, .int .u64 0, .int .i64 0] 65)).heap[w.heap.size]? = some (.cells #[.int .i64 0, .slice none 0 0, .int .i64 0, .int .u64 0, .int .i64 0] 65 (0, 0))) := Lib.hid (heap_alloc_new _ _)
  have KY := Lib.hid (fun w' => dnew_yes P w' h.1)
  have h1 : ¬ bits < 1 := by omega
  have h2 : ¬ 6 < bits := by omega
  have key : ∀ (wz W : World) (hb : Bel W wz) (hB : Bel w W) (b : Nat) (hbz : w.heap.size ≤ b), Bel w (sto5 wz b (.int .i64 P) (.slice none 0 0) (.int .i64 bits) (.int .u64 base) (.int .i64 0)) := fun wz W hb hB b hbz => Off.trans (hB.trans hb) (offs5 wz b _ _ _ _ _) (fun i e => .inr (by have : i = b := e; omega))
  clear h
  go_enter Tryz.func27, Tryz.ntmps27
  go_upto_region 1 with (fail)
  obtain ⟨b6, e6⟩ : ∃ b, w.heap.size = b := ⟨_, rfl⟩
  have KEY := Lib.hid key
  rw [e6] at HN0 KEY ⊢
  clear e6 key
  generalize w.alloc (.cells #[.int .i64 0, .slice none 0 0, .int .i64 0, .int .u64 0, .int .i64 0] 65) = W at *
  go_wp2_with fail
  with_reducible refine (KY.out _).mono ?_
  rintro e w1 ⟨rfl, hb⟩
  have HB1 := Lib.hid (hb.alloc #[.int .i64 P, .slice none 0 0] 31)
  have HM := Lib.hid (heap_alloc_new w1 (.cells #[.int .i64 P, .slice none 0 0] 31))
  clear hb
  go_upto_region 2 with (fail)
  generalize w1.alloc (.cells #[.int .i64 P, .slice none 0 0] 31) = W1 at *
  obtain ⟨⟨m0, m1⟩, _⟩ := box2 HM.out
  obtain ⟨⟨y0, y1, y2, y3, y4⟩, f0, f1, f2, f3, f4⟩ := box5 (HB1.out.heap HN0.out)
  have HE := Lib.hid (KEY.out W1 W HB1.out HB0.out b6 (Nat.le_refl _))
  go_wp2
  exact bodyPost_ret (v := .tuple #[whV P none 0 0 bits base 0, .int .i64 0]) (by simp [results, Tryz.results27, go_sem, y0, y1, y2, y3, y4]) rfl ⟨rfl, HE.out⟩
theorem level_any (s a : Int) (b : Nat) (hb : 1 ≤ b ∧ b ≤ 6) (hs : Tk s) (ha : Tk a) (w : World) :
    Calls Tryz.prog 57 #[.int .u64 s, .int .u64 a, .int .i64 b] w fun e w' => e = .returned (.int .i64 (lv b s a)) ∧ Bel w w' := by
  unfold Tk at hs ha
  exact (D3.rLevel s a b hs.1 (by omega) ha.1 (by omega) b (by unfold wi; omega) w).mono fun e w' h => ⟨h.1, bel_of h.2.2⟩
theorem slot_any (s a : Int) (b : Nat) (hb : 1 ≤ b ∧ b ≤ 6) (hs : Tk s) (ha : Tk a) (w : World) :
    Calls Tryz.prog 60 #[.int .u64 s, .int .u64 a, .int .i64 b] w fun e w' => e = .returned (.int .i64 (sv b s a)) ∧ Bel w w' := by
  unfold Tk at hs ha
  exact (D3.rSlot s a b hs.1 (by omega) ha.1 (by omega) b (by unfold wi; omega) w).mono fun e w' h => ⟨h.1, bel_of h.2.2⟩
/-- Where a timer lies. -/
def whr (b : Nat) (s : Int) : Option T → Value
  | some t => .tuple #[.int .i64 (lv b s t.a), .int .i64 (sv b s t.a), .bool true]
  | none => .tuple #[.int .i64 0, .int .i64 0, .bool false]
set_option maxHeartbeats 2000000 in
set_option maxRecDepth 100000 in
theorem where_any (P : Int) (b : Nat) (s lk : Int) (p : Option Addr) (n c : Nat) (l : List T) (k : Int) (w : World) (hb : 1 ≤ b ∧ b ≤ 6) (hs : Tk s) (hn : l.length = n) (hm : n ≤ 5000) (ht : ∀ t ∈ l, Tk t.a) (hl : Has w p l) :
    Calls Tryz.prog 31 #[whV P p n c b s lk, .int .i64 k] w fun e w' => e = .returned (whr b s (fnd l k)) ∧ Bel w w' := by
  have HB0 : Hid (Bel w (w.alloc (.cells #[.int .i64 P, .slice p n c, .int .i64 b, .int .u64 s, .int .i64 lk] 65))) := Lib.hid ((Bel.refl _).alloc _ _)
  have HN0 : Hid ((w.alloc (.cells #[.int .i64 P, .slice p n c, .int .i64 b, .int .u64 s, .int .i64 lk] 65)).heap[w.heap.size]? = some (.cells #[.int .i64 P, .slice p n c, .int .i64 b, .int .u64 s, .int .i64 lk] 65 (0, 0))) := Lib.hid (heap_alloc_new _ _)
  have K := Lib.hid (fun w' (h : Bel w w') => dget_any P p n c l k w' hn hm (hl.bel h))
  cases hf : fnd l k with
  | none =>
    rw [hf] at K
    unfold ansT at K
    unfold whr
    clear hl hn ht hf
    go_enter Tryz.func31, Tryz.ntmps31
    go_upto_region 1 with (fail)
    generalize w.alloc (.cells #[.int .i64 P, .slice p n c, .int .i64 b, .int .u64 s, .int .i64 lk] 65) = W at *
    generalize w.heap.size = b2 at *
    obtain ⟨⟨y0, y1, y2, y3, y4⟩, _⟩ := box5 HN0.out
    go_wp2_with fail
    with_reducible refine (K.out _ HB0.out).mono ?_
    rintro e w1 ⟨rfl, hb1⟩
    have HE := Lib.hid (HB0.out.trans (hb1.alloc #[.int .u64 0, .int .u64 0, .int .i64 0] 37))
    clear hb1
    go_wp2
    exact bodyPost_ret (v := .tuple #[.int .i64 0, .int .i64 0, .bool false]) (by simp [results, Tryz.results31, go_sem]) rfl ⟨rfl, HE.out⟩
  | some t =>
    obtain ⟨hmem, hpk⟩ := fnd_some hf
    clear hpk
    rw [hf] at K
    unfold ansT at K
    have KL := Lib.hid (fun w' => level_any s t.a b hb hs (ht t hmem) w')
    have KS := Lib.hid (fun w' => slot_any s t.a b hb hs (ht t hmem) w')
    have K := Lib.hid (fun w' (h : Bel w w') => (show Calls Tryz.prog 20 #[.agg #[.int .i64 P, .slice p n c], .int .i64 k] w' fun e w2 => e = .returned (.tuple #[.agg #[.int .u64 t.a, .int .u64 t.s, .int .i64 t.p], .bool true]) ∧ Bel w' w2 from K.out w' h))
    clear hl hn ht hf hmem hs hb
    obtain ⟨lz, elz⟩ : ∃ x, lv b s t.a = x := ⟨_, rfl⟩
    obtain ⟨sz, esz⟩ : ∃ x, sv b s t.a = x := ⟨_, rfl⟩
    have HF : Hid (Ending.returned (.tuple #[.int .i64 lz, .int .i64 sz, .bool true]) = .returned (whr b s (some t))) := Lib.hid (by rw [← elz, ← esz]; rfl)
    rw [elz] at KL
    rw [esz] at KS
    clear elz esz
    generalize t.a = ta at *
    generalize t.s = ts at *
    generalize t.p = tp at *
    go_enter Tryz.func31, Tryz.ntmps31
    go_upto_region 1 with (fail)
    generalize w.alloc (.cells #[.int .i64 P, .slice p n c, .int .i64 b, .int .u64 s, .int .i64 lk] 65) = W at *
    generalize w.heap.size = b2 at *
    obtain ⟨⟨y0, y1, y2, y3, y4⟩, _⟩ := box5 HN0.out
    go_wp2_with fail
    with_reducible refine (K.out _ HB0.out).mono ?_
    rintro e w1 ⟨rfl, hb1⟩
    have HB1 := Lib.hid (hb1.alloc #[.int .u64 ta, .int .u64 ts, .int .i64 tp] 37)
    have HM := Lib.hid (heap_alloc_new w1 (.cells #[.int .u64 ta, .int .u64 ts, .int .i64 tp] 37))
    clear hb1 y0 y1 y2 y3 y4
    go_upto_region 4 with (fail)
    generalize w1.alloc (.cells #[.int .u64 ta, .int .u64 ts, .int .i64 tp] 37) = V at *
    generalize w1.heap.size = b7 at *
    have HC : Hid (∀ w', Bel V w' → (w'.cell? ⟨b2, 2, none⟩ = some (.int .i64 b) ∧ w'.cell? ⟨b2, 3, none⟩ = some (.int .u64 s)) ∧ w'.cell? ⟨b7, 0, none⟩ = some (.int .u64 ta)) := Lib.hid (fun w' h => by
      obtain ⟨_, _, g2, g3, _⟩ := (box5 ((HB1.out.trans h).heap HN0.out)).1
      exact ⟨⟨g2, g3⟩, (box3 (h.heap HM.out)).1.1⟩)
    have HD : Hid (Bel V V.drew) := Lib.hid (Bel.refl V).drew
    have HBV := Lib.hid (HB0.out.trans HB1.out)
    obtain ⟨⟨y2, y3⟩, y7⟩ := HC.out _ (Bel.refl _)
    clear HM HN0 K HB0 HB1
    go_wp2
    go_region_held3 (fun w' => (w'.cell? ⟨b2, 2, none⟩ = some (.int .i64 b) ∧ w'.cell? ⟨b2, 3, none⟩ = some (.int .u64 s)) ∧ w'.cell? ⟨b7, 0, none⟩ = some (.int .u64 ta))
      (first | (with_reducible exact HC.out _ HD.out) | (with_reducible exact HC.out _ (HD.out.trans hg1)) | (with_reducible exact HC.out _ ((HD.out.trans hg1).trans hg2)))
      (first | (go_at_call 57; (with_reducible refine (KL.out _).mono ?_); rintro e w5 ⟨rfl, hg1⟩) | (go_at_call 60; (with_reducible refine (KS.out _).mono ?_); rintro e w6 ⟨rfl, hg2⟩))
    all_goals
      have HE := Lib.hid (HBV.out.trans ((HD.out.trans hg1).trans hg2))
      clear hg1 hg2
      go_wp2
      exact bodyPost_ret (v := .tuple #[.int .i64 lz, .int .i64 sz, .bool true]) (by simp [results, Tryz.results31, go_sem]) rfl ⟨HF.out, HE.out⟩
end Go.Proofs.YtdoceldofkaapaaGreatDoor
