/-
  The walk of HashwheelPlays.
-/
import Derived.Test.YtdoceldofkaapaaGreatDoorMid
import Derived.Test.YtdoceldofkaapaaGreatDoorXaz
import Derived.Test.YtdoceldofkaapaaGreatDoorSamet
import Derived.Test.YtdoceldofkaapaaGreatDoorXae
import Derived.Deep.CutRange
set_option linter.unusedVariables false
set_option linter.unusedSimpArgs false
namespace Go.Proofs.YtdoceldofkaapaaGreatDoor
open Go.RowKit
theorem ansP_eq (o : Option T) : ansT o = .tuple #[.agg #[.int .u64 (o.getD default).a, .int .u64 (o.getD default).s, .int .i64 (o.getD default).p], .bool o.isSome] := by cases o <;> rfl
set_option maxRecDepth 100000 in
theorem plays_long {Qu : QT} (C : Con Qu) (P bits s : Int) (pa : Option Addr) (N ca : Nat) (k : Int) (w : World) (hT : Bm.Tab w) (h : 60 < N) :
    Calls Tryz.prog 4 #[.int .i64 P, .int .i64 bits, .int .u64 s, .slice pa N ca, .int .i64 k] w fun e w' => e = .returned (.bool true) ∧ Bel w w' := by
  have h' : (60 : Int) < N := by omega
  go_enter Tryz.func4, Tryz.ntmps4
  go_wp2_with fail
  with_reducible refine (works_any C _ hT).mono ?_
  rintro e w1 ⟨rfl, hb⟩
  go_wp2
  go_ret
  exact ⟨rfl, hb⟩
set_option maxRecDepth 100000 in
theorem plays_no {Qu : QT} (C : Con Qu) (P bits s : Int) (pa : Option Addr) (N ca : Nat) (k : Int) (w : World) (hT : Bm.Tab w) (h : N ≤ 60) (hP : ¬ ((0 ≤ P ∧ P ≤ 1024) ∧ 1 ≤ bits ∧ bits ≤ 6)) :
    Calls Tryz.prog 4 #[.int .i64 P, .int .i64 bits, .int .u64 s, .slice pa N ca, .int .i64 k] w fun e w' => e = .returned (.bool true) ∧ Bel w w' := by
  have h' : ¬ (60 : Int) < N := by omega
  have K1 := Lib.hid (fun w => C.qnew_no P bits s w hP)
  have K2 := Lib.hid (fun w => wnew_no P bits s w hP)
  clear hP
  go_enter Tryz.func4, Tryz.ntmps4
  go_wp2_with fail
  with_reducible refine (works_any C _ hT).mono ?_
  rintro e w1 ⟨rfl, hb⟩
  have HB := Lib.hid hb
  clear hb
  go_wp2_with fail
  with_reducible refine (K1.out _).mono ?_
  rintro e w2 ⟨rfl, hb⟩
  have HB1 := Lib.hid (HB.out.trans hb)
  clear hb
  go_wp2_with fail
  with_reducible refine (K2.out _).mono ?_
  rintro e w3 ⟨rfl, hb⟩
  have HB2 := Lib.hid (HB1.out.trans (hb.alloc #[.int .i64 0, .slice none 0 0, .int .i64 0, .int .u64 0, .int .i64 0] 65))
  clear hb
  go_wp2
  go_ret
  exact ⟨rfl, HB2.out⟩
theorem stD_len (l : List T) (a : Ak) : (stD l a).length ≤ l.length := by
  unfold stD
  split
  · exact due_len _ _ _
  · simp
theorem stK_le (b : Nat) (s kk : Int) (l : List T) (a : Ak) (h : 0 ≤ kk) : 0 ≤ stKh b s kk l a ∧ stKh b s kk l a ≤ kk + (l.length : Int) := by
  unfold stKh
  split
  · have h1 : csc b s a.now l ≤ l.length := by
      unfold csc
      split
      · omega
      · exact Nat.le_trans List.countP_le_length (due_len _ _ _)
    omega
  · omega
theorem whr_eq (b : Nat) (s : Int) (o : Option T) : ∃ (x y : Int) (z : Bool), whr b s o = .tuple #[.int .i64 x, .int .i64 y, .bool z] := by
  cases o with
  | none => exact ⟨0, 0, false, rfl⟩
  | some t => exact ⟨_, _, true, rfl⟩
set_option maxHeartbeats 8000000 in
set_option maxRecDepth 100000 in
theorem plays_yes {Qu : QT} (C : Con Qu) (P b : Nat) (s : Int) (pa : Option Addr) (N ca : Nat) (al : List Ak) (k : Int) (w : World) (hT : Bm.Tab w) (h : N ≤ 60) (hl : al.length = N) (hK : Aks al) (hA : Lies nof w pa (encK al)) (hP : P ≤ 1024) (hb6 : 1 ≤ b ∧ b ≤ 6) (hs : Tk s) :
    Calls Tryz.prog 4 #[.int .i64 P, .int .i64 b, .int .u64 s, .slice pa N ca, .int .i64 k] w fun e w' => e = .returned (.bool true) ∧ Bel w w' := by
  have h' : ¬ (60 : Int) < N := by omega
  have HA := Lib.hid hA
  have HL := Lib.hid hl
  have HK := Lib.hid hK
  have hz : 0 < w.heap.size := World.block_lt_of_cell? w _ (hT 0 (by omega))
  have K1 := Lib.hid (fun w' (hb : Bel w w') => C.qnew_yes P b s w' hP hb6 hs (tab_bel hT hb))
  have K2 := Lib.hid (fun w => wnew_yes P b s w ⟨⟨by omega, by omega⟩, by omega, by omega⟩)
  clear hl hA h hK hs
  go_enter Tryz.func4, Tryz.ntmps4
  go_wp2_with fail
  with_reducible refine (works_any C _ hT).mono ?_
  rintro e w1 ⟨rfl, hb⟩
  have HB1 := Lib.hid hb
  clear hb
  go_wp2_with fail
  with_reducible refine (K1.out _ HB1.out).mono ?_
  rintro e w2 ⟨Q, f0, rfl, hq, hf, hb⟩
  have HQ2 := Lib.hid hq
  have HF2 := Lib.hid hf
  have HB2 := Lib.hid hb
  clear hq hf hb K1
  go_wp2_with fail
  with_reducible refine (K2.out _).mono ?_
  rintro e w3 ⟨rfl, hb⟩
  have P0 : Hid (Pin Qu w1 (w3.alloc (.cells #[.int .i64 P, .slice none 0 0, .int .i64 b, .int .u64 s, .int .i64 0] 65)) f0 Q P b s 0 [] none 0 w3.heap.size) := Lib.hid (by
    have hba : Bel w3 (w3.alloc (.cells #[.int .i64 P, .slice none 0 0, .int .i64 b, .int .u64 s, .int .i64 0] 65)) := (Bel.refl _).alloc _ _
    refine ⟨C.bel (C.bel HQ2.out hb) hba, HF2.out, fun e => ?_, Nat.le_trans HB2.out.size hb.size, (by have h1 := HB1.out.size; have h2 := HB2.out.size; have h3 := hb.size; omega), (HB2.out.trans hb).trans hba, .inl rfl, Nat.le_refl _, heap_alloc_new _ _⟩
    have h1 := C.lt_ HQ2.out _ e
    have h2 := hb.size
    omega)
  clear hb HQ2 HF2 HB2 K2
  go_upto_region 8 with (fail)
  generalize w3.alloc (.cells #[.int .i64 P, .slice none 0 0, .int .i64 b, .int .u64 s, .int .i64 0] 65) = W3 at *
  generalize w3.heap.size = b10 at *
  go_wp2
  go_loopw [16, 17, 18, 19, 20, 21, 22, 23, 24, 25] (fun v _ _ _ _ _ _ _ _ _ wr => ∃ (m : Nat) (f : Nat → Prop) (s : Int) (kk : Int) (l : List T) (p : Option Addr) (c : Nat), v = .int .i64 m ∧ m ≤ N ∧ (0 ≤ kk ∧ kk ≤ 1024 * (m : Int)) ∧ Pin Qu w1 wr f Q P b s kk l p c b10) (fun v _ _ _ _ _ _ _ _ _ _ => N - (intOf v).toNat)
  case atStart => exact ⟨0, f0, s, 0, [], none, 0, rfl, Nat.zero_le _, by omega, P0.out⟩
  case round =>
    clear P0
    obtain ⟨m, f, sx, kk, l, p, c, rfl, hm, hkb, hi⟩ := hrel
    have HI := Lib.hid hi
    clear hi
    by_cases hlt : m < N
    · obtain ⟨a, ha⟩ : ∃ a, al[m]? = some a := ⟨_, List.getElem?_eq_getElem (by have := HL.out; omega)⟩
      obtain ⟨bb, off, rfl, _, hr⟩ := lies_ak HA.out (i := m) (by have := HL.out; omega)
      obtain ⟨a0, a1, a2, a3, a4⟩ := row_ak hr ha
      have hta := HK.out.at_ ha
      have HAC : Hid (∀ w', Bel w1 w' → w'.cell? ⟨bb, off + m * 5, none⟩ = some (.int .i64 a.k) ∧ w'.cell? ⟨bb, off + m * 5 + 1, none⟩ = some (.int .u64 a.t.a) ∧ w'.cell? ⟨bb, off + m * 5 + 2, none⟩ = some (.int .u64 a.t.s) ∧ w'.cell? ⟨bb, off + m * 5 + 3, none⟩ = some (.int .i64 a.t.p) ∧ w'.cell? ⟨bb, off + m * 5 + 4, none⟩ = some (.int .u64 a.now)) := Lib.hid (fun w' h => by
        have h := HB1.out.trans h
        exact ⟨h.cell a0, h.cell a1, h.cell a2, h.cell a3, h.cell a4⟩)
      clear a0 a1 a2 a3 a4 hr ha
      obtain ⟨a0, a1, a2, a3, a4⟩ := HAC.out _ HI.out.bel
      have hpl : l.length ≤ 1024 := Nat.le_trans (C.len HI.out.qu) (C.hP HI.out.qu)
      have KQ := Lib.hid (fun w' (h : Qu f w' Q P b sx kk l) => do_any C f Q P b sx kk l a w' h hta.1 hta.2)
      have HL4 : Hid (Lies (fun k => f k ∨ k = b10) wr p (encs l)) := Lib.hid HI.out.lies
      have lt10 : b10 < wr.heap.size := (Array.getElem?_eq_some_iff.1 HI.out.m10).1
      have KD := Lib.hid (fun w' (hb : Bel wr w') => wdo_any (FootN (fun k => f k ∨ k = b10) wr.heap.size w'.heap.size) P b sx kk p c l a w' hb6 (C.base HI.out.qu) hta.2 hta.1 (by omega) (C.ticks HI.out.qu) (by omega) (fun j hj => by
        have hz := hb.size
        rcases hj with (e | e) | e
        · have := C.lt_ HI.out.qu j e; omega
        · omega
        · omega) HI.out.hc (HL4.out.wide hb) (C.places HI.out.qu).2)
      have KS := Lib.hid (fun w' p1 p2 c1 c2 (h1 : Has w' p1 (stD l a)) (h2 : Has w' p2 (stD l a)) => sameT_any (stE P l a) (stT l a) p1 p2 c1 c2 (stD l a) w' (Nat.le_trans (stD_len l a) (by omega)) h1 h2)
      have hmN : (m : Int) < N := by omega
      have HKB : Hid (0 ≤ stKh b sx kk l a ∧ stKh b sx kk l a ≤ 1024 * ((m + 1 : Nat) : Int)) := Lib.hid (by have := stK_le b sx kk l a hkb.1; omega)
      have HLT : Hid (∀ t ∈ stL P l a, Tk t.a) := Lib.hid (fun t ht => by
        rcases stL_in ht with h | h
        · exact C.ticks HI.out.qu t h
        · rw [h]; exact hta.1)
      have HBS : Hid (Tk (stB sx a)) := Lib.hid (by
        have h1 := C.base HI.out.qu
        have h2 := hta.2
        unfold stB
        unfold Tk at h1 h2 ⊢
        split <;> omega)
      have HLL : Hid ((stL P l a).length ≤ 1025) := Lib.hid (by have := stL_len P l a; omega)
      clear hkb
      generalize stE P l a = er at *
      generalize stT l a = tt at *
      generalize stD l a = dd at *
      generalize stL P l a = ll at *
      generalize stB sx a = sB at *
      generalize stKh b sx kk l a = kB at *
      unfold akV tdV whV at *
      have HM9 : Hid (wr.heap[b10]? = some (.cells #[.int .i64 P, .slice p l.length c, .int .i64 b, .int .u64 sx, .int .i64 kk] 65 (0, 0))) := Lib.hid HI.out.m10
      obtain ⟨⟨y0, y1, y2, y3, y4⟩, _⟩ := box5 HM9.out
      have BD : Hid (Bel wr wr.drew) := Lib.hid (Bel.refl wr).drew
      have BA : Hid (Bel wr (wr.alloc (.cells #[.int .i64 0, .slice none 0 0, .int .i64 0, .int .u64 0, .int .i64 0] 65)).drew) := Lib.hid ((Bel.refl wr).alloc _ _).drew
      have BF : Hid (Bel wr (wr.alloc (.cells #[.int .i64 0, .int .u64 0, .int .u64 0, .int .i64 0, .slice none 0 0] 39)).drew) := Lib.hid ((Bel.refl wr).alloc _ _).drew
      have BAF : Hid (Bel wr ((wr.alloc (.cells #[.int .i64 0, .slice none 0 0, .int .i64 0, .int .u64 0, .int .i64 0] 65)).alloc (.cells #[.int .i64 0, .int .u64 0, .int .u64 0, .int .i64 0, .slice none 0 0] 39)).drew) := Lib.hid (((Bel.refl wr).alloc _ _).alloc _ _).drew
      have BFA : Hid (Bel wr ((wr.alloc (.cells #[.int .i64 0, .int .u64 0, .int .u64 0, .int .i64 0, .slice none 0 0] 39)).alloc (.cells #[.int .i64 0, .slice none 0 0, .int .i64 0, .int .u64 0, .int .i64 0] 65)).drew) := Lib.hid (((Bel.refl wr).alloc _ _).alloc _ _).drew
      have C2 : Hid (∀ Wc w' b, Wc.heap[b]? = some (.cells #[.int .i64 0, .slice none 0 0, .int .i64 0, .int .u64 0, .int .i64 0] 65 (0, 0)) → Bel Wc w' → ((w'.cell? ⟨b, 0, none⟩ = some (.int .i64 0) ∧ w'.cell? ⟨b, 1, none⟩ = some (.slice none 0 0) ∧ w'.cell? ⟨b, 2, none⟩ = some (.int .i64 0) ∧ w'.cell? ⟨b, 3, none⟩ = some (.int .u64 0) ∧ w'.cell? ⟨b, 4, none⟩ = some (.int .i64 0)) ∧ (w'.frozen? ⟨b, 0, none⟩ = false ∧ w'.frozen? ⟨b, 1, none⟩ = false ∧ w'.frozen? ⟨b, 2, none⟩ = false ∧ w'.frozen? ⟨b, 3, none⟩ = false ∧ w'.frozen? ⟨b, 4, none⟩ = false)) ∧ b < w'.heap.size) := Lib.hid (fun Wc w' b hb ho =>
        ⟨box5 (ho.heap hb), (Array.getElem?_eq_some_iff.1 (ho.heap hb)).1⟩)
      have C5 : Hid (∀ Wc w' b, Wc.heap[b]? = some (.cells #[.int .i64 0, .int .u64 0, .int .u64 0, .int .i64 0, .slice none 0 0] 39 (0, 0)) → Bel Wc w' → ((w'.cell? ⟨b, 0, none⟩ = some (.int .i64 0) ∧ w'.cell? ⟨b, 1, none⟩ = some (.int .u64 0) ∧ w'.cell? ⟨b, 2, none⟩ = some (.int .u64 0) ∧ w'.cell? ⟨b, 3, none⟩ = some (.int .i64 0) ∧ w'.cell? ⟨b, 4, none⟩ = some (.slice none 0 0)) ∧ (w'.frozen? ⟨b, 0, none⟩ = false ∧ w'.frozen? ⟨b, 1, none⟩ = false ∧ w'.frozen? ⟨b, 2, none⟩ = false ∧ w'.frozen? ⟨b, 3, none⟩ = false ∧ w'.frozen? ⟨b, 4, none⟩ = false)) ∧ b < w'.heap.size) := Lib.hid (fun Wc w' b hb ho =>
        ⟨box5 (ho.heap hb), (Array.getElem?_eq_some_iff.1 (ho.heap hb)).1⟩)
      have NA : Hid ((wr.alloc (.cells #[.int .i64 0, .slice none 0 0, .int .i64 0, .int .u64 0, .int .i64 0] 65)).drew.heap[wr.heap.size]? = some (.cells #[.int .i64 0, .slice none 0 0, .int .i64 0, .int .u64 0, .int .i64 0] 65 (0, 0))) := Lib.hid (heap_alloc_new wr _)
      have NF : Hid ((wr.alloc (.cells #[.int .i64 0, .int .u64 0, .int .u64 0, .int .i64 0, .slice none 0 0] 39)).drew.heap[wr.heap.size]? = some (.cells #[.int .i64 0, .int .u64 0, .int .u64 0, .int .i64 0, .slice none 0 0] 39 (0, 0))) := Lib.hid (heap_alloc_new wr _)
      have NAF : Hid (((wr.alloc (.cells #[.int .i64 0, .slice none 0 0, .int .i64 0, .int .u64 0, .int .i64 0] 65)).alloc (.cells #[.int .i64 0, .int .u64 0, .int .u64 0, .int .i64 0, .slice none 0 0] 39)).drew.heap[wr.heap.size]? = some (.cells #[.int .i64 0, .slice none 0 0, .int .i64 0, .int .u64 0, .int .i64 0] 65 (0, 0)) ∧ ((wr.alloc (.cells #[.int .i64 0, .slice none 0 0, .int .i64 0, .int .u64 0, .int .i64 0] 65)).alloc (.cells #[.int .i64 0, .int .u64 0, .int .u64 0, .int .i64 0, .slice none 0 0] 39)).drew.heap[wr.heap.size + 1]? = some (.cells #[.int .i64 0, .int .u64 0, .int .u64 0, .int .i64 0, .slice none 0 0] 39 (0, 0))) := Lib.hid (by
        obtain ⟨W, eW, _, _, n0, n1⟩ := two_new wr #[.int .i64 0, .slice none 0 0, .int .i64 0, .int .u64 0, .int .i64 0] #[.int .i64 0, .int .u64 0, .int .u64 0, .int .i64 0, .slice none 0 0] 65 39
        rw [eW]
        exact ⟨n0, n1⟩)
      have NFA : Hid (((wr.alloc (.cells #[.int .i64 0, .int .u64 0, .int .u64 0, .int .i64 0, .slice none 0 0] 39)).alloc (.cells #[.int .i64 0, .slice none 0 0, .int .i64 0, .int .u64 0, .int .i64 0] 65)).drew.heap[wr.heap.size]? = some (.cells #[.int .i64 0, .int .u64 0, .int .u64 0, .int .i64 0, .slice none 0 0] 39 (0, 0)) ∧ ((wr.alloc (.cells #[.int .i64 0, .int .u64 0, .int .u64 0, .int .i64 0, .slice none 0 0] 39)).alloc (.cells #[.int .i64 0, .slice none 0 0, .int .i64 0, .int .u64 0, .int .i64 0] 65)).drew.heap[wr.heap.size + 1]? = some (.cells #[.int .i64 0, .slice none 0 0, .int .i64 0, .int .u64 0, .int .i64 0] 65 (0, 0))) := Lib.hid (by
        obtain ⟨W, eW, _, _, n0, n1⟩ := two_new wr #[.int .i64 0, .int .u64 0, .int .u64 0, .int .i64 0, .slice none 0 0] #[.int .i64 0, .slice none 0 0, .int .i64 0, .int .u64 0, .int .i64 0] 39 65
        rw [eW]
        exact ⟨n0, n1⟩)
      have hbW : bb < wr.heap.size := World.block_lt_of_cell? wr _ a0
      go_upto_region 13 with (fail)
      go_cut [17, 18] from 77 to 167 (fun s13 s14 wx => ∃ b13 b14 p5 c5 q5 k5, s13 = .pointer (some ⟨b13, 0, none⟩) ∧ s14 = .pointer (some ⟨b14, 0, none⟩) ∧ Mdl (fun k => f k ∨ k = b10) P b sB kB ll dd er tt wr wx b13 b14 p5 c5 q5 k5)
      case first =>
        have HSX : Hid (∀ w', Bel wr w' → Bel wr w' ∧ (w'.cell? ⟨b10, 0, none⟩ = some (.int .i64 P) ∧ w'.cell? ⟨b10, 1, none⟩ = some (.slice p l.length c) ∧ w'.cell? ⟨b10, 2, none⟩ = some (.int .i64 b) ∧ w'.cell? ⟨b10, 3, none⟩ = some (.int .u64 sx) ∧ w'.cell? ⟨b10, 4, none⟩ = some (.int .i64 kk)) ∧ (w'.cell? ⟨bb, off + m * 5, none⟩ = some (.int .i64 a.k) ∧ w'.cell? ⟨bb, off + m * 5 + 1, none⟩ = some (.int .u64 a.t.a) ∧ w'.cell? ⟨bb, off + m * 5 + 2, none⟩ = some (.int .u64 a.t.s) ∧ w'.cell? ⟨bb, off + m * 5 + 3, none⟩ = some (.int .i64 a.t.p) ∧ w'.cell? ⟨bb, off + m * 5 + 4, none⟩ = some (.int .u64 a.now))) := Lib.hid (fun w' h => ⟨h, (box5 (h.heap HM9.out)).1, HAC.out _ (HI.out.bel.trans h)⟩)
        clear HL HA HI HAC KS HM9 HL4 KQ HK hta
        go_wp2
        go_region_held3 (fun w' => Bel wr w' ∧ (w'.cell? ⟨b10, 0, none⟩ = some (.int .i64 P) ∧ w'.cell? ⟨b10, 1, none⟩ = some (.slice p l.length c) ∧ w'.cell? ⟨b10, 2, none⟩ = some (.int .i64 b) ∧ w'.cell? ⟨b10, 3, none⟩ = some (.int .u64 sx) ∧ w'.cell? ⟨b10, 4, none⟩ = some (.int .i64 kk)) ∧ (w'.cell? ⟨bb, off + m * 5, none⟩ = some (.int .i64 a.k) ∧ w'.cell? ⟨bb, off + m * 5 + 1, none⟩ = some (.int .u64 a.t.a) ∧ w'.cell? ⟨bb, off + m * 5 + 2, none⟩ = some (.int .u64 a.t.s) ∧ w'.cell? ⟨bb, off + m * 5 + 3, none⟩ = some (.int .i64 a.t.p) ∧ w'.cell? ⟨bb, off + m * 5 + 4, none⟩ = some (.int .u64 a.now))) (first | (with_reducible exact HSX.out _ BD.out) | (with_reducible exact HSX.out _ BA.out) | (with_reducible exact HSX.out _ BF.out) | (with_reducible exact HSX.out _ BAF.out) | (with_reducible exact HSX.out _ BFA.out) | (refine HSX.out _ ?_; repeat' (first | (with_reducible exact hw5) | (with_reducible refine Bel.alloc ?_ _ _) | (with_reducible refine Bel.setCell ?_ (Nat.le_refl _) _) | (with_reducible refine Bel.setCell ?_ (Nat.le_succ _) _)))) (first | (go_at_call 28; ((with_reducible refine (KD.out _ BD.out).mono ?_); rintro e w5 ⟨p5, c5, q5, k5, rfl, hd5⟩; have hw5 := BD.out.trans hd5.doc.bel)) | (go_at_call 28; ((with_reducible refine (KD.out _ BA.out).mono ?_); rintro e w5 ⟨p5, c5, q5, k5, rfl, hd5⟩; have hw5 := BA.out.trans hd5.doc.bel; have hca := C2.out _ _ _ NA.out hd5.doc.bel; obtain ⟨⟨⟨v0, v1, v2, v3, v4⟩, f0, f1, f2, f3, f4⟩, hz5⟩ := hca)) | (go_at_call 28; ((with_reducible refine (KD.out _ BF.out).mono ?_); rintro e w5 ⟨p5, c5, q5, k5, rfl, hd5⟩; have hw5 := BF.out.trans hd5.doc.bel; have hca := C5.out _ _ _ NF.out hd5.doc.bel; obtain ⟨⟨⟨z0, z1, z2, z3, z4⟩, i0, i1, i2, i3, i4⟩, hz5⟩ := hca)) | (go_at_call 28; ((with_reducible refine (KD.out _ BAF.out).mono ?_); rintro e w5 ⟨p5, c5, q5, k5, rfl, hd5⟩; have hw5 := BAF.out.trans hd5.doc.bel; have hca := C2.out _ _ _ NAF.out.1 hd5.doc.bel; obtain ⟨⟨⟨v0, v1, v2, v3, v4⟩, f0, f1, f2, f3, f4⟩, hz5⟩ := hca; have hcb := C5.out _ _ _ NAF.out.2 hd5.doc.bel; obtain ⟨⟨⟨z0, z1, z2, z3, z4⟩, i0, i1, i2, i3, i4⟩, hz6⟩ := hcb)) | (go_at_call 28; ((with_reducible refine (KD.out _ BFA.out).mono ?_); rintro e w5 ⟨p5, c5, q5, k5, rfl, hd5⟩; have hw5 := BFA.out.trans hd5.doc.bel; have hca := C2.out _ _ _ NFA.out.2 hd5.doc.bel; obtain ⟨⟨⟨v0, v1, v2, v3, v4⟩, f0, f1, f2, f3, f4⟩, hz5⟩ := hca; have hcb := C5.out _ _ _ NFA.out.1 hd5.doc.bel; obtain ⟨⟨⟨z0, z1, z2, z3, z4⟩, i0, i1, i2, i3, i4⟩, hz6⟩ := hcb)))
        all_goals
          go_wp2_with fail
          go_meet
          case rel =>
            refine ⟨_, _, p5, c5, q5, k5, rfl, rfl, ?_⟩
            first
            | with_reducible exact mid1 BD.out hd5
            | with_reducible exact mid2 BD.out hd5
            | with_reducible exact mid3 BA.out hd5 NA.out (Nat.le_refl _)
            | with_reducible exact mid5 BF.out hd5 NF.out (Nat.le_refl _)
            | with_reducible exact mid4 BAF.out hd5 NAF.out.1 NAF.out.2 (Nat.le_refl _) (Nat.le_succ _) (Nat.ne_of_lt (Nat.lt_succ_self _))
            | with_reducible exact mid4 BFA.out hd5 NFA.out.2 NFA.out.1 (Nat.le_succ _) (Nat.le_refl _) (Nat.ne_of_gt (Nat.lt_succ_self _))
      case rest =>
        obtain ⟨b13, b14, p5, c5, q5, k5, rfl, rfl, hmid⟩ := hcut
        clear C2 C5 NA NF NAF NFA BD BA BF BAF BFA KD a0 a1 a2 a3 a4 y0 y1 y2 y3 y4
        have hM := Lib.hid hmid
        clear hmid
        have HX : Hid (∀ w', Off f wc w' → (w'.cell? ⟨bb, off + m * 5, none⟩ = some (.int .i64 a.k) ∧ w'.cell? ⟨bb, off + m * 5 + 1, none⟩ = some (.int .u64 a.t.a) ∧ w'.cell? ⟨bb, off + m * 5 + 2, none⟩ = some (.int .u64 a.t.s) ∧ w'.cell? ⟨bb, off + m * 5 + 3, none⟩ = some (.int .i64 a.t.p) ∧ w'.cell? ⟨bb, off + m * 5 + 4, none⟩ = some (.int .u64 a.now)) ∧ (w'.cell? ⟨b14, 0, none⟩ = some (.int .i64 er) ∧ w'.cell? ⟨b14, 1, none⟩ = some (.int .u64 tt.a) ∧ w'.cell? ⟨b14, 2, none⟩ = some (.int .u64 tt.s) ∧ w'.cell? ⟨b14, 3, none⟩ = some (.int .i64 tt.p) ∧ w'.cell? ⟨b14, 4, none⟩ = some (.slice q5 dd.length k5))) := Lib.hid (fun w' ho => by
          obtain ⟨s0, s1, s2, s3, s4⟩ := hM.out.c14
          have nb : ¬ f b14 := fun e => by have h1 := C.lt_ HI.out.qu _ e; have h2 := hM.out.ge.2; omega
          exact ⟨HAC.out _ (Off.trans (HI.out.bel.trans hM.out.rest.1) ho (fun i e => .inr (HI.out.ge i e))), ho.cell nb s0, ho.cell nb s1, ho.cell nb s2, ho.cell nb s3, ho.cell nb s4⟩)
        have HDr : Hid (Off f wc wc.drew) := Lib.hid (Off.refl f wc).drew
        have HQc : Hid (Qu f wc.drew Q P b sx kk l) := Lib.hid (C.bel HI.out.qu hM.out.rest.1.drew)
        have HLq : Hid (Lies f wc q5 (encs dd)) := Lib.hid (hM.out.rest.2.2.2.mono (fun j _ e => C.lt_ HI.out.qu j e))
        have KQ' := Lib.hid (KQ.out _ HQc.out)
        have KS' : Hid (∀ w6 pd cd, Off f wc.drew w6 → Has w6 pd dd → Calls Tryz.prog 14 #[.agg #[.int .i64 er, .int .u64 tt.a, .int .u64 tt.s, .int .i64 tt.p, .slice pd dd.length cd], .agg #[.int .i64 er, .int .u64 tt.a, .int .u64 tt.s, .int .i64 tt.p, .slice q5 dd.length k5]] w6 fun e w7 => e = .returned (.bool true) ∧ Bel w6 w7) := Lib.hid (fun w6 pd cd ho h1 => KS.out w6 pd q5 cd k5 h1 (HLq.out.off (HDr.out.then ho) (fun i e => e)).has)
        obtain ⟨⟨a0, a1, a2, a3, a4⟩, s0, s1, s2, s3, s4⟩ := HX.out _ (Off.refl f wc)
        clear KS KQ HK hta
        go_wp2
        go_region_held3 (fun w' => (w'.cell? ⟨bb, off + m * 5, none⟩ = some (.int .i64 a.k) ∧ w'.cell? ⟨bb, off + m * 5 + 1, none⟩ = some (.int .u64 a.t.a) ∧ w'.cell? ⟨bb, off + m * 5 + 2, none⟩ = some (.int .u64 a.t.s) ∧ w'.cell? ⟨bb, off + m * 5 + 3, none⟩ = some (.int .i64 a.t.p) ∧ w'.cell? ⟨bb, off + m * 5 + 4, none⟩ = some (.int .u64 a.now)) ∧ (w'.cell? ⟨b14, 0, none⟩ = some (.int .i64 er) ∧ w'.cell? ⟨b14, 1, none⟩ = some (.int .u64 tt.a) ∧ w'.cell? ⟨b14, 2, none⟩ = some (.int .u64 tt.s) ∧ w'.cell? ⟨b14, 3, none⟩ = some (.int .i64 tt.p) ∧ w'.cell? ⟨b14, 4, none⟩ = some (.slice q5 dd.length k5)))
          (first | (with_reducible exact HX.out _ HDr.out) | (with_reducible exact HX.out _ (HDr.out.then hd6.off)) | exact HX.out _ ((HDr.out.then hd6.off).thenB hb7))
          (first | (go_at_call 29; (with_reducible refine (KQ'.out).mono ?_); rintro e w6 ⟨pd, cd, rfl, hd6⟩; have hhd : Has w6 pd dd := DidW.has hd6) | (go_at_call 14; (with_reducible refine (KS'.out _ _ _ hd6.off hhd).mono ?_); rintro e w7 ⟨rfl, hb7⟩))
        have HNX := Lib.hid (fun w8 (hb8 : Bel w7 w8) => HI.out.next C hM.out.rest.1 hM.out.rest.2.1 hM.out.rest.2.2.1 hd6 (hb7.trans hb8))
        have HO7 : Hid (Off f wc w7) := Lib.hid ((HDr.out.then hd6.off).thenB hb7)
        have nb13 : ¬ f b13 := fun e => by have h1 := C.lt_ HI.out.qu _ e; have h2 := hM.out.ge.1; omega
        have HQ7 : Hid (∃ f', Qu f' w7 Q P b sB kB ll) := Lib.hid (by
          obtain ⟨⟨f', _, hq', _⟩, _⟩ := hd6
          exact ⟨f', C.bel hq' hb7⟩)
        have HC7 : Hid (∀ w', Bel w7 w' → w'.cell? ⟨b13, 0, none⟩ = some (.int .i64 P) ∧ w'.cell? ⟨b13, 1, none⟩ = some (.slice p5 ll.length c5) ∧ w'.cell? ⟨b13, 2, none⟩ = some (.int .i64 b) ∧ w'.cell? ⟨b13, 3, none⟩ = some (.int .u64 sB) ∧ w'.cell? ⟨b13, 4, none⟩ = some (.int .i64 kB)) := Lib.hid (fun w' hb => by
          obtain ⟨g0, g1, g2, g3, g4⟩ := hM.out.c13
          have ho := HO7.out.thenB hb
          exact ⟨ho.cell nb13 g0, ho.cell nb13 g1, ho.cell nb13 g2, ho.cell nb13 g3, ho.cell nb13 g4⟩)
        have HM7 : Hid (w7.heap[b10]? = some (.cells #[.int .i64 P, .slice p l.length c, .int .i64 b, .int .u64 sx, .int .i64 kk] 65 (0, 0))) := Lib.hid ((HO7.out.block b10 (Nat.lt_of_lt_of_le lt10 hM.out.rest.1.size) HI.out.nb).trans (hM.out.rest.1.heap HI.out.m10))
        have HY7 : Hid (∀ w', Bel w7 w' → w'.cell? ⟨bb, off + m * 5 + 3, none⟩ = some (.int .i64 a.t.p)) := Lib.hid (fun w' hb => (HX.out _ (HO7.out.thenB hb)).1.2.2.2.1)
        have HH7 : Hid (∀ w', Bel w7 w' → Has w' p5 ll) := Lib.hid (fun w' hb => ((hM.out.rest.2.1.off HO7.out (fun i e => .inl e)).has).bel hb)
        clear hhd hd6 hb7 s0 s1 s2 s3 s4 a0 a1 a2 a3 a4 KS' KQ' HX nb13 HLq HQc HDr HO7 hM HAC HI HL4 HM9
        obtain ⟨n, en⟩ : ∃ n, ll.length = n := ⟨_, rfl⟩
        rw [en] at HC7 HNX
        have J1 : Hid (∀ w', Bel w7 w' → Calls Tryz.prog 32 #[.pointer (some ⟨Q, 0, none⟩)] w' fun e w2 => e = .returned (.int .u64 sB) ∧ Bel w' w2) := Lib.hid (fun w' hb => by obtain ⟨f', h⟩ := HQ7.out; exact C.based w' (C.bel h hb))
        obtain ⟨Zp, hzp⟩ : ∃ Z, w7.cell? ⟨Q, 0, none⟩ = some (.pointer (some ⟨Z, 0, none⟩)) := by obtain ⟨f', h⟩ := HQ7.out; exact C.zp h
        have HZ7 := Lib.hid hzp
        clear hzp
        have HC8 : Hid (∀ w', Bel w7 w' → (w'.cell? ⟨b13, 0, none⟩ = some (.int .i64 P) ∧ w'.cell? ⟨b13, 1, none⟩ = some (.slice p5 n c5) ∧ w'.cell? ⟨b13, 2, none⟩ = some (.int .i64 b) ∧ w'.cell? ⟨b13, 3, none⟩ = some (.int .u64 sB) ∧ w'.cell? ⟨b13, 4, none⟩ = some (.int .i64 kB)) ∧ w'.cell? ⟨Q, 0, none⟩ = some (.pointer (some ⟨Zp, 0, none⟩))) := Lib.hid (fun w' hb => ⟨HC7.out w' hb, hb.cell HZ7.out⟩)
        have J2 : Hid (∀ w', Bel w7 w' → Calls Tryz.prog 33 #[.pointer (some ⟨Q, 0, none⟩)] w' fun e w2 => e = .returned (.int .i64 kB) ∧ Bel w' w2) := Lib.hid (fun w' hb => by obtain ⟨f', h⟩ := HQ7.out; exact C.cascades w' (C.bel h hb) HKB.out.1 (by have := HKB.out.2; omega))
        have J3 : Hid (∀ w', Bel w7 w' → Calls Tryz.prog 18 #[.pointer (some ⟨Zp, 0, none⟩)] w' fun e w2 => e = .returned (.int .i64 n) ∧ Bel w' w2) := Lib.hid (fun w' hb => by obtain ⟨f', h⟩ := HQ7.out; rw [← en]; exact C.count w' (C.bel h hb) (hb.cell HZ7.out))
        obtain ⟨x1, x2, x3, hwh⟩ := whr_eq b sB (fnd ll a.t.p)
        have KW : Hid (∀ w', Bel w7 w' → Calls Tryz.prog 30 #[.pointer (some ⟨Q, 0, none⟩), .int .i64 a.t.p] w' fun e w2 => e = .returned (.tuple #[.int .i64 x1, .int .i64 x2, .bool x3]) ∧ Bel w' w2) := Lib.hid (fun w' hb => by
          obtain ⟨f', h⟩ := HQ7.out
          have k := C.where_ a.t.p w' (C.bel h hb)
          rw [hwh] at k
          exact k)
        have KV : Hid (∀ w', Bel w7 w' → Calls Tryz.prog 31 #[.agg #[.int .i64 P, .slice p5 n c5, .int .i64 b, .int .u64 sB, .int .i64 kB], .int .i64 a.t.p] w' fun e w2 => e = .returned (.tuple #[.int .i64 x1, .int .i64 x2, .bool x3]) ∧ Bel w' w2) := Lib.hid (fun w' hb => by
          have k := where_any P b sB kB p5 n c5 ll a.t.p w' hb6 HBS.out en (by have := HLL.out; omega) HLT.out (HH7.out _ hb)
          rw [hwh] at k
          exact k)
        have hx3 : (x3 != x3) = false := by simp
        have hx1 : (x1 != x1) = false := by simp
        have hx2 : (x2 != x2) = false := by simp
        clear hwh HH7
        have y3 := HY7.out _ (Bel.refl _)
        generalize a.t.p = ap at *
        go_wp2_with fail
        with_reducible refine (KW.out _ (Bel.refl _)).mono ?_
        rintro e wa ⟨rfl, hba⟩
        have HBa := Lib.hid hba
        have y3 := HY7.out _ hba
        obtain ⟨r0, r1, r2, r3, r4⟩ := HC7.out _ hba
        have HDa : Hid (Bel w7 wa.drew) := Lib.hid hba.drew
        clear hba KW
        go_wp2
        go_region_held3 (fun w' => w'.cell? ⟨bb, off + m * 5 + 3, none⟩ = some (.int .i64 ap) ∧ w'.cell? ⟨b13, 0, none⟩ = some (.int .i64 P) ∧ w'.cell? ⟨b13, 1, none⟩ = some (.slice p5 n c5) ∧ w'.cell? ⟨b13, 2, none⟩ = some (.int .i64 b) ∧ w'.cell? ⟨b13, 3, none⟩ = some (.int .u64 sB) ∧ w'.cell? ⟨b13, 4, none⟩ = some (.int .i64 kB))
          (first | exact ⟨HY7.out _ HDa.out, HC7.out _ HDa.out⟩ | exact ⟨HY7.out _ (HDa.out.trans hbv), HC7.out _ (HDa.out.trans hbv)⟩)
          (first | (go_at_call 31; (with_reducible refine (KV.out _ HDa.out).mono ?_); rintro e wb ⟨rfl, hbv⟩))
        have HBb := Lib.hid (HDa.out.trans hbv)
        clear hbv KV r0 r1 r2 r3 r4 y3 HDa HBa
        have q1 : (sB != sB) = false := by simp
        have q2 : (kB != kB) = false := by simp
        have q3 : ((n : Int) != (n : Int)) = false := by simp
        clear en HQ7
        have HD7 : Hid (Bel w7 wb.drew) := Lib.hid HBb.out.drew
        obtain ⟨⟨r0, r1, r2, r3, r4⟩, rz⟩ := HC8.out _ HBb.out
        go_wp2
        go_region_held3 (fun w' => (w'.cell? ⟨b13, 0, none⟩ = some (.int .i64 P) ∧ w'.cell? ⟨b13, 1, none⟩ = some (.slice p5 n c5) ∧ w'.cell? ⟨b13, 2, none⟩ = some (.int .i64 b) ∧ w'.cell? ⟨b13, 3, none⟩ = some (.int .u64 sB) ∧ w'.cell? ⟨b13, 4, none⟩ = some (.int .i64 kB)) ∧ w'.cell? ⟨Q, 0, none⟩ = some (.pointer (some ⟨Zp, 0, none⟩)))
          (first | (with_reducible exact HC8.out _ HD7.out) | (with_reducible exact HC8.out _ (HD7.out.trans hg1)) | (with_reducible exact HC8.out _ ((HD7.out.trans hg1).trans hg2)) | exact HC8.out _ (((HD7.out.trans hg1).trans hg2).trans hg3))
          (first | (go_at_call 32; (with_reducible refine (J1.out _ HD7.out).mono ?_); rintro e w8 ⟨rfl, hg1⟩) | (go_at_call 33; (with_reducible refine (J2.out _ (HD7.out.trans hg1)).mono ?_); rintro e w9 ⟨rfl, hg2⟩) | (go_at_call 18; (with_reducible refine (J3.out _ ((HD7.out.trans hg1).trans hg2)).mono ?_); rintro e w10 ⟨rfl, hg3⟩))
        have HB10 : Hid (Bel w7 w10) := Lib.hid (((HD7.out.trans hg1).trans hg2).trans hg3)
        have HT := Lib.hid (HNX.out _ HB10.out)
        clear hg1 hg2 hg3 r0 r1 r2 r3 r4 rz HNX J1 J2 J3
        obtain ⟨r0, r1, r2, r3, r4⟩ := HC7.out _ HB10.out
        obtain ⟨⟨v0, v1, v2, v3, v4⟩, g0, g1, g2, g3, g4⟩ := box5 (HB10.out.heap HM7.out)
        go_wp2
        obtain ⟨f', hT⟩ := HT.out
        go_roundw
        case rel => exact ⟨m + 1, f', sB, kB, ll, p5, c5, by go_num, by omega, HKB.out, hT⟩
        case measure => simp [intOf]; omega
    · have hmN : ¬ (m : Int) < N := by omega
      have hpl : l.length ≤ 1024 := Nat.le_trans (C.len HI.out.qu) (C.hP HI.out.qu)
      obtain ⟨n, en⟩ : ∃ n, l.length = n := ⟨_, rfl⟩
      have HQ := Lib.hid HI.out.qu
      have HH := Lib.hid HI.out.lies.has
      have HBr : Hid (Bel w wr) := Lib.hid (HB1.out.trans HI.out.bel)
      have M10 := Lib.hid HI.out.m10
      rw [en] at M10
      obtain ⟨Zp, hzp⟩ := C.zp HI.out.qu
      have HZr := Lib.hid hzp
      have K1 := Lib.hid (fun w' (h : Bel wr w') => C.get k w' (C.bel HQ.out h) (h.cell HZr.out))
      have K2 := Lib.hid (fun w' (h : Bel wr w') => dget_any P p n c l k w' en (by omega) (HH.out.bel h))
      have K3 := Lib.hid (fun w' (h : Bel wr w') => C.min w' (C.bel HQ.out h))
      have K4 := Lib.hid (fun w' (h : Bel wr w') => dmin_any P p n c l w' en (HH.out.bel h))
      have K5 : Hid (∀ w', Bel wr w' → Calls Tryz.prog 24 #[.pointer (some ⟨Zp, 0, none⟩)] w' fun e w2 => ∃ q d, e = .returned (.slice q n d) ∧ Has w2 q l ∧ Bel w' w2) := Lib.hid (fun w' h => by
        rw [← en]
        exact (C.all w' (C.bel HQ.out h) (h.cell HZr.out)).mono fun e w2 ⟨q, d, he, _, hh, hb⟩ => ⟨q, d, he, hh.has, hb⟩)
      have K6 : Hid (∀ q d w', Has w' q l → Bel wr w' → Calls Tryz.prog 23 #[.slice q n d, .slice p n c] w' fun e w2 => e = .returned (.bool true) ∧ Bel w' w2) := Lib.hid (fun q d w' h1 h2 => by
        have kx := same_yes q p d c l w' (by omega) h1 (HH.out.bel h2)
        rw [en] at kx
        exact kx)
      simp only [ansP_eq] at K1 K2 K3 K4
      have hE1 := eql_yes ((fnd l k).getD default) ((fnd l k).getD default) rfl
      have hE2 := eql_yes (l.head?.getD default) (l.head?.getD default) rfl
      generalize ((fnd l k).getD default).a = x0 at *
      generalize ((fnd l k).getD default).s = x1 at *
      generalize ((fnd l k).getD default).p = x2 at *
      generalize (fnd l k).isSome = xs at *
      generalize (l.head?.getD default).a = z0 at *
      generalize (l.head?.getD default).s = z1 at *
      generalize (l.head?.getD default).p = z2 at *
      generalize l.head?.isSome = zs at *
      have hS1 : (xs == xs) = true := by simp
      have hS2 : (zs == zs) = true := by simp
      clear HI HQ HH en hpl HA HL HK
      have BB0 : Hid (Bel wr wr) := Lib.hid (Bel.refl wr)
      go_wp2_with fail
      with_reducible refine (K1.out _ BB0.out).mono ?_
      rintro e u1 ⟨rfl, hb⟩
      have BB1 := Lib.hid (BB0.out.trans (hb.alloc #[.int .u64 x0, .int .u64 x1, .int .i64 x2] 37))
      have M10 := Lib.hid ((hb.alloc #[.int .u64 x0, .int .u64 x1, .int .i64 x2] 37).heap M10.out)
      have Mt20 := Lib.hid (heap_alloc_new u1 (.cells #[.int .u64 x0, .int .u64 x1, .int .i64 x2] 37))
      clear hb
      go_upto_region 21 with (fail)
      generalize u1.alloc (.cells #[.int .u64 x0, .int .u64 x1, .int .i64 x2] 37) = V0 at *
      generalize u1.heap.size = ct20 at *
      obtain ⟨⟨q0, q1, _, _, _⟩, _⟩ := box5 M10.out
      go_wp2_with fail
      with_reducible refine (K2.out _ BB1.out).mono ?_
      rintro e u2 ⟨rfl, hb⟩
      have BB2 := Lib.hid (BB1.out.trans (hb.alloc #[.int .u64 x0, .int .u64 x1, .int .i64 x2] 37))
      have M10 := Lib.hid ((hb.alloc #[.int .u64 x0, .int .u64 x1, .int .i64 x2] 37).heap M10.out)
      have Mt20 := Lib.hid ((hb.alloc #[.int .u64 x0, .int .u64 x1, .int .i64 x2] 37).heap Mt20.out)
      have Mt22 := Lib.hid (heap_alloc_new u2 (.cells #[.int .u64 x0, .int .u64 x1, .int .i64 x2] 37))
      clear hb q0 q1
      go_upto_region 22 with (fail)
      generalize u2.alloc (.cells #[.int .u64 x0, .int .u64 x1, .int .i64 x2] 37) = V1 at *
      generalize u2.heap.size = ct22 at *
      go_wp2_with fail
      with_reducible refine (K3.out _ BB2.out).mono ?_
      rintro e u3 ⟨rfl, hb⟩
      have BB3 := Lib.hid (BB2.out.trans (hb.alloc #[.int .u64 z0, .int .u64 z1, .int .i64 z2] 37))
      have M10 := Lib.hid ((hb.alloc #[.int .u64 z0, .int .u64 z1, .int .i64 z2] 37).heap M10.out)
      have Mt20 := Lib.hid ((hb.alloc #[.int .u64 z0, .int .u64 z1, .int .i64 z2] 37).heap Mt20.out)
      have Mt22 := Lib.hid ((hb.alloc #[.int .u64 z0, .int .u64 z1, .int .i64 z2] 37).heap Mt22.out)
      have Mt24 := Lib.hid (heap_alloc_new u3 (.cells #[.int .u64 z0, .int .u64 z1, .int .i64 z2] 37))
      clear hb
      go_upto_region 23 with (fail)
      generalize u3.alloc (.cells #[.int .u64 z0, .int .u64 z1, .int .i64 z2] 37) = V2 at *
      generalize u3.heap.size = ct24 at *
      obtain ⟨⟨q0, q1, _, _, _⟩, _⟩ := box5 M10.out
      go_wp2_with fail
      with_reducible refine (K4.out _ BB3.out).mono ?_
      rintro e u4 ⟨rfl, hb⟩
      have BB4 := Lib.hid (BB3.out.trans (hb.alloc #[.int .u64 z0, .int .u64 z1, .int .i64 z2] 37))
      have M10 := Lib.hid ((hb.alloc #[.int .u64 z0, .int .u64 z1, .int .i64 z2] 37).heap M10.out)
      have Mt20 := Lib.hid ((hb.alloc #[.int .u64 z0, .int .u64 z1, .int .i64 z2] 37).heap Mt20.out)
      have Mt22 := Lib.hid ((hb.alloc #[.int .u64 z0, .int .u64 z1, .int .i64 z2] 37).heap Mt22.out)
      have Mt24 := Lib.hid ((hb.alloc #[.int .u64 z0, .int .u64 z1, .int .i64 z2] 37).heap Mt24.out)
      have Mt26 := Lib.hid (heap_alloc_new u4 (.cells #[.int .u64 z0, .int .u64 z1, .int .i64 z2] 37))
      clear hb q0 q1
      go_upto_region 24 with (fail)
      generalize u4.alloc (.cells #[.int .u64 z0, .int .u64 z1, .int .i64 z2] 37) = V3 at *
      generalize u4.heap.size = ct26 at *
      have HC : Hid (∀ w', Bel V3 w' → w'.cell? ⟨b10, 1, none⟩ = some (.slice p n c) ∧ w'.cell? ⟨Q, 0, none⟩ = some (.pointer (some ⟨Zp, 0, none⟩))) := Lib.hid (fun w' hb => ⟨(box5 (hb.heap M10.out)).1.2.1, hb.cell (BB4.out.cell HZr.out)⟩)
      have HD : Hid (Bel V3 V3.drew) := Lib.hid (Bel.refl V3).drew
      have HS : Hid (∀ w', Bel V3 w' → (w'.cell? ⟨ct20, 0, none⟩ = some (.int .u64 x0) ∧ w'.cell? ⟨ct20, 1, none⟩ = some (.int .u64 x1) ∧ w'.cell? ⟨ct20, 2, none⟩ = some (.int .i64 x2)) ∧ (w'.cell? ⟨ct22, 0, none⟩ = some (.int .u64 x0) ∧ w'.cell? ⟨ct22, 1, none⟩ = some (.int .u64 x1) ∧ w'.cell? ⟨ct22, 2, none⟩ = some (.int .i64 x2)) ∧ (w'.cell? ⟨ct24, 0, none⟩ = some (.int .u64 z0) ∧ w'.cell? ⟨ct24, 1, none⟩ = some (.int .u64 z1) ∧ w'.cell? ⟨ct24, 2, none⟩ = some (.int .i64 z2)) ∧ (w'.cell? ⟨ct26, 0, none⟩ = some (.int .u64 z0) ∧ w'.cell? ⟨ct26, 1, none⟩ = some (.int .u64 z1) ∧ w'.cell? ⟨ct26, 2, none⟩ = some (.int .i64 z2))) := Lib.hid (fun w' hb => ⟨(box3 (hb.heap Mt20.out)).1, (box3 (hb.heap Mt22.out)).1, (box3 (hb.heap Mt24.out)).1, (box3 (hb.heap Mt26.out)).1⟩)
      have J5 := Lib.hid (K5.out _ (BB4.out.trans HD.out))
      have J6 := Lib.hid (fun q d w' h1 (h2 : Bel V3 w') => K6.out q d w' h1 (BB4.out.trans h2))
      have HBw : Hid (Bel w V3) := Lib.hid (HBr.out.trans BB4.out)
      obtain ⟨q1, q2⟩ := HC.out _ (Bel.refl _)
      clear K1 K2 K3 K4 K5 K6 Mt20 Mt22 Mt24 Mt26 M10 BB0 BB1 BB2 BB3 BB4
      go_wp2
      go_region_held3 (fun w' => w'.cell? ⟨b10, 1, none⟩ = some (.slice p n c) ∧ w'.cell? ⟨Q, 0, none⟩ = some (.pointer (some ⟨Zp, 0, none⟩))) (first | (with_reducible exact HC.out _ HD.out) | exact HC.out _ (HD.out.trans hg1) | exact HC.out _ ((HD.out.trans hg1).trans hg2))
        (first | (go_at_call 24; (with_reducible refine (J5.out).mono ?_); rintro e u5 ⟨q, d, rfl, hq, hg1⟩) | (go_at_call 23; (with_reducible refine (J6.out q d _ hq (HD.out.trans hg1)).mono ?_); rintro e u6 ⟨rfl, hg2⟩))
      have HB6 : Hid (Bel V3 u6) := Lib.hid ((HD.out.trans hg1).trans hg2)
      have HE := Lib.hid (HBw.out.trans HB6.out)
      clear hg1 hg2 hq q1 q2 J5 J6
      obtain ⟨⟨r0, r1, r2⟩, ⟨r3, r4, r5⟩, ⟨r6, r7, r8⟩, ⟨r9, r10, r11⟩⟩ := HS.out _ HB6.out
      go_wp2
      go_ret
      exact ⟨rfl, HE.out⟩
end Go.Proofs.YtdoceldofkaapaaGreatDoor
