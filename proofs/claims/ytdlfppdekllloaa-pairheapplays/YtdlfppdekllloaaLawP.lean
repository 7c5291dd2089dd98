/-
  The walk of PairheapPlays.
-/
import Derived.Test.YtdlfppdekllloaaMid
import Derived.Test.YtdlfppdekllloaaAlike
import Derived.Test.YtdlfppdekllloaaWorks
import Derived.Test.YtdlfppdekllloaaSamet
import Derived.Deep.CutRange
set_option linter.unusedVariables false
set_option linter.unusedSimpArgs false
namespace Go.Proofs.Ytdlfppdekllloaa
open Go.RowKit
theorem plays_long (P : Int) (pa : Option Addr) (N ca : Nat) (k : Int) (w : World) (h : 60 < N) :
    Calls Try.prog 3 #[.int .i64 P, .slice pa N ca, .int .i64 k] w fun e w' => e = .returned (.bool true) ∧ Bel w w' := by
  have h' : (60 : Int) < N := by omega
  go_enter Try.func3, Try.ntmps3
  go_wp2_with fail
  with_reducible refine (works_any _).mono ?_
  rintro e w1 ⟨rfl, hb⟩
  go_wp2
  go_ret
  exact ⟨rfl, hb⟩
theorem plays_no (P : Int) (pa : Option Addr) (N ca : Nat) (k : Int) (w : World) (h : N ≤ 60) (hP : ¬ (0 ≤ P ∧ P ≤ 1024)) :
    Calls Try.prog 3 #[.int .i64 P, .slice pa N ca, .int .i64 k] w fun e w' => e = .returned (.bool true) ∧ Bel w w' := by
  have h' : ¬ (60 : Int) < N := by omega
  have K1 := Lib.hid (fun w => qnew_no P w hP)
  have K2 := Lib.hid (fun w => dnew_no P w hP)
  clear hP
  go_enter Try.func3, Try.ntmps3
  go_wp2_with fail
  with_reducible refine (works_any _).mono ?_
  rintro e w1 ⟨rfl, hb⟩
  have HB := Lib.hid hb
  clear hb
  go_wp2_with fail
  with_reducible refine (K1.out _).mono ?_
  rintro e w2 ⟨rfl, rfl⟩
  go_wp2_with fail
  with_reducible refine (K2.out _).mono ?_
  rintro e w3 ⟨rfl, hb⟩
  have HB2 := Lib.hid (HB.out.trans (hb.alloc #[.int .i64 0, .slice none 0 0] 30))
  clear hb
  go_wp2
  go_ret
  exact ⟨rfl, HB2.out⟩
set_option maxHeartbeats 8000000 in
set_option maxRecDepth 100000 in
theorem plays_yes (P : Nat) (pa : Option Addr) (N ca : Nat) (al : List Ak) (k : Int) (w : World) (h : N ≤ 60) (hl : al.length = N) (hA : Lies nof w pa (encK al)) (hP : P ≤ 1024) :
    Calls Try.prog 3 #[.int .i64 P, .slice pa N ca, .int .i64 k] w fun e w' => e = .returned (.bool true) ∧ Bel w w' := by
  have h' : ¬ (60 : Int) < N := by omega
  have HA := Lib.hid hA
  have HL := Lib.hid hl
  have K1 := Lib.hid (fun w => qnew_yes P w hP)
  have K2 := Lib.hid (fun w => dnew_yes P w ⟨by omega, by omega⟩)
  clear hl hA h
  go_enter Try.func3, Try.ntmps3
  go_wp2_with fail
  with_reducible refine (works_any _).mono ?_
  rintro e w1 ⟨rfl, hb⟩
  have HB1 := Lib.hid hb
  clear hb
  go_wp2_with fail
  with_reducible refine (K1.out _).mono ?_
  rintro e w2 ⟨Q, f0, rfl, hq, hf, hb⟩
  have HQ2 := Lib.hid hq
  have HF2 := Lib.hid hf
  have HB2 := Lib.hid hb
  clear hq hf hb K1
  go_wp2_with fail
  with_reducible refine (K2.out _).mono ?_
  rintro e w3 ⟨rfl, hb⟩
  have P0 : Hid (Pin w1 (w3.alloc (.cells #[.int .i64 P, .slice none 0 0] 30)) f0 Q P [] none 0 w3.heap.size) := Lib.hid (by
    have hba : Bel w3 (w3.alloc (.cells #[.int .i64 P, .slice none 0 0] 30)) := (Bel.refl _).alloc _ _
    refine ⟨(HQ2.out.bel hb).bel hba, HF2.out, fun e => ?_, Nat.le_trans HB2.out.size hb.size, (HB2.out.trans hb).trans hba, .inl rfl, Nat.le_refl _, heap_alloc_new _ _⟩
    have h1 := HQ2.out.lt_ _ e
    have h2 := hb.size
    omega)
  clear hb HQ2 HF2 HB2 K2
  go_upto_region 8 with (fail)
  generalize w3.alloc (.cells #[.int .i64 P, .slice none 0 0] 30) = W3 at *
  generalize w3.heap.size = b10 at *
  go_wp2
  go_loopw [12, 13, 14, 15] (fun v _ _ _ wr => ∃ (m : Nat) (f : Nat → Prop) (l : List T) (p : Option Addr) (c : Nat), v = .int .i64 m ∧ m ≤ N ∧ Pin w1 wr f Q P l p c b10) (fun v _ _ _ _ => N - (intOf v).toNat)
  case atStart => exact ⟨0, f0, [], none, 0, rfl, Nat.zero_le _, P0.out⟩
  case round =>
    clear P0
    obtain ⟨m, f, l, p, c, rfl, hm, hi⟩ := hrel
    have HI := Lib.hid hi
    clear hi
    by_cases hlt : m < N
    · obtain ⟨a, ha⟩ : ∃ a, al[m]? = some a := ⟨_, List.getElem?_eq_getElem (by have := HL.out; omega)⟩
      obtain ⟨b, off, rfl, _, hr⟩ := lies_ak HA.out (i := m) (by have := HL.out; omega)
      obtain ⟨a0, a1, a2, a3, a4⟩ := row_ak hr ha
      have HAC : Hid (∀ w', Bel w1 w' → w'.cell? ⟨b, off + m * 5, none⟩ = some (.int .i64 a.k) ∧ w'.cell? ⟨b, off + m * 5 + 1, none⟩ = some (.int .u64 a.t.a) ∧ w'.cell? ⟨b, off + m * 5 + 2, none⟩ = some (.int .u64 a.t.s) ∧ w'.cell? ⟨b, off + m * 5 + 3, none⟩ = some (.int .i64 a.t.p) ∧ w'.cell? ⟨b, off + m * 5 + 4, none⟩ = some (.int .u64 a.now)) := Lib.hid (fun w' h => by
        have h := HB1.out.trans h
        exact ⟨h.cell a0, h.cell a1, h.cell a2, h.cell a3, h.cell a4⟩)
      clear a0 a1 a2 a3 a4 hr ha
      obtain ⟨a0, a1, a2, a3, a4⟩ := HAC.out _ HI.out.bel
      have hpl : l.length ≤ 1024 := Nat.le_trans HI.out.qu.len HI.out.qu.hP
      have KQ := Lib.hid (fun w' (h : Qu f w' Q P l) => do_any f Q P l a w' h)
      have HL4 : Hid (Lies (fun k => f k ∨ k = b10) wr p (encs l)) := Lib.hid HI.out.lies
      have lt10 : b10 < wr.heap.size := (Array.getElem?_eq_some_iff.1 HI.out.m10).1
      have KD := Lib.hid (fun w' (hb : Bel wr w') => ddo_any (FootN (fun k => f k ∨ k = b10) wr.heap.size w'.heap.size) P p c l a w' (by omega) (fun j hj => by
        have hz := hb.size
        rcases hj with (e | e) | e
        · have := HI.out.qu.lt_ j e; omega
        · omega
        · omega) HI.out.hc (HL4.out.wide hb) HI.out.qu.places.2)
      have KS := Lib.hid (fun w' p1 p2 c1 c2 (h1 : Has w' p1 (stD l a)) (h2 : Has w' p2 (stD l a)) => sameT_any (stE P l a) (stT l a) p1 p2 c1 c2 (stD l a) w' (Nat.le_trans (stD_len l a) (by omega)) h1 h2)
      have hmN : (m : Int) < N := by omega
      generalize stE P l a = er at *
      generalize stT l a = tt at *
      generalize stD l a = dd at *
      generalize stL P l a = ll at *
      unfold akV tdV at *
      have HM9 : Hid (wr.heap[b10]? = some (.cells #[.int .i64 P, .slice p l.length c] 30 (0, 0))) := Lib.hid HI.out.m10
      obtain ⟨⟨y0, y1⟩, _⟩ := box2 HM9.out
      have BD : Hid (Bel wr wr.drew) := Lib.hid (Bel.refl wr).drew
      have BA : Hid (Bel wr (wr.alloc (.cells #[.int .i64 0, .slice none 0 0] 30)).drew) := Lib.hid ((Bel.refl wr).alloc _ _).drew
      have BF : Hid (Bel wr (wr.alloc (.cells #[.int .i64 0, .int .u64 0, .int .u64 0, .int .i64 0, .slice none 0 0] 37)).drew) := Lib.hid ((Bel.refl wr).alloc _ _).drew
      have BAF : Hid (Bel wr ((wr.alloc (.cells #[.int .i64 0, .slice none 0 0] 30)).alloc (.cells #[.int .i64 0, .int .u64 0, .int .u64 0, .int .i64 0, .slice none 0 0] 37)).drew) := Lib.hid (((Bel.refl wr).alloc _ _).alloc _ _).drew
      have BFA : Hid (Bel wr ((wr.alloc (.cells #[.int .i64 0, .int .u64 0, .int .u64 0, .int .i64 0, .slice none 0 0] 37)).alloc (.cells #[.int .i64 0, .slice none 0 0] 30)).drew) := Lib.hid (((Bel.refl wr).alloc _ _).alloc _ _).drew
      have C2 : Hid (∀ Wc w' b, Wc.heap[b]? = some (.cells #[.int .i64 0, .slice none 0 0] 30 (0, 0)) → Bel Wc w' → ((w'.cell? ⟨b, 0, none⟩ = some (.int .i64 0) ∧ w'.cell? ⟨b, 1, none⟩ = some (.slice none 0 0)) ∧ (w'.frozen? ⟨b, 0, none⟩ = false ∧ w'.frozen? ⟨b, 1, none⟩ = false)) ∧ b < w'.heap.size) := Lib.hid (fun Wc w' b hb ho =>
        ⟨box2 (ho.heap hb), (Array.getElem?_eq_some_iff.1 (ho.heap hb)).1⟩)
      have C5 : Hid (∀ Wc w' b, Wc.heap[b]? = some (.cells #[.int .i64 0, .int .u64 0, .int .u64 0, .int .i64 0, .slice none 0 0] 37 (0, 0)) → Bel Wc w' → ((w'.cell? ⟨b, 0, none⟩ = some (.int .i64 0) ∧ w'.cell? ⟨b, 1, none⟩ = some (.int .u64 0) ∧ w'.cell? ⟨b, 2, none⟩ = some (.int .u64 0) ∧ w'.cell? ⟨b, 3, none⟩ = some (.int .i64 0) ∧ w'.cell? ⟨b, 4, none⟩ = some (.slice none 0 0)) ∧ (w'.frozen? ⟨b, 0, none⟩ = false ∧ w'.frozen? ⟨b, 1, none⟩ = false ∧ w'.frozen? ⟨b, 2, none⟩ = false ∧ w'.frozen? ⟨b, 3, none⟩ = false ∧ w'.frozen? ⟨b, 4, none⟩ = false)) ∧ b < w'.heap.size) := Lib.hid (fun Wc w' b hb ho =>
        ⟨box5 (ho.heap hb), (Array.getElem?_eq_some_iff.1 (ho.heap hb)).1⟩)
      have NA : Hid ((wr.alloc (.cells #[.int .i64 0, .slice none 0 0] 30)).drew.heap[wr.heap.size]? = some (.cells #[.int .i64 0, .slice none 0 0] 30 (0, 0))) := Lib.hid (heap_alloc_new wr _)
      have NF : Hid ((wr.alloc (.cells #[.int .i64 0, .int .u64 0, .int .u64 0, .int .i64 0, .slice none 0 0] 37)).drew.heap[wr.heap.size]? = some (.cells #[.int .i64 0, .int .u64 0, .int .u64 0, .int .i64 0, .slice none 0 0] 37 (0, 0))) := Lib.hid (heap_alloc_new wr _)
      have NAF : Hid (((wr.alloc (.cells #[.int .i64 0, .slice none 0 0] 30)).alloc (.cells #[.int .i64 0, .int .u64 0, .int .u64 0, .int .i64 0, .slice none 0 0] 37)).drew.heap[wr.heap.size]? = some (.cells #[.int .i64 0, .slice none 0 0] 30 (0, 0)) ∧ ((wr.alloc (.cells #[.int .i64 0, .slice none 0 0] 30)).alloc (.cells #[.int .i64 0, .int .u64 0, .int .u64 0, .int .i64 0, .slice none 0 0] 37)).drew.heap[wr.heap.size + 1]? = some (.cells #[.int .i64 0, .int .u64 0, .int .u64 0, .int .i64 0, .slice none 0 0] 37 (0, 0))) := Lib.hid (by
        obtain ⟨W, eW, _, _, n0, n1⟩ := two_new wr #[.int .i64 0, .slice none 0 0] #[.int .i64 0, .int .u64 0, .int .u64 0, .int .i64 0, .slice none 0 0] 30 37
        rw [eW]
        exact ⟨n0, n1⟩)
      have NFA : Hid (((wr.alloc (.cells #[.int .i64 0, .int .u64 0, .int .u64 0, .int .i64 0, .slice none 0 0] 37)).alloc (.cells #[.int .i64 0, .slice none 0 0] 30)).drew.heap[wr.heap.size]? = some (.cells #[.int .i64 0, .int .u64 0, .int .u64 0, .int .i64 0, .slice none 0 0] 37 (0, 0)) ∧ ((wr.alloc (.cells #[.int .i64 0, .int .u64 0, .int .u64 0, .int .i64 0, .slice none 0 0] 37)).alloc (.cells #[.int .i64 0, .slice none 0 0] 30)).drew.heap[wr.heap.size + 1]? = some (.cells #[.int .i64 0, .slice none 0 0] 30 (0, 0))) := Lib.hid (by
        obtain ⟨W, eW, _, _, n0, n1⟩ := two_new wr #[.int .i64 0, .int .u64 0, .int .u64 0, .int .i64 0, .slice none 0 0] #[.int .i64 0, .slice none 0 0] 37 30
        rw [eW]
        exact ⟨n0, n1⟩)
      have hbW : b < wr.heap.size := World.block_lt_of_cell? wr _ a0
      go_upto_region 13 with (fail)
      go_cut [13, 14] from 55 to 80 (fun s13 s14 wx => ∃ b13 b14 p5 c5 q5 k5, s13 = .pointer (some ⟨b13, 0, none⟩) ∧ s14 = .pointer (some ⟨b14, 0, none⟩) ∧ Mid (fun k => f k ∨ k = b10) P ll dd er tt wr wx b13 b14 p5 c5 q5 k5)
      case first =>
        have HSX : Hid (∀ w', Bel wr w' → Bel wr w' ∧ (w'.cell? ⟨b10, 0, none⟩ = some (.int .i64 P) ∧ w'.cell? ⟨b10, 1, none⟩ = some (.slice p l.length c)) ∧ (w'.cell? ⟨b, off + m * 5, none⟩ = some (.int .i64 a.k) ∧ w'.cell? ⟨b, off + m * 5 + 1, none⟩ = some (.int .u64 a.t.a) ∧ w'.cell? ⟨b, off + m * 5 + 2, none⟩ = some (.int .u64 a.t.s) ∧ w'.cell? ⟨b, off + m * 5 + 3, none⟩ = some (.int .i64 a.t.p) ∧ w'.cell? ⟨b, off + m * 5 + 4, none⟩ = some (.int .u64 a.now))) := Lib.hid (fun w' h => ⟨h, (box2 (h.heap HM9.out)).1, HAC.out _ (HI.out.bel.trans h)⟩)
        clear HL HA HI HAC KS HM9 HL4 KQ
        go_wp2
        go_region_held3 (fun w' => Bel wr w' ∧ (w'.cell? ⟨b10, 0, none⟩ = some (.int .i64 P) ∧ w'.cell? ⟨b10, 1, none⟩ = some (.slice p l.length c)) ∧ (w'.cell? ⟨b, off + m * 5, none⟩ = some (.int .i64 a.k) ∧ w'.cell? ⟨b, off + m * 5 + 1, none⟩ = some (.int .u64 a.t.a) ∧ w'.cell? ⟨b, off + m * 5 + 2, none⟩ = some (.int .u64 a.t.s) ∧ w'.cell? ⟨b, off + m * 5 + 3, none⟩ = some (.int .i64 a.t.p) ∧ w'.cell? ⟨b, off + m * 5 + 4, none⟩ = some (.int .u64 a.now))) (first | (with_reducible exact HSX.out _ BD.out) | (with_reducible exact HSX.out _ BA.out) | (with_reducible exact HSX.out _ BF.out) | (with_reducible exact HSX.out _ BAF.out) | (with_reducible exact HSX.out _ BFA.out) | (refine HSX.out _ ?_; repeat' (first | (with_reducible exact hw5) | (with_reducible refine Bel.alloc ?_ _ _) | (with_reducible refine Bel.setCell ?_ (Nat.le_refl _) _) | (with_reducible refine Bel.setCell ?_ (Nat.le_succ _) _)))) (first | (go_at_call 11; ((with_reducible refine (KD.out _ BD.out).mono ?_); rintro e w5 ⟨p5, c5, q5, k5, rfl, hd5⟩; have hw5 := BD.out.trans hd5.doc.bel)) | (go_at_call 11; ((with_reducible refine (KD.out _ BA.out).mono ?_); rintro e w5 ⟨p5, c5, q5, k5, rfl, hd5⟩; have hw5 := BA.out.trans hd5.doc.bel; have hca := C2.out _ _ _ NA.out hd5.doc.bel; obtain ⟨⟨⟨v0, v1⟩, f0, f1⟩, hz5⟩ := hca)) | (go_at_call 11; ((with_reducible refine (KD.out _ BF.out).mono ?_); rintro e w5 ⟨p5, c5, q5, k5, rfl, hd5⟩; have hw5 := BF.out.trans hd5.doc.bel; have hca := C5.out _ _ _ NF.out hd5.doc.bel; obtain ⟨⟨⟨z0, z1, z2, z3, z4⟩, i0, i1, i2, i3, i4⟩, hz5⟩ := hca)) | (go_at_call 11; ((with_reducible refine (KD.out _ BAF.out).mono ?_); rintro e w5 ⟨p5, c5, q5, k5, rfl, hd5⟩; have hw5 := BAF.out.trans hd5.doc.bel; have hca := C2.out _ _ _ NAF.out.1 hd5.doc.bel; obtain ⟨⟨⟨v0, v1⟩, f0, f1⟩, hz5⟩ := hca; have hcb := C5.out _ _ _ NAF.out.2 hd5.doc.bel; obtain ⟨⟨⟨z0, z1, z2, z3, z4⟩, i0, i1, i2, i3, i4⟩, hz6⟩ := hcb)) | (go_at_call 11; ((with_reducible refine (KD.out _ BFA.out).mono ?_); rintro e w5 ⟨p5, c5, q5, k5, rfl, hd5⟩; have hw5 := BFA.out.trans hd5.doc.bel; have hca := C2.out _ _ _ NFA.out.2 hd5.doc.bel; obtain ⟨⟨⟨v0, v1⟩, f0, f1⟩, hz5⟩ := hca; have hcb := C5.out _ _ _ NFA.out.1 hd5.doc.bel; obtain ⟨⟨⟨z0, z1, z2, z3, z4⟩, i0, i1, i2, i3, i4⟩, hz6⟩ := hcb)))
        all_goals
          go_wp2_with fail
          go_meet
          case rel =>
            refine ⟨_, _, p5, c5, q5, k5, rfl, rfl, ?_⟩
            first
            | with_reducible exact mid1 BD.out hd5
            | with_reducible exact mid2 BD.out hd5
            | with_reducible exact mid3 BA.out hd5 NA.out (Nat.le_refl _)
            | with_reducible exact mid5 BF.out hd5 NF.out (Nat.le_refl _)
            | with_reducible exact mid4 BAF.out hd5 NAF.out.1 NAF.out.2 (Nat.le_refl _) (Nat.le_succ _) (Nat.ne_of_lt (Nat.lt_succ_self _))
            | with_reducible exact mid4 BFA.out hd5 NFA.out.2 NFA.out.1 (Nat.le_succ _) (Nat.le_refl _) (Nat.ne_of_gt (Nat.lt_succ_self _))
      case rest =>
        obtain ⟨b13, b14, p5, c5, q5, k5, rfl, rfl, hmid⟩ := hcut
        clear C2 C5 NA NF NAF NFA BD BA BF BAF BFA KD a0 a1 a2 a3 a4 y0 y1
        have hM := Lib.hid hmid
        clear hmid
        have HX : Hid (∀ w', Off f wc w' → (w'.cell? ⟨b, off + m * 5, none⟩ = some (.int .i64 a.k) ∧ w'.cell? ⟨b, off + m * 5 + 1, none⟩ = some (.int .u64 a.t.a) ∧ w'.cell? ⟨b, off + m * 5 + 2, none⟩ = some (.int .u64 a.t.s) ∧ w'.cell? ⟨b, off + m * 5 + 3, none⟩ = some (.int .i64 a.t.p) ∧ w'.cell? ⟨b, off + m * 5 + 4, none⟩ = some (.int .u64 a.now)) ∧ (w'.cell? ⟨b14, 0, none⟩ = some (.int .i64 er) ∧ w'.cell? ⟨b14, 1, none⟩ = some (.int .u64 tt.a) ∧ w'.cell? ⟨b14, 2, none⟩ = some (.int .u64 tt.s) ∧ w'.cell? ⟨b14, 3, none⟩ = some (.int .i64 tt.p) ∧ w'.cell? ⟨b14, 4, none⟩ = some (.slice q5 dd.length k5))) := Lib.hid (fun w' ho => by
          obtain ⟨s0, s1, s2, s3, s4⟩ := hM.out.c14
          have nb : ¬ f b14 := fun e => by have h1 := HI.out.qu.lt_ _ e; have h2 := hM.out.ge.2; omega
          exact ⟨HAC.out _ (Off.trans (HI.out.bel.trans hM.out.rest.1) ho (fun i e => .inr (HI.out.ge i e))), ho.cell nb s0, ho.cell nb s1, ho.cell nb s2, ho.cell nb s3, ho.cell nb s4⟩)
        have HDr : Hid (Off f wc wc.drew) := Lib.hid (Off.refl f wc).drew
        have HQc : Hid (Qu f wc.drew Q P l) := Lib.hid (HI.out.qu.bel hM.out.rest.1.drew)
        have HLq : Hid (Lies f wc q5 (encs dd)) := Lib.hid (hM.out.rest.2.2.2.mono (fun j _ e => HI.out.qu.lt_ j e))
        have KQ' := Lib.hid (KQ.out _ HQc.out)
        have KS' : Hid (∀ w6 pd cd, Off f wc.drew w6 → Has w6 pd dd → Calls Try.prog 12 #[.agg #[.int .i64 er, .int .u64 tt.a, .int .u64 tt.s, .int .i64 tt.p, .slice pd dd.length cd], .agg #[.int .i64 er, .int .u64 tt.a, .int .u64 tt.s, .int .i64 tt.p, .slice q5 dd.length k5]] w6 fun e w7 => e = .returned (.bool true) ∧ Bel w6 w7) := Lib.hid (fun w6 pd cd ho h1 => KS.out w6 pd q5 cd k5 h1 (HLq.out.off (HDr.out.then ho) (fun i e => e)).has)
        obtain ⟨⟨a0, a1, a2, a3, a4⟩, s0, s1, s2, s3, s4⟩ := HX.out _ (Off.refl f wc)
        clear KS KQ
        go_wp2
        go_region_held3 (fun w' => (w'.cell? ⟨b, off + m * 5, none⟩ = some (.int .i64 a.k) ∧ w'.cell? ⟨b, off + m * 5 + 1, none⟩ = some (.int .u64 a.t.a) ∧ w'.cell? ⟨b, off + m * 5 + 2, none⟩ = some (.int .u64 a.t.s) ∧ w'.cell? ⟨b, off + m * 5 + 3, none⟩ = some (.int .i64 a.t.p) ∧ w'.cell? ⟨b, off + m * 5 + 4, none⟩ = some (.int .u64 a.now)) ∧ (w'.cell? ⟨b14, 0, none⟩ = some (.int .i64 er) ∧ w'.cell? ⟨b14, 1, none⟩ = some (.int .u64 tt.a) ∧ w'.cell? ⟨b14, 2, none⟩ = some (.int .u64 tt.s) ∧ w'.cell? ⟨b14, 3, none⟩ = some (.int .i64 tt.p) ∧ w'.cell? ⟨b14, 4, none⟩ = some (.slice q5 dd.length k5)))
          (first | (with_reducible exact HX.out _ HDr.out) | (with_reducible exact HX.out _ (HDr.out.then hd6.off)) | exact HX.out _ ((HDr.out.then hd6.off).thenB hb7))
          (first | (go_at_call 13; (with_reducible refine (KQ'.out).mono ?_); rintro e w6 ⟨pd, cd, rfl, hd6⟩; have hhd : Has w6 pd dd := DidQ.has hd6) | (go_at_call 12; (with_reducible refine (KS'.out _ _ _ hd6.off hhd).mono ?_); rintro e w7 ⟨rfl, hb7⟩))
        have HT := Lib.hid (HI.out.next hM.out.rest.1 hM.out.rest.2.1 hM.out.rest.2.2.1 hd6 hb7)
        have HO7 : Hid (Off f wc w7) := Lib.hid ((HDr.out.then hd6.off).thenB hb7)
        have nb13 : ¬ f b13 := fun e => by have h1 := HI.out.qu.lt_ _ e; have h2 := hM.out.ge.1; omega
        have r0 := HO7.out.cell nb13 hM.out.c13.1
        have r1 := HO7.out.cell nb13 hM.out.c13.2
        have HM7 : Hid (w7.heap[b10]? = some (.cells #[.int .i64 P, .slice p l.length c] 30 (0, 0))) := Lib.hid ((HO7.out.block b10 (Nat.lt_of_lt_of_le lt10 hM.out.rest.1.size) HI.out.nb).trans (hM.out.rest.1.heap HI.out.m10))
        obtain ⟨⟨v0, v1⟩, g0, g1⟩ := box2 HM7.out
        clear hhd hd6 hb7 s0 s1 s2 s3 s4 a0 a1 a2 a3 a4 nb13 KS' KQ' HX
        go_wp2
        obtain ⟨f', hT⟩ := HT.out
        go_roundw
        case rel => exact ⟨m + 1, f', ll, p5, c5, by go_num, by omega, hT⟩
        case measure => simp [intOf]; omega
    · have hmN : ¬ (m : Int) < N := by omega
      have KA := Lib.hid (alike_any f Q P l p c k wr HI.out.qu (HI.out.lies.has) (Nat.le_trans HI.out.qu.len HI.out.qu.hP))
      obtain ⟨⟨y0, y1⟩, _⟩ := box2 HI.out.m10
      have HBr : Hid (Bel w wr) := Lib.hid (HB1.out.trans HI.out.bel)
      go_wp2_with fail
      with_reducible refine KA.out.mono ?_
      rintro e w3' ⟨rfl, hb⟩
      have HB3 := Lib.hid (HBr.out.trans hb)
      clear hb
      go_wp2
      go_ret
      exact ⟨rfl, HB3.out⟩
end Go.Proofs.Ytdlfppdekllloaa
