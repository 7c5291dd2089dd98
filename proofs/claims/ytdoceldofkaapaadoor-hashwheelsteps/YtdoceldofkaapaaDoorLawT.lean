/-
  The walk of HashwheelSteps.
-/
import Derived.Test.YtdoceldofkaapaaDoorAworks
import Derived.Test.YtdoceldofkaapaaDoorXak
import Derived.Test.YtdoceldofkaapaaDoorXaj
set_option linter.unusedVariables false
set_option linter.unusedSimpArgs false
namespace Go.Proofs.YtdoceldofkaapaaDoor.Ha
open Go.RowKit
set_option maxRecDepth 100000 in
theorem steps_long {Qu : QT} (C : Con Qu) (P bits s : Int) (pa : Option Addr) (N ca : Nat) (n : Int) (w : World) (hT : Bm.Tab w) (h : 60 < N ∨ n < 0 ∨ 300 < n) :
    Calls Tryd.prog 6 #[.int .i64 P, .int .i64 bits, .int .u64 s, .slice pa N ca, .int .i64 n] w fun e w' => e = .returned (.bool true) ∧ Bel w w' := by
  have K := Lib.hid (works_any C w hT)
  by_cases h0 : (60 : Int) < N
  · clear h
    go_enter Tryd.func6, Tryd.ntmps6
    go_wp2_with fail
    with_reducible refine K.out.mono ?_
    rintro e w1 ⟨rfl, hb⟩
    have HB := Lib.hid hb
    clear hb
    go_wp2
    go_ret
    exact ⟨rfl, HB.out⟩
  · by_cases h1 : n < 0
    · clear h
      go_enter Tryd.func6, Tryd.ntmps6
      go_wp2_with fail
      with_reducible refine K.out.mono ?_
      rintro e w1 ⟨rfl, hb⟩
      have HB := Lib.hid hb
      clear hb
      go_wp2
      go_ret
      exact ⟨rfl, HB.out⟩
    · have h2 : 300 < n := by omega
      clear h
      go_enter Tryd.func6, Tryd.ntmps6
      go_wp2_with fail
      with_reducible refine K.out.mono ?_
      rintro e w1 ⟨rfl, hb⟩
      have HB := Lib.hid hb
      clear hb
      go_wp2
      go_ret
      exact ⟨rfl, HB.out⟩
set_option maxRecDepth 100000 in
theorem steps_no {Qu : QT} (C : Con Qu) (P bits s : Int) (pa : Option Addr) (N ca : Nat) (n : Int) (w : World) (hT : Bm.Tab w) (hN : N ≤ 60) (hn : 0 ≤ n ∧ n ≤ 300) (h : ¬ ((0 ≤ P ∧ P ≤ 1024) ∧ 1 ≤ bits ∧ bits ≤ 6)) :
    Calls Tryd.prog 6 #[.int .i64 P, .int .i64 bits, .int .u64 s, .slice pa N ca, .int .i64 n] w fun e w' => e = .returned (.bool true) ∧ Bel w w' := by
  have K := Lib.hid (works_any C w hT)
  have KB := Lib.hid (fun w' => built_no C P bits s pa N ca w' h)
  have h0 : ¬ (60 : Int) < N := by omega
  have h1 : ¬ n < 0 := by omega
  have h2 : ¬ 300 < n := by omega
  clear h hN hn
  go_enter Tryd.func6, Tryd.ntmps6
  go_wp2_with fail
  with_reducible refine K.out.mono ?_
  rintro e w1 ⟨rfl, hb⟩
  have HB := Lib.hid hb
  clear hb
  go_wp2_with fail
  with_reducible refine (KB.out _).mono ?_
  rintro e w2 ⟨rfl, hb⟩
  have HB2 := Lib.hid (HB.out.trans hb)
  clear hb
  go_wp2_with fail
  with_reducible refine (KB.out _).mono ?_
  rintro e w3 ⟨rfl, hb⟩
  have HB3 := Lib.hid (HB2.out.trans hb)
  clear hb
  go_wp2
  go_ret
  exact ⟨rfl, HB3.out⟩
theorem el41 : Elem 36 41 3 24 := ⟨Tryd.underlying36, by obtain ⟨i, hi, h0, h1, h2⟩ := info_parts info41; exact ⟨i, _, hi, h0, h1, h2, rfl⟩, by decide, by decide⟩
theorem own_off0 {g : Nat → Prop} {w w' : World} {base : Nat} {v : Value} {l : List T} (h : OwnT w base v l) (hb : Off g w w') (hf : ∀ k, v.ownBlock = some k → ¬ g k) : OwnT w' base v l := by
  refine ⟨h.1, ?_⟩
  rcases h.2 with hn | ⟨b, cap, cur, rfl, hbb, hgg, rest⟩
  · exact .inl hn
  · refine .inr ⟨b, cap, cur, rfl, hbb, ?_, rest⟩
    rw [hb.block b (Array.getElem?_eq_some_iff.1 hgg).1 (hf b rfl)]
    exact hgg
/-- Two queues side by side, their bases known, and a list outside both. -/
structure Py (Qu : QT) (w : World) (Q O P b : Nat) (s1 s2 : Int) (l m : List T) (p : Option Addr) (d : List T) (wx : World) : Prop where
  ex : ∃ f g k1 k2, Qu f wx Q P b s1 k1 l ∧ Qu g wx O P b s2 k2 m ∧ (∀ k, f k → w.heap.size ≤ k) ∧ (∀ k, g k → w.heap.size ≤ k) ∧ (∀ k, f k → ¬ g k) ∧ Lies (fun j => f j ∨ g j) wx p (encs d)
  bel : Bel w wx
/-- And a row of the call's own outside both. -/
structure Pz (Qu : QT) (w : World) (Q O P b : Nat) (s1 s2 : Int) (l m : List T) (v : Value) (d : List T) (wx : World) : Prop where
  ex : ∃ f g k1 k2, Qu f wx Q P b s1 k1 l ∧ Qu g wx O P b s2 k2 m ∧ (∀ k, f k → w.heap.size ≤ k) ∧ (∀ k, g k → w.heap.size ≤ k) ∧ (∀ k, f k → ¬ g k) ∧ ∀ k, v.ownBlock = some k → w.heap.size ≤ k ∧ ¬ f k ∧ ¬ g k
  own : OwnT wx 0 v d
  bel : Bel w wx
section
variable {Qu : QT} {w : World} {Q O P b : Nat} {s1 s2 : Int} {l m d : List T} {p : Option Addr} {v : Value}
theorem py_new (C : Con Qu) {w1 w2 : World} (h : Bu Qu w w1 Q P b s1 l) (k : Bu Qu w1 w2 O P b s2 m) : Py Qu w Q O P b s1 s2 l m none [] w2 := by
  obtain ⟨⟨f, k1, h1, h2⟩, h3⟩ := h
  obtain ⟨⟨g, k2, k3, k4⟩, k5⟩ := k
  exact ⟨⟨f, g, k1, k2, C.bel h1 k5, k3, h2, fun j e => Nat.le_trans h3.size (k4 j e), fun j e e2 => by have := C.lt_ h1 j e; have := k4 j e2; omega, .inl rfl⟩, h3.trans k5⟩
theorem py_le (C : Con Qu) {w1 w2 : World} (h : Py Qu w Q O P b s1 s2 l m p d w1) (k : Bel w1 w2) : Py Qu w Q O P b s1 s2 l m p d w2 := by
  obtain ⟨⟨f, g, k1, k2, h1, h2, h3, h4, h5, h6⟩, h7⟩ := h
  exact ⟨⟨f, g, k1, k2, C.bel h1 k, C.bel h2 k, h3, h4, h5, h6.bel k⟩, h7.trans k⟩
theorem Py.has {w1 : World} (h : Py Qu w Q O P b s1 s2 l m p d w1) : Has w1 p d := by
  obtain ⟨⟨f, g, k1, k2, h1, h2, h3, h4, h5, h6⟩, h7⟩ := h
  exact h6.has
theorem Py.sw {w1 : World} (h : Py Qu w Q O P b s1 s2 l m p d w1) : Py Qu w O Q P b s2 s1 m l p d w1 := by
  obtain ⟨⟨f, g, k1, k2, h1, h2, h3, h4, h5, h6⟩, h7⟩ := h
  exact ⟨⟨g, f, k2, k1, h2, h1, h4, h3, fun k a b => h5 k b a, h6.mono (fun j _ e => e.symm)⟩, h7⟩
theorem py_base (C : Con Qu) {w1 : World} (h : Py Qu w Q O P b s1 s2 l m p d w1) : Calls Tryd.prog 10 #[.pointer (some ⟨Q, 0, none⟩)] w1 fun e w2 => e = .returned (.int .u64 s1) ∧ Bel w1 w2 := by
  obtain ⟨⟨f, g, k1, k2, h1, _⟩, _⟩ := h
  exact C.based w1 h1
theorem py_zp (C : Con Qu) {w1 : World} (h : Py Qu w Q O P b s1 s2 l m p d w1) : ∃ Z, w1.cell? ⟨Q, 0, none⟩ = some (.pointer (some ⟨Z, 0, none⟩)) := by
  obtain ⟨⟨f, g, k1, k2, h1, _⟩, _⟩ := h
  exact C.zp h1
theorem py_all (C : Con Qu) {Z : Nat} {w1 : World} (hz : w1.cell? ⟨Q, 0, none⟩ = some (.pointer (some ⟨Z, 0, none⟩))) (h : Py Qu w Q O P b s1 s2 l m p d w1) {n : Nat} (e : l.length = n) : Calls Tryd.prog 20 #[.pointer (some ⟨Z, 0, none⟩)] w1 fun e w2 => ∃ p c, e = .returned (.slice p n c) ∧ Has w2 p l ∧ Bel w1 w2 := by
  subst e
  obtain ⟨⟨f, g, k1, k2, h1, _⟩, _⟩ := h
  exact (C.all w1 h1 hz).mono fun e w2 ⟨p, c, he, _, hl, hb⟩ => ⟨p, c, he, hl.has, hb⟩
theorem py_due (C : Con Qu) (now : Int) (hn : Tk now) {w1 : World} (h : Py Qu w Q O P b s1 s2 l m p d w1) :
    Calls Tryd.prog 11 #[.pointer (some ⟨Q, 0, none⟩), .int .u64 now] w1 fun e w2 => ∃ q c, e = .returned (.slice q (due l now true).length c) ∧ Has w2 p d ∧ Py Qu w Q O P b (max s1 now) s2 (due l now false) m q (due l now true) w2 := by
  obtain ⟨⟨f, g, k1, k2, h1, h2, h3, h4, h5, h6⟩, h7⟩ := h
  have z2 := C.lt_ h2
  refine (C.due now w1 h1 hn).mono fun e w2 ⟨q, c, f', he, _, hl, hf, hq, ho⟩ => ⟨q, c, he, (h6.off ho (fun i e => .inl e)).has, ⟨f', g, _, k2, hq, C.off h2 ho (fun i a b => h5 i b a) (C.z h1), fun k e => ?_, h4, fun k e e2 => ?_, hl.mono (fun j _ e => ?_)⟩, Off.trans h7 ho (fun i e => .inr (h3 i e))⟩
  · rcases hf k e with e | e
    · exact h3 k e
    · exact Nat.le_trans h7.size e.1
  · rcases hf k e with e | e
    · exact h5 k e e2
    · have := z2 k e2; omega
  · rcases e with e | e
    · exact .inr e
    · exact .inl (z2 j e)
theorem py_duez (C : Con Qu) (now : Int) (hn : Tk now) {w1 : World} (h : Py Qu w Q O P b s1 s2 l m p d w1) :
    Calls Tryd.prog 11 #[.pointer (some ⟨Q, 0, none⟩), .int .u64 now] w1 fun e w2 => (∃ q c, e = .returned (.slice q (due l now true).length c) ∧ Has w2 p d ∧ Py Qu w Q O P b (max s1 now) s2 (due l now false) m q (due l now true) w2) ∧ (∀ v, w1.cell? ⟨Q, 0, none⟩ = some v → w2.cell? ⟨Q, 0, none⟩ = some v) ∧ ∀ v, w1.cell? ⟨O, 0, none⟩ = some v → w2.cell? ⟨O, 0, none⟩ = some v := by
  obtain ⟨⟨f, g, k1, k2, h1, h2, h3, h4, h5, h6⟩, h7⟩ := h
  have z2 := C.lt_ h2
  refine (C.duez now w1 h1 hn).mono fun e w2 ⟨⟨q, c, f', he, _, hl, hf, hq, ho⟩, hk⟩ => ⟨⟨q, c, he, (h6.off ho (fun i e => .inl e)).has, ⟨f', g, _, k2, hq, C.off h2 ho (fun i a b => h5 i b a) (C.z h1), fun k e => ?_, h4, fun k e e2 => ?_, hl.mono (fun j _ e => ?_)⟩, Off.trans h7 ho (fun i e => .inr (h3 i e))⟩, fun v hv => hk.trans hv, fun v hv => ho.cell (fun e => h5 O e (C.own h2)) hv⟩
  · rcases hf k e with e | e
    · exact h3 k e
    · exact Nat.le_trans h7.size e.1
  · rcases hf k e with e | e
    · exact h5 k e e2
    · have := z2 k e2; omega
  · rcases e with e | e
    · exact .inr e
    · exact .inl (z2 j e)
theorem pz_first (C : Con Qu) {w1 : World} (h : Py Qu w Q O P b s1 s2 l m p d w1) : Pz Qu w Q O P b s1 s2 l m (.slice (some ⟨w1.heap.size, 0, none⟩) 0 0) [] (w1.alloc (.cells #[] 41)) := by
  obtain ⟨⟨f, g, k1, k2, h1, h2, h3, h4, h5, h6⟩, h7⟩ := h
  have hb : Bel w1 (w1.alloc (.cells #[] 41)) := (Bel.refl _).alloc _ _
  refine ⟨⟨f, g, k1, k2, C.bel h1 hb, C.bel h2 hb, h3, h4, h5, fun k e => ?_⟩, OwnT.empty w1 0 (Nat.zero_le _), h7.trans hb⟩
  have : w1.heap.size = k := by simpa [Value.ownBlock] using e
  subst this
  exact ⟨h7.size, fun e => Nat.lt_irrefl _ (C.lt_ h1 _ e), fun e => Nat.lt_irrefl _ (C.lt_ h2 _ e)⟩
theorem pz_append (C : Con Qu) (hz : 0 < w.heap.size) {w1 w2 : World} {v' : Value} {xs : List T} (h : Pz Qu w Q O P b s1 s2 l m v d w1) (ho : w2.ownsRow 0 41 3 v' (d.length + xs.length) (encs d ++ encs xs)) (hg : w1.grownBy w2 v.ownBlock) (hn : ∀ k, v'.ownBlock = some k → v.ownBlock = some k ∨ w1.heap.size ≤ k) : Pz Qu w Q O P b s1 s2 l m v' (d ++ xs) w2 := by
  obtain ⟨⟨f, g, k1, k2, h1, h2, h3, h4, h5, h6⟩, h7, h8⟩ := h
  have o1 : Off (fun k => v.ownBlock = some k) w1 w2 := Off.grown (Off.refl _ _) hg (fun k e => .inl e)
  refine ⟨⟨f, g, k1, k2, C.off h1 o1 (fun i e e2 => (h6 i e2).2.1 e) (fun e => by have h9 := (h6 0 e).1; have := h8.size; have h10 := C.pos h1; omega), C.off h2 o1 (fun i e e2 => (h6 i e2).2.2 e) (fun e => by have h9 := (h6 0 e).1; have := h8.size; have h10 := C.pos h1; omega), h3, h4, h5, fun k e => ?_⟩, ?_, Off.trans h8 o1 (fun i e => .inr (h6 i e).1)⟩
  · rcases hn k e with e | e
    · exact h6 k e
    · exact ⟨Nat.le_trans h8.size e, fun e2 => by have := C.lt_ h1 _ e2; omega, fun e2 => by have := C.lt_ h2 _ e2; omega⟩
  · unfold OwnT
    rw [List.length_append, encs_append]
    exact ho
theorem pz_due (C : Con Qu) (now : Int) (hn : Tk now) {w1 : World} (h : Pz Qu w Q O P b s1 s2 l m v d w1) :
    Calls Tryd.prog 11 #[.pointer (some ⟨Q, 0, none⟩), .int .u64 now] w1 fun e w2 => ∃ q c, e = .returned (.slice q (due l now true).length c) ∧ Has w2 q (due l now true) ∧ Pz Qu w Q O P b (max s1 now) s2 (due l now false) m v d w2 := by
  obtain ⟨⟨f, g, k1, k2, h1, h2, h3, h4, h5, h6⟩, h7, h8⟩ := h
  have z2 := C.lt_ h2
  refine (C.due now w1 h1 hn).mono fun e w2 ⟨q, c, f', he, _, hl, hf, hq, ho⟩ => ⟨q, c, he, hl.has, ⟨f', g, _, k2, hq, C.off h2 ho (fun i a b => h5 i b a) (C.z h1), fun k e => ?_, h4, fun k e e2 => ?_, fun k e => ⟨(h6 k e).1, fun e2 => ?_, (h6 k e).2.2⟩⟩, own_off0 h7 ho (fun k e => (h6 k e).2.1), Off.trans h8 ho (fun i e => .inr (h3 i e))⟩
  · rcases hf k e with e | e
    · exact h3 k e
    · exact Nat.le_trans h8.size e.1
  · rcases hf k e with e | e
    · exact h5 k e e2
    · have := z2 k e2; omega
  · rcases hf k e2 with e3 | e3
    · exact (h6 k e).2.1 e3
    · have := (h7.lt k e).2; omega
theorem pz_py {w1 : World} (h : Pz Qu w Q O P b s1 s2 l m v d w1) : ∃ p c, v = .slice p d.length c ∧ Py Qu w Q O P b s1 s2 l m p d w1 := by
  obtain ⟨⟨f, g, k1, k2, h1, h2, h3, h4, h5, h6⟩, h7, h8⟩ := h
  obtain ⟨p, cap, e, _, _, h9⟩ := own_slice h7 (fun j => f j ∨ g j) (fun k hk => by
    rintro (e | e)
    · exact (h6 k hk).2.1 e
    · exact (h6 k hk).2.2 e)
  exact ⟨p, cap, e, ⟨f, g, k1, k2, h1, h2, h3, h4, h5, h9⟩, h8⟩
theorem py_so (C : Con Qu) {w1 : World} (h : Py Qu w Q O P b s1 s2 l m p d w1) : So l ∧ l.length ≤ 1024 ∧ Tk s1 := by
  obtain ⟨⟨f, g, k1, k2, h1, _⟩, _⟩ := h
  exact ⟨C.so h1, Nat.le_trans (C.len h1) (C.hP h1), C.base h1⟩
end
set_option maxHeartbeats 8000000 in
set_option maxRecDepth 100000 in
theorem steps_yes {Qu : QT} (C : Con Qu) (P b : Nat) (s : Int) (pa : Option Addr) (N ca : Nat) (al : List Ak) (n : Nat) (w : World) (hT : Bm.Tab w) (hN : N ≤ 60) (hn : n ≤ 300) (hl : al.length = N) (hK : Aks al) (hA : Lies nof w pa (encK al)) (hP : P ≤ 1024) (hb6 : 1 ≤ b ∧ b ≤ 6) (hs : Tk s) :
    Calls Tryd.prog 6 #[.int .i64 P, .int .i64 b, .int .u64 s, .slice pa N ca, .int .i64 n] w fun e w' => e = .returned (.bool true) ∧ Bel w w' := by
  have K := Lib.hid (works_any C w hT)
  have hz : 0 < w.heap.size := World.block_lt_of_cell? w ⟨0, 0, none⟩ (hT 0 (by decide))
  have KB := Lib.hid (fun w' (h : Bel w w') => built_yes C P b s pa N ca al w' hP hb6 hs hl hN hK (hA.bel h) (tab_bel hT h))
  have h0 : ¬ (60 : Int) < N := by omega
  have h1 : ¬ (n : Int) < 0 := by omega
  have h2 : ¬ 300 < (n : Int) := by omega
  clear hN hA hl hK hP hs hb6
  generalize pla P al = L at *
  generalize pba s al = sB at *
  go_enter Tryd.func6, Tryd.ntmps6
  go_wp2_with fail
  with_reducible refine K.out.mono ?_
  rintro e w1 ⟨rfl, hb⟩
  have HB1 := Lib.hid hb
  clear hb K
  go_wp2_with fail
  with_reducible refine (KB.out _ HB1.out).mono ?_
  rintro e w2 ⟨Q, rfl, hbu⟩
  have KB2 := Lib.hid (KB.out w2 (HB1.out.trans hbu.bel))
  have HBU := Lib.hid hbu
  clear hbu KB
  go_wp2_with fail
  with_reducible refine KB2.out.mono ?_
  rintro e w3 ⟨O, rfl, hbu2⟩
  have Y3 := Lib.hid (py_new C HBU.out hbu2)
  clear hbu2 KB2 HBU
  obtain ⟨hso, hlen, htk⟩ := py_so C Y3.out
  have HSo := Lib.hid hso
  have HTk := Lib.hid htk
  unfold Tk at htk
  clear hso
  go_wp2_with fail
  with_reducible refine (py_base C Y3.out).mono ?_
  rintro e w4 ⟨rfl, hb⟩
  have Y4 := Lib.hid (py_le C Y3.out hb)
  clear hb Y3
  have g1 : IntKind.u64.wrap (n : Int) = (n : Int) := by rw [IntKind.wrap_u64]; omega
  have g2 : IntKind.u64.wrap (18446744073709551615 - (n : Int)) = 18446744073709551615 - (n : Int) := by rw [IntKind.wrap_u64]; omega
  by_cases hbig : 18446744073709551615 - (n : Int) < sB
  · have HE := Lib.hid (HB1.out.trans Y4.out.bel)
    clear Y4
    go_wp2
    go_ret
    exact ⟨rfl, HE.out⟩
  · have KD := Lib.hid (py_due C sB HTk.out Y4.out)
    have hmx : max sB sB = sB := by omega
    rw [hmx] at KD
    clear Y4 hmx
    go_wp2_with fail
    with_reducible refine KD.out.mono ?_
    rintro e w5 ⟨p5, c5, rfl, _, hy⟩
    have Y5 : Hid (Py Qu w1 Q O P b (sB + ((0 : Nat) : Int)) sB (due L (sB + ((0 : Nat) : Int)) false) L p5 (due L (sB + ((0 : Nat) : Int)) true) w5) := Lib.hid (by
      rw [show sB + ((0 : Nat) : Int) = sB from by omega]
      exact hy)
    rw [show due L sB true = due L (sB + ((0 : Nat) : Int)) true from by rw [show sB + ((0 : Nat) : Int) = sB from by omega]]
    clear hy KD
    go_wp2
    go_loopw [17, 18] (fun v i wr => ∃ (j : Nat) (p : Option Addr) (c : Nat), v = .slice p (due L (sB + (j : Int)) true).length c ∧ i = .int .i64 ((j : Int) + 1) ∧ j ≤ n ∧ Py Qu w1 Q O P b (sB + (j : Int)) sB (due L (sB + (j : Int)) false) L p (due L (sB + (j : Int)) true) wr) (fun _ i _ => n + 1 - (intOf i).toNat)
    case atStart => exact ⟨0, p5, c5, by rw [show sB + ((0 : Nat) : Int) = sB from by omega], by simp, Nat.zero_le _, Y5.out⟩
    case round =>
      clear Y5
      obtain ⟨j, p, c, rfl, rfl, hj, hy⟩ := hrel
      have HY := Lib.hid hy
      clear hy
      have hd1 : (due L (sB + (j : Int)) true).length ≤ 1024 := Nat.le_trans (due_len _ _ _) hlen
      by_cases h : j < n
      · have hd2 : (due L (sB + ((j + 1 : Nat) : Int)) true).length ≤ 1024 := Nat.le_trans (due_len _ _ _) hlen
        have HM : Hid (due L (sB + (j : Int)) true ++ due (due L (sB + (j : Int)) false) (sB + ((j + 1 : Nat) : Int)) true = due L (sB + ((j + 1 : Nat) : Int)) true) := Lib.hid (due_more HSo.out (by omega))
        have HF : Hid (due (due L (sB + (j : Int)) false) (sB + ((j + 1 : Nat) : Int)) false = due L (sB + ((j + 1 : Nat) : Int)) false) := Lib.hid (due_far (by omega))
        have HMx : Hid (max (sB + (j : Int)) (sB + ((j + 1 : Nat) : Int)) = sB + ((j + 1 : Nat) : Int)) := Lib.hid (by omega)
        have g3 : IntKind.u64.wrap ((j : Int) + 1) = (j : Int) + 1 := by rw [IntKind.wrap_u64]; omega
        have g4 : IntKind.u64.wrap (sB + ((j : Int) + 1)) = sB + ((j + 1 : Nat) : Int) := by rw [IntKind.wrap_u64]; omega
        have HTn : Hid (Tk (sB + ((j + 1 : Nat) : Int))) := Lib.hid ⟨by omega, by omega⟩
        have b1 : (j : Int) + 1 ≤ (n : Int) := by omega
        have Z0 := Lib.hid (pz_first C HY.out)
        have HH : Hid (Has (wr.alloc (.cells #[] 41)) p (due L (sB + (j : Int)) true)) := Lib.hid (HY.out.has.bel ((Bel.refl _).alloc _ _))
        have hd3 : (due (due L (sB + (j : Int)) false) (sB + ((j + 1 : Nat) : Int)) true).length ≤ 1024 := Nat.le_trans (due_len _ _ _) (Nat.le_trans (due_len _ _ _) hlen)
        obtain ⟨tn, etn⟩ : ∃ x, sB + ((j + 1 : Nat) : Int) = x := ⟨_, rfl⟩
        rw [etn] at g4 HM HF HMx HTn hd3
        have HTE := Lib.hid etn
        clear etn hd2 HY
        generalize due L (sB + (j : Int)) true = d at *
        generalize due L (sB + (j : Int)) false = r at *
        go_wp2_with (at_builtin; refine wpList_append_gen el41 rfl (.tmp 82) (.tmp 83) rfl _ ([] : List T).length (encs []) rfl Z0.out.own p d.length c (encs d) rfl (encs_len d) HH.out.lies (encs_one' d) (by simp; omega) ?_)
        intro v1 w6 hown hgrow hnew
        have Z1 := Lib.hid (pz_append C (Nat.lt_of_lt_of_le hz HB1.out.size) (xs := d) Z0.out (by simpa using hown) hgrow (fun k e => by have := hnew k e; simpa using this))
        rw [List.nil_append] at Z1
        clear hown hgrow hnew Z0 HH
        have KD := Lib.hid (pz_due C tn HTn.out Z1.out)
        obtain ⟨nr, enr⟩ : ∃ x, (due r tn true).length = x := ⟨_, rfl⟩
        rw [enr] at KD hd3
        rw [HF.out, HMx.out] at KD
        go_wp2_with fail
        with_reducible refine KD.out.mono ?_
        rintro e w7 ⟨q7, c7, rfl, hh7, hz⟩
        have Z2 := Lib.hid hz
        have HH7 := Lib.hid hh7
        clear hz hh7 KD Z1
        have HNR := Lib.hid enr
        clear enr
        go_wp2_with (at_builtin; refine wpList_append_gen el41 rfl (.tmp 84) (.tmp 90) rfl _ d.length (encs d) rfl Z2.out.own q7 nr c7 (encs (due r tn true)) rfl (by rw [encs_len, HNR.out]) HH7.out.lies (encs_one' _) (by omega) ?_)
        intro v3 w8 hown hgrow hnew
        rw [← HNR.out] at hown
        have Z3 := Lib.hid (pz_append C (Nat.lt_of_lt_of_le hz HB1.out.size) (xs := due r tn true) Z2.out hown hgrow hnew)
        rw [HM.out] at Z3
        clear hown hgrow hnew Z2 HH7
        obtain ⟨p9, c9, rfl, hy9⟩ := pz_py Z3.out
        have HY9 := Lib.hid hy9
        clear hy9 Z3
        go_wp2
        go_roundw
        case rel =>
          refine ⟨j + 1, p9, c9, by rw [HTE.out], by go_num, by omega, ?_⟩
          rw [HTE.out]
          exact HY9.out
        case measure => simp [intOf]; omega
      · obtain rfl : j = n := by omega
        have b1 : ¬ (j : Int) + 1 ≤ (j : Int) := by omega
        have g4w : IntKind.u64.wrap (sB + (j : Int)) = sB + (j : Int) := by rw [IntKind.wrap_u64]; omega
        have HTn : Hid (Tk (sB + (j : Int))) := Lib.hid ⟨by omega, by omega⟩
        have hmx : max sB (sB + (j : Int)) = sB + (j : Int) := by omega
        obtain ⟨Zq, hzq⟩ := py_zp C HY.out
        obtain ⟨Zo, hzo⟩ := py_zp C HY.out.sw
        have HZ0 : Hid (∀ w', Bel wr w' → w'.cell? ⟨Q, 0, none⟩ = some (.pointer (some ⟨Zq, 0, none⟩)) ∧ w'.cell? ⟨O, 0, none⟩ = some (.pointer (some ⟨Zo, 0, none⟩))) := Lib.hid (fun w' hb => ⟨hb.cell hzq, hb.cell hzo⟩)
        have HDr : Hid (Bel wr wr.drew) := Lib.hid (Bel.refl wr).drew
        have KD := Lib.hid (py_duez C (sB + (j : Int)) HTn.out (py_le C HY.out.sw (Bel.refl wr).drew))
        rw [hmx] at KD
        obtain ⟨tn, etn⟩ : ∃ x, sB + (j : Int) = x := ⟨_, rfl⟩
        have g4 : IntKind.u64.wrap (sB + (j : Int)) = tn := by rw [g4w, etn]
        rw [etn] at KD hd1
        clear g4w
        have hdr : (due L tn false).length ≤ 1024 := Nat.le_trans (due_len _ _ _) hlen
        have e9 : due L (sB + (j : Int)) true = due L tn true := by rw [etn]
        rw [e9]
        clear HY HTn hmx etn e9
        generalize due L tn true = d at *
        generalize due L tn false = r at *
        obtain ⟨nd, end_⟩ : ∃ x, d.length = x := ⟨_, rfl⟩
        obtain ⟨nr, enr⟩ : ∃ x, r.length = x := ⟨_, rfl⟩
        have KS : Hid (∀ p q c d2 w', Has w' p d → Has w' q d → Calls Tryd.prog 16 #[.slice p nd c, .slice q nd d2] w' fun e w2 => e = .returned (.bool true) ∧ Bel w' w2) := Lib.hid (fun p q c d2 w' h1 h2 => by
          have k := same_yes p q c d2 d w' (by omega) h1 h2
          rw [end_] at k
          exact k)
        have KR : Hid (∀ p q c d2 w', Has w' p r → Has w' q r → Calls Tryd.prog 16 #[.slice p nr c, .slice q nr d2] w' fun e w2 => e = .returned (.bool true) ∧ Bel w' w2) := Lib.hid (fun p q c d2 w' h1 h2 => by
          have k := same_yes p q c d2 r w' (by omega) h1 h2
          rw [enr] at k
          exact k)
        rw [end_] at KD ⊢
        clear hd1 end_
        have KAq := Lib.hid (fun w' q Z (hz : w'.cell? ⟨Q, 0, none⟩ = some (.pointer (some ⟨Z, 0, none⟩))) (h : Py Qu w1 O Q P b tn tn r r q d w') => py_all C hz h.sw enr)
        have KAo := Lib.hid (fun w' q Z (hz : w'.cell? ⟨O, 0, none⟩ = some (.pointer (some ⟨Z, 0, none⟩))) (h : Py Qu w1 O Q P b tn tn r r q d w') => py_all C hz h enr)
        clear enr
        go_wp2
        go_region_held3 (fun w' => w'.cell? ⟨Q, 0, none⟩ = some (.pointer (some ⟨Zq, 0, none⟩)) ∧ w'.cell? ⟨O, 0, none⟩ = some (.pointer (some ⟨Zo, 0, none⟩)))
          (first | (with_reducible exact HZ0.out _ HDr.out) | (with_reducible exact ⟨hz6.1, hz6.2⟩) | exact ⟨hb7.cell hz6.1, hb7.cell hz6.2⟩ | exact ⟨hb8.cell (hb7.cell hz6.1), hb8.cell (hb7.cell hz6.2)⟩ | exact ⟨hb9.cell (hb8.cell (hb7.cell hz6.1)), hb9.cell (hb8.cell (hb7.cell hz6.2))⟩ | exact ⟨hb10.cell (hb9.cell (hb8.cell (hb7.cell hz6.1))), hb10.cell (hb9.cell (hb8.cell (hb7.cell hz6.2)))⟩)
          (first
            | (go_at_call 11; (with_reducible refine KD.out.mono ?_); rintro e w6 ⟨⟨q6, c6, rfl, hh6, hy⟩, hk1, hk2⟩; have hz6 := And.intro (hk2 _ (HZ0.out _ HDr.out).1) (hk1 _ (HZ0.out _ HDr.out).2))
            | (go_at_call 16; (with_reducible refine (KS.out _ _ _ _ _ hh6 hy.has).mono ?_); rintro e w7 ⟨rfl, hb7⟩; have Y7 := Lib.hid (py_le C hy hb7); have hzq7 := hb7.cell hz6.1; have hzo7 := hb7.cell hz6.2)
            | (go_at_call 20; (with_reducible refine (KAq.out _ _ _ hzq7 Y7.out).mono ?_); rintro e w8 ⟨q8, c8, rfl, hh8, hb8⟩; have Y8 := Lib.hid (py_le C Y7.out hb8); have hzq8 := hb8.cell hzq7; have hzo8 := hb8.cell hzo7)
            | (go_at_call 20; (with_reducible refine (KAo.out _ _ _ hzo7 Y7.out).mono ?_); rintro e w8 ⟨q9, c9, rfl, hh9, hb8⟩; have Y8 := Lib.hid (py_le C Y7.out hb8); have hzq8 := hb8.cell hzq7; have hzo8 := hb8.cell hzo7)
            | (go_at_call 20; (with_reducible refine (KAo.out _ _ _ hzo8 Y8.out).mono ?_); rintro e w9 ⟨q9, c9, rfl, hx9, hb9⟩; have hx8 := hh8.bel hb9; have Y9 := Lib.hid (py_le C Y8.out hb9))
            | (go_at_call 20; (with_reducible refine (KAq.out _ _ _ hzq8 Y8.out).mono ?_); rintro e w9 ⟨q8, c8, rfl, hx8, hb9⟩; have hx9 := hh9.bel hb9; have Y9 := Lib.hid (py_le C Y8.out hb9))
            | (go_at_call 16; (with_reducible refine (KR.out _ _ _ _ _ hx8 hx9).mono ?_); rintro e w10 ⟨rfl, hb10⟩))
        all_goals
          have Y10 := Lib.hid (py_le C Y9.out hb10)
          clear hz6 hk1 hk2 hzq7 hzo7 hzq8 hzo8 hb7 hb8 hb9 hb10 hh6 hy hx8 hx9 Y7 Y8 Y9 KAq KAo KD KS KR
          go_wp2_with fail
          with_reducible refine (py_base C Y10.out.sw).mono ?_
          rintro e w11 ⟨rfl, hb⟩
          have Y11 := Lib.hid (py_le C Y10.out hb)
          clear hb Y10
          go_wp2_with fail
          with_reducible refine (py_base C Y11.out).mono ?_
          rintro e w12 ⟨rfl, hb⟩
          have HE := Lib.hid (HB1.out.trans (Y11.out.bel.trans hb))
          clear hb Y11
          go_wp2
          go_ret
          exact ⟨rfl, HE.out⟩
end Go.Proofs.YtdoceldofkaapaaDoor.Ha
