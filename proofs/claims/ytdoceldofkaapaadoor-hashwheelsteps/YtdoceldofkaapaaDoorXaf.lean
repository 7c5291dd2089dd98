/-
  Contract of the law's built: a queue behind acts.
  What came in, opened: a list of acts, a list of timers, a timer by value, bytes.
-/
import Derived.Test.YtdoceldofkaapaaDoorAdo
import Derived.WalkKit
import Derived.ProofKit
import Derived.OpenShut
import Derived.Below
import Derived.Carry
import Derived.Deep.Slices
import Derived.Deep.Strs
import Derived.Lib.SmallJoins
set_option linter.unusedVariables false
set_option linter.unusedSimpArgs false
set_option linter.unusedSectionVars false
namespace Go.Proofs.YtdoceldofkaapaaDoor.Ha
open Go.RowKit
/-- The list and the base behind acts. -/
def pla (P : Nat) (al : List Ak) : List T := al.foldl (fun l a => stL P l a) []
def pba (s : Int) (al : List Ak) : Int := al.foldl (fun s a => stB s a) s
theorem pla_next (P : Nat) (al : List Ak) (m : Nat) (a : Ak) (h : al[m]? = some a) : pla P (al.take (m + 1)) = stL P (pla P (al.take m)) a := by
  obtain ⟨h1, h2⟩ := List.getElem?_eq_some_iff.1 h
  unfold pla
  rw [List.take_succ_eq_append_getElem h1, List.foldl_append, h2]
  rfl
theorem pba_next (s : Int) (al : List Ak) (m : Nat) (a : Ak) (h : al[m]? = some a) : pba s (al.take (m + 1)) = stB (pba s (al.take m)) a := by
  obtain ⟨h1, h2⟩ := List.getElem?_eq_some_iff.1 h
  unfold pba
  rw [List.take_succ_eq_append_getElem h1, List.foldl_append, h2]
  rfl
/-- Acts whose ticks are ticks. -/
def Aks (al : List Ak) : Prop := ∀ a ∈ al, Tk a.t.a ∧ Tk a.now
theorem Aks.at_ {al : List Ak} (h : Aks al) {m : Nat} {a : Ak} (ha : al[m]? = some a) : Tk a.t.a ∧ Tk a.now := h a (List.mem_of_getElem? ha)
theorem built_no {Qu : QT} (C : Con Qu) (P b s : Int) (pa : Option Addr) (N ca : Nat) (w : World) (h : ¬ ((0 ≤ P ∧ P ≤ 1024) ∧ 1 ≤ b ∧ b ≤ 6)) :
    Calls Tryd.prog 8 #[.int .i64 P, .int .i64 b, .int .u64 s, .slice pa N ca] w fun e w' => e = .returned (.tuple #[.pointer none, .int .i64 1]) ∧ Bel w w' := by
  have K := Lib.hid (C.qnew_no P b s w h)
  clear h
  by_cases h0 : (0 : Int) < N
  all_goals
    go_enter Tryd.func8, Tryd.ntmps8
    go_wp2_with fail
    with_reducible refine K.out.mono ?_
    rintro e w1 ⟨rfl, hb⟩
    have HB := Lib.hid hb
    clear hb K
    go_wp2
    go_loopw [12] (fun v wr => v = .int .i64 0 ∧ wr = w1) (fun _ _ => 0)
    case atStart => exact ⟨rfl, by trivial⟩
    case round =>
      obtain ⟨rfl, rfl⟩ := hrel
      go_wp2
      exact bodyPost_ret (v := .tuple #[.pointer none, .int .i64 1]) (by simp [results, Tryd.results8, go_sem]) rfl ⟨rfl, HB.out⟩
/-- A queue of new blocks. -/
structure Bu (Qu : QT) (w w' : World) (Q P b : Nat) (s : Int) (l : List T) : Prop where
  ex : ∃ f kk, Qu f w' Q P b s kk l ∧ ∀ k, f k → w.heap.size ≤ k
  bel : Bel w w'
theorem bu_do {Qu : QT} (C : Con Qu) {w wr : World} {Q P b : Nat} {s : Int} {l : List T} (h : Bu Qu w wr Q P b s l) (a : Ak) (ht : Tk a.t.a) (hn : Tk a.now) :
    Calls Tryd.prog 18 #[.pointer (some ⟨Q, 0, none⟩), akV a.k a.t a.now] wr fun e w' => ∃ v, e = .returned v ∧ Bu Qu w w' Q P b (stB s a) (stL P l a) := by
  obtain ⟨⟨f, kk, h1, h2⟩, h3⟩ := h
  refine (do_any C f Q P b s kk l a wr h1 ht hn).mono fun e w' ⟨p, c, he, ⟨f', hf', hq', _⟩, ho⟩ => ⟨_, he, ⟨f', _, hq', fun k e => ?_⟩, Off.trans h3 ho (fun i e => .inr (h2 i e))⟩
  rcases hf' k e with e | e
  · exact h2 k e
  · exact Nat.le_trans h3.size e.1
set_option maxHeartbeats 1000000 in
theorem built_yes {Qu : QT} (C : Con Qu) (P b : Nat) (s : Int) (pa : Option Addr) (N ca : Nat) (al : List Ak) (w : World) (hP : P ≤ 1024) (hb : 1 ≤ b ∧ b ≤ 6) (hs : Tk s) (hl : al.length = N) (hN : N ≤ 60) (hK : Aks al) (hA : Lies nof w pa (encK al)) (hT : Bm.Tab w) :
    Calls Tryd.prog 8 #[.int .i64 P, .int .i64 b, .int .u64 s, .slice pa N ca] w fun e w' => ∃ Q, e = .returned (.tuple #[.pointer (some ⟨Q, 0, none⟩), .int .i64 0]) ∧ Bu Qu w w' Q P b (pba s al) (pla P al) := by
  have K := Lib.hid (C.qnew_yes P b s w hP hb hs hT)
  have HA := Lib.hid hA
  have HL := Lib.hid hl
  have HK := Lib.hid hK
  clear hA hl hK
  go_enter Tryd.func8, Tryd.ntmps8
  go_wp2_with fail
  with_reducible refine K.out.mono ?_
  rintro e w1 ⟨Q, f, rfl, hq, hf, hbb⟩
  have B0 : Hid (Bu Qu w w1 Q P b (pba s (al.take 0)) (pla P (al.take 0))) := Lib.hid ⟨⟨f, 0, hq, hf⟩, hbb⟩
  clear hq hf hbb K
  go_wp2
  go_loopw [12] (fun v wr => ∃ i : Nat, v = .int .i64 i ∧ i ≤ N ∧ Bu Qu w wr Q P b (pba s (al.take i)) (pla P (al.take i))) (fun v _ => N - (intOf v).toNat)
  case atStart => exact ⟨0, rfl, by omega, B0.out⟩
  case round =>
    obtain ⟨i, rfl, hi, hbu⟩ := hrel
    have HBU := Lib.hid hbu
    clear hbu B0
    by_cases h : i < N
    · obtain ⟨b1, off, rfl, _, hr⟩ := lies_ak HA.out (i := i) (by rw [HL.out]; exact h)
      obtain ⟨a, ha⟩ : ∃ a, al[i]? = some a := ⟨al[i]'(by rw [HL.out]; exact h), List.getElem?_eq_getElem _⟩
      have cx := row_ak (hr.off (f := nof) (fun e => e) HBU.out.bel) ha
      obtain ⟨x0, x1, x2, x3, x4⟩ := cx
      have KD := Lib.hid (bu_do C HBU.out a (HK.out.at_ ha).1 (HK.out.at_ ha).2)
      rw [← pla_next P al i a ha, ← pba_next s al i a ha] at KD
      unfold akV at KD
      have b2 : (i : Int) < (N : Int) := by omega
      clear hr ha
      generalize a.k = ak at *
      generalize a.t.a = aa at *
      generalize a.t.s = asq at *
      generalize a.t.p = ap at *
      generalize a.now = an at *
      go_wp2_with fail
      with_reducible refine (KD.out).mono ?_
      rintro e w2 ⟨v, rfl, hbu⟩
      have HBU2 := Lib.hid hbu
      clear hbu x0 x1 x2 x3 x4 KD
      go_wp2
      go_roundw
      case rel => exact ⟨i + 1, by go_num, by omega, HBU2.out⟩
      case measure => simp [intOf]; omega
    · have HE : Hid (Bu Qu w wr Q P b (pba s al) (pla P al)) := Lib.hid (by
        have := HBU.out
        rw [List.take_of_length_le (by rw [HL.out]; omega)] at this
        exact this)
      have b2 : ¬ (i : Int) < (N : Int) := by omega
      go_wp2
      exact bodyPost_ret (v := .tuple #[.pointer (some ⟨Q, 0, none⟩), .int .i64 0]) (by simp [results, Tryd.results8, go_sem]) rfl ⟨Q, rfl, HE.out⟩
section
variable {Qu : QT} (C : Con Qu) {w wr : World} {Q P b : Nat} {s : Int} {l : List T}
include C
theorem bu_le (h : Bu Qu w wr Q P b s l) {w2 : World} (k : Bel wr w2) : Bu Qu w w2 Q P b s l := by
  obtain ⟨⟨f, kk, h1, h2⟩, h3⟩ := h
  exact ⟨⟨f, kk, C.bel h1 k, h2⟩, h3.trans k⟩
theorem bu_len (h : Bu Qu w wr Q P b s l) : l.length ≤ 1024 := by
  obtain ⟨⟨f, kk, h1, h2⟩, h3⟩ := h
  exact Nat.le_trans (C.len h1) (C.hP h1)
theorem bu_so (h : Bu Qu w wr Q P b s l) : So l := by
  obtain ⟨⟨f, kk, h1, h2⟩, h3⟩ := h
  exact C.so h1
theorem bu_tk (h : Bu Qu w wr Q P b s l) : Tk s := by
  obtain ⟨⟨f, kk, h1, h2⟩, h3⟩ := h
  exact C.base h1
theorem bu_zp (h : Bu Qu w wr Q P b s l) : ∃ Z, wr.cell? ⟨Q, 0, none⟩ = some (.pointer (some ⟨Z, 0, none⟩)) := by
  obtain ⟨⟨f, kk, h1, h2⟩, h3⟩ := h
  exact C.zp h1
theorem bu_count {Z : Nat} (hz : wr.cell? ⟨Q, 0, none⟩ = some (.pointer (some ⟨Z, 0, none⟩))) (h : Bu Qu w wr Q P b s l) {n : Nat} (e : l.length = n) : Calls Tryd.prog 9 #[.pointer (some ⟨Z, 0, none⟩)] wr fun e w2 => e = .returned (.int .i64 n) ∧ Bel wr w2 := by
  subst e
  obtain ⟨⟨f, kk, h1, h2⟩, h3⟩ := h
  exact C.count wr h1 hz
theorem bu_based (h : Bu Qu w wr Q P b s l) : Calls Tryd.prog 10 #[.pointer (some ⟨Q, 0, none⟩)] wr fun e w2 => e = .returned (.int .u64 s) ∧ Bel wr w2 := by
  obtain ⟨⟨f, kk, h1, h2⟩, h3⟩ := h
  exact C.based wr h1
theorem bu_all {Z : Nat} (hz : wr.cell? ⟨Q, 0, none⟩ = some (.pointer (some ⟨Z, 0, none⟩))) (h : Bu Qu w wr Q P b s l) {n : Nat} (e : l.length = n) : Calls Tryd.prog 20 #[.pointer (some ⟨Z, 0, none⟩)] wr fun e w2 => ∃ p c, e = .returned (.slice p n c) ∧ Has w2 p l ∧ Bel wr w2 := by
  subst e
  obtain ⟨⟨f, kk, h1, h2⟩, h3⟩ := h
  exact (C.all wr h1 hz).mono fun e w2 ⟨p, c, he, hc, hl, hb⟩ => ⟨p, c, he, hl.has, hb⟩
end
end Go.Proofs.YtdoceldofkaapaaDoor.Ha
namespace Go.Proofs.YtdoceldofkaapaaDoor
open Go.ChangeShapes Go.WideShapes Go.ChangeAt Go.RowKit Go.Deep Go.Joins

/-- Acts whose ticks are ticks. -/
def Aks (al : List Ak) : Prop := ∀ a ∈ al, Tk a.t.a ∧ Tk a.now
theorem own : ownKnob Tryd.prog.godebug = none := by kernel_rfl
theorem laidOut : laidOutB Tryd.prog = true := by kernel_rfl
theorem cells27 : Tryd.prog.cellsOf 51 = 5 := by kernel_rfl
theorem cells25 : Tryd.prog.cellsOf 41 = 3 := by kernel_rfl
theorem cells23 : Tryd.prog.cellsOf 22 = 1 := by kernel_rfl
theorem cells3 : Tryd.prog.cellsOf 3 = 1 := by kernel_rfl
theorem getD_range {α : Type} (f : Nat → α) (n i : Nat) (h : i < n) : ((List.range n).map f)[i]? = some (f i) := by simp [h]
theorem getD_ranged {α : Type} (f : Nat → α) (d : α) (n i : Nat) (h : i < n) : ((List.range n).map f).getD i d = f i := by
  simp [List.getD_eq_getElem?_getD, h]
/-- A slice whose elements are read by a law lies there. -/
theorem lies_of {α : Type} [Inhabited α] {w : World} (f : α → List Value) (Pr : α → Prop) (s : Nat) (hs : 0 < s) (hf : ∀ a, (f a).length = s) {x : Addr} {len : Nat}
    (key : ∀ i, i < len → ∃ t : α, Pr t ∧ ∀ j, j < s → w.cell? (x.add (i * s + j)) = (f t)[j]?) : ∃ l : List α, l.length = len ∧ (∀ t ∈ l, Pr t) ∧ Lies nof w (some x) (l.flatMap f) := by
  obtain ⟨g, hg0⟩ := choose_lt key
  have hg : ∀ i, i < len → ∀ j, j < s → w.cell? (x.add (i * s + j)) = (f (g i))[j]? := fun i hi => (hg0 i hi).2
  refine ⟨(List.range len).map g, by simp, fun t ht => ?_, ?_⟩
  · obtain ⟨i, hi, rfl⟩ := List.mem_map.1 ht
    exact (hg0 i (by simpa using hi)).1
  by_cases h0 : len = 0
  · subst h0; exact .inl rfl
  obtain ⟨b, off, spot⟩ := x
  have hspot : spot = none := by
    have k := hg 0 (by omega) 0 hs
    have hlt : 0 < (f (g 0)).length := by rw [hf]; exact hs
    rw [List.getElem?_eq_getElem hlt] at k
    simpa [Addr.add] using World.cell?_spot k
  subst hspot
  refine .inr ⟨b, off, rfl, fun e => e, fun j u hu => ?_⟩
  have hlen : (((List.range len).map g).flatMap f).length = len * s := by
    have : ∀ l : List α, (l.flatMap f).length = l.length * s := fun l => by
      induction l with
      | nil => simp
      | cons y r ih => rw [List.flatMap_cons, List.length_append, ih, hf, List.length_cons, Nat.add_mul]; omega
    rw [this]
    simp
  have hj : j < len * s := by rw [← hlen]; exact (List.getElem?_eq_some_iff.1 hu).1
  have hi : j / s < len := Nat.div_lt_of_lt_mul (by rw [Nat.mul_comm]; exact hj)
  have hjs : j % s < s := Nat.mod_lt _ hs
  have ej : j / s * s + j % s = j := by rw [Nat.mul_comm]; exact Nat.div_add_mod j s
  have k := hg (j / s) hi (j % s) hjs
  have k2 := flat_get f s hf ((List.range len).map g) (j / s) (j % s) (g (j / s)) (getD_range g len _ hi) hjs
  rw [ej] at k k2
  rw [add_plain] at k
  rw [k, ← k2]
  exact hu
set_option maxRecDepth 100000 in
theorem ak_cells {H : Type} {enc : TypeId × Value → H} {w : World} {base : Nat} {spare : Nat → Bool} {held : Bool} {n : Nat} {c0 c1 c2 c3 c4 : Value} {y : DataW H × List MemPlace}
    (h : DataW.trod enc Tryd.prog w base spare held n 51 [c0, c1, c2, c3, c4] = some y) : ∃ t : Ak, c0 = .int .i64 t.k ∧ c1 = .int .u64 t.t.a ∧ c2 = .int .u64 t.t.s ∧ c3 = .int .i64 t.t.p ∧ c4 = .int .u64 t.now ∧ Tk t.t.a ∧ Tk t.now := by
  obtain ⟨y0, y1, y2, m, _, _, h0, h1, h2⟩ := trod_struct3 Tryd.underlying51 h
  obtain ⟨A, e0, _, _⟩ := DataW.trod_int Tryd.underlying3 h0
  obtain ⟨C, e2, _, hC⟩ := DataW.trod_int Tryd.underlying22 h2
  obtain ⟨z0, z1, z2, m2, _, _, g0, g1, g2⟩ := trod_struct3 Tryd.underlying41 h1
  obtain ⟨D, f0, _, hD⟩ := DataW.trod_int Tryd.underlying22 g0
  have hD2 : Tk D := bounds_u64 hD
  obtain ⟨E, f1, _, _⟩ := DataW.trod_int Tryd.underlying22 g1
  obtain ⟨F, f2, _, _⟩ := DataW.trod_int Tryd.underlying3 g2
  simp [cells3, cells23, cells25] at e0 e2 f0 f1 f2
  exact ⟨⟨A, ⟨D, E, F⟩, C⟩, e0, f0, f1, f2, e2, hD2, bounds_u64 hC⟩
set_option maxRecDepth 100000 in
theorem acts_of {H : Type} {enc : TypeId × Value → H} {w : World} {a : Option Addr} {len cap : Nat} {d : DataW H} {p : List MemPlace}
    (h : DataW.Trod enc Tryd.prog w 0 (fun _ => true) true 23 (.slice a len cap) d p) : len ≤ cap ∧ ∃ l : List Ak, l.length = len ∧ Aks l ∧ Lies nof w a (encK l) := by
  obtain ⟨fuel, hf⟩ := h
  rcases open_slice Tryd.underlying23 hf with ⟨hcs, _⟩ | ⟨x, l, c, m, n, D, Pl, hcs, _, hl, _, hm, _, hi⟩
  · simp [Value.cells] at hcs
    obtain ⟨rfl, rfl, rfl⟩ := hcs
    exact ⟨Nat.le_refl _, [], rfl, fun t ht => by simp at ht, .inl rfl⟩
  simp [Value.cells] at hcs
  obtain ⟨rfl, rfl, rfl⟩ := hcs
  have hle : len ≤ m := by rw [hm]; split <;> omega
  refine ⟨hl, lies_of (fun a : Ak => [.int .i64 a.k, .int .u64 a.t.a, .int .u64 a.t.s, .int .i64 a.t.p, .int .u64 a.now]) (fun t => Tk t.t.a ∧ Tk t.now) 5 (by decide) (fun _ => rfl) (fun i hil => ?_)⟩
  obtain ⟨cs', hc, ht⟩ := hi i (by omega)
  rw [cells27] at hc
  obtain ⟨_, hl', hat⟩ := World.cells?_some hc
  match cs', hl' with
  | [c0, c1, c2, c3, c4], _ =>
    obtain ⟨t, rfl, rfl, rfl, rfl, rfl, hb⟩ := ak_cells ht
    refine ⟨t, hb, fun j hj => ?_⟩
    have k := hat j hj
    rw [add_add] at k
    exact k
set_option maxRecDepth 100000 in
theorem timer_cells {H : Type} {enc : TypeId × Value → H} {w : World} {base : Nat} {spare : Nat → Bool} {held : Bool} {n : Nat} {a : Addr} {cs : List Value} {y : DataW H × List MemPlace}
    (hc : w.cells? base a 3 = some cs) (h : DataW.trod enc Tryd.prog w base spare held n 41 cs = some y) :
    ∃ t : T, w.cell? a = some (.int .u64 t.a) ∧ w.cell? (a.add 1) = some (.int .u64 t.s) ∧ w.cell? (a.add 2) = some (.int .i64 t.p) := by
  obtain ⟨_, hl, hat⟩ := World.cells?_some hc
  obtain ⟨y0, y1, y2, m, _, _, h0, h1, h2⟩ := trod_struct3 Tryd.underlying41 h
  match cs, hl with
  | [c0, c1, c2], _ =>
    obtain ⟨A, e0, _, _⟩ := DataW.trod_int Tryd.underlying22 h0
    obtain ⟨S, e1, _, _⟩ := DataW.trod_int Tryd.underlying22 h1
    obtain ⟨P, e2, _, _⟩ := DataW.trod_int Tryd.underlying3 h2
    simp [cells23] at e0 e1
    simp [cells3] at e2
    subst e0 e1 e2
    have k0 := hat 0 (by omega)
    have k1 := hat 1 (by omega)
    have k2 := hat 2 (by omega)
    refine ⟨⟨A, S, P⟩, ?_, ?_, ?_⟩
    · simpa [Addr.add] using k0
    · simpa using k1
    · simpa using k2
set_option maxRecDepth 100000 in
theorem has_of_trod {H : Type} {enc : TypeId × Value → H} {w : World} {base : Nat} {spare : Nat → Bool} {held : Bool} {fuel : Nat} {cs : List Value} {y : DataW H × List MemPlace}
    (h : DataW.trod enc Tryd.prog w base spare held fuel 36 cs = some y) : ∃ a len cap, cs = [.slice a len cap] ∧ len ≤ cap ∧ ∃ l : List T, l.length = len ∧ Has w a l := by
  rcases open_slice Tryd.underlying36 h with ⟨rfl, _⟩ | ⟨x, len, cap, m, n, D, Pl, rfl, _, hl, _, hm, _, hi⟩
  · exact ⟨none, 0, 0, rfl, Nat.le_refl _, [], rfl, .inl rfl⟩
  refine ⟨some x, len, cap, rfl, hl, ?_⟩
  have hle : len ≤ m := by rw [hm]; split <;> omega
  have key : ∀ i, i < len → ∃ t : T, w.cell? (x.add (i * 3)) = some (.int .u64 t.a) ∧ w.cell? (x.add (i * 3 + 1)) = some (.int .u64 t.s) ∧ w.cell? (x.add (i * 3 + 2)) = some (.int .i64 t.p) := by
    intro i hil
    obtain ⟨cs', hc, ht⟩ := hi i (by omega)
    rw [cells25] at hc
    obtain ⟨t, k0, k1, k2⟩ := timer_cells hc ht
    rw [add_add] at k1 k2
    exact ⟨t, k0, k1, k2⟩
  obtain ⟨f, hf⟩ := choose_lt key
  refine ⟨(List.range len).map f, by simp, ?_⟩
  by_cases h0 : len = 0
  · subst h0; exact .inl rfl
  obtain ⟨b, off, spot⟩ := x
  have hspot : spot = none := by
    have k := (hf 0 (by omega)).1
    simpa [Addr.add] using World.cell?_spot k
  subst hspot
  refine .inr ⟨b, off, rfl, fun i hi' => ?_⟩
  have hi2 : i < len := by simpa using hi'
  rw [getD_ranged f default len i hi2]
  have k := hf i hi2
  rw [add_plain, add_plain, add_plain] at k
  exact k
theorem timers_of {H : Type} {enc : TypeId × Value → H} {w : World} {a : Option Addr} {len cap : Nat} {d : DataW H} {p : List MemPlace}
    (h : DataW.Trod enc Tryd.prog w 0 (fun _ => true) true 36 (.slice a len cap) d p) : len ≤ cap ∧ ∃ l : List T, l.length = len ∧ Has w a l := by
  obtain ⟨fuel, hf⟩ := h
  obtain ⟨a', len', cap', e, h1, h2⟩ := has_of_trod hf
  simp [Value.cells] at e
  obtain ⟨rfl, rfl, rfl⟩ := e
  exact ⟨h1, h2⟩
set_option maxRecDepth 100000 in
/-- A timer by value, opened. -/
theorem open_timer {H : Type} {enc : TypeId × Value → H} {w : World} {base : Nat} {spare : Nat → Bool} {held : Bool} {r : Reach} {b0 : Nat} {v : Value} {d : DataW H} {p : List MemPlace}
    (hv : Value.okWide Tryd.prog w r b0 41 v) (h : DataW.Trod enc Tryd.prog w base spare held 41 v d p) :
    ∃ t : T, v = .agg #[.int .u64 t.a, .int .u64 t.s, .int .i64 t.p] ∧ Tk t.a := by
  obtain ⟨c0, c1, c2, y0, y1, y2, m, rfl, rfl, rfl, hy0, hy1, hy2⟩ := open_agg3 Tryd.underlying41 (by kernel_rfl) cells25 hv h
  obtain ⟨a, e0, rfl, wa⟩ := DataW.trod_int Tryd.underlying22 hy0
  obtain ⟨s, e1, rfl, ws⟩ := DataW.trod_int Tryd.underlying22 hy1
  obtain ⟨q, e2, rfl, wq⟩ := DataW.trod_int Tryd.underlying3 hy2
  simp at e0 e1 e2
  subst e0 e1 e2
  exact ⟨⟨a, s, q⟩, rfl, bounds_u64 wa⟩
set_option maxRecDepth 100000 in
/-- An act by value, opened. -/
theorem open_act {H : Type} {enc : TypeId × Value → H} {w : World} {base : Nat} {spare : Nat → Bool} {held : Bool} {r : Reach} {b0 : Nat} {v : Value} {d : DataW H} {p : List MemPlace}
    (hv : Value.okWide Tryd.prog w r b0 51 v) (h : DataW.Trod enc Tryd.prog w base spare held 51 v d p) :
    ∃ a : Ak, v = .agg #[.int .i64 a.k, .int .u64 a.t.a, .int .u64 a.t.s, .int .i64 a.t.p, .int .u64 a.now] := by
  obtain ⟨cs, rfl, hsz⟩ := okWide_struct Tryd.underlying51 hv
  rw [cells27] at hsz
  obtain ⟨c0, c1, c2, c3, c4, rfl⟩ : ∃ c0 c1 c2 c3 c4, cs = #[c0, c1, c2, c3, c4] := by
    obtain ⟨l⟩ := cs
    match l, hsz with
    | [c0, c1, c2, c3, c4], _ => exact ⟨c0, c1, c2, c3, c4, rfl⟩
  obtain ⟨fuel, hf⟩ := h
  obtain ⟨a, rfl, rfl, rfl, rfl, rfl, _⟩ := ak_cells (c0 := c0) (c1 := c1) (c2 := c2) (c3 := c3) (c4 := c4) (by simpa [Value.cells] using hf)
  exact ⟨a, rfl⟩
end Go.Proofs.YtdoceldofkaapaaDoor
