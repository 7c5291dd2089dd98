/-
  Contracts of the document's At, of Same, and of the law's handle.
-/
import Derived.Test.YtlohpccfanmiiaaRef
namespace Go.Proofs.Ytlohpccfanmiiaa
open Go.RowKit
/-- The first of a list that has a place. -/
def atR (l : List Hd) (x : Int) : Hd × Bool := match l.find? (fun h => decide (h.p = x)) with | some h => (h, true) | none => (⟨0, 0⟩, false)
theorem atR_some (l : List Hd) (x : Int) (m : Nat) (y : Hd) (hy : l[m]? = some y) (hx : y.p = x) (h : ∀ z ∈ l.take m, z.p ≠ x) : atR l x = (y, true) := by
  have hlt := get_lt hy
  have e : l = l.take m ++ y :: l.drop (m + 1) := by
    have h2 := List.drop_eq_getElem_cons hlt
    have h3 : l[m] = y := by rw [List.getElem?_eq_getElem hlt] at hy; exact Option.some.inj hy
    rw [h3] at h2
    rw [← h2, List.take_append_drop]
  have hf : l.find? (fun h => decide (h.p = x)) = some y := by
    rw [e, List.find?_append]
    have h1 : (l.take m).find? (fun h => decide (h.p = x)) = none := by
      rw [List.find?_eq_none]
      intro z hz
      simpa using h z hz
    rw [h1]
    simp [hx]
  unfold atR
  rw [hf]
theorem atR_none (l : List Hd) (x : Int) (h : ∀ z ∈ l, z.p ≠ x) : atR l x = (⟨0, 0⟩, false) := by
  have h1 : l.find? (fun h => decide (h.p = x)) = none := by
    rw [List.find?_eq_none]
    intro z hz
    simpa using h z hz
  unfold atR
  rw [h1]
theorem rat_any (x : RP) (R : Rf) (q : Int) (w : World) (hs : RSm R) (hR : RefIn nof w x R) :
    Calls Try.prog 35 #[rv x R, .int .i64 q] w fun e w' => e = .returned (.tuple #[.agg #[.int .i64 (atR R.alive q).1.p, .int .i64 (atR R.alive q).1.g], .bool (atR R.alive q).2]) ∧ Bel w w' := by
  have a1 := hs.a1
  have HI := Lib.hid hR.i3
  obtain ⟨l, hl⟩ : ∃ l, R.alive = l := ⟨_, rfl⟩
  unfold rv
  rw [hl] at a1 HI ⊢
  obtain ⟨n, hn⟩ : ∃ n, l.length = n := ⟨_, rfl⟩
  rw [hn] at a1 ⊢
  have HN := Lib.hid hn
  obtain ⟨r, hr⟩ : ∃ r, atR l q = r := ⟨_, rfl⟩
  rw [hr]
  have HR := Lib.hid hr
  clear hs hR hl hn hr
  go_enter Try.func35, Try.ntmps35
  go_wp2
  generalize hW : (w.alloc (.cells #[.int .i64 R.pl, .int .i64 R.gn, .slice x.p1 R.used.length x.c1, .slice x.p2 R.free.length x.c2, .slice x.p3 n x.c3] 31)).alloc (.cells #[.int .i64 0, .int .i64 0] 38) = W
  have HB : Hid (Bel w W) := Lib.hid (by rw [← hW]; exact ((Bel.refl _).alloc _ _).alloc _ _)
  have c4 : W.cell? ⟨w.heap.size, 4, none⟩ = some (.slice x.p3 n x.c3) := by rw [← hW]; simp [go_sem]
  have d0 : W.cell? ⟨w.heap.size + 1, 0, none⟩ = some (.int .i64 0) := by rw [← hW]; simp [go_sem]
  have d1 : W.cell? ⟨w.heap.size + 1, 1, none⟩ = some (.int .i64 0) := by rw [← hW]; simp [go_sem]
  have e0 : W.frozen? ⟨w.heap.size + 1, 0, none⟩ = false := by rw [← hW]; simp [go_sem]
  have e1 : W.frozen? ⟨w.heap.size + 1, 1, none⟩ = false := by rw [← hW]; simp [go_sem]
  clear hW
  go_loopw [6] (fun v wr => ∃ m : Nat, v = .int .i64 m ∧ m ≤ n ∧ (∀ z ∈ l.take m, z.p ≠ q) ∧ wr = W) (fun v _ => n - (intOf v).toNat)
  case atStart => exact ⟨0, rfl, by omega, by simp, rfl⟩
  case round =>
    obtain ⟨m, rfl, hi, hnot, rfl⟩ := hrel
    have HNot := Lib.hid hnot
    clear hnot
    by_cases hlt : m < n
    · obtain ⟨b, off, hp, _, hr⟩ := lies_hd HI.out (i := m) (by have := HN.out; omega)
      obtain ⟨y, hy⟩ : ∃ y, l[m]? = some y := ⟨_, List.getElem?_eq_getElem (by have := HN.out; omega)⟩
      obtain ⟨x0, x1⟩ := row_hd hr hy
      have x0 := HB.out.cell x0
      have x1 := HB.out.cell x1
      have HE := Lib.hid (fun z => take_mem l m y z hy)
      have HY := Lib.hid hy
      rw [hp] at c4
      clear hr hy hp
      by_cases he : y.p = q
      · have HF := Lib.hid (atR_some l q m y HY.out he HNot.out)
        have hrr : r = (y, true) := by rw [← HR.out]; exact HF.out
        subst hrr
        have hd : (y.p == q) = true := by simpa using he
        clear he
        go_wp2
        exact bodyPost_ret (v := .tuple #[.agg #[.int .i64 y.p, .int .i64 y.g], .bool true]) (by simp [results, Try.results35, go_sem, d0, d1]) rfl ⟨rfl, Bel.setCell (Bel.setCell HB.out (p := ⟨w.heap.size + 1, 0, none⟩) (Nat.le_succ _) _) (p := ⟨w.heap.size + 1, 1, none⟩) (Nat.le_succ _) _⟩
      · have HM : Hid (∀ z ∈ l.take (m + 1), z.p ≠ q) := Lib.hid (fun z hz => by
          rcases (HE.out z).1 hz with e | e
          · exact HNot.out z e
          · rw [e]; exact he)
        have hd : (y.p == q) = false := by simpa using he
        clear he
        go_wp2
        go_roundw
        case rel => exact ⟨m + 1, by go_num, by omega, HM.out, trivial⟩
        case measure => simp [intOf]; omega
    · obtain rfl : m = n := by omega
      have HE : Hid (l.take m = l) := Lib.hid (List.take_of_length_le (by have := HN.out; omega))
      have HF := Lib.hid (atR_none l q (by have := HNot.out; rw [HE.out] at this; exact this))
      have hrr : r = (⟨0, 0⟩, false) := by rw [← HR.out]; exact HF.out
      subst hrr
      go_wp2
      exact bodyPost_ret (v := .tuple #[.agg #[.int .i64 0, .int .i64 0], .bool false]) (by simp [results, Try.results35, go_sem, d0, d1]) rfl ⟨rfl, Bel.setCell (Bel.setCell HB.out (p := ⟨w.heap.size + 1, 0, none⟩) (Nat.le_succ _) _) (p := ⟨w.heap.size + 1, 1, none⟩) (Nat.le_succ _) _⟩
theorem same_yes (p q : Option Addr) (n c k : Nat) (l : List Int) (w : World) (hn : l.length = n) (hm : n ≤ 2000) (hp : Lies nof w p (encI l)) (hq : Lies nof w q (encI l)) :
    Calls Try.prog 36 #[.slice p n c, .slice q n k] w fun e w' => e = .returned (.bool true) ∧ Bel w w' := by
  have HP := Lib.hid hp
  have HQ := Lib.hid hq
  have HN := Lib.hid hn
  clear hp hq hn
  go_enter Try.func36, Try.ntmps36
  go_wp2
  go_loopw [5] (fun v wr => ∃ m : Nat, v = .int .i64 m ∧ m ≤ n ∧ Bel w wr) (fun v _ => n - (intOf v).toNat)
  case atStart => exact ⟨0, rfl, by omega, Bel.refl _⟩
  case round =>
    obtain ⟨m, rfl, hi, hb⟩ := hrel
    have HB := Lib.hid hb
    clear hb
    by_cases hlt : m < n
    · obtain ⟨b, off, rfl, _, hr⟩ := lies_int HP.out (i := m) (by have := HN.out; omega)
      obtain ⟨b2, off2, rfl, _, hr2⟩ := lies_int HQ.out (i := m) (by have := HN.out; omega)
      obtain ⟨y, hy⟩ : ∃ y, l[m]? = some y := ⟨_, List.getElem?_eq_getElem (by have := HN.out; omega)⟩
      have x0 := HB.out.cell (row_int hr hy)
      have x1 := HB.out.cell (row_int hr2 hy)
      clear hr hr2 hy
      go_wp2
      go_quiet (fail)
      go_wp2
      go_roundw
      case rel => exact ⟨m + 1, by go_num, by omega, HB.out.drewN _⟩
      case measure => simp [intOf]; omega
    · obtain rfl : m = n := by omega
      go_wp2
      go_ret
      exact ⟨rfl, HB.out⟩
/-- Which handle an act names. -/
def pickH (a : Ac) (tk : List Hd) : Hd := if a.k = 1 ∧ 0 ≤ a.n ∧ a.n < tk.length then tk.getD a.n.toNat default else a.h
theorem handle_any (a : Ac) (tk : List Hd) (p : Option Addr) (n c : Nat) (w : World) (hn : tk.length = n) (hp : Lies nof w p (encH tk)) :
    Calls Try.prog 14 #[.agg #[.int .i64 a.k, .int .i64 a.n, .int .i64 a.h.p, .int .i64 a.h.g], .slice p n c] w fun e w' => e = .returned (.agg #[.int .i64 (pickH a tk).p, .int .i64 (pickH a tk).g]) ∧ Bel w w' := by
  obtain ⟨K, N, h⟩ := a
  by_cases hc : K = 1 ∧ 0 ≤ N ∧ N < tk.length
  · have e : pickH ⟨K, N, h⟩ tk = tk.getD N.toNat default := if_pos hc
    rw [e]
    obtain ⟨rfl, h0, h1⟩ := hc
    obtain ⟨m, rfl⟩ : ∃ m : Nat, N = m := ⟨N.toNat, by omega⟩
    have hlt : m < tk.length := by omega
    obtain ⟨y, hy⟩ : ∃ y, tk[m]? = some y := ⟨_, List.getElem?_eq_getElem hlt⟩
    have e2 : tk.getD ((m : Int)).toNat default = y := by simp [List.getD_eq_getElem?_getD, hy]
    rw [e2]
    obtain ⟨b, off, rfl, _, hr⟩ := lies_hd hp hlt
    obtain ⟨x0, x1⟩ := row_hd hr hy
    have hb := World.block_lt_of_cell? w _ x0
    rw [hn] at hlt h1
    have hd : decide (m < n) = true := decide_eq_true hlt
    clear hp hr hy e2 e hn h1
    go_enter Try.func14, Try.ntmps14
    go_wp2
    exact bodyPost_ret (v := .agg #[.int .i64 y.p, .int .i64 y.g]) (by simp [results, Try.results14, go_sem]) rfl ⟨rfl, ((Bel.refl _).alloc _ _).alloc _ _⟩
  · have e : pickH ⟨K, N, h⟩ tk = h := if_neg hc
    rw [e]
    rw [hn] at hc
    clear hp e hn
    by_cases h1 : K = 1
    · subst h1
      by_cases h0 : 0 ≤ N
      · have h2 : ¬ N < n := fun e => hc ⟨rfl, h0, e⟩
        obtain ⟨m, rfl⟩ : ∃ m : Nat, N = m := ⟨N.toNat, by omega⟩
        have hd : decide (m < n) = false := decide_eq_false (by omega)
        clear hc
        go_enter Try.func14, Try.ntmps14
        go_wp2
        exact bodyPost_ret (v := .agg #[.int .i64 h.p, .int .i64 h.g]) (by simp [results, Try.results14, go_sem]) rfl ⟨rfl, ((Bel.refl _).alloc _ _).alloc _ _⟩
      · have hd : decide (0 ≤ N) = false := decide_eq_false h0
        clear hc
        go_enter Try.func14, Try.ntmps14
        go_wp2
        exact bodyPost_ret (v := .agg #[.int .i64 h.p, .int .i64 h.g]) (by simp [results, Try.results14, go_sem]) rfl ⟨rfl, ((Bel.refl _).alloc _ _).alloc _ _⟩
    · have hd : (K == 1) = false := by simpa using h1
      clear hc
      go_enter Try.func14, Try.ntmps14
      go_wp2
      exact bodyPost_ret (v := .agg #[.int .i64 h.p, .int .i64 h.g]) (by simp [results, Try.results14, go_sem]) rfl ⟨rfl, ((Bel.refl _).alloc _ _).alloc _ _⟩
end Go.Proofs.Ytlohpccfanmiiaa
