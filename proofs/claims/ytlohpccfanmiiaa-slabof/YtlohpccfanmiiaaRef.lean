/-
  Contracts of the document's New, IsAlive, At, Left, Worn, of Same, and of the law's handle.
-/
import Derived.Test.YtlohpccfanmiiaaImage
namespace Go.Proofs.Ytlohpccfanmiiaa
open Go.RowKit
/-- The document's slab. -/
structure Rf where
  pl : Int
  gn : Int
  used : List Int
  free : List Int
  alive : List Hd
/-- Where its lists lie. -/
structure RP where
  p1 : Option Addr
  c1 : Nat
  p2 : Option Addr
  c2 : Nat
  p3 : Option Addr
  c3 : Nat
abbrev rv (x : RP) (R : Rf) : Value := .agg #[.int .i64 R.pl, .int .i64 R.gn, .slice x.p1 R.used.length x.c1, .slice x.p2 R.free.length x.c2, .slice x.p3 R.alive.length x.c3]
structure RefIn (f : Nat → Prop) (w : World) (x : RP) (R : Rf) : Prop where
  l1 : R.used.length ≤ x.c1
  l2 : R.free.length ≤ x.c2
  l3 : R.alive.length ≤ x.c3
  i1 : Lies f w x.p1 (encI R.used)
  i2 : Lies f w x.p2 (encI R.free)
  i3 : Lies f w x.p3 (encH R.alive)
theorem RefIn.bel {f : Nat → Prop} {w w' : World} {x : RP} {R : Rf} (h : RefIn f w x R) (k : Bel w w') : RefIn f w' x R := ⟨h.l1, h.l2, h.l3, h.i1.bel k, h.i2.bel k, h.i3.bel k⟩
theorem RefIn.steps {f f' : Nat → Prop} {w w' : World} {x : RP} {R : Rf} (h : RefIn f w x R) (k : Steps f w f' w') : RefIn f' w' x R := ⟨h.l1, h.l2, h.l3, h.i1.steps k, h.i2.steps k, h.i3.steps k⟩
theorem RefIn.mono {f g : Nat → Prop} {w : World} {x : RP} {R : Rf} (h : RefIn f w x R) (k : ∀ b, b < w.heap.size → g b → f b) : RefIn g w x R := ⟨h.l1, h.l2, h.l3, h.i1.mono k, h.i2.mono k, h.i3.mono k⟩
/-- Small enough for sums. -/
structure RSm (R : Rf) : Prop where
  p0 : 0 ≤ R.pl
  p1 : R.pl ≤ 1024
  u1 : R.used.length ≤ 2000
  f1 : R.free.length ≤ 2000
  a1 : R.alive.length ≤ 2000
def newR (P G : Int) : Rf := ⟨P, G, [], [], []⟩
theorem rnew_yes (P G : Int) (w : World) (h0 : 0 ≤ P) (h1 : P ≤ 1024) (h2 : 1 ≤ G) (h3 : G ≤ 65535) :
    Calls Try.prog 11 #[.int .i64 P, .int .i64 G] w fun e w' => e = .returned (.tuple #[.agg #[.int .i64 P, .int .i64 G, .slice none 0 0, .slice none 0 0, .slice none 0 0], .int .i64 0]) ∧ Bel w w' := by
  have a0 : ¬ P < 0 := by omega
  have a1 : ¬ 1024 < P := by omega
  have a2 : ¬ G < 1 := by omega
  have a3 : ¬ 65535 < G := by omega
  go_enter Try.func11, Try.ntmps11
  go_wp2
  exact bodyPost_ret (v := .tuple #[.agg #[.int .i64 P, .int .i64 G, .slice none 0 0, .slice none 0 0, .slice none 0 0], .int .i64 0]) (by simp [results, Try.results11, go_sem]) rfl ⟨rfl, (Bel.refl _).alloc _ _⟩
theorem rnew_no (P G : Int) (w : World) (h : ¬ (0 ≤ P ∧ P ≤ 1024 ∧ 1 ≤ G ∧ G ≤ 65535)) :
    Calls Try.prog 11 #[.int .i64 P, .int .i64 G] w fun e w' => e = .returned (.tuple #[.agg #[.int .i64 0, .int .i64 0, .slice none 0 0, .slice none 0 0, .slice none 0 0], .int .i64 1]) ∧ Bel w w' := by
  by_cases a0 : P < 0
  · go_enter Try.func11, Try.ntmps11
    go_wp2
    exact bodyPost_ret (v := .tuple #[.agg #[.int .i64 0, .int .i64 0, .slice none 0 0, .slice none 0 0, .slice none 0 0], .int .i64 1]) (by simp [results, Try.results11, go_sem]) rfl ⟨rfl, (Bel.refl _).alloc _ _⟩
  · by_cases a1 : 1024 < P
    · go_enter Try.func11, Try.ntmps11
      go_wp2
      exact bodyPost_ret (v := .tuple #[.agg #[.int .i64 0, .int .i64 0, .slice none 0 0, .slice none 0 0, .slice none 0 0], .int .i64 1]) (by simp [results, Try.results11, go_sem]) rfl ⟨rfl, (Bel.refl _).alloc _ _⟩
    · by_cases a2 : G < 1
      · go_enter Try.func11, Try.ntmps11
        go_wp2
        exact bodyPost_ret (v := .tuple #[.agg #[.int .i64 0, .int .i64 0, .slice none 0 0, .slice none 0 0, .slice none 0 0], .int .i64 1]) (by simp [results, Try.results11, go_sem]) rfl ⟨rfl, (Bel.refl _).alloc _ _⟩
      · have a3 : 65535 < G := by omega
        clear h
        go_enter Try.func11, Try.ntmps11
        go_wp2
        exact bodyPost_ret (v := .tuple #[.agg #[.int .i64 0, .int .i64 0, .slice none 0 0, .slice none 0 0, .slice none 0 0], .int .i64 1]) (by simp [results, Try.results11, go_sem]) rfl ⟨rfl, (Bel.refl _).alloc _ _⟩
theorem rleft_any (x : RP) (R : Rf) (w : World) (h : RSm R) :
    Calls Try.prog 38 #[rv x R] w fun e w' => e = .returned (.int .i64 (R.free.length + R.pl - R.used.length)) ∧ Bel w w' := by
  have p0 := h.p0
  have p1 := h.p1
  have u1 := h.u1
  have f1 := h.f1
  clear h
  go_enter Try.func38, Try.ntmps38
  go_wp2
  go_ret
  exact ⟨rfl, (Bel.refl _).alloc _ _⟩
theorem rworn_any (x : RP) (R : Rf) (w : World) (h : RSm R) :
    Calls Try.prog 39 #[rv x R] w fun e w' => e = .returned (.int .i64 (R.used.length - R.free.length - R.alive.length)) ∧ Bel w w' := by
  have u1 := h.u1
  have f1 := h.f1
  have a1 := h.a1
  clear h
  go_enter Try.func39, Try.ntmps39
  go_wp2
  go_ret
  exact ⟨rfl, (Bel.refl _).alloc _ _⟩
theorem take_mem {α : Type} [DecidableEq α] (l : List α) (k : Nat) (x h : α) (hx : l[k]? = some x) : h ∈ l.take (k + 1) ↔ h ∈ l.take k ∨ h = x := by
  rw [List.take_add_one, hx]
  simp
theorem risalive_any (x : RP) (R : Rf) (h : Hd) (w : World) (hs : RSm R) (hR : RefIn nof w x R) :
    Calls Try.prog 37 #[rv x R, .agg #[.int .i64 h.p, .int .i64 h.g]] w fun e w' => e = .returned (.bool (decide (h ∈ R.alive))) ∧ Bel w w' := by
  have a1 := hs.a1
  have HI := Lib.hid hR.i3
  obtain ⟨l, hl⟩ : ∃ l, R.alive = l := ⟨_, rfl⟩
  unfold rv
  rw [hl] at a1 HI ⊢
  obtain ⟨n, hn⟩ : ∃ n, l.length = n := ⟨_, rfl⟩
  rw [hn] at a1 ⊢
  have HN := Lib.hid hn
  clear hs hR hl hn
  go_enter Try.func37, Try.ntmps37
  go_wp2
  generalize hW : (w.alloc (.cells #[.int .i64 R.pl, .int .i64 R.gn, .slice x.p1 R.used.length x.c1, .slice x.p2 R.free.length x.c2, .slice x.p3 n x.c3] 31)).alloc (.cells #[.int .i64 h.p, .int .i64 h.g] 38) = W
  have HB : Hid (Bel w W) := Lib.hid (by rw [← hW]; exact ((Bel.refl _).alloc _ _).alloc _ _)
  have C4 : Hid (W.cell? ⟨w.heap.size, 4, none⟩ = some (.slice x.p3 n x.c3)) := Lib.hid (by rw [← hW]; simp [go_sem])
  have D0 : Hid (W.cell? ⟨w.heap.size + 1, 0, none⟩ = some (.int .i64 h.p)) := Lib.hid (by rw [← hW]; simp [go_sem])
  have D1 : Hid (W.cell? ⟨w.heap.size + 1, 1, none⟩ = some (.int .i64 h.g)) := Lib.hid (by rw [← hW]; simp [go_sem])
  clear hW
  go_loopw [5] (fun v wr => ∃ m : Nat, v = .int .i64 m ∧ m ≤ n ∧ h ∉ l.take m ∧ Bel W wr) (fun v _ => n - (intOf v).toNat)
  case atStart => exact ⟨0, rfl, by omega, by simp, Bel.refl _⟩
  case round =>
    obtain ⟨m, rfl, hi, hnot, hb⟩ := hrel
    have HB2 := Lib.hid hb
    have HNot := Lib.hid hnot
    have c4 := hb.cell C4.out
    have d0 := hb.cell D0.out
    have d1 := hb.cell D1.out
    clear hb hnot
    by_cases hlt : m < n
    · obtain ⟨b, off, hp, _, hr⟩ := lies_hd HI.out (i := m) (by have := HN.out; omega)
      obtain ⟨y, hy⟩ : ∃ y, l[m]? = some y := ⟨_, List.getElem?_eq_getElem (by have := HN.out; omega)⟩
      obtain ⟨x0, x1⟩ := row_hd hr hy
      have x0 := HB2.out.cell (HB.out.cell x0)
      have x1 := HB2.out.cell (HB.out.cell x1)
      have HE := Lib.hid (take_mem l m y h hy)
      have HY := Lib.hid hy
      rw [hp] at c4
      clear hr hy hp
      have K2 := eql_dec y h
      by_cases he : y = h
      · have hd : decide (y = h) = true := decide_eq_true he
        rw [hd] at K2
        have HM : Hid (h ∈ l) := Lib.hid (by rw [← he]; exact List.mem_of_getElem? HY.out)
        clear hd he
        go_wp2
        go_quiet (fail)
        go_wp2
        go_ret
        exact ⟨ret_bool (decide_eq_true HM.out).symm, (HB.out.trans HB2.out).drewN _⟩
      · have hd : decide (y = h) = false := decide_eq_false he
        rw [hd] at K2
        have HM : Hid (h ∉ l.take (m + 1)) := Lib.hid (by rw [HE.out]; rintro (e | e); exact HNot.out e; exact he e.symm)
        clear hd he
        go_wp2
        go_quiet (fail)
        go_wp2
        go_roundw
        case rel => exact ⟨m + 1, by go_num, by omega, HM.out, HB2.out.drewN _⟩
        case measure => simp [intOf]; omega
    · obtain rfl : m = n := by omega
      have HE : Hid (l.take m = l) := Lib.hid (List.take_of_length_le (by have := HN.out; omega))
      go_wp2
      go_ret
      exact ⟨ret_bool (decide_eq_false (by have := HNot.out; rw [HE.out] at this; exact this)).symm, HB.out.trans HB2.out⟩
end Go.Proofs.Ytlohpccfanmiiaa
