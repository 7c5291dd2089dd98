/-
  Contracts of slab's At, Alive, Len, Worn and Image.
-/
import Derived.Test.YtlohpccfanmiiaaRead
namespace Go.Proofs.Ytlohpccfanmiiaa
open Go.RowKit
theorem row_pl {w : World} {b off : Nat} {l : List Pl} (h : RowG w b off (encP l)) {i : Nat} {x : Pl} (hx : l[i]? = some x) : w.cell? ⟨b, off + i * 2, none⟩ = some (.int .i64 x.u) ∧ w.cell? ⟨b, off + i * 2 + 1, none⟩ = some (.bool x.al) :=
  ⟨h _ _ (encP_get l i x hx).1, h _ _ (encP_get l i x hx).2⟩
theorem row_hd {w : World} {b off : Nat} {l : List Hd} (h : RowG w b off (encH l)) {i : Nat} {x : Hd} (hx : l[i]? = some x) : w.cell? ⟨b, off + i * 2, none⟩ = some (.int .i64 x.p) ∧ w.cell? ⟨b, off + i * 2 + 1, none⟩ = some (.int .i64 x.g) :=
  ⟨h _ _ (encH_get l i x hx).1, h _ _ (encH_get l i x hx).2⟩
theorem row_int {w : World} {b off : Nat} {l : List Int} (h : RowG w b off (encI l)) {i : Nat} {x : Int} (hx : l[i]? = some x) : w.cell? ⟨b, off + i, none⟩ = some (.int .i64 x) := h _ _ (encI_get l i x hx)
theorem row_ac {w : World} {b off : Nat} {l : List Ac} (h : RowG w b off (encA l)) {i : Nat} {x : Ac} (hx : l[i]? = some x) : w.cell? ⟨b, off + i * 4, none⟩ = some (.int .i64 x.k) ∧ w.cell? ⟨b, off + i * 4 + 1, none⟩ = some (.int .i64 x.n) ∧ w.cell? ⟨b, off + i * 4 + 2, none⟩ = some (.int .i64 x.h.p) ∧ w.cell? ⟨b, off + i * 4 + 3, none⟩ = some (.int .i64 x.h.g) :=
  ⟨h _ _ (encA_get l i x hx).1, h _ _ (encA_get l i x hx).2.1, h _ _ (encA_get l i x hx).2.2.1, h _ _ (encA_get l i x hx).2.2.2⟩
theorem lies_pl {f : Nat → Prop} {w : World} {p : Option Addr} {l : List Pl} (h : Lies f w p (encP l)) {i : Nat} (hi : i < l.length) : ∃ b off, p = some ⟨b, off, none⟩ ∧ ¬ f b ∧ RowG w b off (encP l) :=
  h.row (fun e => by have := encP_len l; rw [e] at this; simp at this; omega)
theorem lies_hd {f : Nat → Prop} {w : World} {p : Option Addr} {l : List Hd} (h : Lies f w p (encH l)) {i : Nat} (hi : i < l.length) : ∃ b off, p = some ⟨b, off, none⟩ ∧ ¬ f b ∧ RowG w b off (encH l) :=
  h.row (fun e => by have := encH_len l; rw [e] at this; simp at this; omega)
theorem lies_int {f : Nat → Prop} {w : World} {p : Option Addr} {l : List Int} (h : Lies f w p (encI l)) {i : Nat} (hi : i < l.length) : ∃ b off, p = some ⟨b, off, none⟩ ∧ ¬ f b ∧ RowG w b off (encI l) :=
  h.row (fun e => by have := encI_len l; rw [e] at this; simp at this; omega)
theorem lies_ac {f : Nat → Prop} {w : World} {p : Option Addr} {l : List Ac} (h : Lies f w p (encA l)) {i : Nat} (hi : i < l.length) : ∃ b off, p = some ⟨b, off, none⟩ ∧ ¬ f b ∧ RowG w b off (encA l) :=
  h.row (fun e => by have := encA_len l; rw [e] at this; simp at this; omega)
theorem get_lt {α : Type} {l : List α} {i : Nat} {x : α} (h : l[i]? = some x) : i < l.length := (List.getElem?_eq_some_iff.1 h).1
/-- At, where one is alive. -/
theorem at_some (B : Nat) (f : Nat → Prop) (S : St) (k : Nat) (u : Int) (w : World) (h : Slb w B f S) (hs : Sm S) (hk : S.tk[k]? = some ⟨u, true⟩) :
    Calls Try.prog 24 #[.pointer (some ⟨B, 0, none⟩), .int .i64 k] w fun e w' => e = .returned (.tuple #[.agg #[.int .i64 k, .int .i64 u], .bool true]) ∧ Bel w w' := by
  obtain ⟨pt, ct, pf, cf, c0, c1, c2, c3, _, _, ht, _⟩ := h.read
  have hlt := get_lt hk
  obtain ⟨b, off, rfl, _, hr⟩ := lies_pl ht hlt
  obtain ⟨x0, x1⟩ := row_pl hr hk
  have t1 := hs.t1
  obtain ⟨n, hn⟩ : ∃ n, S.tk.length = n := ⟨_, rfl⟩
  rw [hn] at t1 c2 hlt
  clear hs h hn c1 c0 c3 hr ht hk
  have hd : decide (n ≤ k) = false := decide_eq_false (by omega)
  have hB := World.block_lt_of_cell? w _ c2
  have hb := World.block_lt_of_cell? w _ x0
  go_enter Try.func24, Try.ntmps24
  go_wp2
  exact bodyPost_ret (v := .tuple #[.agg #[.int .i64 k, .int .i64 u], .bool true]) (by simp [results, Try.results24, go_sem]) rfl ⟨rfl, (Bel.refl _).alloc _ _⟩
theorem at_dead (B : Nat) (f : Nat → Prop) (S : St) (k : Nat) (u : Int) (w : World) (h : Slb w B f S) (hs : Sm S) (hk : S.tk[k]? = some ⟨u, false⟩) :
    Calls Try.prog 24 #[.pointer (some ⟨B, 0, none⟩), .int .i64 k] w fun e w' => e = .returned (.tuple #[.agg #[.int .i64 0, .int .i64 0], .bool false]) ∧ Bel w w' := by
  obtain ⟨pt, ct, pf, cf, c0, c1, c2, c3, _, _, ht, _⟩ := h.read
  have hlt := get_lt hk
  obtain ⟨b, off, rfl, _, hr⟩ := lies_pl ht hlt
  obtain ⟨x0, x1⟩ := row_pl hr hk
  have t1 := hs.t1
  obtain ⟨n, hn⟩ : ∃ n, S.tk.length = n := ⟨_, rfl⟩
  rw [hn] at t1 c2 hlt
  clear hs h hn c1 c0 c3 hr ht hk
  have hd : decide (n ≤ k) = false := decide_eq_false (by omega)
  have hB := World.block_lt_of_cell? w _ c2
  have hb := World.block_lt_of_cell? w _ x0
  go_enter Try.func24, Try.ntmps24
  go_wp2
  exact bodyPost_ret (v := .tuple #[.agg #[.int .i64 0, .int .i64 0], .bool false]) (by simp [results, Try.results24, go_sem]) rfl ⟨rfl, (Bel.refl _).alloc _ _⟩
theorem at_out (B : Nat) (f : Nat → Prop) (S : St) (x : Int) (w : World) (h : Slb w B f S) (hs : Sm S) (hk : x < 0 ∨ S.tk.length ≤ x) :
    Calls Try.prog 24 #[.pointer (some ⟨B, 0, none⟩), .int .i64 x] w fun e w' => e = .returned (.tuple #[.agg #[.int .i64 0, .int .i64 0], .bool false]) ∧ Bel w w' := by
  obtain ⟨pt, ct, pf, cf, c0, c1, c2, c3, _, _, ht, _⟩ := h.read
  have t1 := hs.t1
  obtain ⟨n, hn⟩ : ∃ n, S.tk.length = n := ⟨_, rfl⟩
  rw [hn] at t1 c2 hk
  clear hs h hn c1 c0 c3 ht
  have hB := World.block_lt_of_cell? w _ c2
  by_cases hx : x < 0
  · go_enter Try.func24, Try.ntmps24
    go_wp2
    exact bodyPost_ret (v := .tuple #[.agg #[.int .i64 0, .int .i64 0], .bool false]) (by simp [results, Try.results24, go_sem]) rfl ⟨rfl, (Bel.refl _).alloc _ _⟩
  · have hk : (n : Int) ≤ x := by omega
    go_enter Try.func24, Try.ntmps24
    go_wp2
    exact bodyPost_ret (v := .tuple #[.agg #[.int .i64 0, .int .i64 0], .bool false]) (by simp [results, Try.results24, go_sem]) rfl ⟨rfl, (Bel.refl _).alloc _ _⟩
/-- The handle that is alive at a place. -/
def atS (S : St) (x : Int) : Hd × Bool := if 0 ≤ x then (match S.tk[x.toNat]? with | some ⟨u, true⟩ => (⟨x, u⟩, true) | _ => (⟨0, 0⟩, false)) else (⟨0, 0⟩, false)
theorem at_any (B : Nat) (f : Nat → Prop) (S : St) (x : Int) (w : World) (h : Slb w B f S) (hs : Sm S) :
    Calls Try.prog 24 #[.pointer (some ⟨B, 0, none⟩), .int .i64 x] w fun e w' => e = .returned (.tuple #[.agg #[.int .i64 (atS S x).1.p, .int .i64 (atS S x).1.g], .bool (atS S x).2]) ∧ Bel w w' := by
  by_cases h0 : 0 ≤ x
  · obtain ⟨k, rfl⟩ : ∃ k : Nat, x = k := ⟨x.toNat, by omega⟩
    by_cases hk : k < S.tk.length
    · obtain ⟨⟨u, a⟩, hp⟩ : ∃ p, S.tk[k]? = some p := ⟨_, List.getElem?_eq_getElem hk⟩
      cases a
      · have e : atS S k = (⟨0, 0⟩, false) := by unfold atS; simp [hp]
        rw [e]
        exact at_dead B f S k u w h hs hp
      · have e : atS S k = (⟨k, u⟩, true) := by unfold atS; simp [hp]
        rw [e]
        exact at_some B f S k u w h hs hp
    · have e : atS S k = (⟨0, 0⟩, false) := by unfold atS; simp [List.getElem?_eq_none (Nat.le_of_not_lt hk)]
      rw [e]
      exact at_out B f S k w h hs (.inr (by omega))
  · have e : atS S x = (⟨0, 0⟩, false) := by unfold atS; simp [h0]
    rw [e]
    exact at_out B f S x w h hs (.inl (by omega))
theorem atS_lv (S : St) (h : Hd) : lv S h = ((atS S h.p).2 && decide ((atS S h.p).1 = h)) := by
  rw [Bool.eq_iff_iff, lv_iff]
  simp only [Bool.and_eq_true, decide_eq_true_eq]
  constructor
  · rintro ⟨k, h0, h1⟩
    have e : atS S h.p = (⟨h.p, h.g⟩, true) := by unfold atS; rw [h0]; simp [h1]
    rw [e]
    exact ⟨rfl, rfl⟩
  · rintro ⟨h1, h2⟩
    by_cases h0 : 0 ≤ h.p
    · unfold atS at h1 h2
      rw [if_pos h0] at h1 h2
      cases hq : S.tk[h.p.toNat]? with
      | none => rw [hq] at h1; simp at h1
      | some q =>
        obtain ⟨u, a⟩ := q
        cases a
        · rw [hq] at h1; simp at h1
        · rw [hq] at h2
          simp at h2
          refine ⟨h.p.toNat, by omega, ?_⟩
          rw [hq, ← h2]
    · unfold atS at h1
      rw [if_neg h0] at h1
      simp at h1
theorem alive_any (B : Nat) (f : Nat → Prop) (S : St) (h : Hd) (w : World) (hS : Slb w B f S) (hs : Sm S) :
    Calls Try.prog 16 #[.pointer (some ⟨B, 0, none⟩), .agg #[.int .i64 h.p, .int .i64 h.g]] w fun e w' => e = .returned (.bool (lv S h)) ∧ Bel w w' := by
  have HA := Lib.hid (atS_lv S h)
  have K := Lib.hid (fun w (hb : Slb w B f S) => at_any B f S h.p w hb hs)
  have HS := Lib.hid hS
  clear hS hs
  obtain ⟨r, hr⟩ : ∃ r, atS S h.p = r := ⟨_, rfl⟩
  rw [hr] at HA K
  clear hr
  obtain ⟨g, b⟩ := r
  have K2 := eql_dec g h
  cases b
  · go_enter Try.func16, Try.ntmps16
    go_wp2_with fail
    with_reducible refine (K.out _ (HS.out.bel ((Bel.refl _).alloc _ _))).mono ?_
    rintro e w1 ⟨rfl, hb⟩
    have HB : Hid (Bel w w1) := Lib.hid (((Bel.refl _).alloc _ _).trans hb)
    clear hb
    go_wp2
    go_ret
    exact ⟨ret_bool (by rw [HA.out]; rfl), HB.out.alloc _ _⟩
  · go_enter Try.func16, Try.ntmps16
    go_wp2_with fail
    with_reducible refine (K.out _ (HS.out.bel ((Bel.refl _).alloc _ _))).mono ?_
    rintro e w1 ⟨rfl, hb⟩
    have HB : Hid (Bel w w1) := Lib.hid (((Bel.refl _).alloc _ _).trans hb)
    have y0 : w1.cell? ⟨w.heap.size, 0, none⟩ = some (.int .i64 h.p) := hb.cell (by simp [go_sem])
    have y1 : w1.cell? ⟨w.heap.size, 1, none⟩ = some (.int .i64 h.g) := hb.cell (by simp [go_sem])
    have hz : w.heap.size < w1.heap.size := by have := hb.size; simp at this; omega
    clear hb
    go_wp2
    go_ret
    exact ⟨ret_bool (by rw [HA.out]; rfl), HB.out.alloc _ _⟩
theorem len_take (l : List Pl) (k : Nat) (x : Pl) (h : l[k]? = some x) : ((l.take (k + 1)).filter (·.al)).length = ((l.take k).filter (·.al)).length + if x.al then 1 else 0 := by
  rw [List.take_add_one, h, List.filter_append, List.length_append]
  cases hx : x.al <;> simp [hx]
theorem len_any (B : Nat) (f : Nat → Prop) (S : St) (w : World) (h : Slb w B f S) (hs : Sm S) :
    Calls Try.prog 17 #[.pointer (some ⟨B, 0, none⟩)] w fun e w' => e = .returned (.int .i64 (lenS S)) ∧ Bel w w' := by
  obtain ⟨pt, ct, pf, cf, c0, c1, c2, c3, _, _, ht, _⟩ := h.read
  have t1 := hs.t1
  obtain ⟨l, hl⟩ : ∃ l, S.tk = l := ⟨_, rfl⟩
  unfold lenS
  rw [hl] at t1 c2 ht ⊢
  obtain ⟨n, hn⟩ : ∃ n, l.length = n := ⟨_, rfl⟩
  rw [hn] at t1 c2
  have HT := Lib.hid ht
  have HN := Lib.hid hn
  clear hs h hn c1 c0 c3 ht hl
  go_enter Try.func17, Try.ntmps17
  go_wp2
  go_loopw [3, 5, 11] (fun o _ v wr => ∃ m : Nat, v = .int .i64 m ∧ m ≤ n ∧ o = .int .i64 ((l.take m).filter (·.al)).length ∧ Bel w wr) (fun _ _ v _ => n - (intOf v).toNat)
  case atStart => exact ⟨0, rfl, by omega, rfl, Bel.refl _⟩
  case round =>
    obtain ⟨m, rfl, hi, rfl, hb⟩ := hrel
    have HB := Lib.hid hb
    clear hb
    by_cases hlt : m < n
    · obtain ⟨b, off, rfl, _, hr⟩ := lies_pl HT.out (i := m) (by have := HN.out; omega)
      obtain ⟨x, hx⟩ : ∃ x, l[m]? = some x := ⟨_, List.getElem?_eq_getElem (by have := HN.out; omega)⟩
      obtain ⟨x0, x1⟩ := row_pl hr hx
      have x0 := HB.out.cell x0
      have x1 := HB.out.cell x1
      have HE := Lib.hid (len_take l m x hx)
      have hle : ((l.take m).filter (·.al)).length ≤ m := Nat.le_trans (List.length_filter_le _ _) (by simp; omega)
      clear hr hx
      obtain ⟨q, hq⟩ : ∃ q, ((l.take m).filter (·.al)).length = q := ⟨_, rfl⟩
      rw [hq] at HE hle ⊢
      clear hq
      obtain ⟨u, a⟩ := x
      cases a
      · go_wp2
        go_roundw
        case rel => exact ⟨m + 1, by go_num, by omega, by rw [HE.out]; rfl, HB.out.alloc _ _⟩
        case measure => simp [intOf]; omega
      · go_wp2
        go_roundw
        case rel => exact ⟨m + 1, by go_num, by omega, by rw [HE.out]; go_num, HB.out.alloc _ _⟩
        case measure => simp [intOf]; omega
    · obtain rfl : m = n := by omega
      have HE : Hid (l.take m = l) := Lib.hid (List.take_of_length_le (by have := HN.out; omega))
      rw [HE.out]
      go_wp2
      go_ret
      exact ⟨rfl, HB.out⟩
end Go.Proofs.Ytlohpccfanmiiaa
