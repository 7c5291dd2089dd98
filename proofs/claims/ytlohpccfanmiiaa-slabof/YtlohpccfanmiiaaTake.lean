/-
  Contract of slab's Take.
-/
import Derived.Test.YtlohpccfanmiiaaFree
namespace Go.Proofs.Ytlohpccfanmiiaa
open Go.RowKit
set_option maxHeartbeats 1000000 in
theorem take_full (B : Nat) (f : Nat → Prop) (S : St) (w : World) (hS : Slb w B f S) (hs : Sm S) (hf : S.fr = []) (hn : S.pl ≤ S.tk.length) :
    Calls Try.prog 15 #[.pointer (some ⟨B, 0, none⟩)] w fun e w' => e = .returned (.tuple #[.agg #[.int .i64 0, .int .i64 0], .int .i64 6]) ∧ Bel w w' := by
  have K1 := Lib.hid (fun w' (hb : Slb w' B f S) => pop_none B f S w' hb hf)
  have K2 := Lib.hid (fun w' (hb : Slb w' B f S) => fresh_no B f S w' hb hs hn)
  have HS := Lib.hid hS
  clear hS hs hf hn
  go_enter Try.func15, Try.ntmps15
  go_wp2
  generalize hW : (w.alloc (.cells #[.int .i64 0, .int .i64 0] 38)).alloc (.cells #[.func (.func 28) #[.pointer (some ⟨B, 3, none⟩)] #[], .func (.func 29) #[.pointer (some ⟨B, 0, none⟩)] #[]] 69) = W
  have HB : Hid (Bel w W) := Lib.hid (by rw [← hW]; exact ((Bel.refl _).alloc _ _).alloc _ _)
  have c0 : W.cell? ⟨w.heap.size + 1, 0, none⟩ = some (.func (.func 28) #[.pointer (some ⟨B, 3, none⟩)] #[]) := by rw [← hW]; simp [go_sem]
  have c1 : W.cell? ⟨w.heap.size + 1, 1, none⟩ = some (.func (.func 29) #[.pointer (some ⟨B, 0, none⟩)] #[]) := by rw [← hW]; simp [go_sem]
  have d0 : W.cell? ⟨w.heap.size, 0, none⟩ = some (.int .i64 0) := by rw [← hW]; simp [go_sem]
  have d1 : W.cell? ⟨w.heap.size, 1, none⟩ = some (.int .i64 0) := by rw [← hW]; simp [go_sem]
  have e0 : W.frozen? ⟨w.heap.size, 0, none⟩ = false := by rw [← hW]; simp [go_sem]
  have e1 : W.frozen? ⟨w.heap.size, 1, none⟩ = false := by rw [← hW]; simp [go_sem]
  have HSW := Lib.hid (HS.out.bel HB.out)
  clear hW
  go_loopw [17] (fun v wr => ∃ m : Nat, v = .int .i64 m ∧ m ≤ 2 ∧ wr = W) (fun v _ => 2 - (intOf v).toNat)
  case atStart => exact ⟨0, rfl, by omega, rfl⟩
  case round =>
    obtain ⟨m, rfl, hi, rfl⟩ := hrel
    obtain rfl | rfl | rfl : m = 0 ∨ m = 1 ∨ m = 2 := by omega
    · go_wp2_with fail
      with_reducible refine (K1.out _ HSW.out).mono ?_
      rintro e w1 ⟨rfl, rfl⟩
      go_wp2
      go_roundw
      case rel => exact ⟨1, rfl, by omega, trivial⟩
      case measure => simp [intOf]
    · go_wp2_with fail
      with_reducible refine (K2.out _ HSW.out).mono ?_
      rintro e w1 ⟨rfl, rfl⟩
      go_wp2
      go_roundw
      case rel => exact ⟨2, rfl, by omega, trivial⟩
      case measure => simp [intOf]
    · go_wp2
      exact bodyPost_ret (v := .tuple #[.agg #[.int .i64 0, .int .i64 0], .int .i64 6]) (by simp [results, Try.results15, go_sem, d0, d1]) rfl ⟨rfl, (HB.out.setCell (p := ⟨w.heap.size, 0, none⟩) (Nat.le_refl _) _).setCell (p := ⟨w.heap.size, 1, none⟩) (Nat.le_refl _) _⟩
/-- One place of a slab. -/
theorem Slb.place {w : World} {B : Nat} {f : Nat → Prop} {S : St} (h : Slb w B f S) {k : Nat} {u : Int} {a : Bool} (hk : S.tk[k]? = some ⟨u, a⟩) : ∃ g cap, w.cell? ⟨B, 2, none⟩ = some (.slice (some ⟨g, 0, none⟩) S.tk.length cap) ∧
    w.cell? ⟨g, k * 2, none⟩ = some (.int .i64 u) ∧ w.cell? ⟨g, k * 2 + 1, none⟩ = some (.bool a) ∧ w.frozen? ⟨g, k * 2, none⟩ = false ∧ w.frozen? ⟨g, k * 2 + 1, none⟩ = false ∧ f g ∧ g ≠ B ∧
    ∀ u' a', Slb ((w.setCell ⟨g, k * 2, none⟩ (.int .i64 u')).setCell ⟨g, k * 2 + 1, none⟩ (.bool a')) B f { S with tk := S.tk.set k ⟨u', a'⟩ } ∧ Off f w ((w.setCell ⟨g, k * 2, none⟩ (.int .i64 u')).setCell ⟨g, k * 2 + 1, none⟩ (.bool a')) := by
  obtain ⟨vt, vf, h1⟩ := h
  obtain ⟨pt, ct, hvt, hct, hmx, hlp⟩ := own_slice h1.ot nof (fun _ _ e => e)
  obtain ⟨b, off, rfl, _, hr⟩ := lies_pl hlp (get_lt hk)
  have hoff : off = 0 := by
    rcases h1.ot.2 with ⟨e, _⟩ | ⟨g', cap', cur, e, _⟩
    · rw [hvt] at e; cases e
    · rw [hvt] at e; injection e with e; injection e with e; injection e
  subst hoff
  subst hvt
  obtain ⟨x0, x1⟩ := row_pl hr hk
  simp only [Nat.zero_add] at x0 x1
  refine ⟨b, ct, ?_, x0, x1, h1.ot.frozenAt _, h1.ot.frozenAt _, h1.ft b rfl, fun e => h1.dt (by rw [e]; rfl), fun u' a' => ?_⟩
  · rw [cell_of_row w B _ _ 62 (0, 0) h1.hB]
    rfl
  · have p1 := h1.put (k * 2) (.int .i64 u') (S.tk.set k ⟨u', a⟩) (by simp) (encP_setu S.tk k _ u' hk)
    have hk2 : (S.tk.set k ⟨u', a⟩)[k]? = some ⟨u', a⟩ := List.getElem?_set_self (get_lt hk)
    have p2 := p1.1.put (k * 2 + 1) (.bool a') ((S.tk.set k ⟨u', a⟩).set k ⟨u', a'⟩) (by simp) (encP_seta _ k _ a' hk2)
    rw [List.set_set] at p2
    exact ⟨⟨_, _, p2.1⟩, Off.trans p1.2 p2.2 (fun i e => .inl e)⟩
set_option maxHeartbeats 1000000 in
theorem take_freed (B : Nat) (f : Nat → Prop) (S : St) (r : List Int) (k : Nat) (u : Int) (w : World) (hS : Slb w B f S) (hs : Sm S) (hf : S.fr = r ++ [(k : Int)]) (hk : S.tk[k]? = some ⟨u, false⟩) (hu0 : 0 ≤ u) (hu : u ≤ 65535) :
    Calls Try.prog 15 #[.pointer (some ⟨B, 0, none⟩)] w fun e w' => e = .returned (.tuple #[.agg #[.int .i64 k, .int .i64 (u + 1)], .int .i64 0]) ∧ ∃ f', Slb w' B f' { S with tk := S.tk.set k ⟨u + 1, true⟩, fr := r } ∧ Steps f w f' w' := by
  have K1 := Lib.hid (fun w' (hb : Slb w' B f S) => pop_some B f S r k w' hb hf (by have := hs.f1; rw [hf] at this; simp at this; omega))
  have HS := Lib.hid hS
  have HK := Lib.hid hk
  have hlt := get_lt hk
  have t1 := hs.t1
  obtain ⟨n, hn⟩ : ∃ n, S.tk.length = n := ⟨_, rfl⟩
  rw [hn] at hlt t1
  have HN := Lib.hid hn
  clear hS hs hf hk hn
  go_enter Try.func15, Try.ntmps15
  go_wp2
  generalize hW : (w.alloc (.cells #[.int .i64 0, .int .i64 0] 38)).alloc (.cells #[.func (.func 28) #[.pointer (some ⟨B, 3, none⟩)] #[], .func (.func 29) #[.pointer (some ⟨B, 0, none⟩)] #[]] 69) = W
  have HB : Hid (Bel w W) := Lib.hid (by rw [← hW]; exact ((Bel.refl _).alloc _ _).alloc _ _)
  have c0 : W.cell? ⟨w.heap.size + 1, 0, none⟩ = some (.func (.func 28) #[.pointer (some ⟨B, 3, none⟩)] #[]) := by rw [← hW]; simp [go_sem]
  have c1 : W.cell? ⟨w.heap.size + 1, 1, none⟩ = some (.func (.func 29) #[.pointer (some ⟨B, 0, none⟩)] #[]) := by rw [← hW]; simp [go_sem]
  have d0 : W.cell? ⟨w.heap.size, 0, none⟩ = some (.int .i64 0) := by rw [← hW]; simp [go_sem]
  have d1 : W.cell? ⟨w.heap.size, 1, none⟩ = some (.int .i64 0) := by rw [← hW]; simp [go_sem]
  have e0 : W.frozen? ⟨w.heap.size, 0, none⟩ = false := by rw [← hW]; simp [go_sem]
  have e1 : W.frozen? ⟨w.heap.size, 1, none⟩ = false := by rw [← hW]; simp [go_sem]
  have hz : w.heap.size < W.heap.size := by rw [← hW]; simp; omega
  have HSW := Lib.hid (HS.out.bel HB.out)
  clear hW
  go_loopw [17] (fun v wr => v = .int .i64 0 ∧ wr = W) (fun v _ => 2 - (intOf v).toNat)
  case atStart => exact ⟨rfl, rfl⟩
  case round =>
    obtain ⟨rfl, rfl⟩ := hrel
    go_wp2_with fail
    with_reducible refine (K1.out _ HSW.out).mono ?_
    rintro e w1 ⟨rfl, f1, hsl, hst⟩
    have hnT : ¬ f w.heap.size := fun e => by have := HS.out.lt _ e; omega
    have hnT1 : ¬ f1 w.heap.size := fun e => by
      rcases hst.2 _ e with e | e
      · exact hnT e
      · omega
    have d0 := hst.1.cell hnT d0
    have d1 := hst.1.cell hnT d1
    have e0 : w1.frozen? ⟨w.heap.size, 0, none⟩ = false := hst.1.froz hnT (by assumption) e0
    have e1 : w1.frozen? ⟨w.heap.size, 1, none⟩ = false := hst.1.froz hnT (by assumption) e1
    obtain ⟨g, cap, b20, x0, x1, g0, g1, hfg, hgB, hput⟩ := Slb.place hsl (k := k) HK.out
    have HP := Lib.hid (hput (u + 1) true)
    have HT := Lib.hid hst
    have HV0 := Lib.hid ((hput (u + 1) true).2.cell hnT1 d0)
    have HV1 := Lib.hid ((hput (u + 1) true).2.cell hnT1 d1)
    have hgT : ¬ g = w.heap.size := fun e => hnT1 (by rw [← e]; exact hfg)
    have hgT2 : ¬ w.heap.size = g := fun e => hgT e.symm
    have b2 : w1.cell? ⟨B, 2, none⟩ = some (.slice (some ⟨g, 0, none⟩) n cap) := by rw [← HN.out]; exact b20
    have HnT := Lib.hid hnT
    have HnT1 := Lib.hid hnT1
    clear b20 hput hst hsl hfg hnT hnT1
    go_wp2
    generalize hV : (w1.setCell ⟨g, k * 2, none⟩ (.int .i64 (u + 1))).setCell ⟨g, k * 2 + 1, none⟩ (.bool true) = V at *
    have v0 := HV0.out
    have v1 := HV1.out
    have hS2 : Slb ((V.setCell ⟨w.heap.size, 0, none⟩ (.int .i64 k)).setCell ⟨w.heap.size, 1, none⟩ (.int .i64 (u + 1))) B f1 { S with tk := S.tk.set k ⟨u + 1, true⟩, fr := r } :=
      Slb.off (g := fun j => j = w.heap.size) HP.out.1 (Off.setCell (Off.setCell (Off.refl (fun j => j = w.heap.size) V) (p := ⟨w.heap.size, 0, none⟩) (.inl rfl) _) (p := ⟨w.heap.size, 1, none⟩) (.inl rfl) _) (fun k hk e => HnT1.out (by rw [← e]; exact hk))
    have hO1 : Off f w V := Off.trans (Off.trans (HB.out.off f) HT.out.1 (fun i e => .inl e)) HP.out.2 (fun i e => by
      rcases HT.out.2 i e with e | e
      · exact .inl e
      · exact .inr (by omega))
    have hO : Off f w ((V.setCell ⟨w.heap.size, 0, none⟩ (.int .i64 k)).setCell ⟨w.heap.size, 1, none⟩ (.int .i64 (u + 1))) :=
      Off.setCell (Off.setCell hO1 (p := ⟨w.heap.size, 0, none⟩) (.inr (Nat.le_refl _)) _) (p := ⟨w.heap.size, 1, none⟩) (.inr (Nat.le_refl _)) _
    exact bodyPost_ret (v := .tuple #[.agg #[.int .i64 k, .int .i64 (u + 1)], .int .i64 0]) (by simp [results, Try.results15, go_sem, v0, v1]) rfl ⟨rfl, f1, hS2, hO, fun i e => by
      rcases HT.out.2 i e with e | e
      · exact .inl e
      · exact .inr (by omega)⟩
set_option maxHeartbeats 1000000 in
theorem take_fresh (B : Nat) (f : Nat → Prop) (S : St) (m : Nat) (w : World) (hS : Slb w B f S) (hs : Sm S) (hf : S.fr = []) (hm : S.tk.length = m) (hlt : (m : Int) < S.pl) :
    Calls Try.prog 15 #[.pointer (some ⟨B, 0, none⟩)] w fun e w' => e = .returned (.tuple #[.agg #[.int .i64 m, .int .i64 1], .int .i64 0]) ∧ ∃ f', Slb w' B f' { S with tk := (S.tk ++ ([⟨0, false⟩] : List Pl)).set m ⟨1, true⟩ } ∧ Steps f w f' w' := by
  have K1 := Lib.hid (fun w' (hb : Slb w' B f S) => pop_none B f S w' hb hf)
  have K2 := Lib.hid (fun w' (hb : Slb w' B f S) => fresh_yes B f S w' hb hs (by rw [hm]; exact hlt))
  rw [hm] at K2
  have HS := Lib.hid hS
  have HK : Hid ((S.tk ++ ([⟨0, false⟩] : List Pl))[m]? = some ⟨0, false⟩) := Lib.hid (by rw [← hm]; simp)
  have t1 := hs.t1
  rw [hm] at t1
  obtain ⟨n, hn⟩ : ∃ n, (S.tk ++ ([⟨0, false⟩] : List Pl)).length = n := ⟨_, rfl⟩
  have hn2 : m < n := by rw [← hn, List.length_append, hm]; simp
  have hn3 : n ≤ 1025 := by rw [← hn, List.length_append, hm]; simp; omega
  have HN := Lib.hid hn
  clear hS hs hf hm hn hlt
  go_enter Try.func15, Try.ntmps15
  go_wp2
  generalize hW : (w.alloc (.cells #[.int .i64 0, .int .i64 0] 38)).alloc (.cells #[.func (.func 28) #[.pointer (some ⟨B, 3, none⟩)] #[], .func (.func 29) #[.pointer (some ⟨B, 0, none⟩)] #[]] 69) = W
  have HB : Hid (Bel w W) := Lib.hid (by rw [← hW]; exact ((Bel.refl _).alloc _ _).alloc _ _)
  have c0 : W.cell? ⟨w.heap.size + 1, 0, none⟩ = some (.func (.func 28) #[.pointer (some ⟨B, 3, none⟩)] #[]) := by rw [← hW]; simp [go_sem]
  have c1 : W.cell? ⟨w.heap.size + 1, 1, none⟩ = some (.func (.func 29) #[.pointer (some ⟨B, 0, none⟩)] #[]) := by rw [← hW]; simp [go_sem]
  have d0 : W.cell? ⟨w.heap.size, 0, none⟩ = some (.int .i64 0) := by rw [← hW]; simp [go_sem]
  have d1 : W.cell? ⟨w.heap.size, 1, none⟩ = some (.int .i64 0) := by rw [← hW]; simp [go_sem]
  have e0 : W.frozen? ⟨w.heap.size, 0, none⟩ = false := by rw [← hW]; simp [go_sem]
  have e1 : W.frozen? ⟨w.heap.size, 1, none⟩ = false := by rw [← hW]; simp [go_sem]
  have hz : w.heap.size < W.heap.size := by rw [← hW]; simp; omega
  have HSW := Lib.hid (HS.out.bel HB.out)
  clear hW
  go_loopw [17] (fun v wr => (v = .int .i64 0 ∨ v = .int .i64 1) ∧ wr = W) (fun v _ => 2 - (intOf v).toNat)
  case atStart => exact ⟨.inl rfl, rfl⟩
  case round =>
    obtain ⟨hv, rfl⟩ := hrel
    rcases hv with rfl | rfl
    · go_wp2_with fail
      with_reducible refine (K1.out _ HSW.out).mono ?_
      rintro e w1 ⟨rfl, rfl⟩
      go_wp2
      go_roundw
      case rel => exact ⟨.inr rfl, trivial⟩
      case measure => simp [intOf]
    go_wp2_with fail
    with_reducible refine (K2.out _ HSW.out).mono ?_
    rintro e w1 ⟨rfl, f1, hsl, hst⟩
    have hnT : ¬ f w.heap.size := fun e => by have := HS.out.lt _ e; omega
    have hnT1 : ¬ f1 w.heap.size := fun e => by
      rcases hst.2 _ e with e | e
      · exact hnT e
      · omega
    have d0 := hst.1.cell hnT d0
    have d1 := hst.1.cell hnT d1
    have e0 : w1.frozen? ⟨w.heap.size, 0, none⟩ = false := hst.1.froz hnT (by assumption) e0
    have e1 : w1.frozen? ⟨w.heap.size, 1, none⟩ = false := hst.1.froz hnT (by assumption) e1
    obtain ⟨g, cap, b20, x0, x1, g0, g1, hfg, hgB, hput⟩ := Slb.place hsl (k := m) HK.out
    have HP := Lib.hid (hput 1 true)
    have HT := Lib.hid hst
    have HV0 := Lib.hid ((hput 1 true).2.cell hnT1 d0)
    have HV1 := Lib.hid ((hput 1 true).2.cell hnT1 d1)
    have hgT : ¬ g = w.heap.size := fun e => hnT1 (by rw [← e]; exact hfg)
    have hgT2 : ¬ w.heap.size = g := fun e => hgT e.symm
    have b2 : w1.cell? ⟨B, 2, none⟩ = some (.slice (some ⟨g, 0, none⟩) n cap) := by rw [← HN.out]; exact b20
    have HnT := Lib.hid hnT
    have HnT1 := Lib.hid hnT1
    clear b20 hput hst hsl hfg hnT hnT1
    go_wp2
    generalize hV : (w1.setCell ⟨g, m * 2, none⟩ (.int .i64 (1))).setCell ⟨g, m * 2 + 1, none⟩ (.bool true) = V at *
    have v0 := HV0.out
    have v1 := HV1.out
    have hS2 : Slb ((V.setCell ⟨w.heap.size, 0, none⟩ (.int .i64 m)).setCell ⟨w.heap.size, 1, none⟩ (.int .i64 (1))) B f1 { S with tk := (S.tk ++ ([⟨0, false⟩] : List Pl)).set m ⟨1, true⟩ } :=
      Slb.off (g := fun j => j = w.heap.size) HP.out.1 (Off.setCell (Off.setCell (Off.refl (fun j => j = w.heap.size) V) (p := ⟨w.heap.size, 0, none⟩) (.inl rfl) _) (p := ⟨w.heap.size, 1, none⟩) (.inl rfl) _) (fun k hk e => HnT1.out (by rw [← e]; exact hk))
    have hO1 : Off f w V := Off.trans (Off.trans (HB.out.off f) HT.out.1 (fun i e => .inl e)) HP.out.2 (fun i e => by
      rcases HT.out.2 i e with e | e
      · exact .inl e
      · exact .inr (by omega))
    have hO : Off f w ((V.setCell ⟨w.heap.size, 0, none⟩ (.int .i64 m)).setCell ⟨w.heap.size, 1, none⟩ (.int .i64 (1))) :=
      Off.setCell (Off.setCell hO1 (p := ⟨w.heap.size, 0, none⟩) (.inr (Nat.le_refl _)) _) (p := ⟨w.heap.size, 1, none⟩) (.inr (Nat.le_refl _)) _
    exact bodyPost_ret (v := .tuple #[.agg #[.int .i64 m, .int .i64 (1)], .int .i64 0]) (by simp [results, Try.results15, go_sem, v0, v1]) rfl ⟨rfl, f1, hS2, hO, fun i e => by
      rcases HT.out.2 i e with e | e
      · exact .inl e
      · exact .inr (by omega)⟩
end Go.Proofs.Ytlohpccfanmiiaa
