/-
  Contracts of a queue's told and All.
-/
import Derived.Test.YtmkpnojojkgmiaaRead
import Derived.Test.YtmkpnojojkgmiaaRput
namespace Go.Proofs.Ytmkpnojojkgmiaa
open Go.RowKit
theorem OwnT.off {f : Nat → Prop} {w w' : World} {base : Nat} {v : Value} {l : List T} (h : OwnT w base v l) (hb : Off f w w') (hf : ∀ k, f k → k < base) : OwnT w' base v l := by
  refine ⟨h.1, ?_⟩
  rcases h.2 with hn | ⟨g, cap, cur, rfl, hbb, hgg, rest⟩
  · exact .inl hn
  · refine .inr ⟨g, cap, cur, rfl, hbb, ?_, rest⟩
    rw [hb.block g (Array.getElem?_eq_some_iff.1 hgg).1 (fun e => by have := hf g e; omega)]
    exact hgg
theorem make25 (N : Nat) (hN : N ≤ 5000) (w : World) : ∃ C : Array Value, C.size = N * 3 ∧ (Instr.makeSlice 25 (.int .i64 0) (.int .i64 (N : Int))).run Try.prog w = .ok (.slice (some ⟨w.heap.size, 0, none⟩) 0 N) (w.alloc (.cells C 38)) := by
  obtain ⟨i, hi, hz, hs, hb⟩ := info_parts info38
  have h := run_make (P := Try.prog) w 25 38 i _ Try.underlying25 hi hz .i64 .i64 (0 : Int) (N : Int) (by omega) (by omega) (by rw [hb]; omega) (by omega)
  rw [hs, Int.toNat_natCast] at h
  exact ⟨_, by simp [madeCells], h⟩
theorem own_made (w : World) (C : Array Value) (N base : Nat) (hC : C.size = N * 3) (hN : N ≤ 5000) (hb : base ≤ w.heap.size) : OwnT (w.alloc (.cells C 38)) base (.slice (some ⟨w.heap.size, 0, none⟩) 0 N) [] :=
  ⟨rfl, .inr ⟨w.heap.size, N, C, rfl, hb, heap_alloc_new _ _, Nat.zero_le _, by unfold maxLen; omega, hC, by simp [encs_nil]⟩⟩
set_option maxHeartbeats 1000000 in
theorem told_any (fn : Nat) (en : ∀ args w, (callFunc fn args).run Try.prog w = .ok (.enter fn args) w) (Q n c : Nat) (p : Option Addr) (ys : List Nat) (xs : List T) (f : Nat → Prop) (J : Nat → World → Prop) (w : World)
    (hy : ys.length = n) (hx : xs.length = n) (hn : n ≤ 1024) (hf : ∀ k, f k → k < w.heap.size) (hl : Lies f w p (encI ys)) (hJ : ∀ i a b, J i a → Off (fun k => w.heap.size ≤ k) a b → J i b) (h0 : J 0 w)
    (step : ∀ i w y x, ys[i]? = some y → xs[i]? = some x → J i w → Calls Try.prog fn #[.pointer (some ⟨Q, 0, none⟩), .int .i64 (y : Nat)] w fun e w' => e = .returned (.agg #[.int .u64 x.a, .int .u64 x.s, .int .i64 x.p]) ∧ J (i + 1) w' ∧ Off f w w') :
    Calls Try.prog 27 #[.pointer (some ⟨Q, 0, none⟩), .slice p n c, .func (.func fn) #[] #[]] w fun e w' => OutN w w' e xs ∧ J n w' ∧ Off f w w' := by
  obtain ⟨C, hC, hmk⟩ := make25 n (by omega) w
  have HO0 := Lib.hid (own_made w C n w.heap.size hC (by omega) (Nat.le_refl _))
  have HB0 : Hid (Bel w (w.alloc (.cells C 38))) := Lib.hid ((Bel.refl _).alloc _ _)
  have H0 := Lib.hid (hJ 0 _ _ h0 (HB0.out.off _))
  have HJ := Lib.hid hJ
  have HF := Lib.hid hf
  have HS := Lib.hid step
  have HL := Lib.hid hl
  have HY := Lib.hid hy
  have HX := Lib.hid hx
  clear hC h0 hJ hf step hl hy hx
  go_enter Try.func27, Try.ntmps27
  go_wp2
  generalize w.alloc (.cells C 38) = W at *
  go_loopw [7, 9, 15] (fun o _ v wr => ∃ m : Nat, v = .int .i64 m ∧ m ≤ n ∧ OwnT wr w.heap.size o (xs.take m) ∧ J m wr ∧ Off f w wr) (fun _ _ v _ => n - (intOf v).toNat)
  case atStart => exact ⟨0, rfl, by omega, HO0.out, H0.out, HB0.out.off f⟩
  case round =>
    clear HO0 H0 HB0 hmk
    obtain ⟨m, rfl, hm, ho, hj, hoff⟩ := hrel
    have HO := Lib.hid ho
    have HJm := Lib.hid hj
    have HOf := Lib.hid hoff
    clear ho hj hoff
    by_cases h : m < n
    · obtain ⟨y, hy⟩ : ∃ y, ys[m]? = some y := ⟨_, List.getElem?_eq_getElem (by have := HY.out; omega)⟩
      obtain ⟨x, hx⟩ : ∃ x, xs[m]? = some x := ⟨_, List.getElem?_eq_getElem (by have := HX.out; omega)⟩
      obtain ⟨b, off, rfl, hb, hr⟩ := lies_int HL.out (i := m) (by have := HY.out; omega)
      have y0 := row_int (hr.off hb HOf.out) hy
      have KS := Lib.hid (HS.out m wr y x hy hx HJm.out)
      have HT : Hid (xs.take (m + 1) = xs.take m ++ [x]) := Lib.hid (by
        obtain ⟨h1, h2⟩ := List.getElem?_eq_some_iff.1 hx
        rw [List.take_succ_eq_append_getElem h1, h2])
      have HTL : Hid ((xs.take m).length = m) := Lib.hid (by have := HX.out; simp; omega)
      clear hr hy hx
      go_wp2_with fail
      with_reducible refine KS.out.mono ?_
      rintro e w1 ⟨rfl, hj1, ho1⟩
      have HJ1 := Lib.hid hj1
      have HO1 := Lib.hid (HO.out.off ho1 HF.out)
      have HOf1 := Lib.hid (HOf.out.then ho1)
      have hsz := HOf1.out.size
      clear hj1 ho1 y0
      go_wp2_with (at_builtin; refine wpList_append_any rfl (.tmp 19) (.tmp 24) rfl w.heap.size _ (xs.take m) rfl (HO1.out.bel ((Bel.refl _).alloc _ _)) _ _ _ [x] rfl rfl (has_one _ _) (by have := HTL.out; omega) (by simp; omega) ?_)
      intro v' w2 hown hgrow hnil
      have HO2 : Hid (OwnT w2 w.heap.size v' (xs.take (m + 1))) := Lib.hid (by rw [HT.out]; exact hown)
      have hb2 : Off f w w2 := (HOf1.out.alloc _ _).grown hgrow (fun k hk => .inr (HO1.out.lt k hk).1)
      have HOf2 := Lib.hid hb2
      have HJ2 : Hid (J (m + 1) w2) := Lib.hid (HJ.out _ _ _ HJ1.out (((Off.refl (fun k => w.heap.size ≤ k) w1).alloc _ _).grown hgrow (fun k hk => .inl (HO1.out.lt k hk).1)))
      clear hown hgrow hnil hb2
      go_wp2
      go_roundw
      case rel => exact ⟨m + 1, by go_num, by omega, HO2.out, HJ2.out, HOf2.out⟩
      case measure => simp [intOf]; omega
    · obtain rfl : m = n := by omega
      have HE : Hid (xs.take m = xs) := Lib.hid (List.take_of_length_le (by have := HX.out; omega))
      go_wp2
      go_ret
      have k := HO.out.outN (w := w) (Nat.le_refl _)
      rw [HE.out] at k
      exact ⟨k, HJm.out, HOf.out⟩
theorem all_any (Q B G R P : Nat) (l : List T) (w : World) (h : Qu w Q B G R P l) :
    Calls Try.prog 10 #[.pointer (some ⟨Q, 0, none⟩)] w fun e w' => OutN w w' e l ∧ Bel w w' := by
  obtain ⟨⟨g, r, h, hi⟩, hP⟩ := h
  have HA := Lib.hid h
  obtain ⟨c0, c1⟩ := h.head
  have K1 := Lib.hid (places_any Q B G R P g r l w h hi hP)
  have hlen : l.length ≤ 1024 := Nat.le_trans hi.len hP
  have K2 : Hid (∀ w' p c, Bel w w' → Lies (old w) w' p (encI (pls l)) → Calls Try.prog 27 #[.pointer (some ⟨Q, 0, none⟩), .slice p l.length c, .func (.func 29) #[] #[]] w' fun e w2 => OutN w' w2 e l ∧ Bel w' w2) := Lib.hid (fun w' p c hb hl => by
    have hq := h.bel hb
    refine (told_any 29 (enters_of Try.func29 (by kernel_rfl) rfl) Q l.length c p (pls l) l nof (fun _ w2 => Que w2 Q B G R P g r) w' (by simp [pls]) rfl hlen (fun _ e => e.elim) hl.any ?_ hq ?_).mono fun e w2 ⟨h1, _, h3⟩ => ⟨h1, h3⟩
    · intro i a b ha k
      have l1 := hq.ltQ
      have l2 := hq.ltR
      have l3 := hq.ch.ltB
      have l4 := hq.ch.ltG
      exact ha.off k (by omega) (by omega) (by omega) (by omega)
    · intro i a y x hy hx ha
      obtain ⟨h1, h2⟩ := List.getElem?_eq_some_iff.1 hx
      have hxm : x ∈ l := by rw [← h2]; exact List.getElem_mem h1
      have hyx : y = pl x := by
        have : (pls l)[i]? = some (pl x) := by unfold pls; rw [List.getElem?_map, hx]; rfl
        rw [hy] at this
        exact Option.some.inj this
      obtain ⟨_, h3, h4⟩ := hi.tm x hxm
      rw [hyx]
      have k := at_any Q B G R P g r (pl x) a ha h3 hP
      rw [h4] at k
      exact k.mono fun e w2 ⟨he, hb⟩ => ⟨he, ha.bel hb, hb⟩)
  clear h hi
  go_enter Try.func10, Try.ntmps10
  go_wp2_with fail
  with_reducible refine K1.out.mono ?_
  rintro e w1 ⟨p, c, rfl, hc, hl, hb⟩
  have HK := Lib.hid (K2.out w1 p c hb hl)
  have HB := Lib.hid hb
  clear hb hl
  go_wp2_with fail
  with_reducible refine HK.out.mono ?_
  rintro e w2 ⟨⟨p2, c2, rfl, hc2, hl2⟩, hb2⟩
  have HL2 : Hid (Lies (old w) w2 p2 (encs l)) := Lib.hid (hl2.mono (fun b _ e => Nat.lt_of_lt_of_le e HB.out.size))
  have HB2 := Lib.hid (HB.out.trans hb2)
  clear hl2 hb2
  go_wp2
  go_ret
  exact ⟨⟨p2, c2, rfl, hc2, HL2.out⟩, HB2.out⟩
end Go.Proofs.Ytmkpnojojkgmiaa
