/-
  Contract of Due.
-/
import Derived.Test.YtaabalkfpjeheaaHins
namespace Go.Proofs.Ytaabalkfpjeheaa
open Go.RowKit
theorem wo_head {x : T} {m : List T} (h : ((x :: m).map T.p).Nodup) : wo (x :: m) x.p = m := by
  unfold wo
  rw [List.filter_cons]
  simp only [decide_true, Bool.not_true, Bool.false_eq_true, if_false]
  rw [List.filter_eq_self]
  intro t ht
  rw [List.map_cons, List.nodup_cons] at h
  have hne : t.p ≠ x.p := fun e => h.1 (by rw [← e]; exact List.mem_map.2 ⟨t, ht, rfl⟩)
  rw [decide_eq_false hne]
  rfl
/-- The first one is taken. -/
theorem first_take (f : Nat → Prop) (Q P : Nat) (x : T) (m : List T) (w : World) (h : Qu f w Q P (x :: m)) :
    Calls Try.prog 37 #[.pointer (some ⟨Q, 0, none⟩), .int .i64 0] w fun e w' => e = .returned (.agg #[.int .u64 x.a, .int .u64 x.s, .int .i64 x.p]) ∧ Qu f w' Q P m ∧ Off f w w' := by
  have hnd := h.places.1
  obtain ⟨⟨C, S, p, cap, hh, wh, h1, h2, h3, h4⟩, hP, hl⟩ := h
  have h0 : 0 < hh.length := by
    have := srt_len hh
    rw [h4] at this
    simp at this
    omega
  obtain ⟨r, hr⟩ := srt_head h3 h0
  rw [h4] at hr
  injection hr with hx _
  have K := take_any f Q C S P p cap hh wh 0 w h1 h2 h3 hP h0 hl
  rw [← hx] at K
  refine K.mono fun e w' ⟨he, ⟨l', wh', hm, hw, hhp, hpe⟩, ho⟩ => ⟨he, ⟨⟨C, S, p, cap, l', wh', hm, hw, hhp, ?_⟩, hP, fun j e => Nat.lt_of_lt_of_le (hl j e) ho.size⟩, ho⟩
  have := h2.without h0 (m := l') (by rw [← hx]; exact hpe)
  rw [this, h4, ← hx, wo_head hnd]
def sl : Value → Nat
  | .slice _ n _ => n
  | _ => 0
/-- The first of a list, or the zero timer. -/
def fst1 (m : List T) : T := m.head?.getD default
theorem ans_fst (m : List T) : ansT m.head? = .tuple #[.agg #[.int .u64 (fst1 m).a, .int .u64 (fst1 m).s, .int .i64 (fst1 m).p], .bool (!m.isEmpty)] := by
  cases m <;> rfl
/-- What holds at each round's head. -/
structure Rd (f : Nat → Prop) (w wr : World) (Q P : Nat) (l d m : List T) (v : Value) (b : Nat) (now : Int) : Prop where
  cat : l = d ++ m
  due : ∀ x ∈ d, x.a ≤ now
  own : OwnT wr w.heap.size v d
  box : wr.heap[b]? = some (.cells #[.int .u64 (fst1 m).a, .int .u64 (fst1 m).s, .int .i64 (fst1 m).p] 25 (0, 0))
  new : w.heap.size ≤ b
  ne : ∀ k, v.ownBlock = some k → ¬ k = b
  qu : Qu f wr Q P m
  off : Off f w wr
theorem Rd.done {f : Nat → Prop} {w wr : World} {Q P : Nat} {l d m : List T} {v : Value} {b : Nat} {now : Int} (h : Rd f w wr Q P l d m v b now) (hs : So l) (hm : ∀ x ∈ m.head?, ¬ x.a ≤ now) : OutN w wr (.returned v) (Ytaabalkfpjeheaa.due l now true) ∧ Qu f wr Q P (Ytaabalkfpjeheaa.due l now false) ∧ Off f w wr := by
  have e := due_split (d := d) (m := m) (now := now) (by rw [← h.cat]; exact hs) h.due hm
  rw [h.cat, e.1, e.2]
  exact ⟨h.own.outN (Nat.le_refl _), h.qu, h.off⟩
theorem box3_set {w : World} {b : Nat} {x y z x' y' z' : Value} {t : TypeId} (h : w.heap[b]? = some (.cells #[x, y, z] t (0, 0))) : (((w.setCell ⟨b, 0, none⟩ x').setCell ⟨b, 1, none⟩ y').setCell ⟨b, 2, none⟩ z').heap[b]? = some (.cells #[x', y', z'] t (0, 0)) := by
  have e1 := heap_setCell_same w b 0 _ t x' h
  have e2 := heap_setCell_same _ b 1 _ t y' e1
  have e3 := heap_setCell_same _ b 2 _ t z' e2
  exact e3
theorem own_ge {w : World} {base : Nat} {v : Value} {l : List T} (h : OwnT w base v l) {f : Nat → Prop} {n : Nat} (hf : ∀ k, f k → k < n) (hb : n ≤ base) : ∀ k, v.ownBlock = some k → ¬ f k := fun k e e2 => by
  have h1 := (h.lt k e).1
  have h2 := hf k e2
  omega
set_option maxHeartbeats 2000000 in
theorem due_any (f : Nat → Prop) (Q P : Nat) (l : List T) (now : Int) (w : World) (h : Qu f w Q P l) :
    Calls Try.prog 27 #[.pointer (some ⟨Q, 0, none⟩), .int .u64 now] w fun e w' => OutN w w' e (due l now true) ∧ Qu f w' Q P (due l now false) ∧ Off f w w' := by
  have hlen : l.length ≤ 1024 := Nat.le_trans h.len h.hP
  have H := Lib.hid h
  have HF := Lib.hid h.lt_
  have HSo := Lib.hid h.so
  have K0 := Lib.hid (min_any f Q P l w h)
  rw [ans_fst] at K0
  clear h
  go_enter Try.func27, Try.ntmps27
  go_wp2_with fail
  with_reducible refine (K0.out).mono ?_
  rintro e w1 ⟨rfl, hb⟩
  have HB := Lib.hid hb
  have R0 : Hid (Rd f w (w1.alloc (.cells #[.int .u64 (fst1 l).a, .int .u64 (fst1 l).s, .int .i64 (fst1 l).p] 25)) Q P l [] l (.slice none 0 0) w1.heap.size now) := Lib.hid
    ⟨rfl, fun x hx => by simp at hx, OwnT.nil _ _, heap_alloc_new _ _, hb.size, fun k e => by simp [Value.ownBlock] at e, H.out.bel (hb.alloc _ _), ((hb.alloc _ _).off f)⟩
  clear hb
  go_wp2
  go_loopw [5, 6, 7] (fun v5 v6 v7 wr => ∃ (d m : List T) (b : Nat), v6 = .pointer (some ⟨b, 0, none⟩) ∧ v7 = .bool (!m.isEmpty) ∧ Rd f w wr Q P l d m v5 b now) (fun v5 _ _ _ => l.length - sl v5)
  case atStart => exact ⟨[], l, w1.heap.size, rfl, rfl, R0.out⟩
  case round =>
    obtain ⟨d, m, b, rfl, rfl, hr⟩ := hrel
    have HR := Lib.hid hr
    clear R0
    cases m with
    | nil =>
      have HE := Lib.hid (hr.done HSo.out (fun x hx => by simp at hx))
      clear hr
      simp only [List.isEmpty_nil, Bool.not_true]
      go_wp2
      go_ret
      exact HE.out
    | cons x r =>
      obtain ⟨x0, x1, x2⟩ : wr.cell? ⟨b, 0, none⟩ = some (.int .u64 x.a) ∧ wr.cell? ⟨b, 1, none⟩ = some (.int .u64 x.s) ∧ wr.cell? ⟨b, 2, none⟩ = some (.int .i64 x.p) := (box3 hr.box).1
      simp only [List.isEmpty_cons, Bool.not_false]
      by_cases hx : x.a ≤ now
      · have K1 := Lib.hid (first_take f Q P x r wr hr.qu)
        have HL : Hid (d.length + 1 ≤ l.length) := Lib.hid (by rw [hr.cat]; simp)
        have HDL := Lib.hid hr.cat
        clear hr
        go_wp2_with fail
        with_reducible refine (K1.out).mono ?_
        rintro e w2 ⟨rfl, hq2, ho2⟩
        have hO2 : OwnT w2 w.heap.size u5 d := own_off0 HR.out.own ho2 (own_ge HR.out.own HF.out (Nat.le_refl _))
        have nb : ¬ f b := fun e => by have := HF.out _ e; have := HR.out.new; omega
        have lb : b < wr.heap.size := (Array.getElem?_eq_some_iff.1 HR.out.box).1
        have hb2 : w2.heap[b]? = some (.cells #[.int .u64 x.a, .int .u64 x.s, .int .i64 x.p] 25 (0, 0)) := (ho2.block _ lb nb).trans HR.out.box
        have HO2 : Hid (OwnT (w2.alloc (.cells #[.int .u64 x.a, .int .u64 x.s, .int .i64 x.p] 25)) w.heap.size u5 d) := Lib.hid (hO2.bel ((Bel.refl _).alloc _ _))
        have HS2 : Hid (w.heap.size ≤ (w2.alloc (.cells #[.int .u64 x.a, .int .u64 x.s, .int .i64 x.p] 25)).heap.size) := Lib.hid (by
          have h1 := (HR.out.off.then ho2).size
          have h2 := Bel.size ((Bel.refl w2).alloc #[.int .u64 x.a, .int .u64 x.s, .int .i64 x.p] 25)
          omega)
        have HQ2 := Lib.hid (hq2.bel ((Bel.refl _).alloc #[.int .u64 x.a, .int .u64 x.s, .int .i64 x.p] 25))
        have HF2 : Hid (Off f w (w2.alloc (.cells #[.int .u64 x.a, .int .u64 x.s, .int .i64 x.p] 25))) := Lib.hid ((HR.out.off.then ho2).alloc _ _)
        have HB2 := Lib.hid (((Bel.refl w2).alloc #[.int .u64 x.a, .int .u64 x.s, .int .i64 x.p] 25).heap hb2)
        have HONE := Lib.hid (has_one w2 x)
        have HNB : Hid (¬ f b) := Lib.hid nb
        clear hO2 hb2 hq2 ho2 x0 x1 x2 nb
        go_wp2_with (at_builtin; refine wpList_append_any rfl (.tmp 25) (.tmp 30) rfl w.heap.size _ d rfl HO2.out _ 1 _ [x] rfl rfl HONE.out (by have := HL.out; omega) HS2.out ?_)
        intro v3 w3 hown3 hgrow3 hnil3
        have hb3 : w3.heap[b]? = some (.cells #[.int .u64 x.a, .int .u64 x.s, .int .i64 x.p] 25 (0, 0)) := (hgrow3.block b (Array.getElem?_eq_some_iff.1 HB2.out).1 (fun e => HR.out.ne b e.symm rfl)).trans HB2.out
        have hnf : ∀ k, u5.ownBlock = some k → ¬ f k := own_ge HR.out.own HF.out (Nat.le_refl _)
        have HO3 : Hid (Off f w w3) := Lib.hid (Off.grown HF2.out hgrow3 (fun k e => .inr (HR.out.own.lt k e).1))
        have hq3 : Qu f w3 Q P r := HQ2.out.off (g := fun k => u5.ownBlock = some k) (Off.grown (Off.refl _ _) hgrow3 (fun k e => .inl e)) (fun i hi e => hnf i e hi)
        obtain ⟨⟨x0, x1, x2⟩, _⟩ := box3 hb3
        have lb3 : b < w3.heap.size := (Array.getElem?_eq_some_iff.1 hb3).1
        have HB3 : Hid (Bel w3 (w3.alloc (.cells #[.int .u64 x.a, .int .u64 x.s, .int .i64 x.p] 25))) := Lib.hid ((Bel.refl _).alloc _ _)
        have HN3 : Hid ((w3.alloc (.cells #[.int .u64 x.a, .int .u64 x.s, .int .i64 x.p] 25)).heap[w3.heap.size]? = some (.cells #[.int .u64 x.a, .int .u64 x.s, .int .i64 x.p] 25 (0, 0))) := Lib.hid (heap_alloc_new _ _)
        have HW3 := Lib.hid hown3
        have HQ3 := Lib.hid hq3
        have K4 := Lib.hid (fun w' (h : Qu f w' Q P r) => min_any f Q P r w' h)
        rw [ans_fst] at K4
        clear hown3 hgrow3 hnil3 hb3 hnf hq3
        go_upto_region 4 with (fail)
        generalize w3.alloc (.cells #[.int .u64 x.a, .int .u64 x.s, .int .i64 x.p] 25) = W4 at *
        go_wp2_with fail
        with_reducible refine (K4.out _ (HQ3.out.bel HB3.out)).mono ?_
        rintro e w5 ⟨rfl, hb5⟩
        obtain ⟨c, ec⟩ : ∃ c, w3.heap.size = c := ⟨_, rfl⟩
        rw [ec] at HN3 ⊢
        have hbx := hb5.heap HN3.out
        have HB5 := Lib.hid (HB3.out.trans hb5)
        obtain ⟨⟨z0, z1, z2⟩, f0, f1, f2⟩ := box3 hbx
        have HE : Hid (Rd f w (((w5.setCell ⟨c, 0, none⟩ (.int .u64 (fst1 r).a)).setCell ⟨c, 1, none⟩ (.int .u64 (fst1 r).s)).setCell ⟨c, 2, none⟩ (.int .i64 (fst1 r).p)) Q P l (d ++ [x]) r v3 c now) := Lib.hid (by
          have o := off3 w5 c (.int .u64 (fst1 r).a) (.int .u64 (fst1 r).s) (.int .i64 (fst1 r).p)
          have hs := HO3.out.size
          have hlt : ∀ k, v3.ownBlock = some k → ¬ k = c := fun k e e2 => by have := (HW3.out.lt k e).2; omega
          refine ⟨by rw [HDL.out]; simp, fun y hy => ?_, own_off0 (HW3.out.bel HB5.out) o hlt, box3_set hbx, by omega, hlt, (HQ3.out.bel HB5.out).off o (fun i hi e => by have h1 := HF.out i hi; have : i = c := e; omega), Off.trans (HO3.out.thenB HB5.out) o (fun i e => .inr (by have : i = c := e; omega))⟩
          rcases List.mem_append.1 hy with hy | hy
          · exact HR.out.due y hy
          · simp at hy; subst hy; exact hx)
        clear hb5 hbx
        go_wp2
        go_roundw
        case rel => exact ⟨d ++ [x], r, c, rfl, rfl, HE.out⟩
        case measure =>
          have h1 : sl v3 = d.length + 1 := by
            obtain ⟨q, c', e, _⟩ := HW3.out.slice
            rw [e]
            simp [sl]
          have h2 : sl u5 = d.length := by
            obtain ⟨q, c', e, _⟩ := HR.out.own.slice
            rw [e]
            rfl
          have := HL.out
          simp only [h1, h2]
          omega
      · have HE := Lib.hid (hr.done HSo.out (fun y hy => by simp at hy; subst hy; exact hx))
        clear hr
        go_wp2
        go_ret
        exact HE.out
end Go.Proofs.Ytaabalkfpjeheaa
