/-
  Contracts of Due and of New.
-/
import Derived.Test.YtdlfppdekllloaaPins
set_option linter.unusedVariables false
set_option linter.unusedSimpArgs false
namespace Go.Proofs.Ytdlfppdekllloaa
open Go.RowKit
theorem wo_head {x : T} {m : List T} (h : ((x :: m).map T.p).Nodup) : wo (x :: m) x.p = m := by
  unfold wo
  rw [List.filter_cons]
  simp only [decide_true, Bool.not_true, Bool.false_eq_true, if_false]
  rw [List.filter_eq_self]
  intro t ht
  rw [List.map_cons, List.nodup_cons] at h
  have hne : t.p ≠ x.p := fun e => h.1 (by rw [← e]; exact List.mem_map.2 ⟨t, ht, rfl⟩)
  rw [decide_eq_false hne]
  rfl
/-- The first one: its node, and how it is taken. -/
theorem first_take (f : Nat → Prop) (Q P : Nat) (x : T) (m : List T) (w : World) (h : Qu f w Q P (x :: m)) :
    ∃ a, w.cell? ⟨Q, 0, none⟩ = some (pt a) ∧ w.cell? ⟨a, 0, none⟩ = some (.int .u64 x.a) ∧ Calls Try.prog 50 #[pt Q, pt a] w fun e w' => e = .returned (.agg #[.int .u64 x.a, .int .u64 x.s, .int .i64 x.p]) ∧ Qu f w' Q P m ∧ Off f w w' := by
  have hnd := h.places.1
  obtain ⟨⟨S, tr, wh, h1, h2, h3, h4, h5⟩, hP, hl⟩ := h
  rcases head_ts h3 h4 with ⟨rfl, e⟩ | ⟨a, t, lx, rfl, e⟩
  · rw [h5] at e; cases e
  · rw [h5] at e
    have e : x = t := Option.some.inj e
    subst e
    have hmem : (a, x) ∈ (Tr.node a x lx .nil).ps := by simp [Tr.ps]
    obtain ⟨k, k1, k2, k3⟩ := h2.at_ _ hmem
    have k1 : x.p = k := k1
    refine ⟨a, h1.head.1.1, (nd_cells h1.is.1).1.1, ?_⟩
    refine (take_any f Q S P _ wh a x k w h1 h2 h3 h4 hP hmem k1 k2 hl).mono fun e w' ⟨he, tr', hbe, hpe, ho⟩ => ⟨he, hbe.qu hP ?_ (fun j e => Nat.lt_of_lt_of_le (hl j e) ho.size), ho⟩
    have := h2.without (t := x) (m := tr'.ts) (hpe.map (fun z : Nat × T => z.2))
    rw [this, h5, wo_head hnd]
def sl : Value → Nat
  | .slice _ n _ => n
  | _ => 0
theorem Qu.empty {f : Nat → Prop} {w : World} {Q P : Nat} (h : Qu f w Q P []) : w.cell? ⟨Q, 0, none⟩ = some pn := by
  obtain ⟨⟨S, tr, wh, h1, h2, h3, h4, h5⟩, hP, hl⟩ := h
  rcases head_ts h3 h4 with ⟨rfl, e⟩ | ⟨a, t, lx, rfl, e⟩
  · exact h1.head.1.1
  · rw [h5] at e; cases e
/-- What holds at each round's head. -/
structure Rd (f : Nat → Prop) (w wr : World) (Q P : Nat) (l d m : List T) (v : Value) (now : Int) : Prop where
  cat : l = d ++ m
  due : ∀ x ∈ d, x.a ≤ now
  own : OwnT wr w.heap.size v d
  qu : Qu f wr Q P m
  off : Off f w wr
theorem Rd.done {f : Nat → Prop} {w wr : World} {Q P : Nat} {l d m : List T} {v : Value} {now : Int} (h : Rd f w wr Q P l d m v now) (hs : So l) (hm : ∀ x ∈ m.head?, ¬ x.a ≤ now) : OutN w wr (.returned v) (Ytdlfppdekllloaa.due l now true) ∧ Qu f wr Q P (Ytdlfppdekllloaa.due l now false) ∧ Off f w wr := by
  have e := due_split (d := d) (m := m) (now := now) (by rw [← h.cat]; exact hs) h.due hm
  rw [h.cat, e.1, e.2]
  exact ⟨h.own.outN (Nat.le_refl _), h.qu, h.off⟩
theorem own_ge {w : World} {base : Nat} {v : Value} {l : List T} (h : OwnT w base v l) {f : Nat → Prop} {n : Nat} (hf : ∀ k, f k → k < n) (hb : n ≤ base) : ∀ k, v.ownBlock = some k → ¬ f k := fun k e e2 => by
  have h1 := (h.lt k e).1
  have h2 := hf k e2
  omega
set_option maxRecDepth 100000 in
set_option maxHeartbeats 2000000 in
theorem due_any (f : Nat → Prop) (Q P : Nat) (l : List T) (now : Int) (w : World) (h : Qu f w Q P l) :
    Calls Try.prog 24 #[.pointer (some ⟨Q, 0, none⟩), .int .u64 now] w fun e w' => OutN w w' e (due l now true) ∧ Qu f w' Q P (due l now false) ∧ Off f w w' := by
  have hlen : l.length ≤ 1024 := Nat.le_trans h.len h.hP
  have HF := Lib.hid h.lt_
  have HSo := Lib.hid h.so
  have R0 : Hid (Rd f w w Q P l [] l (.slice none 0 0) now) := Lib.hid ⟨rfl, fun x hx => by simp at hx, OwnT.nil _ _, h, Off.refl _ _⟩
  clear h
  go_enter Try.func24, Try.ntmps24
  go_wp2
  go_loopw [5] (fun v5 wr => ∃ d m : List T, Rd f w wr Q P l d m v5 now) (fun v5 _ => l.length - sl v5)
  case atStart => exact ⟨[], l, R0.out⟩
  case round =>
    obtain ⟨d, m, hr⟩ := hrel
    have HR := Lib.hid hr
    clear R0
    cases m with
    | nil =>
      have HE := Lib.hid (hr.done HSo.out (fun x hx => by simp at hx))
      have c0 := hr.qu.empty
      clear hr
      go_wp2
      go_ret
      exact HE.out
    | cons x r =>
      obtain ⟨a, c0, c1, K⟩ := first_take f Q P x r wr hr.qu
      have K1 := Lib.hid K
      clear K
      by_cases hx : x.a ≤ now
      · have HL : Hid (d.length + 1 ≤ l.length) := Lib.hid (by rw [hr.cat]; simp)
        have HDL := Lib.hid hr.cat
        clear hr
        go_wp2_with fail
        with_reducible refine (K1.out).mono ?_
        rintro e w2 ⟨rfl, hq2, ho2⟩
        have hO2 : OwnT w2 w.heap.size u5 d := own_off0 HR.out.own ho2 (own_ge HR.out.own HF.out (Nat.le_refl _))
        have HO2 : Hid (OwnT (w2.alloc (.cells #[.int .u64 x.a, .int .u64 x.s, .int .i64 x.p] 35)) w.heap.size u5 d) := Lib.hid (hO2.bel ((Bel.refl _).alloc _ _))
        have HS2 : Hid (w.heap.size ≤ (w2.alloc (.cells #[.int .u64 x.a, .int .u64 x.s, .int .i64 x.p] 35)).heap.size) := Lib.hid (by
          have h1 := (HR.out.off.then ho2).size
          have h2 := Bel.size ((Bel.refl w2).alloc #[.int .u64 x.a, .int .u64 x.s, .int .i64 x.p] 35)
          omega)
        have HQ2 := Lib.hid (hq2.bel ((Bel.refl _).alloc #[.int .u64 x.a, .int .u64 x.s, .int .i64 x.p] 35))
        have HF2 : Hid (Off f w (w2.alloc (.cells #[.int .u64 x.a, .int .u64 x.s, .int .i64 x.p] 35))) := Lib.hid ((HR.out.off.then ho2).alloc _ _)
        have HONE := Lib.hid (has_one w2 x)
        clear hO2 hq2 ho2 c0 c1
        go_wp2_with (at_builtin; refine wpList_append_any rfl (.tmp 23) (.tmp 30) rfl w.heap.size _ d rfl HO2.out _ 1 _ [x] rfl rfl HONE.out (by have := HL.out; omega) HS2.out ?_)
        intro v3 w3 hown3 hgrow3 hnil3
        have hnf : ∀ k, u5.ownBlock = some k → ¬ f k := own_ge HR.out.own HF.out (Nat.le_refl _)
        have HE : Hid (Rd f w w3 Q P l (d ++ [x]) r v3 now) := Lib.hid (by
          refine ⟨by rw [HDL.out]; simp, fun y hy => ?_, hown3, HQ2.out.off (g := fun k => u5.ownBlock = some k) (Off.grown (Off.refl _ _) hgrow3 (fun k e => .inl e)) (fun i hi e => hnf i e hi), Off.grown HF2.out hgrow3 (fun k e => .inr (HR.out.own.lt k e).1)⟩
          rcases List.mem_append.1 hy with hy | hy
          · exact HR.out.due y hy
          · simp at hy; subst hy; exact hx)
        have HW3 := Lib.hid hown3
        clear hown3 hgrow3 hnil3 hnf
        go_wp2
        go_roundw
        case rel => exact ⟨d ++ [x], r, HE.out⟩
        case measure =>
          have h1 : sl v3 = d.length + 1 := by
            obtain ⟨q, c', e, _⟩ := HW3.out.slice
            rw [e]
            simp [sl]
          have h2 : sl u5 = d.length := by
            obtain ⟨q, c', e, _⟩ := HR.out.own.slice
            rw [e]
            rfl
          have := HL.out
          simp only [h1, h2]
          omega
      · have HE := Lib.hid (hr.done HSo.out (fun y hy => by simp at hy; subst hy; exact hx))
        clear hr
        go_wp2
        go_ret
        exact HE.out
theorem made69 (N : Nat) : madeCells (Value.pointer none).cells (N * 1) = (encN N (fun _ => none)).toArray := by
  apply Array.toList_inj.1
  rw [List.toList_toArray]
  apply List.ext_getElem?
  intro k
  unfold madeCells
  rw [Array.getElem?_toList, Array.getElem?_map, Array.getElem?_range, Nat.mul_one]
  by_cases hk : k < N
  · rw [encN_get N _ k hk]
    simp only [hk, if_true, Option.map_some]
    simp [Value.cells, Nat.mod_one, ptv]
  · rw [List.getElem?_eq_none (by rw [encN_len]; omega)]
    simp [hk]
theorem make68 (N : Nat) (hN : N ≤ 2048) (w : World) : (Instr.makeSlice 68 (.int .i64 (N : Int)) (.int .i64 (N : Int))).run Try.prog w = .ok (.slice (some ⟨w.heap.size, 0, none⟩) N N) (w.alloc (.cells (encN N (fun _ => none)).toArray 69)) := by
  obtain ⟨i, hi, hz, hs, hb⟩ := info_parts info69
  have h := run_make (P := Try.prog) w 68 69 i _ Try.underlying68 hi hz .i64 .i64 (N : Int) (N : Int) (by omega) (Int.le_refl _) (by rw [hb]; omega) (by omega)
  rw [hs, Int.toNat_natCast, made69] at h
  exact h
theorem qnew_no (P : Int) (w : World) (h : ¬ (0 ≤ P ∧ P ≤ 1024)) :
    Calls Try.prog 9 #[.int .i64 P] w fun e w' => e = .returned (.tuple #[.pointer none, .int .i64 1]) ∧ w = w' := by
  by_cases a0 : P < 0
  · clear h
    go_enter Try.func9, Try.ntmps9
    go_wp2
    exact bodyPost_ret (v := .tuple #[.pointer none, .int .i64 1]) (by simp [results, Try.results9, go_sem]) rfl ⟨rfl, rfl⟩
  · have a1 : 1024 < P := by omega
    clear h
    go_enter Try.func9, Try.ntmps9
    go_wp2
    exact bodyPost_ret (v := .tuple #[.pointer none, .int .i64 1]) (by simp [results, Try.results9, go_sem]) rfl ⟨rfl, rfl⟩
set_option maxHeartbeats 1000000 in
theorem qnew_yes (P : Nat) (w : World) (hP : P ≤ 1024) :
    Calls Try.prog 9 #[.int .i64 P] w fun e w' => ∃ Q f, e = .returned (.tuple #[.pointer (some ⟨Q, 0, none⟩), .int .i64 0]) ∧ Qu f w' Q P [] ∧ (∀ k, f k → w.heap.size ≤ k) ∧ Bel w w' := by
  have hmk := make68 P (by omega)
  have a0 : ¬ (P : Int) < 0 := by omega
  have a1 : ¬ 1024 < (P : Int) := by omega
  have HT := Lib.hid (two_new w (encN P (fun _ => none)).toArray #[pn, .slice (some ⟨w.heap.size, 0, none⟩) P P] 69 71)
  have HE : Hid (∃ f, Qu f ((w.alloc (.cells (encN P (fun _ => none)).toArray 69)).alloc (.cells #[pn, .slice (some ⟨w.heap.size, 0, none⟩) P P] 71)) (w.heap.size + 1) P [] ∧ (∀ k, f k → w.heap.size ≤ k) ∧ Bel w ((w.alloc (.cells (encN P (fun _ => none)).toArray 69)).alloc (.cells #[pn, .slice (some ⟨w.heap.size, 0, none⟩) P P] 71))) := Lib.hid (by
    obtain ⟨W, eW, hB, hz, n0, n1⟩ := HT.out
    rw [eW]
    refine ⟨fun k => w.heap.size ≤ k ∧ k < W.heap.size, ⟨⟨w.heap.size, .nil, fun _ => none, ⟨n1, n0, trivial, ⟨by omega, by omega⟩, ⟨by omega, by omega⟩, fun a ha => by simp [Tr.ads, Tr.ps] at ha⟩, ⟨by simp [Tr.ads, Tr.ps], fun z hz => by simp [Tr.ps] at hz, fun k _ a e => by cases e⟩, trivial, trivial, rfl⟩, hP, fun k e => e.2⟩, fun k e => e.1, hB⟩)
  clear HT
  generalize (encN P (fun _ => none)).toArray = C0 at *
  go_enter Try.func9, Try.ntmps9
  go_wp2
  obtain ⟨f, h1, h2, h3⟩ := HE.out
  exact bodyPost_ret (v := .tuple #[.pointer (some ⟨w.heap.size + 1, 0, none⟩), .int .i64 0]) (by simp [results, Try.results9, go_sem]) rfl ⟨_, rfl, f, h1, h2, h3⟩
end Go.Proofs.Ytdlfppdekllloaa
