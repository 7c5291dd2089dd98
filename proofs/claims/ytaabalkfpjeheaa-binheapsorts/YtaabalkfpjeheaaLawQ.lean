/-
  The walk of BinheapSorts.
-/
import Derived.Test.YtaabalkfpjeheaaHdue
import Derived.Test.YtaabalkfpjeheaaWorks
namespace Go.Proofs.Ytaabalkfpjeheaa
open Go.RowKit
theorem sorts_long (P : Int) (pa : Option Addr) (N ca : Nat) (w : World) (h : 200 < N) :
    Calls Try.prog 4 #[.int .i64 P, .slice pa N ca] w fun e w' => e = .returned (.bool true) ∧ Bel w w' := by
  have K := Lib.hid (works_any w)
  have h0 : (200 : Int) < N := by omega
  go_enter Try.func4, Try.ntmps4
  go_wp2_with fail
  with_reducible refine K.out.mono ?_
  rintro e w1 ⟨rfl, hb⟩
  go_wp2
  go_ret
  exact ⟨rfl, hb⟩
theorem sorts_no (P : Int) (pa : Option Addr) (N ca : Nat) (w : World) (hN : N ≤ 200) (h : ¬ (0 ≤ P ∧ P ≤ 1024)) :
    Calls Try.prog 4 #[.int .i64 P, .slice pa N ca] w fun e w' => e = .returned (.bool true) ∧ Bel w w' := by
  have K := Lib.hid (works_any w)
  have KB := Lib.hid (fun w' => qnew_no P w' h)
  have h0 : ¬ (200 : Int) < N := by omega
  clear h hN
  go_enter Try.func4, Try.ntmps4
  go_wp2_with fail
  with_reducible refine K.out.mono ?_
  rintro e w1 ⟨rfl, hb⟩
  have HB := Lib.hid hb
  clear hb
  go_wp2_with fail
  with_reducible refine (KB.out _).mono ?_
  rintro e w2 ⟨rfl, rfl⟩
  go_wp2
  go_ret
  exact ⟨rfl, HB.out⟩
/-- A queue, and a row of the call's own outside it. -/
structure Iq (w wr : World) (Q P : Nat) (m r : List T) (v : Value) : Prop where
  ex : ∃ f, Qu f wr Q P m ∧ (∀ k, f k → w.heap.size ≤ k) ∧ ∀ k, v.ownBlock = some k → ¬ f k
  own : OwnT wr w.heap.size v r
  bel : Bel w wr
theorem Iq.insert {w wr : World} {Q P : Nat} {m r : List T} {v : Value} (h : Iq w wr Q P m r v) (t : T) :
    Calls Try.prog 22 #[.pointer (some ⟨Q, 0, none⟩), .agg #[.int .u64 t.a, .int .u64 t.s, .int .i64 t.p]] wr fun e w2 => e = .returned (.int .i64 (insE P m t)) ∧ Iq w w2 Q P (insL P m t) r v := by
  obtain ⟨⟨f, h1, h2, h3⟩, h4, h5⟩ := h
  refine (insert_any f Q P m t wr h1).mono fun e w2 ⟨he, f', hf, hq, ho⟩ => ⟨he, ⟨f', hq, fun k e => ?_, fun k e e2 => ?_⟩, own_off0 h4 ho h3, Off.trans h5 ho (fun i e => .inr (h2 i e))⟩
  · rcases hf k e with e | e
    · exact h2 k e
    · exact Nat.le_trans h5.size e.1
  · rcases hf k e2 with e3 | e3
    · exact h3 k e e3
    · have := (h4.lt k e).2; omega
theorem own_zero {w : World} {base : Nat} {v : Value} {l : List T} (h : OwnT w base v l) : OwnT w 0 v l := by
  refine ⟨h.1, ?_⟩
  rcases h.2 with hn | ⟨b, cap, cur, rfl, hbb, rest⟩
  · exact .inl hn
  · exact .inr ⟨b, cap, cur, rfl, Nat.zero_le _, rest⟩
theorem own_up {w : World} {base : Nat} {v : Value} {l : List T} (h : OwnT w 0 v l) (hb : ∀ k, v.ownBlock = some k → base ≤ k) : OwnT w base v l := by
  refine ⟨h.1, ?_⟩
  rcases h.2 with hn | ⟨b, cap, cur, rfl, hbb, rest⟩
  · exact .inl hn
  · exact .inr ⟨b, cap, cur, rfl, hb b rfl, rest⟩
theorem Iq.append {w wr V w' : World} {Q P : Nat} {m r : List T} {v v' : Value} {x : T} (h : Iq w wr Q P m r v) (hV : Bel wr V) (ho : w'.ownsRow 0 25 3 v' (r.length + 1) (encs r ++ encs [x])) (hg : V.grownBy w' v.ownBlock) (hn : ∀ k, v'.ownBlock = some k → v.ownBlock = some k ∨ V.heap.size ≤ k) : Iq w w' Q P m (r ++ [x]) v' := by
  obtain ⟨⟨f, h1, h2, h3⟩, h4, h5⟩ := h
  have h0 : OwnT w' 0 v' (r ++ [x]) := by
    unfold OwnT
    rw [List.length_append, encs_append]
    exact ho
  have o1 : Off (fun k => v.ownBlock = some k) wr w' := Off.grown (hV.off _) hg (fun k e => .inl e)
  refine ⟨⟨f, h1.off o1 (fun i e e2 => h3 i e2 e), h2, fun k e e2 => ?_⟩, own_up h0 (fun k e => ?_), Off.trans h5 o1 (fun i e => .inr (h4.lt i e).1)⟩
  · rcases hn k e with e3 | e3
    · exact h3 k e3 e2
    · have h6 := h1.lt_ k e2; have h7 := hV.size; omega
  · rcases hn k e with e3 | e3
    · exact (h4.lt k e3).1
    · have h7 := hV.size; have h8 := h5.size; omega
theorem Iq.le {w wr wy : World} {Q P : Nat} {m r : List T} {v : Value} (h : Iq w wr Q P m r v) (k : Bel wr wy) : Iq w wy Q P m r v := by
  obtain ⟨⟨f, h1, h2, h3⟩, h4, h5⟩ := h
  exact ⟨⟨f, h1.bel k, h2, h3⟩, h4.bel k, h5.trans k⟩
/-- In the second loop: what was taken out, and what pends. -/
structure Oq (f : Nat → Prop) (w5 wr : World) (Q P : Nat) (d r : List T) (v : Value) : Prop where
  qu : Qu f wr Q P r
  own : OwnT wr w5.heap.size v d
  off : Off f w5 wr
theorem Oq.le {f : Nat → Prop} {w5 wr wy : World} {Q P : Nat} {d r : List T} {v : Value} (h : Oq f w5 wr Q P d r v) (k : Bel wr wy) : Oq f w5 wy Q P d r v := ⟨h.qu.bel k, h.own.bel k, h.off.thenB k⟩
set_option maxHeartbeats 4000000 in
set_option maxRecDepth 100000 in
theorem sorts_yes (P : Nat) (pa : Option Addr) (N ca : Nat) (l : List T) (w : World) (hN : N ≤ 200) (hl : l.length = N) (hA : Has w pa l) (hP : P ≤ 1024) :
    Calls Try.prog 4 #[.int .i64 P, .slice pa N ca] w fun e w' => e = .returned (.bool true) ∧ Bel w w' := by
  have K := Lib.hid (works_any w)
  have KB := Lib.hid (fun w' => qnew_yes P w' hP)
  have h0 : ¬ (200 : Int) < N := by omega
  have HA := Lib.hid hA
  have HN := Lib.hid hl
  clear hA hl hP
  go_enter Try.func4, Try.ntmps4
  go_wp2_with fail
  with_reducible refine K.out.mono ?_
  rintro e w1 ⟨rfl, hb⟩
  have HB := Lib.hid hb
  clear hb K
  go_wp2_with fail
  with_reducible refine (KB.out _).mono ?_
  rintro e w2 ⟨Q, f, rfl, hq, hf, hb2⟩
  have I0 : Hid (Iq w w2 Q P (srt []) [] (.slice none 0 0)) := Lib.hid ⟨⟨f, hq, fun k e => Nat.le_trans HB.out.size (hf k e), fun k e => by simp [Value.ownBlock] at e⟩, OwnT.nil _ _, HB.out.trans hb2⟩
  clear hq hf hb2 KB HB
  go_wp2
  go_loopw [8, 9] (fun v i wr => ∃ (k : Nat) (inn : List T), i = .int .i64 k ∧ k ≤ N ∧ inn.length ≤ k ∧ Iq w wr Q P (srt inn) inn v) (fun _ i _ => N - (intOf i).toNat)
  case atStart => exact ⟨0, [], rfl, by omega, by simp, I0.out⟩
  case round =>
    obtain ⟨k, inn, rfl, hk, hin, hiq⟩ := hrel
    have HI := Lib.hid hiq
    clear hiq I0
    by_cases h : k < N
    · obtain ⟨b, off, rfl, hr⟩ := (HA.out.bel HI.out.bel).row (by rw [HN.out]; omega)
      obtain ⟨x, hx⟩ : ∃ x, l.getD k default = x := ⟨_, rfl⟩
      have hx9 := hr k (by rw [HN.out]; omega)
      rw [hx] at hx9
      obtain ⟨x0, x1, x2⟩ := hx9
      have HAX : Hid (∀ wy, Bel w wy → wy.cell? ⟨b, off + k * 3, none⟩ = some (.int .u64 x.a) ∧ wy.cell? ⟨b, off + k * 3 + 1, none⟩ = some (.int .u64 x.s) ∧ wy.cell? ⟨b, off + k * 3 + 2, none⟩ = some (.int .i64 x.p)) := Lib.hid (fun wy hy => by
        obtain ⟨b', off', e', hr'⟩ := (HA.out.bel hy).row (by rw [HN.out]; omega)
        injection e' with e'
        injection e' with e1 e2
        subst e1 e2
        have := hr' k (by rw [HN.out]; omega)
        rw [hx] at this
        exact this)
      have KI := Lib.hid (HI.out.insert x)
      have b1 : (k : Int) < (N : Int) := by omega
      clear hr hx
      by_cases he : insE P (srt inn) x = 0
      · have e2 : insL P (srt inn) x = srt (inn ++ [x]) := by unfold insL; rw [if_pos he, srt_snoc]
        rw [he, e2] at KI
        clear he e2
        go_wp2_with fail
        with_reducible refine (KI.out).mono ?_
        rintro e w3 ⟨rfl, hi3⟩
        obtain ⟨y0, y1, y2⟩ := HAX.out w3 hi3.bel
        have HI3 := Lib.hid hi3
        have HB3 : Hid (Bel w3 (w3.alloc (.cells #[.int .u64 x.a, .int .u64 x.s, .int .i64 x.p] 25))) := Lib.hid ((Bel.refl _).alloc _ _)
        have HO3 : Hid ((w3.alloc (.cells #[.int .u64 x.a, .int .u64 x.s, .int .i64 x.p] 25)).ownsRow 0 25 3 u8 inn.length (encs inn)) := Lib.hid (own_zero (hi3.own.bel HB3.out))
        have HONE : Hid (Lies nof (w3.alloc (.cells #[.int .u64 x.a, .int .u64 x.s, .int .i64 x.p] 25)) (some ⟨w3.heap.size, 0, none⟩) (encs [x])) := Lib.hid (has_one w3 x).lies
        clear hi3 x0 x1 x2 KI HI
        go_wp2_with (at_builtin; refine wpList_append_gen el33 rfl (.tmp 57) (.tmp 62) rfl _ inn.length (encs inn) rfl HO3.out _ 1 _ (encs [x]) rfl rfl HONE.out (encs_one' [x]) (by omega) ?_)
        intro v5 w5 hown5 hgrow5 hblk5
        have HI5 := Lib.hid (HI3.out.append HB3.out hown5 hgrow5 (by simpa using hblk5))
        clear hown5 hgrow5 hblk5 y0 y1 y2
        go_wp2
        go_roundw
        case rel => exact ⟨k + 1, inn ++ [x], by go_num, by omega, by simp; omega, HI5.out⟩
        case measure => simp [intOf]; omega
      · have e2 : insL P (srt inn) x = srt inn := by unfold insL; rw [if_neg he]
        rw [e2] at KI
        obtain ⟨er, her⟩ : ∃ er, insE P (srt inn) x = er := ⟨_, rfl⟩
        rw [her] at KI he
        have hne : (er == 0) = false := by simpa using he
        clear he e2 her
        go_wp2_with fail
        with_reducible refine (KI.out).mono ?_
        rintro e w3 ⟨rfl, hi3⟩
        have HI3 := Lib.hid hi3
        clear hi3 x0 x1 x2 KI HI
        go_wp2
        go_roundw
        case rel => exact ⟨k + 1, inn, by go_num, by omega, by omega, HI3.out⟩
        case measure => simp [intOf]; omega
    · obtain ⟨pi, ci, rfl, hci, _, hhi⟩ := HI.out.own.slice
      have hIq := HI.out
      obtain ⟨⟨f, hq, hfw, hfo⟩, hown, hbw⟩ := hIq
      have hlen : inn.length ≤ 200 := by omega
      have HLi : Hid (Lies f wr pi (encs inn)) := Lib.hid (by
        rcases hhi with rfl | ⟨bi, oi, rfl, hri⟩
        · exact .inl rfl
        · exact .inr ⟨bi, oi, rfl, hfo bi rfl, row_rowG hri⟩)
      have HFl := Lib.hid hq.lt_
      have HFw := Lib.hid hfw
      have HBw := Lib.hid hbw
      have HPl := Lib.hid hq.places
      have O0 : Hid (Oq f wr wr Q P [] (srt inn) (.slice none 0 0)) := Lib.hid ⟨hq, OwnT.nil _ _, Off.refl _ _⟩
      obtain ⟨n, en⟩ : ∃ n, inn.length = n := ⟨_, rfl⟩
      have HNi := Lib.hid en
      rw [en] at hlen ⊢
      have b1 : ¬ (k : Int) < (N : Int) := by omega
      clear hq hfw hfo hown hbw hhi hci HI en hin
      rename World => w5
      go_wp2
      go_loopw [11, 12] (fun v i wr => ∃ (d r : List T), i = .int .i64 d.length ∧ srt inn = d ++ r ∧ Oq f w5 wr Q P d r v) (fun v i _ => n - (intOf i).toNat)
      case atStart => exact ⟨[], srt inn, rfl, rfl, O0.out⟩
      case round =>
        obtain ⟨d, r, rfl, hcat, hoq⟩ := hrel
        have HO := Lib.hid hoq
        have HCat := Lib.hid hcat
        have hdr : d.length + r.length = n := by rw [← HNi.out, ← srt_len inn, hcat, List.length_append]
        clear hoq hcat O0
        obtain ⟨j, hj⟩ : ∃ j, d.length = j := ⟨_, rfl⟩
        have HJ := Lib.hid hj
        rw [hj] at hdr ⊢
        clear hj
        cases r with
        | nil =>
          simp only [List.length_nil, Nat.add_zero] at hdr
          have b2 : ¬ (j : Int) < (n : Int) := by omega
          obtain ⟨po, co, rfl, _, _, hho⟩ := HO.out.own.slice
          have hd : d = srt inn := by rw [HCat.out, List.append_nil]
          have KSo := Lib.hid (sort_any pi n ci inn wr HNi.out (by omega) ((HLi.out.off HO.out.off (fun i e => e)).has))
          have HH := Lib.hid hho
          have HD := Lib.hid hd
          clear hho hd
          rw [HJ.out]
          go_wp2_with fail
          with_reducible refine (KSo.out).mono ?_
          rintro e w6 ⟨⟨ps, cs, rfl, _, hls⟩, hb6⟩
          have hsl : (srt inn).length = n := by rw [srt_len, HNi.out]
          have KS : Hid (Calls Try.prog 18 #[.slice po n co, .slice ps n cs] w6 fun e w' => e = .returned (.bool true) ∧ Bel w6 w') := Lib.hid (by
            have h1 : Has w6 po (srt inn) := by rw [← HD.out]; exact HH.out.bel hb6
            have k := same_yes po ps co cs (srt inn) w6 (by rw [hsl]; omega) h1 hls.has
            rw [hsl] at k
            exact k)
          have HO6 := Lib.hid (HO.out.le hb6)
          rw [hsl]
          clear hls hb6 hsl KSo HO
          go_wp2_with fail
          with_reducible refine (KS.out).mono ?_
          rintro e w7 ⟨rfl, hb7⟩
          have HO7 := Lib.hid (HO6.out.le hb7)
          have KM := Lib.hid (min_any f Q P [] w7 HO7.out.qu)
          rw [ans_fst] at KM
          clear hb7 KS HO6
          go_wp2_with fail
          with_reducible refine (KM.out).mono ?_
          rintro e w8 ⟨rfl, hb8⟩
          have HB8 : Hid (Bel w8 (w8.alloc (.cells #[.int .u64 (fst1 []).a, .int .u64 (fst1 []).s, .int .i64 (fst1 []).p] 25))) := Lib.hid ((Bel.refl _).alloc _ _)
          have HO8 := Lib.hid (HO7.out.le (hb8.trans HB8.out))
          clear hb8 KM HO7
          go_upto_region 27 with (fail)
          generalize w8.alloc (.cells #[.int .u64 (fst1 []).a, .int .u64 (fst1 []).s, .int .i64 (fst1 []).p] 25) = V8 at *
          have KL : Hid (Calls Try.prog 20 #[.pointer (some ⟨Q, 0, none⟩)] V8 fun e w' => e = .returned (.int .i64 0) ∧ V8 = w') := Lib.hid (len_any f Q P [] V8 HO8.out.qu)
          go_wp2_with fail
          with_reducible refine (KL.out).mono ?_
          rintro e w9 ⟨rfl, rfl⟩
          have HE : Hid (Bel w V8) := Lib.hid (Off.trans HBw.out HO8.out.off (fun i e => .inr (HFw.out i e)))
          go_wp2
          go_ret
          exact ⟨rfl, HE.out⟩
        | cons x r =>
          have b2 : (j : Int) < (n : Int) := by simp at hdr; omega
          have KM := Lib.hid (min_any f Q P (x :: r) wr HO.out.qu)
          have KC := Lib.hid (fun wy (h : Qu f wy Q P (x :: r)) => cancel_any f Q P (x :: r) x.p wy h)
          have hpl := HO.out.qu.places
          have e1 : fnd (x :: r) x.p = some x := by unfold fnd; simp
          have e2 : canE P (x :: r) x.p = 0 := by unfold canE; rw [if_pos (hpl.2 x (by simp)), e1]; rfl
          have e3 : wo (x :: r) x.p = r := wo_head hpl.1
          rw [e1, e2, e3] at KC
          unfold canV at KC
          have KM : Hid (Calls Try.prog 16 #[.pointer (some ⟨Q, 0, none⟩)] wr fun e w' => e = .returned (.tuple #[.agg #[.int .u64 x.a, .int .u64 x.s, .int .i64 x.p], .bool true]) ∧ Bel wr w') := KM
          have KC : Hid (∀ wy, Qu f wy Q P (x :: r) → Calls Try.prog 23 #[.pointer (some ⟨Q, 0, none⟩), .int .i64 x.p] wy fun e w' => e = .returned (.tuple #[.agg #[.int .u64 x.a, .int .u64 x.s, .int .i64 x.p], .int .i64 0]) ∧ Qu f w' Q P r ∧ Off f wy w') := KC
          clear hpl e1 e2 e3
          go_wp2_with fail
          with_reducible refine (KM.out).mono ?_
          rintro e w6 ⟨rfl, hb6⟩
          have HB6 : Hid (Bel wr (w6.alloc (.cells #[.int .u64 x.a, .int .u64 x.s, .int .i64 x.p] 25))) := Lib.hid (hb6.alloc _ _)
          have HN6 : Hid ((w6.alloc (.cells #[.int .u64 x.a, .int .u64 x.s, .int .i64 x.p] 25)).heap[w6.heap.size]? = some (.cells #[.int .u64 x.a, .int .u64 x.s, .int .i64 x.p] 25 (0, 0))) := Lib.hid (heap_alloc_new _ _)
          have hz6 := hb6.size
          clear hb6 KM
          go_upto_region 21 with (fail)
          generalize w6.alloc (.cells #[.int .u64 x.a, .int .u64 x.s, .int .i64 x.p] 25) = V6 at *
          obtain ⟨b13, e13⟩ : ∃ b, w6.heap.size = b := ⟨_, rfl⟩
          rw [e13] at HN6 hz6 ⊢
          have HO6 := Lib.hid (HO.out.le HB6.out)
          obtain ⟨⟨z0, z1, z2⟩, _⟩ := box3 HN6.out
          have NB : Hid (¬ f b13) := Lib.hid (fun e => by have h1 := HFl.out _ e; have h2 := HO.out.off.size; omega)
          have l13 : b13 < V6.heap.size := (Array.getElem?_eq_some_iff.1 HN6.out).1
          have KC6 := Lib.hid (KC.out V6 HO6.out.qu)
          clear KC e13
          go_wp2_with fail
          with_reducible refine (KC6.out).mono ?_
          rintro e w7 ⟨rfl, hq7, ho7⟩
          have HB7 : Hid (Bel w7 (w7.alloc (.cells #[.int .u64 x.a, .int .u64 x.s, .int .i64 x.p] 25))) := Lib.hid ((Bel.refl _).alloc _ _)
          have HN7 : Hid ((w7.alloc (.cells #[.int .u64 x.a, .int .u64 x.s, .int .i64 x.p] 25)).heap[w7.heap.size]? = some (.cells #[.int .u64 x.a, .int .u64 x.s, .int .i64 x.p] 25 (0, 0))) := Lib.hid (heap_alloc_new _ _)
          have HO7 : Hid (Oq f w5 w7 Q P d r u11) := Lib.hid ⟨hq7, own_off0 HO6.out.own ho7 (own_ge HO6.out.own HFl.out (Nat.le_refl _)), HO6.out.off.then ho7⟩
          have HN6' := Lib.hid ((ho7.block _ l13 NB.out).trans HN6.out)
          clear hq7 ho7 KC6 z0 z1 z2
          go_upto_region 22 with (fail)
          have HO8 := Lib.hid (HO7.out.le HB7.out)
          have hn6 := HB7.out.heap HN6'.out
          generalize w7.alloc (.cells #[.int .u64 x.a, .int .u64 x.s, .int .i64 x.p] 25) = V7 at *
          obtain ⟨b15, e15⟩ : ∃ b, w7.heap.size = b := ⟨_, rfl⟩
          rw [e15] at HN7 ⊢
          obtain ⟨⟨z0, z1, z2⟩, _⟩ := box3 hn6
          obtain ⟨⟨y0, y1, y2⟩, _⟩ := box3 HN7.out
          have hEq := neq_no x x rfl
          have HB8 : Hid (Bel V7 (V7.alloc (.cells #[.int .u64 x.a, .int .u64 x.s, .int .i64 x.p] 25))) := Lib.hid ((Bel.refl _).alloc _ _)
          have HO9 := Lib.hid (HO8.out.own.bel HB8.out)
          have HS9 : Hid (w5.heap.size ≤ (V7.alloc (.cells #[.int .u64 x.a, .int .u64 x.s, .int .i64 x.p] 25)).heap.size) := Lib.hid (Nat.le_trans HO8.out.off.size HB8.out.size)
          clear hn6 e15
          go_wp2_with (at_builtin; refine wpList_append_any rfl (.tmp 93) (.tmp 95) rfl w5.heap.size _ d rfl HO9.out _ 1 _ [x] rfl rfl (has_one V7 x) (by rw [HJ.out]; omega) HS9.out ?_)
          intro v9 w9 hown9 hgrow9 hnil9
          have HO10 : Hid (Oq f w5 w9 Q P (d ++ [x]) r v9) := Lib.hid (by
            have o1 : Off (fun k => u11.ownBlock = some k) V7 w9 := Off.grown (HB8.out.off _) hgrow9 (fun k e => .inl e)
            have hno := own_ge HO8.out.own HFl.out (Nat.le_refl _)
            exact ⟨HO8.out.qu.off o1 (fun i e e2 => hno i e2 e), hown9, Off.trans HO8.out.off o1 (fun i e => .inr (HO8.out.own.lt i e).1)⟩)
          have HC2 : Hid (srt inn = (d ++ [x]) ++ r) := Lib.hid (by rw [HCat.out]; simp)
          clear hown9 hgrow9 hnil9 z0 z1 z2 y0 y1 y2 hEq
          go_wp2
          go_roundw
          case rel => exact ⟨d ++ [x], r, by rw [List.length_append, HJ.out]; rfl, HC2.out, HO10.out⟩
          case measure => simp [intOf]; omega
end Go.Proofs.Ytaabalkfpjeheaa
