/-
  Contract of the law's works: the document's example holds.
-/
import Derived.Test.YtdeiknfaehpheaaAny
namespace Go.Proofs.Ytdeiknfaehpheaa
open Go.RowKit
theorem p_append {P L : Nat} {ls : Ls} {t x : Nat} (ht : t < L) (hx : x < P) (hi2 : ∀ s, s < L → x ∉ ls s) : PDo P L ls 24 [.int .i64 t, .int .i64 x] 0 (upd ls t (ls t ++ [x])) :=
  pdo_yes fun w B G g h h2 h3 h4 => ⟨putG g x (lst (P + t) (ls t)) (P + t), h2.put (x := ls t) (y := []) ht hx hi2 (by simp), append_ok B G P L g t x (lst (P + t) (ls t)) w h h3 h4 ht hx (by rw [h2.al x hx hi2]) (h2.lst_lt ht (fun i hi => hi)) (h2.endah ht)⟩
theorem p_insert {P L : Nat} {ls : Ls} {s x y : Nat} {a b : List Nat} (hs : s < L) (hx : x < P) (hi2 : ∀ s, s < L → x ∉ ls s) (hl : ls s = a ++ y :: b) : PDo P L ls 19 [.int .i64 x, .int .i64 y] 0 (upd ls s (a ++ x :: y :: b)) :=
  pdo_yes fun w B G g h h2 h3 h4 => ⟨putG g x (lst (P + s) a) y, h2.put (x := a) (y := y :: b) hs hx hi2 hl, insert_ok B G P L g x y (lst (P + s) a) w h h3 h4 hx (h2.pl s hs y (by rw [hl]; simp)) (by rw [h2.al x hx hi2]) (by rw [h2.li s hs y (by rw [hl]; simp)]; omega) (h2.lst_lt hs (fun i hi => by rw [hl]; simp [hi])) (h2.ahead hs hl)⟩
theorem p_drop {P L : Nat} {ls : Ls} {s x : Nat} {a b : List Nat} (hs : s < L) (hl : ls s = a ++ x :: b) : PDo P L ls 20 [.int .i64 x] 0 (upd ls s (a ++ b)) :=
  pdo_yes fun w B G g h h2 h3 h4 => ⟨dropG g x (lst (P + s) a) (fst (P + s) b), h2.drop hs hl, drop_ok B G P L g x (lst (P + s) a) (fst (P + s) b) w h h3 h4 (h2.pl s hs x (by rw [hl]; simp)) (by rw [h2.li s hs x (by rw [hl]; simp)]; omega) (h2.lst_lt hs (fun i hi => by rw [hl]; simp [hi])) (h2.fst_lt hs (fun i hi => by rw [hl]; simp [hi])) (h2.ahead hs hl) (h2.behind hs hl)⟩
theorem p_dropno {P L : Nat} {ls : Ls} {x : Nat} (hx : x < P) (hj : ∀ s, s < L → x ∉ ls s) : PDo P L ls 20 [.int .i64 x] 5 ls :=
  pdo_no fun w B G g h h2 h3 h4 => drop_none B G P L g x w h h3 h4 hx (by rw [h2.al x hx hj])
theorem lies_lit (w : World) (l : List Nat) (cs : Array Value) (B : Nat) (hB : w.heap.size = B) (h : cs = (encI l).toArray) : Lies nof (w.alloc (.cells cs 3)) (some ⟨B, 0, none⟩) (encI l) := by
  subst hB
  subst h
  refine .inr ⟨_, _, rfl, fun e => e, fun j u hu => ?_⟩
  rw [cell_of_row _ _ _ _ 3 (0, 0) (heap_alloc_new _ _), List.getElem?_toArray, Nat.zero_add]
  exact hu
def L0 : Ls := fun _ => []
def L1 : Ls := upd L0 0 (L0 0 ++ [3])
def L2 : Ls := upd L1 0 (L1 0 ++ [5])
def L3 : Ls := upd L2 0 ([3] ++ 4 :: 5 :: [])
def L4 : Ls := upd (upd L3 1 (L3 1 ++ L3 0)) 0 []
def L5 : Ls := upd L4 1 ([3] ++ [5])
/-- On the way: chains that are all newer. -/
structure Way (w : World) (B G P L : Nat) (ls : Ls) (w' : World) : Prop where
  ch : Ch w' B G P L ls
  off : Bel w w'
  ge : w.heap.size ≤ G
theorem Way.bel {w w1 w2 : World} {B G P L : Nat} {ls : Ls} (h : Way w B G P L ls w1) (k : Bel w1 w2) : Way w B G P L ls w2 := ⟨h.ch.bel k, h.off.trans k, h.ge⟩
theorem Way.step {w w1 w2 : World} {B G P L : Nat} {ls ls' : Ls} (h : Way w B G P L ls w1) (hc : Ch w2 B G P L ls') (k : Off (Only G) w1 w2) : Way w B G P L ls' w2 :=
  ⟨hc, Off.trans h.off k (fun i e => .inr (by rw [show i = G from e]; exact h.ge)), h.ge⟩
theorem new_way (P L : Nat) (w : World) (hP : P ≤ 1024) (hL : L ≤ 1024) :
    Calls Try.prog 23 #[.int .i64 P, .int .i64 L] w fun e w' => ∃ B G, e = .returned (.tuple #[.pointer (some ⟨B, 0, none⟩), .int .i64 0]) ∧ Way w B G P L (fun _ => []) w' ∧ w.heap.size ≤ B :=
  (new_yes P L w hP hL).mono fun e w' ⟨B, G, g, he, hc, hn, hb, h1, h2⟩ => ⟨B, G, he, ⟨⟨⟨g, hc, rep_new hn⟩, hP, hL⟩, hb, h2⟩, h1⟩
/-- A call of the program's, on the way. -/
theorem way_do {P L : Nat} {ls ls' : Ls} {fn : FuncId} {args : List Value} {er : Int} (hp : PDo P L ls fn args er ls') {w w1 : World} {B G : Nat} (h : Way w B G P L ls w1) :
    Calls Try.prog fn (#[.pointer (some ⟨B, 0, none⟩)] ++ args.toArray) w1 fun e w' => e = .returned (.int .i64 er) ∧ Way w B G P L ls' w' :=
  (hp w1 B G h.ch).mono fun e w' ⟨he, hc, ho⟩ => ⟨he, h.step hc ho⟩
set_option maxHeartbeats 4000000 in
set_option maxRecDepth 100000 in
theorem works_any (w : World) : Calls Try.prog 8 #[] w fun e w' => e = .returned (.bool true) ∧ Bel w w' := by
  have KN : Hid (∀ w, Calls Try.prog 23 #[.int .i64 6, .int .i64 2] w fun e w' => ∃ B G, e = .returned (.tuple #[.pointer (some ⟨B, 0, none⟩), .int .i64 0]) ∧ Way w B G 6 2 L0 w' ∧ w.heap.size ≤ B) := Lib.hid (fun w => new_way 6 2 w (by decide) (by decide))
  go_enter Try.func8, Try.ntmps8
  go_wp2_with fail
  with_reducible refine (KN.out _).mono ?_
  rintro e w1 ⟨B, G, rfl, hw, _⟩
  have W := Lib.hid hw
  clear hw KN
  have KD1 : Hid (∀ w1, Way w B G 6 2 L0 w1 → Calls Try.prog 24 #[.pointer (some ⟨B, 0, none⟩), .int .i64 0, .int .i64 3] w1 fun e w' => e = .returned (.int .i64 0) ∧ Way w B G 6 2 L1 w') := Lib.hid (fun w1 h => way_do (p_append (P := 6) (L := 2) (ls := L0) (t := 0) (x := 3) (by decide) (by decide) (by decide)) h)
  have KD2 : Hid (∀ w1, Way w B G 6 2 L1 w1 → Calls Try.prog 24 #[.pointer (some ⟨B, 0, none⟩), .int .i64 0, .int .i64 5] w1 fun e w' => e = .returned (.int .i64 0) ∧ Way w B G 6 2 L2 w') := Lib.hid (fun w1 h => way_do (p_append (P := 6) (L := 2) (ls := L1) (t := 0) (x := 5) (by decide) (by decide) (by decide)) h)
  have KD3 : Hid (∀ w1, Way w B G 6 2 L2 w1 → Calls Try.prog 19 #[.pointer (some ⟨B, 0, none⟩), .int .i64 4, .int .i64 5] w1 fun e w' => e = .returned (.int .i64 0) ∧ Way w B G 6 2 L3 w') := Lib.hid (fun w1 h => way_do (p_insert (P := 6) (L := 2) (ls := L2) (s := 0) (x := 4) (y := 5) (a := [3]) (b := []) (by decide) (by decide) (by decide) rfl) h)
  have KD4 : Hid (∀ w1, Way w B G 6 2 L3 w1 → Calls Try.prog 21 #[.pointer (some ⟨B, 0, none⟩), .int .i64 1, .int .i64 0] w1 fun e w' => e = .returned (.int .i64 0) ∧ Way w B G 6 2 L4 w') := Lib.hid (fun w1 h => way_do (splice_prog 6 2 L3 1 0 (by decide) (by decide) (by decide)) h)
  have KD5 : Hid (∀ w1, Way w B G 6 2 L4 w1 → Calls Try.prog 20 #[.pointer (some ⟨B, 0, none⟩), .int .i64 4] w1 fun e w' => e = .returned (.int .i64 0) ∧ Way w B G 6 2 L5 w') := Lib.hid (fun w1 h => way_do (p_drop (P := 6) (L := 2) (ls := L4) (s := 1) (x := 4) (a := [3]) (b := [5]) (by decide) rfl) h)
  have KD6 : Hid (∀ w1, Way w B G 6 2 L5 w1 → Calls Try.prog 20 #[.pointer (some ⟨B, 0, none⟩), .int .i64 4] w1 fun e w' => e = .returned (.int .i64 5) ∧ Way w B G 6 2 L5 w') := Lib.hid (fun w1 h => way_do (p_dropno (P := 6) (L := 2) (ls := L5) (x := 4) (by decide) (by decide)) h)
  have KA1 : Hid (∀ w1, Way w B G 6 2 L3 w1 → Calls Try.prog 12 #[.pointer (some ⟨B, 0, none⟩), .int .i64 0] w1 fun e w' => ∃ q k, e = .returned (.slice q 3 k) ∧ 3 ≤ k ∧ Lies (old w1) w' q (encI [3, 4, 5]) ∧ Bel w1 w') := Lib.hid (fun w1 h => all_any B G 6 2 L3 0 w1 h.ch)
  have KA2 : Hid (∀ w1, Way w B G 6 2 L5 w1 → Calls Try.prog 12 #[.pointer (some ⟨B, 0, none⟩), .int .i64 1] w1 fun e w' => ∃ q k, e = .returned (.slice q 2 k) ∧ 2 ≤ k ∧ Lies (old w1) w' q (encI [3, 5]) ∧ Bel w1 w') := Lib.hid (fun w1 h => all_any B G 6 2 L5 1 w1 h.ch)
  have KF : Hid (∀ w1, Way w B G 6 2 L3 w1 → Calls Try.prog 13 #[.pointer (some ⟨B, 0, none⟩), .int .i64 0] w1 fun e w' => e = .returned (.tuple #[.int .i64 3, .bool true]) ∧ Bel w1 w') := Lib.hid (fun w1 h => first_any B G 6 2 L3 0 w1 h.ch)
  have KL : Hid (∀ w1, Way w B G 6 2 L3 w1 → Calls Try.prog 16 #[.pointer (some ⟨B, 0, none⟩), .int .i64 0] w1 fun e w' => e = .returned (.tuple #[.int .i64 5, .bool true]) ∧ Bel w1 w') := Lib.hid (fun w1 h => last_any B G 6 2 L3 0 w1 h.ch)
  have KT1 : Hid (∀ w1, Way w B G 6 2 L3 w1 → Calls Try.prog 15 #[.pointer (some ⟨B, 0, none⟩), .int .i64 4] w1 fun e w' => e = .returned (.tuple #[.int .i64 5, .bool true]) ∧ Bel w1 w') := Lib.hid (fun w1 h => by
    obtain ⟨nx, pv, wh, ht⟩ := tell_ex h.ch.good (4 : Int)
    have h1 := ht.inn 4 0 [3] [5] rfl (by decide) rfl
    have h2 := next_any B G 6 2 L3 4 nx pv wh w1 h.ch ht
    rw [h1.1] at h2
    exact h2)
  have KT2 : Hid (∀ w1, Way w B G 6 2 L3 w1 → Calls Try.prog 17 #[.pointer (some ⟨B, 0, none⟩), .int .i64 3] w1 fun e w' => e = .returned (.tuple #[.int .i64 0, .bool false]) ∧ Bel w1 w') := Lib.hid (fun w1 h => by
    obtain ⟨nx, pv, wh, ht⟩ := tell_ex h.ch.good (3 : Int)
    have h1 := ht.inn 3 0 [] [4, 5] rfl (by decide) rfl
    have h2 := prev_any B G 6 2 L3 3 nx pv wh w1 h.ch ht
    rw [h1.2.1] at h2
    exact h2)
  have KT3 : Hid (∀ w1, Way w B G 6 2 L4 w1 → Calls Try.prog 14 #[.pointer (some ⟨B, 0, none⟩), .int .i64 4] w1 fun e w' => e = .returned (.tuple #[.int .i64 1, .bool true]) ∧ Bel w1 w') := Lib.hid (fun w1 h => by
    obtain ⟨nx, pv, wh, ht⟩ := tell_ex h.ch.good (4 : Int)
    have h1 := ht.inn 4 1 [3] [5] rfl (by decide) rfl
    have h2 := which_any B G 6 2 L4 4 nx pv wh w1 h.ch ht
    rw [h1.2.2] at h2
    exact h2)
  go_wp2_with fail
  with_reducible refine (KD1.out _ W.out).mono ?_
  rintro e w2 ⟨rfl, hw⟩
  have W := Lib.hid hw
  clear hw
  go_wp2_with fail
  with_reducible refine (KD2.out _ W.out).mono ?_
  rintro e w2 ⟨rfl, hw⟩
  have W := Lib.hid hw
  clear hw
  go_wp2_with fail
  with_reducible refine (KD3.out _ W.out).mono ?_
  rintro e w2 ⟨rfl, hw⟩
  have W := Lib.hid hw
  clear hw
  go_wp2_with fail
  with_reducible refine (KA1.out _ W.out).mono ?_
  rintro e w2 ⟨q, k, rfl, hk, hl, hb⟩
  have W := Lib.hid (W.out.bel (hb.alloc #[.int .i64 3, .int .i64 4, .int .i64 5] 3))
  have KS := Lib.hid (same_yes q (some ⟨w2.heap.size, 0, none⟩) 3 k 3 [3, 4, 5] (w2.alloc (.cells #[.int .i64 3, .int .i64 4, .int .i64 5] 3)) rfl (by decide) (hl.any.bel ((Bel.refl w2).alloc _ _)) (lies_lit w2 [3, 4, 5] _ _ rfl rfl))
  clear hb hl
  go_wp2_with fail
  with_reducible refine (KS.out).mono ?_
  rintro e w3 ⟨rfl, hb⟩
  have W := Lib.hid (W.out.bel hb)
  clear hb KS hk
  go_wp2_with fail
  with_reducible refine (KT1.out _ W.out).mono ?_
  rintro e w2 ⟨rfl, hb⟩
  have W := Lib.hid (W.out.bel hb)
  clear hb
  go_wp2_with fail
  with_reducible refine (KT2.out _ W.out).mono ?_
  rintro e w2 ⟨rfl, hb⟩
  have W := Lib.hid (W.out.bel hb)
  clear hb
  go_wp2_with fail
  with_reducible refine (KF.out _ W.out).mono ?_
  rintro e w2 ⟨rfl, hb⟩
  have W := Lib.hid (W.out.bel hb)
  clear hb
  go_wp2_with fail
  with_reducible refine (KL.out _ W.out).mono ?_
  rintro e w2 ⟨rfl, hb⟩
  have W := Lib.hid (W.out.bel hb)
  clear hb
  go_wp2_with fail
  with_reducible refine (KD4.out _ W.out).mono ?_
  rintro e w2 ⟨rfl, hw⟩
  have W := Lib.hid hw
  clear hw
  go_wp2_with fail
  with_reducible refine (KT3.out _ W.out).mono ?_
  rintro e w2 ⟨rfl, hb⟩
  have W := Lib.hid (W.out.bel hb)
  clear hb
  go_wp2_with fail
  with_reducible refine (KD5.out _ W.out).mono ?_
  rintro e w2 ⟨rfl, hw⟩
  have W := Lib.hid hw
  clear hw
  go_wp2_with fail
  with_reducible refine (KA2.out _ W.out).mono ?_
  rintro e w2 ⟨q, k, rfl, hk, hl, hb⟩
  have W := Lib.hid (W.out.bel (hb.alloc #[.int .i64 3, .int .i64 5] 3))
  have KS := Lib.hid (same_yes q (some ⟨w2.heap.size, 0, none⟩) 2 k 2 [3, 5] (w2.alloc (.cells #[.int .i64 3, .int .i64 5] 3)) rfl (by decide) (hl.any.bel ((Bel.refl w2).alloc _ _)) (lies_lit w2 [3, 5] _ _ rfl rfl))
  clear hb hl
  go_wp2_with fail
  with_reducible refine (KS.out).mono ?_
  rintro e w3 ⟨rfl, hb⟩
  have W := Lib.hid (W.out.bel hb)
  clear hb KS hk
  go_wp2_with fail
  with_reducible refine (KD6.out _ W.out).mono ?_
  rintro e w2 ⟨rfl, hw⟩
  have W := Lib.hid hw
  clear hw
  go_wp2
  go_ret
  exact ⟨rfl, W.out.off⟩
end Go.Proofs.Ytdeiknfaehpheaa
