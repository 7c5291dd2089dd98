/-
  Contracts of chain's First, Last, Next, Prev and Which.
-/
import Derived.Test.YtmkpnojojkgmiaaNear
namespace Go.Proofs.Ytmkpnojojkgmiaa
open Go.RowKit Go.Shelf
theorem first_no (B G P L : Nat) (g : Rg) (t : Int) (w : World) (h : Chn w B G P L g) (hP : P ≤ 1024) (hL : L ≤ 1024) (hn : hp L t = false) :
    Calls Try.prog 30 #[.pointer (some ⟨B, 0, none⟩), .int .i64 t] w fun e w' => e = .returned (ans none) ∧ Bel w w' := by
  have K1 := Lib.hid (fun w' (h : Chn w' B G P L g) => hasList_any B P L _ t w' h.head.1 h.head.2 hP hL)
  rw [hn] at K1
  have H := Lib.hid h
  clear h hn
  go_enter Try.func30, Try.ntmps30
  go_wp2_with fail
  with_reducible refine (K1.out _ H.out).mono ?_
  rintro e w1 ⟨rfl, k, rfl⟩
  go_wp2
  go_ret2
  exact ⟨rfl, (Bel.refl _).drewN k⟩
set_option maxHeartbeats 1000000 in
theorem first_yes (B G P L : Nat) (g : Rg) (t : Nat) (ys : List Nat) (w : World) (h : Chn w B G P L g) (hP : P ≤ 1024) (hL : L ≤ 1024) (ht : t < L) (hnd : ys.Nodup) (hys : ∀ y ∈ ys, y < P) (hm : Met (fun i => (g i).bh) P (P + t) ys) :
    Calls Try.prog 30 #[.pointer (some ⟨B, 0, none⟩), .int .i64 t] w fun e w' => e = .returned (ans ys.head?) ∧ Bel w w' := by
  have hlen : ys.length ≤ 1024 := Nat.le_trans (nodup_len P ys hnd hys) hP
  have K1 := Lib.hid (fun w' (h : Chn w' B G P L g) => hasList_any B P L _ t w' h.head.1 h.head.2 hP hL)
  rw [hp_yes ht] at K1
  have K2 := Lib.hid (fun w' (h : Chn w' B G P L g) => end_any B P t w' h.head.1 hP (by omega))
  have K3 := Lib.hid (fun w' (h : Chn w' B G P L g) => walk_any B G P L g (P + t) 45 w' h)
  have K4 := Lib.hid (fun Wb Cb Sb w' (h : Src Wb Cb Sb B G P (P + L) (P + t) 45 (fun i => (g i).ah) (fun i => (g i).bh) w') => nearest_any Wb Cb Sb B G P (P + L) (P + t) 45 (fun i => (g i).ah) (fun i => (g i).bh) (fun _ b => b) way_f (by omega) (by omega) (by omega) ys hnd hys hm hlen w' h)
  have H := Lib.hid h
  clear h hnd hys hm
  generalize P + t = E at *
  generalize ys.head? = r at *
  go_enter Try.func30, Try.ntmps30
  go_wp2_with fail
  with_reducible refine (K1.out _ H.out).mono ?_
  rintro e w1 ⟨rfl, k, rfl⟩
  have H2 := Lib.hid (H.out.bel ((Bel.refl _).drewN k))
  have HB : Hid (Bel w (w.drewN k)) := Lib.hid ((Bel.refl _).drewN k)
  go_wp2_with fail
  with_reducible refine (K2.out _ H2.out).mono ?_
  rintro e w2 ⟨rfl, rfl⟩
  go_wp2_with fail
  with_reducible refine (K3.out _ H2.out).mono ?_
  rintro e w3 ⟨Wb, Cb, Sb, rfl, hS, hb⟩
  have HS := Lib.hid hS
  have HB3 := Lib.hid (HB.out.trans hb)
  clear hS hb
  go_wp2_with fail
  with_reducible refine (K4.out Wb Cb Sb _ HS.out).mono ?_
  rintro e w4 ⟨rfl, hb⟩
  have HB4 := Lib.hid (HB3.out.trans hb)
  clear hb
  cases r with
  | none =>
    unfold ans
    go_wp2
    go_ret2
    exact ⟨rfl, HB4.out⟩
  | some x =>
    unfold ans
    go_wp2
    go_ret2
    exact ⟨rfl, HB4.out⟩
theorem last_no (B G P L : Nat) (g : Rg) (t : Int) (w : World) (h : Chn w B G P L g) (hP : P ≤ 1024) (hL : L ≤ 1024) (hn : hp L t = false) :
    Calls Try.prog 63 #[.pointer (some ⟨B, 0, none⟩), .int .i64 t] w fun e w' => e = .returned (ans none) ∧ Bel w w' := by
  have K1 := Lib.hid (fun w' (h : Chn w' B G P L g) => hasList_any B P L _ t w' h.head.1 h.head.2 hP hL)
  rw [hn] at K1
  have H := Lib.hid h
  clear h hn
  go_enter Try.func63, Try.ntmps63
  go_wp2_with fail
  with_reducible refine (K1.out _ H.out).mono ?_
  rintro e w1 ⟨rfl, k, rfl⟩
  go_wp2
  go_ret2
  exact ⟨rfl, (Bel.refl _).drewN k⟩
set_option maxHeartbeats 1000000 in
theorem last_yes (B G P L : Nat) (g : Rg) (t : Nat) (ys : List Nat) (w : World) (h : Chn w B G P L g) (hP : P ≤ 1024) (hL : L ≤ 1024) (ht : t < L) (hnd : ys.Nodup) (hys : ∀ y ∈ ys, y < P) (hm : Met (fun i => (g i).ah) P (P + t) ys) :
    Calls Try.prog 63 #[.pointer (some ⟨B, 0, none⟩), .int .i64 t] w fun e w' => e = .returned (ans ys.head?) ∧ Bel w w' := by
  have hlen : ys.length ≤ 1024 := Nat.le_trans (nodup_len P ys hnd hys) hP
  have K1 := Lib.hid (fun w' (h : Chn w' B G P L g) => hasList_any B P L _ t w' h.head.1 h.head.2 hP hL)
  rw [hp_yes ht] at K1
  have K2 := Lib.hid (fun w' (h : Chn w' B G P L g) => end_any B P t w' h.head.1 hP (by omega))
  have K3 := Lib.hid (fun w' (h : Chn w' B G P L g) => walk_any B G P L g (P + t) 68 w' h)
  have K4 := Lib.hid (fun Wb Cb Sb w' (h : Src Wb Cb Sb B G P (P + L) (P + t) 68 (fun i => (g i).ah) (fun i => (g i).bh) w') => nearest_any Wb Cb Sb B G P (P + L) (P + t) 68 (fun i => (g i).ah) (fun i => (g i).bh) (fun a _ => a) way_b (by omega) (by omega) (by omega) ys hnd hys hm hlen w' h)
  have H := Lib.hid h
  clear h hnd hys hm
  generalize P + t = E at *
  generalize ys.head? = r at *
  go_enter Try.func63, Try.ntmps63
  go_wp2_with fail
  with_reducible refine (K1.out _ H.out).mono ?_
  rintro e w1 ⟨rfl, k, rfl⟩
  have H2 := Lib.hid (H.out.bel ((Bel.refl _).drewN k))
  have HB : Hid (Bel w (w.drewN k)) := Lib.hid ((Bel.refl _).drewN k)
  go_wp2_with fail
  with_reducible refine (K2.out _ H2.out).mono ?_
  rintro e w2 ⟨rfl, rfl⟩
  go_wp2_with fail
  with_reducible refine (K3.out _ H2.out).mono ?_
  rintro e w3 ⟨Wb, Cb, Sb, rfl, hS, hb⟩
  have HS := Lib.hid hS
  have HB3 := Lib.hid (HB.out.trans hb)
  clear hS hb
  go_wp2_with fail
  with_reducible refine (K4.out Wb Cb Sb _ HS.out).mono ?_
  rintro e w4 ⟨rfl, hb⟩
  have HB4 := Lib.hid (HB3.out.trans hb)
  clear hb
  cases r with
  | none =>
    unfold ans
    go_wp2
    go_ret2
    exact ⟨rfl, HB4.out⟩
  | some x =>
    unfold ans
    go_wp2
    go_ret2
    exact ⟨rfl, HB4.out⟩
theorem next_no (B G P L : Nat) (g : Rg) (i : Int) (w : World) (h : Chn w B G P L g) (hn : hp P i = false) :
    Calls Try.prog 31 #[.pointer (some ⟨B, 0, none⟩), .int .i64 i] w fun e w' => e = .returned (ans none) ∧ Bel w w' := by
  have K1 := Lib.hid (fun w' (h : Chn w' B G P L g) => hasPlace_any B P i w' h.head.1)
  rw [hn] at K1
  have H := Lib.hid h
  clear h hn
  go_enter Try.func31, Try.ntmps31
  go_wp2_with fail
  with_reducible refine (K1.out _ H.out).mono ?_
  rintro e w1 ⟨rfl, rfl⟩
  go_wp2
  go_ret2
  exact ⟨rfl, Bel.refl _⟩
set_option maxHeartbeats 1000000 in
theorem next_yes (B G P L : Nat) (g : Rg) (s : Nat) (ys : List Nat) (w : World) (h : Chn w B G P L g) (hP : P ≤ 1024) (hL : L ≤ 1024) (hs : s < P) (hnd : ys.Nodup) (hys : ∀ y ∈ ys, y < P) (hm : Met (fun i => (g i).bh) P s ys) :
    Calls Try.prog 31 #[.pointer (some ⟨B, 0, none⟩), .int .i64 s] w fun e w' => e = .returned (ans ys.head?) ∧ Bel w w' := by
  have hlen : ys.length ≤ 1024 := Nat.le_trans (nodup_len P ys hnd hys) hP
  have K1 := Lib.hid (fun w' (h : Chn w' B G P L g) => hasPlace_any B P s w' h.head.1)
  rw [hp_yes hs] at K1
  have K3 := Lib.hid (fun w' (h : Chn w' B G P L g) => walk_any B G P L g s 45 w' h)
  have K4 := Lib.hid (fun Wb Cb Sb w' (h : Src Wb Cb Sb B G P (P + L) s 45 (fun i => (g i).ah) (fun i => (g i).bh) w') => nearest_any Wb Cb Sb B G P (P + L) s 45 (fun i => (g i).ah) (fun i => (g i).bh) (fun _ b => b) way_f (by omega) (by omega) (by omega) ys hnd hys hm hlen w' h)
  have H := Lib.hid h
  clear h hnd hys hm
  generalize ys.head? = r at *
  go_enter Try.func31, Try.ntmps31
  go_wp2_with fail
  with_reducible refine (K1.out _ H.out).mono ?_
  rintro e w1 ⟨rfl, rfl⟩
  go_wp2_with fail
  with_reducible refine (K3.out _ H.out).mono ?_
  rintro e w3 ⟨Wb, Cb, Sb, rfl, hS, hb⟩
  have HS := Lib.hid hS
  have HB3 := Lib.hid hb
  clear hS hb
  go_wp2_with fail
  with_reducible refine (K4.out Wb Cb Sb _ HS.out).mono ?_
  rintro e w4 ⟨rfl, hb⟩
  have HB4 := Lib.hid (HB3.out.trans hb)
  clear hb
  cases r with
  | none =>
    unfold ans
    go_wp2
    go_ret2
    exact ⟨rfl, HB4.out⟩
  | some x =>
    unfold ans
    go_wp2
    go_ret2
    exact ⟨rfl, HB4.out⟩
theorem prev_no (B G P L : Nat) (g : Rg) (i : Int) (w : World) (h : Chn w B G P L g) (hn : hp P i = false) :
    Calls Try.prog 64 #[.pointer (some ⟨B, 0, none⟩), .int .i64 i] w fun e w' => e = .returned (ans none) ∧ Bel w w' := by
  have K1 := Lib.hid (fun w' (h : Chn w' B G P L g) => hasPlace_any B P i w' h.head.1)
  rw [hn] at K1
  have H := Lib.hid h
  clear h hn
  go_enter Try.func64, Try.ntmps64
  go_wp2_with fail
  with_reducible refine (K1.out _ H.out).mono ?_
  rintro e w1 ⟨rfl, rfl⟩
  go_wp2
  go_ret2
  exact ⟨rfl, Bel.refl _⟩
set_option maxHeartbeats 1000000 in
theorem prev_yes (B G P L : Nat) (g : Rg) (s : Nat) (ys : List Nat) (w : World) (h : Chn w B G P L g) (hP : P ≤ 1024) (hL : L ≤ 1024) (hs : s < P) (hnd : ys.Nodup) (hys : ∀ y ∈ ys, y < P) (hm : Met (fun i => (g i).ah) P s ys) :
    Calls Try.prog 64 #[.pointer (some ⟨B, 0, none⟩), .int .i64 s] w fun e w' => e = .returned (ans ys.head?) ∧ Bel w w' := by
  have hlen : ys.length ≤ 1024 := Nat.le_trans (nodup_len P ys hnd hys) hP
  have K1 := Lib.hid (fun w' (h : Chn w' B G P L g) => hasPlace_any B P s w' h.head.1)
  rw [hp_yes hs] at K1
  have K3 := Lib.hid (fun w' (h : Chn w' B G P L g) => walk_any B G P L g s 68 w' h)
  have K4 := Lib.hid (fun Wb Cb Sb w' (h : Src Wb Cb Sb B G P (P + L) s 68 (fun i => (g i).ah) (fun i => (g i).bh) w') => nearest_any Wb Cb Sb B G P (P + L) s 68 (fun i => (g i).ah) (fun i => (g i).bh) (fun a _ => a) way_b (by omega) (by omega) (by omega) ys hnd hys hm hlen w' h)
  have H := Lib.hid h
  clear h hnd hys hm
  generalize ys.head? = r at *
  go_enter Try.func64, Try.ntmps64
  go_wp2_with fail
  with_reducible refine (K1.out _ H.out).mono ?_
  rintro e w1 ⟨rfl, rfl⟩
  go_wp2_with fail
  with_reducible refine (K3.out _ H.out).mono ?_
  rintro e w3 ⟨Wb, Cb, Sb, rfl, hS, hb⟩
  have HS := Lib.hid hS
  have HB3 := Lib.hid hb
  clear hS hb
  go_wp2_with fail
  with_reducible refine (K4.out Wb Cb Sb _ HS.out).mono ?_
  rintro e w4 ⟨rfl, hb⟩
  have HB4 := Lib.hid (HB3.out.trans hb)
  clear hb
  cases r with
  | none =>
    unfold ans
    go_wp2
    go_ret2
    exact ⟨rfl, HB4.out⟩
  | some x =>
    unfold ans
    go_wp2
    go_ret2
    exact ⟨rfl, HB4.out⟩
theorem which_no (B G P L : Nat) (g : Rg) (i : Int) (w : World) (h : Chn w B G P L g) (hn : hp P i = false) :
    Calls Try.prog 34 #[.pointer (some ⟨B, 0, none⟩), .int .i64 i] w fun e w' => e = .returned (ans none) ∧ Bel w w' := by
  have K1 := Lib.hid (fun w' (h : Chn w' B G P L g) => hasPlace_any B P i w' h.head.1)
  rw [hn] at K1
  have H := Lib.hid h
  clear h hn
  go_enter Try.func34, Try.ntmps34
  go_wp2_with fail
  with_reducible refine (K1.out _ H.out).mono ?_
  rintro e w1 ⟨rfl, rfl⟩
  go_wp2
  go_ret2
  exact ⟨rfl, Bel.refl _⟩
theorem which_none (B G P L : Nat) (g : Rg) (s : Nat) (w : World) (h : Chn w B G P L g) (hP : P ≤ 1024) (hL : L ≤ 1024) (hs : s < P) (hi : (g s).li = -1) :
    Calls Try.prog 34 #[.pointer (some ⟨B, 0, none⟩), .int .i64 s] w fun e w' => e = .returned (ans none) ∧ Bel w w' := by
  have K1 := Lib.hid (fun w' (h : Chn w' B G P L g) => hasPlace_any B P s w' h.head.1)
  have K3 := Lib.hid (fun w' (h : Chn w' B G P L g) => isIn_any B G P L g s w' h (by omega) (by omega))
  rw [hp_yes hs] at K1
  rw [decide_eq_true hi] at K3
  have H := Lib.hid h
  clear h hi
  go_enter Try.func34, Try.ntmps34
  go_wp2_with fail
  with_reducible refine (K1.out _ H.out).mono ?_
  rintro e w1 ⟨rfl, rfl⟩
  go_wp2_with fail
  with_reducible refine (K3.out _ H.out).mono ?_
  rintro e w1 ⟨rfl, rfl⟩
  go_wp2
  go_ret2
  exact ⟨rfl, Bel.refl _⟩
theorem which_some (B G P L : Nat) (g : Rg) (s t : Nat) (w : World) (h : Chn w B G P L g) (hP : P ≤ 1024) (hL : L ≤ 1024) (hs : s < P) (hi : (g s).li = t) :
    Calls Try.prog 34 #[.pointer (some ⟨B, 0, none⟩), .int .i64 s] w fun e w' => e = .returned (ans (some t)) ∧ Bel w w' := by
  have K1 := Lib.hid (fun w' (h : Chn w' B G P L g) => hasPlace_any B P s w' h.head.1)
  have K3 := Lib.hid (fun w' (h : Chn w' B G P L g) => isIn_any B G P L g s w' h (by omega) (by omega))
  rw [hp_yes hs] at K1
  rw [decide_eq_false (show ¬ (g s).li = -1 by omega)] at K3
  obtain ⟨c0, c1⟩ := h.head
  obtain ⟨_, _, x2, _⟩ := h.at (show s < P + L by omega)
  rw [hi] at x2
  have hN : s < P + L := by omega
  have hM : P + L ≤ 2048 := by omega
  have H := Lib.hid h
  clear h hi
  generalize P + L = N at *
  go_enter Try.func34, Try.ntmps34
  go_wp2_with fail
  with_reducible refine (K1.out _ H.out).mono ?_
  rintro e w1 ⟨rfl, rfl⟩
  go_wp2_with fail
  with_reducible refine (K3.out _ H.out).mono ?_
  rintro e w1 ⟨rfl, rfl⟩
  go_wp2
  go_ret2
  exact ⟨rfl, Bel.refl _⟩
end Go.Proofs.Ytmkpnojojkgmiaa
