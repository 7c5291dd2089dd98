/-
  Contract of chain's Splice, where nothing changes.
-/
import Derived.Test.YtdeiknfaehpheaaTell
namespace Go.Proofs.Ytdeiknfaehpheaa
open Go.RowKit Go.Shelf
attribute [local go_sem] Oper.semAt_some
theorem splice_arg (B G P L : Nat) (g : Rg) (t f : Int) (w : World) (h : Chn w B G P L g) (hP : P ≤ 1024) (hL : L ≤ 1024) (hn : (hp L t && hp L f) = false) :
    Calls Try.prog 21 #[.pointer (some ⟨B, 0, none⟩), .int .i64 t, .int .i64 f] w fun e w' => e = .returned (.int .i64 1) ∧ Bel w w' := by
  have K1 := Lib.hid (fun w' (h : Chn w' B G P L g) => hasList_any B P L _ t w' h.head.1 h.head.2 hP hL)
  have K2 := Lib.hid (fun w' (h : Chn w' B G P L g) => hasList_any B P L _ f w' h.head.1 h.head.2 hP hL)
  have HB : Hid (Bel w ((w.alloc (.cells #[.pointer (some ⟨B, 0, none⟩)] 24)).alloc (.cells #[.int .i64 t] 3))) := Lib.hid (((Bel.refl _).alloc _ _).alloc _ _)
  have H := Lib.hid (h.bel HB.out)
  clear h
  cases h1 : hp L t with
  | false =>
    rw [h1] at K1
    clear h1
    go_enter Try.func21, Try.ntmps21
    go_wp2_with fail
    with_reducible refine (K1.out _ H.out).mono ?_
    rintro e w1 ⟨rfl, k, rfl⟩
    go_wp2
    go_ret
    exact ⟨rfl, HB.out.drewN k⟩
  | true =>
    rw [h1, Bool.true_and] at hn
    rw [h1] at K1
    rw [hn] at K2
    clear h1 hn
    go_enter Try.func21, Try.ntmps21
    go_wp2_with fail
    with_reducible refine (K1.out _ H.out).mono ?_
    rintro e w1 ⟨rfl, k, rfl⟩
    go_wp2_with fail
    with_reducible refine (K2.out _ (H.out.bel ((Bel.refl _).drewN k))).mono ?_
    rintro e w2 ⟨rfl, k2, rfl⟩
    go_wp2
    go_ret
    exact ⟨rfl, HB.out.drewN _⟩
set_option maxHeartbeats 1000000 in
theorem splice_same (B G P L : Nat) (g : Rg) (t f : Nat) (ys : List Nat) (w : World) (h : Chn w B G P L g) (hP : P ≤ 1024) (hL : L ≤ 1024) (ht : t < L) (hf : f < L) (hnd : ys.Nodup) (hys : ∀ y ∈ ys, y < P) (hm : Met (fun i => (g i).bh) P (P + f) ys) (hs : t = f ∨ ys = []) :
    Calls Try.prog 21 #[.pointer (some ⟨B, 0, none⟩), .int .i64 t, .int .i64 f] w fun e w' => e = .returned (.int .i64 0) ∧ Bel w w' := by
  have K1 := Lib.hid (fun w' (h : Chn w' B G P L g) => hasList_any B P L _ t w' h.head.1 h.head.2 hP hL)
  have K2 := Lib.hid (fun w' (h : Chn w' B G P L g) => hasList_any B P L _ f w' h.head.1 h.head.2 hP hL)
  have K3 := Lib.hid (fun w' (h : Chn w' B G P L g) => first_yes B G P L g f ys w' h hP hL hf hnd hys hm)
  rw [hp_yes ht] at K1
  rw [hp_yes hf] at K2
  have HB : Hid (Bel w ((w.alloc (.cells #[.pointer (some ⟨B, 0, none⟩)] 24)).alloc (.cells #[.int .i64 t] 3))) := Lib.hid (((Bel.refl _).alloc _ _).alloc _ _)
  have H := Lib.hid (h.bel HB.out)
  have C0 : Hid (((w.alloc (.cells #[.pointer (some ⟨B, 0, none⟩)] 24)).alloc (.cells #[.int .i64 t] 3)).cell? ⟨w.heap.size, 0, none⟩ = some (.pointer (some ⟨B, 0, none⟩))) := Lib.hid (by simp [go_sem])
  have C1 : Hid (((w.alloc (.cells #[.pointer (some ⟨B, 0, none⟩)] 24)).alloc (.cells #[.int .i64 t] 3)).cell? ⟨w.heap.size + 1, 0, none⟩ = some (.int .i64 t)) := Lib.hid (by simp [go_sem])
  clear h hnd hys hm
  have hs2 : t = f ∨ (¬ t = f ∧ ys.head? = none) := by
    by_cases e : t = f
    · exact .inl e
    · exact .inr ⟨e, by rcases hs with h | h; exact absurd h e; rw [h]; rfl⟩
  clear hs
  generalize ys.head? = r at *
  go_enter Try.func21, Try.ntmps21
  go_wp2_with fail
  with_reducible refine (K1.out _ H.out).mono ?_
  rintro e w1 ⟨rfl, k, rfl⟩
  go_wp2_with fail
  with_reducible refine (K2.out _ (H.out.bel ((Bel.refl _).drewN k))).mono ?_
  rintro e w2 ⟨rfl, k2, rfl⟩
  have HB2 : Hid (Bel w ((((w.alloc (.cells #[.pointer (some ⟨B, 0, none⟩)] 24)).alloc (.cells #[.int .i64 t] 3)).drewN k).drewN k2)) := Lib.hid ((HB.out.drewN k).drewN k2)
  have H2 : Hid (Chn ((((w.alloc (.cells #[.pointer (some ⟨B, 0, none⟩)] 24)).alloc (.cells #[.int .i64 t] 3)).drewN k).drewN k2) B G P L g) := Lib.hid (H.out.bel (((Bel.refl _).drewN k).drewN k2))
  have c0 : ((((w.alloc (.cells #[.pointer (some ⟨B, 0, none⟩)] 24)).alloc (.cells #[.int .i64 t] 3)).drewN k).drewN k2).cell? ⟨w.heap.size, 0, none⟩ = some (.pointer (some ⟨B, 0, none⟩)) := C0.out
  have c1 : ((((w.alloc (.cells #[.pointer (some ⟨B, 0, none⟩)] 24)).alloc (.cells #[.int .i64 t] 3)).drewN k).drewN k2).cell? ⟨w.heap.size + 1, 0, none⟩ = some (.int .i64 t) := C1.out
  generalize (((w.alloc (.cells #[.pointer (some ⟨B, 0, none⟩)] 24)).alloc (.cells #[.int .i64 t] 3)).drewN k).drewN k2 = W at *
  go_wp2_with fail
  with_reducible refine (K3.out _ H2.out).mono ?_
  rintro e w3 ⟨rfl, hb⟩
  have HB3 := Lib.hid (HB2.out.trans hb)
  have c1 := hb.cell c1
  clear hb
  rcases hs2 with rfl | ⟨hne, rfl⟩
  · have hd : ((t : Int) == t) = true := by simp
    cases r with
    | none =>
      unfold ans
      go_wp2
      go_ret
      exact ⟨rfl, HB3.out⟩
    | some x =>
      unfold ans
      go_wp2
      go_ret
      exact ⟨rfl, HB3.out⟩
  · have hd : ((t : Int) == f) = false := by simp; omega
    unfold ans
    go_wp2
    go_ret
    exact ⟨rfl, HB3.out⟩
end Go.Proofs.Ytdeiknfaehpheaa
