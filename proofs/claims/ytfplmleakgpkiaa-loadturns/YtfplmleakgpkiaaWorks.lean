/-
  The document's example: works returns true.
-/
import Derived.Test.YtfplmleakgpkiaaRef2
set_option linter.unusedVariables false
set_option linter.unusedSimpArgs false
namespace Go.Proofs.Ytfplmleakgpkiaa
open Go.RowKit
/-- What was new stays new. -/
theorem Off.belp {w w' w0 : World} {p : Nat} (h : Off (only p) w w') (ha : Bel w0 w) (hp : w0.heap.size ≤ p) : Bel w0 w' := Off.bel h ha (fun i e => by rw [show i = p from e]; exact hp)
theorem ex_note (p : Nat) (l l' : List T) (a b c e : Int) (w0 w : World) (h : Ld w p l) (hB : Bel w0 w) (hp : w0.heap.size ≤ p) (hn : l.length ≤ 999) (hl : l ++ good [⟨a, b, c⟩] = l') (he : T.bad ⟨a, b, c⟩ = e) :
    Calls Try.prog 9 #[.pointer (some ⟨p, 0, none⟩), .int .i64 a, .int .i64 b, .int .i64 c] w fun x w' => x = .returned (.int .i64 e) ∧ Ld w' p l' ∧ Bel w0 w' := by
  subst hl he
  exact (note_any p l ⟨a, b, c⟩ w h hn).mono fun x w' ⟨h1, h2, h3⟩ => ⟨h1, h2, h3.belp hB hp⟩
abbrev l2 : List T := [⟨0, 1, 5⟩, ⟨3, 2, 3⟩]
abbrev lk (k : Nat) : List T := l2 ++ List.replicate k (⟨3, 0, 0⟩ : T)
theorem lk_step (k : Nat) : lk k ++ good [⟨3, 0, 0⟩] = lk (k + 1) := by
  show (l2 ++ List.replicate k (⟨3, 0, 0⟩ : T)) ++ [⟨3, 0, 0⟩] = l2 ++ List.replicate (k + 1) (⟨3, 0, 0⟩ : T)
  rw [List.append_assoc, List.replicate_succ']
theorem lk_len (k : Nat) : (lk k).length = k + 2 := by
  show (l2 ++ List.replicate k (⟨3, 0, 0⟩ : T)).length = k + 2
  simp
set_option maxRecDepth 100000 in
theorem ex_last : talV (lst (lk 30)) = .agg #[.int .i64 1, .int .i64 0, .int .i64 0, .int .i64 2, .int .i64 5] := by
  unfold talV
  rw [show tot 0 (lst (lk 30)) = 1 by decide, show tot 1 (lst (lk 30)) = 0 by decide, show tot 2 (lst (lk 30)) = 0 by decide, show tot 3 (lst (lk 30)) = 2 by decide, show mx (lst (lk 30)) = 5 by decide]
theorem ex_open : talV (opn l2) = .agg #[.int .i64 1, .int .i64 0, .int .i64 0, .int .i64 2, .int .i64 5] := by
  unfold talV
  rw [show tot 0 (opn l2) = 1 by decide, show tot 1 (opn l2) = 0 by decide, show tot 2 (opn l2) = 0 by decide, show tot 3 (opn l2) = 2 by decide, show mx (opn l2) = 5 by decide]
set_option maxHeartbeats 1000000 in
theorem works_any (w : World) : Calls Try.prog 7 #[] w fun e w' => e = .returned (.bool true) ∧ Bel w w' := by
  go_enter Try.func7, Try.ntmps7
  go_wp2_with fail
  with_reducible refine (new_any _).mono ?_
  rintro e w1 ⟨p, rfl, hp, hl, hb⟩
  have HP := Lib.hid hp
  have HL := Lib.hid hl
  have HB := Lib.hid hb
  clear hp hl hb
  go_wp2_with fail
  with_reducible refine (ex_note p [] [⟨0, 1, 5⟩] 0 1 5 0 w _ HL.out HB.out HP.out (by decide) (by decide) (by decide)).mono ?_
  rintro e w2 ⟨rfl, hl, hb⟩
  have HL2 := Lib.hid hl
  have HB2 := Lib.hid hb
  clear hl hb HL HB
  go_wp2_with fail
  with_reducible refine (ex_note p [⟨0, 1, 5⟩] l2 3 2 3 0 w _ HL2.out HB2.out HP.out (by decide) (by decide) (by decide)).mono ?_
  rintro e w3 ⟨rfl, hl, hb⟩
  have HL3 := Lib.hid hl
  have HB3 := Lib.hid hb
  clear hl hb HL2 HB2
  go_wp2_with fail
  with_reducible refine (ex_note p l2 l2 4 1 1 7 w _ HL3.out HB3.out HP.out (by decide) (by decide) (by decide)).mono ?_
  rintro e w4 ⟨rfl, hl, hb⟩
  have HL4 := Lib.hid hl
  have HB4 := Lib.hid hb
  clear hl hb HL3 HB3
  have KO := lopen_any p l2 w4 HL4.out
  rw [ex_open] at KO
  have KO := Lib.hid KO
  go_wp2_with fail
  with_reducible refine KO.out.mono ?_
  rintro e w5 ⟨rfl, hb⟩
  have HL5 := Lib.hid (HL4.out.bel hb)
  have HB5 := Lib.hid (HB4.out.trans hb)
  clear hb HL4 HB4 KO
  have KN : Hid (Calls Try.prog 18 #[.pointer (some ⟨p, 0, none⟩)] w5 fun e w' => e = .returned (.int .i64 2) ∧ w' = w5) := Lib.hid (lnotes_any p l2 w5 HL5.out (by decide))
  go_wp2_with fail
  with_reducible refine KN.out.mono ?_
  rintro e w6 ⟨rfl, rfl⟩
  go_wp2
  go_loopw [7] (fun i wr => ∃ k : Nat, k ≤ 30 ∧ i = .int .i64 k ∧ Ld wr p (lk k) ∧ Bel w wr) (fun i _ => 30 - (intOf i).toNat)
  case atStart => exact ⟨0, by omega, rfl, by simpa [lk] using HL5.out, HB5.out⟩
  case round =>
    obtain ⟨k, hk, rfl, hl, hb⟩ := hrel
    have HLk := Lib.hid hl
    have HBk := Lib.hid hb
    clear hl hb
    by_cases hlt : k < 30
    · have K := Lib.hid (ex_note p (lk k) (lk (k + 1)) 3 0 0 0 w wr HLk.out HBk.out HP.out (by rw [lk_len]; omega) (lk_step k) (by decide))
      go_wp2_with fail
      with_reducible refine K.out.mono ?_
      rintro e w7 ⟨rfl, hl, hb⟩
      have HL7 := Lib.hid hl
      have HB7 := Lib.hid hb
      clear hl hb K
      go_wp2
      go_roundw
      case rel => exact ⟨k + 1, by omega, by go_num, HL7.out, HB7.out⟩
      case measure => simp [intOf]; omega
    · obtain rfl : k = 30 := by omega
      have KL := llast_any p (lk 30) wr HLk.out (by rw [lk_len]; omega)
      rw [ex_last, lk_len] at KL
      have KL : Hid (Calls Try.prog 13 #[.pointer (some ⟨p, 0, none⟩)] wr fun e w' => e = .returned (.tuple #[.agg #[.int .i64 1, .int .i64 0, .int .i64 0, .int .i64 2, .int .i64 5], .bool true]) ∧ Bel wr w') := Lib.hid KL
      go_wp2_with fail
      with_reducible refine KL.out.mono ?_
      rintro e w8 ⟨rfl, hb⟩
      have HL8 := Lib.hid (HLk.out.bel hb)
      have HB8 := Lib.hid (HBk.out.trans hb)
      clear hb HLk HBk KL
      have K1 : Hid (∀ w', Bel w8 w' → Calls Try.prog 18 #[.pointer (some ⟨p, 0, none⟩)] w' fun e w'' => e = .returned (.int .i64 0) ∧ w'' = w') := Lib.hid fun w' hb => by
        have K := lnotes_any p (lk 30) w' (HL8.out.bel hb) (by rw [lk_len]; omega)
        rw [lk_len] at K
        exact K
      have K2 : Hid (∀ w', Bel w8 w' → Calls Try.prog 19 #[.pointer (some ⟨p, 0, none⟩)] w' fun e w'' => e = .returned (.int .i64 1) ∧ w'' = w') := Lib.hid fun w' hb => by
        have K := lwindows_any p (lk 30) w' (HL8.out.bel hb) (by rw [lk_len]; omega)
        rw [lk_len] at K
        exact K
      have K3 : Hid (∀ w', Bel w8 w' → Calls Try.prog 20 #[.pointer (some ⟨p, 0, none⟩), .int .i64 3] w' fun e w'' => e = .returned (.int .i64 2) ∧ w'' = w') := Lib.hid fun w' hb => by
        have K := ltotal_yes p (lk 30) 3 w' (HL8.out.bel hb) (by omega)
        rw [show tot ((3 : Nat) : Int) (lk 30) = 2 by decide] at K
        exact K
      go_wp2_with fail
      with_reducible refine (K1.out _ ((Bel.refl _).alloc _ _)).mono ?_
      rintro e w9 ⟨rfl, rfl⟩
      go_wp2_with fail
      with_reducible refine (K2.out _ ((Bel.refl _).alloc _ _)).mono ?_
      rintro e w9 ⟨rfl, rfl⟩
      go_wp2_with fail
      with_reducible refine (K3.out _ ((Bel.refl _).alloc _ _)).mono ?_
      rintro e w9 ⟨rfl, rfl⟩
      go_wp2
      go_ret
      exact ⟨rfl, HB8.out.alloc _ _⟩
end Go.Proofs.Ytfplmleakgpkiaa
