/-
  Contracts of slab.each and of the library's search beneath it.
-/
import Derived.Test.YtlohpccfanmiiaaMark
namespace Go.Proofs.Ytlohpccfanmiiaa
open Go.RowKit
/-- Does it hold of all of them, one behind the other, and what comes of it? -/
def runs {σ α : Type} (ok : σ → α → Bool) (nx : σ → α → σ) : σ → List α → Bool × σ
  | s, [] => (true, s)
  | s, x :: r => if ok s x then runs ok nx (nx s x) r else (false, nx s x)
theorem runs_step {σ α : Type} (ok : σ → α → Bool) (nx : σ → α → σ) (s : σ) (l : List α) (k : Nat) (x : α) (h : l[k]? = some x) : runs ok nx s (l.drop k) = if ok s x then runs ok nx (nx s x) (l.drop (k + 1)) else (false, nx s x) := by
  have hlt := get_lt h
  have e : l.drop k = x :: l.drop (k + 1) := by
    rw [List.drop_eq_getElem_cons hlt]
    congr 1
    rw [List.getElem?_eq_getElem hlt] at h
    exact Option.some.inj h
  rw [e]
  rfl
/-- What the search tells. -/
def IdxPost {σ : Type} (I : σ → World → Prop) (r : Bool × σ) (e : Ending) (w' : World) : Prop := ∃ i : Int, e = .returned (.int .i64 i) ∧ (decide (0 ≤ i) = !r.1) ∧ I r.2 w'
set_option maxHeartbeats 1000000 in
theorem idx56 {σ : Type} (I : σ → World → Prop) (ok : σ → Int → Bool) (nx : σ → Int → σ) (E : Nat) (p : Option Addr) (n c : Nat) (l : List Int) (s : σ) (w : World) (hl : l.length = n) (hn : n ≤ 2000) (hI : I s w) (hL : ∀ s w', I s w' → Lies nof w' p (encI l))
    (K : ∀ s x w', I s w' → Calls Try.prog 53 #[.int .i64 x, .pointer (some ⟨E, 0, none⟩)] w' fun e w'' => e = .returned (.bool (!ok s x)) ∧ I (nx s x) w'') :
    Calls Try.prog 56 #[.slice p n c, .func (.func 53) #[] #[.pointer (some ⟨E, 0, none⟩)]] w (IdxPost I (runs ok nx s l)) := by
  have HK := Lib.hid K
  have HL := Lib.hid hL
  have HN := Lib.hid hl
  have HI := Lib.hid hI
  clear K hL hl hI
  go_enter Try.func56, Try.ntmps56
  go_wp2
  go_loopw [8] (fun v wr => ∃ m : Nat, v = .int .i64 m ∧ m ≤ n ∧ ∃ s', I s' wr ∧ runs ok nx s l = runs ok nx s' (l.drop m)) (fun v _ => n - (intOf v).toNat)
  case atStart => exact ⟨0, rfl, by omega, s, HI.out, by simp⟩
  case round =>
    obtain ⟨m, rfl, hi, s', hI', hr⟩ := hrel
    have HI' := Lib.hid hI'
    have HR := Lib.hid hr
    clear hI' hr
    by_cases hlt : m < n
    · obtain ⟨x, hx⟩ : ∃ x, l[m]? = some x := ⟨_, List.getElem?_eq_getElem (by have := HN.out; omega)⟩
      obtain ⟨b, off, rfl, _, hrow⟩ := lies_int (HL.out s' _ HI'.out) (get_lt hx)
      have x0 := row_int hrow hx
      have HS := Lib.hid (runs_step ok nx s' l m x hx)
      clear hrow hx
      cases hok : ok s' x with
      | true =>
        have K1 := Lib.hid (HK.out s' x _ HI'.out)
        rw [hok] at K1
        have HR2 : Hid (runs ok nx s l = runs ok nx (nx s' x) (l.drop (m + 1))) := Lib.hid (by rw [HR.out, HS.out, hok]; rfl)
        clear hok
        go_wp2_with fail
        with_reducible refine (K1.out).mono ?_
        rintro e w1 ⟨rfl, h1⟩
        have HI1 := Lib.hid h1
        clear h1 x0
        go_wp2
        go_roundw
        case rel => exact ⟨m + 1, by go_num, by omega, nx s' x, HI1.out, HR2.out⟩
        case measure => simp [intOf]; omega
      | false =>
        have K1 := Lib.hid (HK.out s' x _ HI'.out)
        rw [hok] at K1
        have HR2 : Hid (runs ok nx s l = (false, nx s' x)) := Lib.hid (by rw [HR.out, HS.out, hok]; rfl)
        clear hok
        go_wp2_with fail
        with_reducible refine (K1.out).mono ?_
        rintro e w1 ⟨rfl, h1⟩
        have HI1 := Lib.hid h1
        clear h1 x0
        go_wp2
        go_ret
        exact ⟨m, rfl, by rw [HR2.out]; simp, by rw [HR2.out]; exact HI1.out⟩
    · obtain rfl : m = n := by omega
      have HR2 : Hid (runs ok nx s l = (true, s')) := Lib.hid (by rw [HR.out, List.drop_eq_nil_of_le (by have := HN.out; omega)]; rfl)
      go_wp2
      go_ret
      exact ⟨-1, rfl, by rw [HR2.out]; simp, by rw [HR2.out]; exact HI'.out⟩
theorem has52 {σ : Type} (I : σ → World → Prop) (r : Bool × σ) (F : Value) (p : Option Addr) (n c : Nat) (w : World) (K : Calls Try.prog 56 #[.slice p n c, F] w (IdxPost I r)) :
    Calls Try.prog 52 #[.slice p n c, F] w fun e w' => e = .returned (.bool (!r.1)) ∧ I r.2 w' := by
  have HK := Lib.hid K
  clear K
  go_enter Try.func52, Try.ntmps52
  go_wp2_with fail
  with_reducible refine (HK.out).mono ?_
  rintro e w1 ⟨i, rfl, hd, hI⟩
  have HD := Lib.hid hd
  have HI := Lib.hid hI
  clear hI hd
  go_wp2
  go_ret
  exact ⟨ret_bool HD.out, HI.out⟩
theorem each44 {σ : Type} (I : σ → World → Prop) (ok : σ → Int → Bool) (nx : σ → Int → σ) (k : Nat) (caps : Array Value) (p : Option Addr) (n c : Nat) (l : List Int) (s : σ) (w : World) (hl : l.length = n) (hn : n ≤ 2000) (hI : I s w) (hb : ∀ s w w', I s w → Bel w w' → I s w') (hL : ∀ s w', I s w' → Lies nof w' p (encI l))
    (K : ∀ E s x w', w'.cell? ⟨E, 0, none⟩ = some (.func (.func k) #[] caps) → I s w' → Calls Try.prog 53 #[.int .i64 x, .pointer (some ⟨E, 0, none⟩)] w' fun e w'' => e = .returned (.bool (!ok s x)) ∧ I (nx s x) w'' ∧ w''.cell? ⟨E, 0, none⟩ = some (.func (.func k) #[] caps)) :
    Calls Try.prog 44 #[.slice p n c, .func (.func k) #[] caps] w fun e w' => e = .returned (.bool (runs ok nx s l).1) ∧ I (runs ok nx s l).2 w' := by
  have hI1 : I s (w.alloc (.cells #[.func (.func k) #[] caps] 48)) := hb _ _ _ hI ((Bel.refl _).alloc _ _)
  have hc1 : (w.alloc (.cells #[.func (.func k) #[] caps] 48)).cell? ⟨w.heap.size, 0, none⟩ = some (.func (.func k) #[] caps) := by simp [go_sem]
  have K2 := Lib.hid (has52 _ (runs ok nx s l) (.func (.func 53) #[] #[.pointer (some ⟨w.heap.size, 0, none⟩)]) p n c _ (idx56 (fun s w' => I s w' ∧ w'.cell? ⟨w.heap.size, 0, none⟩ = some (.func (.func k) #[] caps)) ok nx w.heap.size p n c l s _ hl hn ⟨hI1, hc1⟩ (fun s w' h => hL s w' h.1) (fun s x w' h => K _ s x w' h.2 h.1)))
  clear hI1 hc1 K hL hb hI
  obtain ⟨r, hr⟩ : ∃ r, runs ok nx s l = r := ⟨_, rfl⟩
  rw [hr] at K2 ⊢
  clear hr
  go_enter Try.func44, Try.ntmps44
  go_wp2_with fail
  with_reducible refine (K2.out).mono ?_
  rintro e w1 ⟨rfl, h1⟩
  have HI := Lib.hid h1.1
  clear h1
  go_wp2
  go_ret
  exact ⟨ret_bool (by simp), HI.out⟩
set_option maxHeartbeats 1000000 in
theorem idx57 {σ : Type} (I : σ → World → Prop) (ok : σ → Hd → Bool) (nx : σ → Hd → σ) (E : Nat) (p : Option Addr) (n c : Nat) (l : List Hd) (s : σ) (w : World) (hl : l.length = n) (hn : n ≤ 2000) (hI : I s w) (hL : ∀ s w', I s w' → Lies nof w' p (encH l))
    (K : ∀ s x w', I s w' → Calls Try.prog 55 #[.agg #[.int .i64 x.p, .int .i64 x.g], .pointer (some ⟨E, 0, none⟩)] w' fun e w'' => e = .returned (.bool (!ok s x)) ∧ I (nx s x) w'') :
    Calls Try.prog 57 #[.slice p n c, .func (.func 55) #[] #[.pointer (some ⟨E, 0, none⟩)]] w (IdxPost I (runs ok nx s l)) := by
  have HK := Lib.hid K
  have HL := Lib.hid hL
  have HN := Lib.hid hl
  have HI := Lib.hid hI
  clear K hL hl hI
  go_enter Try.func57, Try.ntmps57
  go_wp2
  go_loopw [8] (fun v wr => ∃ m : Nat, v = .int .i64 m ∧ m ≤ n ∧ ∃ s', I s' wr ∧ runs ok nx s l = runs ok nx s' (l.drop m)) (fun v _ => n - (intOf v).toNat)
  case atStart => exact ⟨0, rfl, by omega, s, HI.out, by simp⟩
  case round =>
    obtain ⟨m, rfl, hi, s', hI', hr⟩ := hrel
    have HI' := Lib.hid hI'
    have HR := Lib.hid hr
    clear hI' hr
    by_cases hlt : m < n
    · obtain ⟨x, hx⟩ : ∃ x, l[m]? = some x := ⟨_, List.getElem?_eq_getElem (by have := HN.out; omega)⟩
      obtain ⟨b, off, rfl, _, hrow⟩ := lies_hd (HL.out s' _ HI'.out) (get_lt hx)
      obtain ⟨x0, x1⟩ := row_hd hrow hx
      have HS := Lib.hid (runs_step ok nx s' l m x hx)
      clear hrow hx
      cases hok : ok s' x with
      | true =>
        have K1 := Lib.hid (HK.out s' x _ HI'.out)
        rw [hok] at K1
        have HR2 : Hid (runs ok nx s l = runs ok nx (nx s' x) (l.drop (m + 1))) := Lib.hid (by rw [HR.out, HS.out, hok]; rfl)
        clear hok
        go_wp2_with fail
        with_reducible refine (K1.out).mono ?_
        rintro e w1 ⟨rfl, h1⟩
        have HI1 := Lib.hid h1
        clear h1 x0 x1
        go_wp2
        go_roundw
        case rel => exact ⟨m + 1, by go_num, by omega, nx s' x, HI1.out, HR2.out⟩
        case measure => simp [intOf]; omega
      | false =>
        have K1 := Lib.hid (HK.out s' x _ HI'.out)
        rw [hok] at K1
        have HR2 : Hid (runs ok nx s l = (false, nx s' x)) := Lib.hid (by rw [HR.out, HS.out, hok]; rfl)
        clear hok
        go_wp2_with fail
        with_reducible refine (K1.out).mono ?_
        rintro e w1 ⟨rfl, h1⟩
        have HI1 := Lib.hid h1
        clear h1 x0 x1
        go_wp2
        go_ret
        exact ⟨m, rfl, by rw [HR2.out]; simp, by rw [HR2.out]; exact HI1.out⟩
    · obtain rfl : m = n := by omega
      have HR2 : Hid (runs ok nx s l = (true, s')) := Lib.hid (by rw [HR.out, List.drop_eq_nil_of_le (by have := HN.out; omega)]; rfl)
      go_wp2
      go_ret
      exact ⟨-1, rfl, by rw [HR2.out]; simp, by rw [HR2.out]; exact HI'.out⟩
theorem has54 {σ : Type} (I : σ → World → Prop) (r : Bool × σ) (F : Value) (p : Option Addr) (n c : Nat) (w : World) (K : Calls Try.prog 57 #[.slice p n c, F] w (IdxPost I r)) :
    Calls Try.prog 54 #[.slice p n c, F] w fun e w' => e = .returned (.bool (!r.1)) ∧ I r.2 w' := by
  have HK := Lib.hid K
  clear K
  go_enter Try.func54, Try.ntmps54
  go_wp2_with fail
  with_reducible refine (HK.out).mono ?_
  rintro e w1 ⟨i, rfl, hd, hI⟩
  have HD := Lib.hid hd
  have HI := Lib.hid hI
  clear hI hd
  go_wp2
  go_ret
  exact ⟨ret_bool HD.out, HI.out⟩
theorem each49 {σ : Type} (I : σ → World → Prop) (ok : σ → Hd → Bool) (nx : σ → Hd → σ) (k : Nat) (caps : Array Value) (p : Option Addr) (n c : Nat) (l : List Hd) (s : σ) (w : World) (hl : l.length = n) (hn : n ≤ 2000) (hI : I s w) (hb : ∀ s w w', I s w → Bel w w' → I s w') (hL : ∀ s w', I s w' → Lies nof w' p (encH l))
    (K : ∀ E s x w', w'.cell? ⟨E, 0, none⟩ = some (.func (.func k) #[] caps) → I s w' → Calls Try.prog 55 #[.agg #[.int .i64 x.p, .int .i64 x.g], .pointer (some ⟨E, 0, none⟩)] w' fun e w'' => e = .returned (.bool (!ok s x)) ∧ I (nx s x) w'' ∧ w''.cell? ⟨E, 0, none⟩ = some (.func (.func k) #[] caps)) :
    Calls Try.prog 49 #[.slice p n c, .func (.func k) #[] caps] w fun e w' => e = .returned (.bool (runs ok nx s l).1) ∧ I (runs ok nx s l).2 w' := by
  have hI1 : I s (w.alloc (.cells #[.func (.func k) #[] caps] 45)) := hb _ _ _ hI ((Bel.refl _).alloc _ _)
  have hc1 : (w.alloc (.cells #[.func (.func k) #[] caps] 45)).cell? ⟨w.heap.size, 0, none⟩ = some (.func (.func k) #[] caps) := by simp [go_sem]
  have K2 := Lib.hid (has54 _ (runs ok nx s l) (.func (.func 55) #[] #[.pointer (some ⟨w.heap.size, 0, none⟩)]) p n c _ (idx57 (fun s w' => I s w' ∧ w'.cell? ⟨w.heap.size, 0, none⟩ = some (.func (.func k) #[] caps)) ok nx w.heap.size p n c l s _ hl hn ⟨hI1, hc1⟩ (fun s w' h => hL s w' h.1) (fun s x w' h => K _ s x w' h.2 h.1)))
  clear hI1 hc1 K hL hb hI
  obtain ⟨r, hr⟩ : ∃ r, runs ok nx s l = r := ⟨_, rfl⟩
  rw [hr] at K2 ⊢
  clear hr
  go_enter Try.func49, Try.ntmps49
  go_wp2_with fail
  with_reducible refine (K2.out).mono ?_
  rintro e w1 ⟨rfl, h1⟩
  have HI := Lib.hid h1.1
  clear h1
  go_wp2
  go_ret
  exact ⟨ret_bool (by simp), HI.out⟩
end Go.Proofs.Ytlohpccfanmiiaa
