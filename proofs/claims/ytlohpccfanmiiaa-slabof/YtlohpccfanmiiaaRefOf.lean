/-
  Contracts of the document's has and at: how often a place is named.
-/
import Derived.Test.YtlohpccfanmiiaaGood
namespace Go.Proofs.Ytlohpccfanmiiaa
open Go.RowKit
theorem count_take (l : List Int) (q : Int) (m : Nat) (y : Int) (hy : l[m]? = some y) : (l.take (m + 1)).count q = (l.take m).count q + if y = q then 1 else 0 := by
  rw [List.take_add_one, hy]
  simp [List.count_append, List.count_singleton]
theorem has_any (p : Option Addr) (n c : Nat) (l : List Int) (q : Int) (w : World) (hn : l.length = n) (hm : n ≤ 2000) (hp : Lies nof w p (encI l)) :
    Calls Try.prog 33 #[.slice p n c, .int .i64 q] w fun e w' => e = .returned (.int .i64 ((l.count q : Nat) : Int)) ∧ w' = w := by
  have HP := Lib.hid hp
  have HN := Lib.hid hn
  clear hp hn
  go_enter Try.func33, Try.ntmps33
  go_wp2
  go_loopw [5, 6] (fun u v wr => ∃ m k : Nat, v = .int .i64 m ∧ u = .int .i64 k ∧ m ≤ n ∧ k ≤ m ∧ (l.take m).count q = k ∧ wr = w) (fun _ v _ => n - (intOf v).toNat)
  case atStart => exact ⟨0, 0, rfl, rfl, by omega, by omega, by simp, rfl⟩
  case round =>
    obtain ⟨m, k, rfl, rfl, hi, hk, hc, rfl⟩ := hrel
    have HC := Lib.hid hc
    clear hc
    by_cases hlt : m < n
    · obtain ⟨b, off, rfl, _, hr⟩ := lies_int HP.out (i := m) (by have := HN.out; omega)
      obtain ⟨y, hy⟩ : ∃ y, l[m]? = some y := ⟨_, List.getElem?_eq_getElem (by have := HN.out; omega)⟩
      have x0 := row_int hr hy
      have HT := Lib.hid (count_take l q m y hy)
      clear hr hy
      by_cases he : y = q
      · have hd : (y == q) = true := by simpa using he
        have HT2 : Hid ((l.take (m + 1)).count q = k + 1) := Lib.hid (by rw [HT.out, HC.out, if_pos he])
        clear he
        go_wp2
        go_roundw
        case rel => exact ⟨m + 1, k + 1, by go_num, by go_num, by omega, by omega, HT2.out, trivial⟩
        case measure => simp [intOf]; omega
      · have hd : (y == q) = false := by simpa using he
        have HT2 : Hid ((l.take (m + 1)).count q = k) := Lib.hid (by rw [HT.out, HC.out, if_neg he]; rfl)
        clear he
        go_wp2
        go_roundw
        case rel => exact ⟨m + 1, k, by go_num, rfl, by omega, by omega, HT2.out, trivial⟩
        case measure => simp [intOf]; omega
    · obtain rfl : m = n := by omega
      have HE : Hid (l.count q = k) := Lib.hid (by have := HC.out; rwa [List.take_of_length_le (by have := HN.out; omega)] at this)
      go_wp2
      go_ret
      exact ⟨(congrArg (fun t : Nat => Ending.returned (.int .i64 (t : Int))) HE.out).symm, rfl⟩
theorem rcount_any (p : Option Addr) (n c : Nat) (l : List Hd) (q : Int) (w : World) (hn : l.length = n) (hm : n ≤ 2000) (hp : Lies nof w p (encH l)) :
    Calls Try.prog 34 #[.slice p n c, .int .i64 q] w fun e w' => e = .returned (.int .i64 (((l.map (·.p)).count q : Nat) : Int)) ∧ w' = w := by
  have HP := Lib.hid hp
  have HN := Lib.hid hn
  clear hp hn
  go_enter Try.func34, Try.ntmps34
  go_wp2
  go_loopw [5, 6] (fun u v wr => ∃ m k : Nat, v = .int .i64 m ∧ u = .int .i64 k ∧ m ≤ n ∧ k ≤ m ∧ ((l.map (·.p)).take m).count q = k ∧ wr = w) (fun _ v _ => n - (intOf v).toNat)
  case atStart => exact ⟨0, 0, rfl, rfl, by omega, by omega, by simp, rfl⟩
  case round =>
    obtain ⟨m, k, rfl, rfl, hi, hk, hc, rfl⟩ := hrel
    have HC := Lib.hid hc
    clear hc
    by_cases hlt : m < n
    · obtain ⟨b, off, rfl, _, hr⟩ := lies_hd HP.out (i := m) (by have := HN.out; omega)
      obtain ⟨y, hy⟩ : ∃ y, l[m]? = some y := ⟨_, List.getElem?_eq_getElem (by have := HN.out; omega)⟩
      obtain ⟨x0, x1⟩ := row_hd hr hy
      have HT := Lib.hid (count_take (l.map (·.p)) q m y.p (by rw [List.getElem?_map, hy]; rfl))
      clear hr hy
      by_cases he : y.p = q
      · have hd : (y.p == q) = true := by simpa using he
        have HT2 : Hid (((l.map (·.p)).take (m + 1)).count q = k + 1) := Lib.hid (by rw [HT.out, HC.out, if_pos he])
        clear he
        go_wp2
        go_roundw
        case rel => exact ⟨m + 1, k + 1, by go_num, by go_num, by omega, by omega, HT2.out, trivial⟩
        case measure => simp [intOf]; omega
      · have hd : (y.p == q) = false := by simpa using he
        have HT2 : Hid (((l.map (·.p)).take (m + 1)).count q = k) := Lib.hid (by rw [HT.out, HC.out, if_neg he]; rfl)
        clear he
        go_wp2
        go_roundw
        case rel => exact ⟨m + 1, k, by go_num, rfl, by omega, by omega, HT2.out, trivial⟩
        case measure => simp [intOf]; omega
    · obtain rfl : m = n := by omega
      have HE : Hid ((l.map (·.p)).count q = k) := Lib.hid (by have := HC.out; rwa [List.take_of_length_le (by have := HN.out; rw [List.length_map]; omega)] at this)
      go_wp2
      go_ret
      exact ⟨(congrArg (fun t : Nat => Ending.returned (.int .i64 (t : Int))) HE.out).symm, rfl⟩
end Go.Proofs.Ytlohpccfanmiiaa
