/-
  Contract of the document's Of.
-/
import Derived.Test.YtlohpccfanmiiaaDoc
import Derived.Deep.Cut
namespace Go.Proofs.Ytlohpccfanmiiaa
open Go.RowKit
def RofPost (P : Nat) (G : Int) (ul fl : List Int) (al : List Hd) (w : World) (e : Ending) (w' : World) : Prop :=
  Bel w w' ∧ ((¬ Good P G ul fl al ∧ e = .returned (.tuple #[.agg #[.int .i64 0, .int .i64 0, .slice none 0 0, .slice none 0 0, .slice none 0 0], .int .i64 2])) ∨ (Good P G ul fl al ∧ ∃ x : RP, e = .returned (.tuple #[rv x (ofR P G ul fl al), .int .i64 0]) ∧ RefIn nof w' x (ofR P G ul fl al)))
theorem off1 (w : World) (T o : Nat) (v : Value) : Off (fun k => k = T) w (w.setCell ⟨T, o, none⟩ v) := Off.setCell (p := ⟨T, o, none⟩) (Off.refl (fun k => k = T) w) (.inl rfl) v
theorem take_all {α : Type} {p : α → Prop} {l : List α} {m : Nat} {y : α} (h : ∀ x ∈ l.take m, p x) (hy : l[m]? = some y) (hp : p y) : ∀ x ∈ l.take (m + 1), p x := by
  intro x hx
  rw [List.take_add_one, hy, List.mem_append] at hx
  rcases hx with hx | hx
  · exact h x hx
  · have e : x = y := by simpa using hx
    rw [e]; exact hp
set_option maxHeartbeats 8000000 in
set_option maxRecDepth 100000 in
theorem rof_any (P : Nat) (G : Int) (pa pb pc : Option Addr) (n1 c1 n2 c2 n3 c3 : Nat) (ul fl : List Int) (al : List Hd) (w : World) (h1 : (P : Int) ≤ 1024) (h2 : 1 ≤ G) (h3 : G ≤ 65535) (hn1 : ul.length = n1) (hn2 : fl.length = n2) (hn3 : al.length = n3) (b1 : n1 ≤ 60) (b2 : n2 ≤ 60) (b3 : n3 ≤ 60) (hl1 : Lies nof w pa (encI ul)) (hl2 : Lies nof w pb (encI fl)) (hl3 : Lies nof w pc (encH al)) (hP : n1 ≤ P) :
    Calls Try.prog 22 #[.int .i64 P, .int .i64 G, .slice pa n1 c1, .slice pb n2 c2, .slice pc n3 c3] w (RofPost P G ul fl al w) := by
  have hP' : decide (P < n1) = false := decide_eq_false (by omega)
  have L1 := Lib.hid hl1
  have L2 := Lib.hid hl2
  have L3 := Lib.hid hl3
  have N1 := Lib.hid hn1
  have N2 := Lib.hid hn2
  have N3 := Lib.hid hn3
  have K33 := Lib.hid (fun (x : Int) (w' : World) (hb : Bel w w') => has_any pb n2 c2 fl x w' hn2 (by omega) (hl2.bel hb))
  have K34 := Lib.hid (fun (x : Int) (w' : World) (hb : Bel w w') => rcount_any pc n3 c3 al x w' hn3 (by omega) (hl3.bel hb))
  clear hl1 hl2 hl3 hn1 hn2 hn3
  go_enter Try.func22, Try.ntmps22
  go_wp2_with fail
  with_reducible refine (rnew_yes P G _ (by omega) h1 h2 h3).mono ?_
  rintro e w1 ⟨rfl, hb⟩
  have HB1 := Lib.hid ((((Bel.refl w).alloc (#[.int .i64 0, .int .i64 0, .slice none 0 0, .slice none 0 0, .slice none 0 0]) 31)).trans hb)
  have HM1 : Hid (w1.heap[w.heap.size]? = some (.cells #[.int .i64 0, .int .i64 0, .slice none 0 0, .slice none 0 0, .slice none 0 0] 31 (0, 0))) := Lib.hid (hb.heap (heap_alloc_new _ _))
  have hz1 : w.heap.size < w1.heap.size := by have := hb.size; simp at this; omega
  clear hb
  go_upto_region 6 with (fail)
  generalize hW : w1.alloc (.cells #[.int .i64 P, .int .i64 G, .slice none 0 0, .slice none 0 0, .slice none 0 0] 31) = W
  have HB : Hid (Bel w W) := Lib.hid (by rw [← hW]; exact HB1.out.alloc _ _)
  have MW0 : Hid (W.heap[w.heap.size]? = some (.cells #[.int .i64 0, .int .i64 0, .slice none 0 0, .slice none 0 0, .slice none 0 0] 31 (0, 0))) := Lib.hid (by
    rw [← hW]; exact Bel.heap ((Bel.refl _).alloc _ _) HM1.out)
  obtain ⟨T, hT⟩ : ∃ T, w1.heap.size = T := ⟨_, rfl⟩
  have MW2 : Hid (W.heap[T]? = some (.cells #[.int .i64 P, .int .i64 G, .slice none 0 0, .slice none 0 0, .slice none 0 0] 31 (0, 0))) := Lib.hid (by
    rw [← hW, ← hT]; exact heap_alloc_new _ _)
  rw [hT] at hz1 ⊢
  clear hW hT HB1 HM1
  go_wp2
  go_loopw [14] (fun v wr => ∃ m : Nat, v = .int .i64 m ∧ m ≤ n2 ∧ (∀ x ∈ fl.take m, dF G ul fl x) ∧ Bel W wr) (fun v _ => n2 - (intOf v).toNat)
  case atStart => exact ⟨0, rfl, by omega, by simp, Bel.refl _⟩
  case round =>
    obtain ⟨m, rfl, hi, hall, hb⟩ := hrel
    have HA := Lib.hid hall
    have HBr := Lib.hid hb
    have HM0 := Lib.hid (hb.heap MW0.out)
    have HBw := Lib.hid (HB.out.trans hb)
    clear hall hb
    by_cases hlt : m < n2
    · obtain ⟨b, off, rfl, _, hr⟩ := lies_int L2.out (i := m) (by have := N2.out; omega)
      obtain ⟨y, hy⟩ : ∃ y, fl[m]? = some y := ⟨_, List.getElem?_eq_getElem (by have := N2.out; omega)⟩
      have x0 := HBw.out.cell (row_int hr hy)
      have HMem := Lib.hid (List.mem_of_getElem? hy)
      have HNG : Hid (¬ dF G ul fl y → ¬ Good P G ul fl al) := Lib.hid (fun h g => h (((good_doc _ _ _ _ _).1 g).2.1 y HMem.out))
      have HY := Lib.hid hy
      clear hr hy
      obtain ⟨⟨d0, d1, d2, d3, d4⟩, ⟨e0, e1, e2, e3, e4⟩⟩ := box5 HM0.out
      by_cases a1 : y < 0
      · have hd : decide (y < 0) = true := by simpa using a1
        have HG : Hid (¬ Good P G ul fl al) := Lib.hid (HNG.out (fun ⟨k, u, h, _⟩ => by omega))
        clear a1
        go_wp2
        exact bodyPost_ret (v := .tuple #[.agg #[.int .i64 0, .int .i64 0, .slice none 0 0, .slice none 0 0, .slice none 0 0], .int .i64 2]) (by simp [results, Try.results22, go_sem, d0, d1, d2, d3, d4]) rfl ⟨(Bel.setCell (Bel.setCell (Bel.setCell (Bel.setCell (Bel.setCell HBw.out (p := ⟨w.heap.size, 0, none⟩) (Nat.le_refl _) _) (p := ⟨w.heap.size, 1, none⟩) (Nat.le_refl _) _) (p := ⟨w.heap.size, 2, none⟩) (Nat.le_refl _) _) (p := ⟨w.heap.size, 3, none⟩) (Nat.le_refl _) _) (p := ⟨w.heap.size, 4, none⟩) (Nat.le_refl _) _), .inl ⟨HG.out, rfl⟩⟩
      · have hd1 : decide (y < 0) = false := by simpa using a1
        obtain ⟨k, rfl⟩ : ∃ k : Nat, y = k := ⟨y.toNat, by omega⟩
        by_cases a2 : n1 ≤ k
        · have HG : Hid (¬ Good P G ul fl al) := Lib.hid (HNG.out (fun ⟨k2, u, h, h2, _⟩ => by have := get_lt h2; have := N1.out; omega))
          have a2' : (n1 : Int) ≤ k := by omega
          go_wp2
          exact bodyPost_ret (v := .tuple #[.agg #[.int .i64 0, .int .i64 0, .slice none 0 0, .slice none 0 0, .slice none 0 0], .int .i64 2]) (by simp [results, Try.results22, go_sem, d0, d1, d2, d3, d4]) rfl ⟨(Bel.setCell (Bel.setCell (Bel.setCell (Bel.setCell (Bel.setCell HBw.out (p := ⟨w.heap.size, 0, none⟩) (Nat.le_refl _) _) (p := ⟨w.heap.size, 1, none⟩) (Nat.le_refl _) _) (p := ⟨w.heap.size, 2, none⟩) (Nat.le_refl _) _) (p := ⟨w.heap.size, 3, none⟩) (Nat.le_refl _) _) (p := ⟨w.heap.size, 4, none⟩) (Nat.le_refl _) _), .inl ⟨HG.out, rfl⟩⟩
        · have a2' : ¬ (n1 : Int) ≤ k := by omega
          have K := K33.out k _ HBw.out
          obtain ⟨c, hc⟩ : ∃ c, fl.count (k : Int) = c := ⟨_, rfl⟩
          rw [hc] at K
          have HC := Lib.hid hc
          have KH := Lib.hid K
          obtain ⟨b', off', rfl, _, hr⟩ := lies_int L1.out (i := k) (by have := N1.out; omega)
          obtain ⟨u, hu⟩ : ∃ u, ul[k]? = some u := ⟨_, List.getElem?_eq_getElem (by have := N1.out; omega)⟩
          have x1 := HBw.out.cell (row_int hr hu)
          have HU := Lib.hid hu
          have HCb : Hid (c ≤ n2) := Lib.hid (by rw [← hc, ← N2.out]; exact List.count_le_length)
          clear hc K hr hu
          by_cases a3 : c = 1
          · subst a3
            by_cases a4 : G ≤ u
            · have HG : Hid (¬ Good P G ul fl al) := Lib.hid (HNG.out (fun ⟨k2, u2, h, h2, _, h4⟩ => by
                obtain rfl : k = k2 := by omega
                rw [HU.out] at h2
                injection h2 with h2
                omega))
              go_wp2_with fail
              with_reducible refine KH.out.mono ?_
              rintro e w2 ⟨rfl, rfl⟩
              go_wp2
              exact bodyPost_ret (v := .tuple #[.agg #[.int .i64 0, .int .i64 0, .slice none 0 0, .slice none 0 0, .slice none 0 0], .int .i64 2]) (by simp [results, Try.results22, go_sem, d0, d1, d2, d3, d4]) rfl ⟨(Bel.setCell (Bel.setCell (Bel.setCell (Bel.setCell (Bel.setCell HBw.out (p := ⟨w.heap.size, 0, none⟩) (Nat.le_refl _) _) (p := ⟨w.heap.size, 1, none⟩) (Nat.le_refl _) _) (p := ⟨w.heap.size, 2, none⟩) (Nat.le_refl _) _) (p := ⟨w.heap.size, 3, none⟩) (Nat.le_refl _) _) (p := ⟨w.heap.size, 4, none⟩) (Nat.le_refl _) _), .inl ⟨HG.out, rfl⟩⟩
            · have HD : Hid (dF G ul fl k) := Lib.hid ⟨k, u, rfl, HU.out, HC.out, by omega⟩
              go_wp2_with fail
              with_reducible refine KH.out.mono ?_
              rintro e w2 ⟨rfl, rfl⟩
              go_wp2
              go_roundw
              case rel => exact ⟨m + 1, by go_num, by omega, take_all HA.out HY.out HD.out, HBr.out⟩
              case measure => simp [intOf]; omega
          · have a3' : ((c : Int) == 1) = false := by simp; omega
            have HG : Hid (¬ Good P G ul fl al) := Lib.hid (HNG.out (fun ⟨k2, u2, h, h2, h3, h4⟩ => a3 (HC.out.symm.trans h3)))
            go_wp2_with fail
            with_reducible refine KH.out.mono ?_
            rintro e w2 ⟨rfl, rfl⟩
            have hc' := HCb.out
            go_wp2
            exact bodyPost_ret (v := .tuple #[.agg #[.int .i64 0, .int .i64 0, .slice none 0 0, .slice none 0 0, .slice none 0 0], .int .i64 2]) (by simp [results, Try.results22, go_sem, d0, d1, d2, d3, d4]) rfl ⟨(Bel.setCell (Bel.setCell (Bel.setCell (Bel.setCell (Bel.setCell HBw.out (p := ⟨w.heap.size, 0, none⟩) (Nat.le_refl _) _) (p := ⟨w.heap.size, 1, none⟩) (Nat.le_refl _) _) (p := ⟨w.heap.size, 2, none⟩) (Nat.le_refl _) _) (p := ⟨w.heap.size, 3, none⟩) (Nat.le_refl _) _) (p := ⟨w.heap.size, 4, none⟩) (Nat.le_refl _) _), .inl ⟨HG.out, rfl⟩⟩
    · obtain rfl : m = n2 := by omega
      have HF : Hid (∀ x ∈ fl, dF G ul fl x) := Lib.hid (by have := HA.out; rwa [List.take_of_length_le (by have := N2.out; omega)] at this)
      clear HA HM0 HBw hlt hi
      go_wp2
      go_loopw [15] (fun v wr => ∃ m : Nat, v = .int .i64 m ∧ m ≤ n3 ∧ (∀ x ∈ al.take m, dA ul fl al x) ∧ Bel W wr) (fun v _ => n3 - (intOf v).toNat)
      case atStart => exact ⟨0, rfl, by omega, by simp, HBr.out⟩
      case round =>
        clear HBr
        obtain ⟨j, rfl, hi, hall, hb⟩ := hrel
        have HA := Lib.hid hall
        have HBr := Lib.hid hb
        have HM0 := Lib.hid (hb.heap MW0.out)
        have HBw := Lib.hid (HB.out.trans hb)
        clear hall hb
        by_cases hlt : j < n3
        · obtain ⟨b, off, rfl, _, hr⟩ := lies_hd L3.out (i := j) (by have := N3.out; omega)
          obtain ⟨y, hy⟩ : ∃ y, al[j]? = some y := ⟨_, List.getElem?_eq_getElem (by have := N3.out; omega)⟩
          have hrr := row_hd hr hy
          have x0 := HBw.out.cell hrr.1
          have x1 := HBw.out.cell hrr.2
          have HMem := Lib.hid (List.mem_of_getElem? hy)
          have HNG : Hid (¬ dA ul fl al y → ¬ Good P G ul fl al) := Lib.hid (fun h g => h (((good_doc _ _ _ _ _).1 g).2.2.1 y HMem.out))
          have HY := Lib.hid hy
          clear hr hy hrr
          obtain ⟨yp, yg⟩ := y
          simp only at x0 x1
          obtain ⟨⟨d0, d1, d2, d3, d4⟩, ⟨e0, e1, e2, e3, e4⟩⟩ := box5 HM0.out
          by_cases a1 : yp < 0
          · have hd : decide (yp < 0) = true := by simpa using a1
            have HG : Hid (¬ Good P G ul fl al) := Lib.hid (HNG.out (fun ⟨k, h, _⟩ => by simp only at h; omega))
            go_wp2
            go_quiet (fail)
            go_wp2
            exact bodyPost_ret (v := .tuple #[.agg #[.int .i64 0, .int .i64 0, .slice none 0 0, .slice none 0 0, .slice none 0 0], .int .i64 2]) (by simp [results, Try.results22, go_sem, d0, d1, d2, d3, d4]) rfl ⟨(Bel.setCell (Bel.setCell (Bel.setCell (Bel.setCell (Bel.setCell (HBw.out.drewN _) (p := ⟨w.heap.size, 0, none⟩) (Nat.le_refl _) _) (p := ⟨w.heap.size, 1, none⟩) (Nat.le_refl _) _) (p := ⟨w.heap.size, 2, none⟩) (Nat.le_refl _) _) (p := ⟨w.heap.size, 3, none⟩) (Nat.le_refl _) _) (p := ⟨w.heap.size, 4, none⟩) (Nat.le_refl _) _), .inl ⟨HG.out, rfl⟩⟩
          · have hd1 : decide (yp < 0) = false := by simpa using a1
            obtain ⟨k, rfl⟩ : ∃ k : Nat, yp = k := ⟨yp.toNat, by omega⟩
            by_cases a2 : n1 ≤ k
            · have HG : Hid (¬ Good P G ul fl al) := Lib.hid (HNG.out (fun ⟨k2, h, h2, _⟩ => by have := get_lt h2; have := N1.out; simp only at h; omega))
              have a2' : (n1 : Int) ≤ k := by omega
              have a2'' : decide (n1 ≤ k) = true := decide_eq_true a2
              go_wp2
              go_quiet (fail)
              go_wp2
              exact bodyPost_ret (v := .tuple #[.agg #[.int .i64 0, .int .i64 0, .slice none 0 0, .slice none 0 0, .slice none 0 0], .int .i64 2]) (by simp [results, Try.results22, go_sem, d0, d1, d2, d3, d4]) rfl ⟨(Bel.setCell (Bel.setCell (Bel.setCell (Bel.setCell (Bel.setCell (HBw.out.drewN _) (p := ⟨w.heap.size, 0, none⟩) (Nat.le_refl _) _) (p := ⟨w.heap.size, 1, none⟩) (Nat.le_refl _) _) (p := ⟨w.heap.size, 2, none⟩) (Nat.le_refl _) _) (p := ⟨w.heap.size, 3, none⟩) (Nat.le_refl _) _) (p := ⟨w.heap.size, 4, none⟩) (Nat.le_refl _) _), .inl ⟨HG.out, rfl⟩⟩
            · have a2' : ¬ (n1 : Int) ≤ k := by omega
              have a2'' : decide (n1 ≤ k) = false := decide_eq_false a2
              have KC : Hid (∀ w', Bel w w' → Calls Try.prog 33 #[.slice pb m c2, .int .i64 k] w' fun e w'' => e = .returned (.int .i64 ((fl.count (k : Int) : Nat) : Int)) ∧ w'' = w') := Lib.hid (fun w' h => K33.out k w' h)
              have KA : Hid (∀ w', Bel w w' → Calls Try.prog 34 #[.slice (some ⟨b, off, none⟩) n3 c3, .int .i64 k] w' fun e w'' => e = .returned (.int .i64 (((al.map (·.p)).count (k : Int) : Nat) : Int)) ∧ w'' = w') := Lib.hid (fun w' h => K34.out k w' h)
              obtain ⟨c, hc⟩ : ∃ c, fl.count (k : Int) = c := ⟨_, rfl⟩
              obtain ⟨a, ha⟩ : ∃ a : Int, (((al.map (·.p)).count (k : Int) : Nat) : Int) = a := ⟨_, rfl⟩
              rw [hc] at KC
              rw [ha] at KA
              have HC := Lib.hid hc
              have HAc := Lib.hid ha
              obtain ⟨b', off', rfl, _, hr⟩ := lies_int L1.out (i := k) (by have := N1.out; omega)
              obtain ⟨u, hu⟩ : ∃ u, ul[k]? = some u := ⟨_, List.getElem?_eq_getElem (by have := N1.out; omega)⟩
              have x2 := HBw.out.cell (row_int hr hu)
              have HU := Lib.hid hu
              have hkn : (k : Int) < n1 := by omega
              have hcb : c ≤ m := by rw [← hc, ← N2.out]; exact List.count_le_length
              clear hc ha hr hu K33 K34
              by_cases a3 : yg = u
              · subst a3
                by_cases a4 : a = 1
                · subst a4
                  by_cases a5 : c = 0
                  · subst a5
                    have HD : Hid (dA ul fl al ⟨k, yg⟩) := Lib.hid ⟨k, rfl, HU.out, (by have h9 := HAc.out; norm_cast at h9), HC.out⟩
                    go_wp2
                    go_quiet (first | (go_at_call 34; exact Calls.quiet_of_same (KA.out _ (HBw.out.drewN _))) | (go_at_call 33; exact Calls.quiet_of_same (KC.out _ (HBw.out.drewN _))))
                    go_wp2
                    go_roundw
                    case rel => exact ⟨j + 1, by go_num, by omega, take_all HA.out HY.out HD.out, HBr.out.drewN _⟩
                    case measure => simp [intOf]; omega
                  · have a5' : ((c : Int) == 0) = false := by simp; omega
                    have a5'' : decide (c = 0) = false := by simp; omega
                    have HG : Hid (¬ Good P G ul fl al) := Lib.hid (HNG.out (fun ⟨k2, h, h2, h3, h4⟩ => a5 (HC.out.symm.trans h4)))
                    go_wp2
                    go_quiet (first | (go_at_call 34; exact Calls.quiet_of_same (KA.out _ (HBw.out.drewN _))) | (go_at_call 33; exact Calls.quiet_of_same (KC.out _ (HBw.out.drewN _))))
                    go_wp2
                    exact bodyPost_ret (v := .tuple #[.agg #[.int .i64 0, .int .i64 0, .slice none 0 0, .slice none 0 0, .slice none 0 0], .int .i64 2]) (by simp [results, Try.results22, go_sem, d0, d1, d2, d3, d4]) rfl ⟨(Bel.setCell (Bel.setCell (Bel.setCell (Bel.setCell (Bel.setCell (HBw.out.drewN _) (p := ⟨w.heap.size, 0, none⟩) (Nat.le_refl _) _) (p := ⟨w.heap.size, 1, none⟩) (Nat.le_refl _) _) (p := ⟨w.heap.size, 2, none⟩) (Nat.le_refl _) _) (p := ⟨w.heap.size, 3, none⟩) (Nat.le_refl _) _) (p := ⟨w.heap.size, 4, none⟩) (Nat.le_refl _) _), .inl ⟨HG.out, rfl⟩⟩
                · have a4' : (a == 1) = false := by simpa using a4
                  have HG : Hid (¬ Good P G ul fl al) := Lib.hid (HNG.out (fun ⟨k2, h, h2, h3, h4⟩ => a4 (by have := HAc.out; simp only at h3; omega)))
                  go_wp2
                  go_quiet ((go_at_call 34; exact Calls.quiet_of_same (KA.out _ (HBw.out.drewN _))))
                  go_wp2
                  exact bodyPost_ret (v := .tuple #[.agg #[.int .i64 0, .int .i64 0, .slice none 0 0, .slice none 0 0, .slice none 0 0], .int .i64 2]) (by simp [results, Try.results22, go_sem, d0, d1, d2, d3, d4]) rfl ⟨(Bel.setCell (Bel.setCell (Bel.setCell (Bel.setCell (Bel.setCell (HBw.out.drewN _) (p := ⟨w.heap.size, 0, none⟩) (Nat.le_refl _) _) (p := ⟨w.heap.size, 1, none⟩) (Nat.le_refl _) _) (p := ⟨w.heap.size, 2, none⟩) (Nat.le_refl _) _) (p := ⟨w.heap.size, 3, none⟩) (Nat.le_refl _) _) (p := ⟨w.heap.size, 4, none⟩) (Nat.le_refl _) _), .inl ⟨HG.out, rfl⟩⟩
              · have a3' : (yg == u) = false := by simpa using a3
                have a3'' : decide (yg = u) = false := by simpa using a3
                have HG : Hid (¬ Good P G ul fl al) := Lib.hid (HNG.out (fun ⟨k2, h, h2, h3, h4⟩ => by
                  simp only at h h2
                  obtain rfl : k = k2 := by omega
                  rw [HU.out] at h2
                  injection h2 with h2
                  exact a3 h2.symm))
                go_wp2
                go_quiet (fail)
                go_wp2
                exact bodyPost_ret (v := .tuple #[.agg #[.int .i64 0, .int .i64 0, .slice none 0 0, .slice none 0 0, .slice none 0 0], .int .i64 2]) (by simp [results, Try.results22, go_sem, d0, d1, d2, d3, d4]) rfl ⟨(Bel.setCell (Bel.setCell (Bel.setCell (Bel.setCell (Bel.setCell (HBw.out.drewN _) (p := ⟨w.heap.size, 0, none⟩) (Nat.le_refl _) _) (p := ⟨w.heap.size, 1, none⟩) (Nat.le_refl _) _) (p := ⟨w.heap.size, 2, none⟩) (Nat.le_refl _) _) (p := ⟨w.heap.size, 3, none⟩) (Nat.le_refl _) _) (p := ⟨w.heap.size, 4, none⟩) (Nat.le_refl _) _), .inl ⟨HG.out, rfl⟩⟩
        · obtain rfl : j = n3 := by omega
          have HAl : Hid (∀ x ∈ al, dA ul fl al x) := Lib.hid (by have := HA.out; rwa [List.take_of_length_le (by have := N3.out; omega)] at this)
          clear HA HM0 HBw hlt hi
          go_wp2
          go_loopw [17] (fun v wr => ∃ i : Nat, v = .int .i64 i ∧ i ≤ n1 ∧ (∀ (r : Nat) (u : Int), r < i → ul[r]? = some u → dU G fl al r u) ∧ Bel W wr) (fun v _ => n1 - (intOf v).toNat)
          case atStart => exact ⟨0, rfl, by omega, (fun r u h => absurd h (Nat.not_lt_zero r)), HBr.out⟩
          case round =>
            clear HBr
            obtain ⟨i, rfl, hi, hall, hb⟩ := hrel
            have HA := Lib.hid hall
            have HBr := Lib.hid hb
            have HM0 := Lib.hid (hb.heap MW0.out)
            have HBw := Lib.hid (HB.out.trans hb)
            clear hall hb
            by_cases hlt : i < n1
            · obtain ⟨b, off, rfl, _, hr⟩ := lies_int L1.out (i := i) (by have := N1.out; omega)
              obtain ⟨u, hy⟩ : ∃ u, ul[i]? = some u := ⟨_, List.getElem?_eq_getElem (by have := N1.out; omega)⟩
              have x0 := HBw.out.cell (row_int hr hy)
              have HNG : Hid (¬ dU G fl al i u → ¬ Good P G ul fl al) := Lib.hid (fun h g => h (((good_doc _ _ _ _ _).1 g).2.2.2 i u hy))
              have HNext : Hid (dU G fl al i u → ∀ (r : Nat) (v : Int), r < i + 1 → ul[r]? = some v → dU G fl al r v) := Lib.hid (fun h r v hr hv => by
                by_cases e : r = i
                · subst e
                  rw [hy] at hv
                  injection hv with hv
                  rw [← hv]; exact h
                · exact HA.out r v (by omega) hv)
              clear hr hy
              obtain ⟨⟨d0, d1, d2, d3, d4⟩, ⟨e0, e1, e2, e3, e4⟩⟩ := box5 HM0.out
              by_cases a1 : u < 1
              · have hd : decide (u < 1) = true := by simpa using a1
                have HG : Hid (¬ Good P G ul fl al) := Lib.hid (HNG.out (fun h => by have := h.1; omega))
                go_wp2
                exact bodyPost_ret (v := .tuple #[.agg #[.int .i64 0, .int .i64 0, .slice none 0 0, .slice none 0 0, .slice none 0 0], .int .i64 2]) (by simp [results, Try.results22, go_sem, d0, d1, d2, d3, d4]) rfl ⟨(Bel.setCell (Bel.setCell (Bel.setCell (Bel.setCell (Bel.setCell HBw.out (p := ⟨w.heap.size, 0, none⟩) (Nat.le_refl _) _) (p := ⟨w.heap.size, 1, none⟩) (Nat.le_refl _) _) (p := ⟨w.heap.size, 2, none⟩) (Nat.le_refl _) _) (p := ⟨w.heap.size, 3, none⟩) (Nat.le_refl _) _) (p := ⟨w.heap.size, 4, none⟩) (Nat.le_refl _) _), .inl ⟨HG.out, rfl⟩⟩
              · have hd1 : decide (u < 1) = false := by simpa using a1
                by_cases a2 : G < u
                · have hd2 : decide (G < u) = true := by simpa using a2
                  have HG : Hid (¬ Good P G ul fl al) := Lib.hid (HNG.out (fun h => by have := h.2.1; omega))
                  go_wp2
                  exact bodyPost_ret (v := .tuple #[.agg #[.int .i64 0, .int .i64 0, .slice none 0 0, .slice none 0 0, .slice none 0 0], .int .i64 2]) (by simp [results, Try.results22, go_sem, d0, d1, d2, d3, d4]) rfl ⟨(Bel.setCell (Bel.setCell (Bel.setCell (Bel.setCell (Bel.setCell HBw.out (p := ⟨w.heap.size, 0, none⟩) (Nat.le_refl _) _) (p := ⟨w.heap.size, 1, none⟩) (Nat.le_refl _) _) (p := ⟨w.heap.size, 2, none⟩) (Nat.le_refl _) _) (p := ⟨w.heap.size, 3, none⟩) (Nat.le_refl _) _) (p := ⟨w.heap.size, 4, none⟩) (Nat.le_refl _) _), .inl ⟨HG.out, rfl⟩⟩
                · have hd2 : decide (G < u) = false := by simpa using a2
                  by_cases a3 : u < G
                  · have hd3 : decide (u < G) = true := by simpa using a3
                    have KC := Lib.hid (K33.out i _ HBw.out)
                    have KA := Lib.hid (K34.out i _ HBw.out)
                    obtain ⟨c, hc⟩ : ∃ c, fl.count (i : Int) = c := ⟨_, rfl⟩
                    obtain ⟨a, ha⟩ : ∃ a, (al.map (·.p)).count (i : Int) = a := ⟨_, rfl⟩
                    rw [hc] at KC
                    rw [ha] at KA
                    have HC := Lib.hid hc
                    have HAc := Lib.hid ha
                    have hcb : c ≤ m := by rw [← hc, ← N2.out]; exact List.count_le_length
                    have hab : a ≤ j := by have h9 : (al.map (·.p)).count (i : Int) ≤ (al.map (·.p)).length := List.count_le_length; rw [List.length_map, N3.out, ha] at h9; exact h9
                    clear hc ha
                    by_cases a4 : c = 0
                    · subst a4
                      by_cases a5 : a = 0
                      · subst a5
                        have HG : Hid (¬ Good P G ul fl al) := Lib.hid (HNG.out (fun h => h.2.2 ⟨a3, HC.out, HAc.out⟩))
                        go_wp2_with fail
                        with_reducible refine KC.out.mono ?_
                        rintro e w2 ⟨rfl, rfl⟩
                        go_wp2_with fail
                        with_reducible refine KA.out.mono ?_
                        rintro e w2 ⟨rfl, rfl⟩
                        go_wp2
                        exact bodyPost_ret (v := .tuple #[.agg #[.int .i64 0, .int .i64 0, .slice none 0 0, .slice none 0 0, .slice none 0 0], .int .i64 2]) (by simp [results, Try.results22, go_sem, d0, d1, d2, d3, d4]) rfl ⟨(Bel.setCell (Bel.setCell (Bel.setCell (Bel.setCell (Bel.setCell HBw.out (p := ⟨w.heap.size, 0, none⟩) (Nat.le_refl _) _) (p := ⟨w.heap.size, 1, none⟩) (Nat.le_refl _) _) (p := ⟨w.heap.size, 2, none⟩) (Nat.le_refl _) _) (p := ⟨w.heap.size, 3, none⟩) (Nat.le_refl _) _) (p := ⟨w.heap.size, 4, none⟩) (Nat.le_refl _) _), .inl ⟨HG.out, rfl⟩⟩
                      · have a5' : ((a : Int) == 0) = false := by simp; omega
                        have HD := Lib.hid (HNext.out ⟨by omega, by omega, fun h => a5 (HAc.out.symm.trans h.2.2)⟩)
                        go_wp2_with fail
                        with_reducible refine KC.out.mono ?_
                        rintro e w2 ⟨rfl, rfl⟩
                        go_wp2_with fail
                        with_reducible refine KA.out.mono ?_
                        rintro e w2 ⟨rfl, rfl⟩
                        go_wp2
                        go_roundw
                        case rel => exact ⟨i + 1, by go_num, by omega, HD.out, HBr.out⟩
                        case measure => simp [intOf]; omega
                    · have a4' : ((c : Int) == 0) = false := by simp; omega
                      have HD := Lib.hid (HNext.out ⟨by omega, by omega, fun h => a4 (HC.out.symm.trans h.2.1)⟩)
                      go_wp2_with fail
                      with_reducible refine KC.out.mono ?_
                      rintro e w2 ⟨rfl, rfl⟩
                      go_wp2
                      go_roundw
                      case rel => exact ⟨i + 1, by go_num, by omega, HD.out, HBr.out⟩
                      case measure => simp [intOf]; omega
                  · have hd3 : decide (u < G) = false := by simpa using a3
                    have HD := Lib.hid (HNext.out ⟨by omega, by omega, fun h => a3 h.1⟩)
                    go_wp2
                    go_roundw
                    case rel => exact ⟨i + 1, by go_num, by omega, HD.out, HBr.out⟩
                    case measure => simp [intOf]; omega
            obtain rfl : i = n1 := by omega
            have HGood : Hid (Good P G ul fl al) := Lib.hid ((good_doc _ _ _ _ _).2 ⟨by rw [N1.out]; exact hP, HF.out, HAl.out, fun r u h => HA.out r u (by have := get_lt h; have := N1.out; omega) h⟩)
            have s0 := HBr.out.size
            have MC := Lib.hid (HBr.out.heap MW2.out)
            have EB0 := Lib.hid (HBr.out.heap MW0.out)
            have hz2 : T < _ := (Array.getElem?_eq_some_iff.1 MC.out).1
            clear HA HM0 hlt hi K33 K34 HF HAl

            go_wp2_with (at_builtin; refine wpList_append_gen el28 rfl (.tmp 158) (.tmp 159) rfl _ 0 [] rfl (own_empty _ 3 1 _ (by simp)) _ _ _ (encI ul) rfl (by rw [encI_len, N1.out]) (L1.out.bel (HBw.out.alloc _ _)) (encI_one _) (by omega) ?_)
            intro v1 wa1 hown hgrow hnew
            have BA1 := Lib.hid (show Bel _ wa1 from Off.grown ((Bel.refl _).alloc _ _) hgrow (fun k e => .inr (by simp [Value.ownBlock] at e; omega)))
            obtain ⟨p1, k1, hv1, hk1, _, hL⟩ := own_slice hown (TT w.heap.size T) (fun k e h => by
              rcases hnew k e with e2 | e2
              · simp [Value.ownBlock] at e2
                rcases h with h | h <;> omega
              · rcases h with h | h <;> omega)
            rw [hv1]
            have LA1 := Lib.hid hL
            have MA1 := Lib.hid (BA1.out.heap MC.out)
            have sa1 := BA1.out.size
            have HBa1 := Lib.hid (HBw.out.trans BA1.out)
            obtain ⟨⟨m0, m1, m2, m3, m4⟩, ⟨f0, f1, f2, f3, f4⟩⟩ := box5 MA1.out
            clear hown hgrow hnew hL hv1
            go_upto_region 23 with (fail)
            have MB1 := Lib.hid (heap_setCell_same wa1 T 2 _ 31 (.slice p1 i k1) MA1.out)
            have OB1 : Hid (Off (fun k => k = T) wa1 (wa1.setCell ⟨T, 2, none⟩ (.slice p1 i k1))) := Lib.hid (off1 _ T 2 _)
            have HB1 : Hid (Bel w (wa1.setCell ⟨T, 2, none⟩ (.slice p1 i k1))) := Lib.hid (Bel.setCell HBa1.out (p := ⟨T, 2, none⟩) (Nat.le_of_lt hz1) _)
            have s1 := OB1.out.size
            generalize wa1.setCell ⟨T, 2, none⟩ (.slice p1 i k1) = wb1 at *
            clear m0 m1 m2 m3 m4 f0 f1 f2 f3 f4
            have LB1 := Lib.hid (LA1.out.off (OB1.out.mono (fun _ _ e => Or.inr e)))
            have EB1 := Lib.hid ((OB1.out.block w.heap.size (by omega) (by intro e; omega)).trans (BA1.out.heap EB0.out))
            simp only [List.setIfInBounds_toArray, List.set_cons_succ, List.set_cons_zero, Array.set!_eq_setIfInBounds] at MB1
            go_wp2_with (at_builtin; refine wpList_append_gen el28 rfl (.tmp 162) (.tmp 163) rfl _ 0 [] rfl (own_empty _ 3 1 _ (by simp)) _ _ _ (encI fl) rfl (by rw [encI_len, N2.out]) (L2.out.bel (HB1.out.alloc _ _)) (encI_one _) (by omega) ?_)
            intro v2 wa2 hown hgrow hnew
            have BA2 := Lib.hid (show Bel _ wa2 from Off.grown ((Bel.refl _).alloc _ _) hgrow (fun k e => .inr (by simp [Value.ownBlock] at e; omega)))
            obtain ⟨p2, k2, hv2, hk2, _, hL⟩ := own_slice hown (TT w.heap.size T) (fun k e h => by
              rcases hnew k e with e2 | e2
              · simp [Value.ownBlock] at e2
                rcases h with h | h <;> omega
              · rcases h with h | h <;> omega)
            rw [hv2]
            have LA2 := Lib.hid hL
            have MA2 := Lib.hid (BA2.out.heap MB1.out)
            have sa2 := BA2.out.size
            have HBa2 := Lib.hid (HB1.out.trans BA2.out)
            obtain ⟨⟨m0, m1, m2, m3, m4⟩, ⟨f0, f1, f2, f3, f4⟩⟩ := box5 MA2.out
            clear hown hgrow hnew hL hv2
            go_upto_region 24 with (fail)
            have MB2 := Lib.hid (heap_setCell_same wa2 T 3 _ 31 (.slice p2 m k2) MA2.out)
            have OB2 : Hid (Off (fun k => k = T) wa2 (wa2.setCell ⟨T, 3, none⟩ (.slice p2 m k2))) := Lib.hid (off1 _ T 3 _)
            have HB2 : Hid (Bel w (wa2.setCell ⟨T, 3, none⟩ (.slice p2 m k2))) := Lib.hid (Bel.setCell HBa2.out (p := ⟨T, 3, none⟩) (Nat.le_of_lt hz1) _)
            have s2 := OB2.out.size
            generalize wa2.setCell ⟨T, 3, none⟩ (.slice p2 m k2) = wb2 at *
            clear m0 m1 m2 m3 m4 f0 f1 f2 f3 f4
            have LB2 := Lib.hid (LA2.out.off (OB2.out.mono (fun _ _ e => Or.inr e)))
            have EB2 := Lib.hid ((OB2.out.block w.heap.size (by omega) (by intro e; omega)).trans (BA2.out.heap EB1.out))
            simp only [List.setIfInBounds_toArray, List.set_cons_succ, List.set_cons_zero, Array.set!_eq_setIfInBounds] at MB2
            go_wp2_with (at_builtin; refine wpList_append_gen el29 rfl (.tmp 166) (.tmp 167) rfl _ 0 [] rfl (own_empty _ 38 2 _ (by simp)) _ _ _ (encH al) rfl (by rw [encH_len, N3.out]) (L3.out.bel (HB2.out.alloc _ _)) (encH_one _) (by omega) ?_)
            intro v3 wa3 hown hgrow hnew
            have BA3 := Lib.hid (show Bel _ wa3 from Off.grown ((Bel.refl _).alloc _ _) hgrow (fun k e => .inr (by simp [Value.ownBlock] at e; omega)))
            obtain ⟨p3, k3, hv3, hk3, _, hL⟩ := own_slice hown (TT w.heap.size T) (fun k e h => by
              rcases hnew k e with e2 | e2
              · simp [Value.ownBlock] at e2
                rcases h with h | h <;> omega
              · rcases h with h | h <;> omega)
            rw [hv3]
            have LA3 := Lib.hid hL
            have MA3 := Lib.hid (BA3.out.heap MB2.out)
            have sa3 := BA3.out.size
            have HBa3 := Lib.hid (HB2.out.trans BA3.out)
            obtain ⟨⟨m0, m1, m2, m3, m4⟩, ⟨f0, f1, f2, f3, f4⟩⟩ := box5 MA3.out
            clear hown hgrow hnew hL hv3
            go_upto_region 25 with (fail)
            have MB3 := Lib.hid (heap_setCell_same wa3 T 4 _ 31 (.slice p3 j k3) MA3.out)
            have OB3 : Hid (Off (fun k => k = T) wa3 (wa3.setCell ⟨T, 4, none⟩ (.slice p3 j k3))) := Lib.hid (off1 _ T 4 _)
            have HB3 : Hid (Bel w (wa3.setCell ⟨T, 4, none⟩ (.slice p3 j k3))) := Lib.hid (Bel.setCell HBa3.out (p := ⟨T, 4, none⟩) (Nat.le_of_lt hz1) _)
            have s3 := OB3.out.size
            generalize wa3.setCell ⟨T, 4, none⟩ (.slice p3 j k3) = wb3 at *
            clear m0 m1 m2 m3 m4 f0 f1 f2 f3 f4
            have LB3 := Lib.hid (LA3.out.off (OB3.out.mono (fun _ _ e => Or.inr e)))
            have EB3 := Lib.hid ((OB3.out.block w.heap.size (by omega) (by intro e; omega)).trans (BA3.out.heap EB2.out))
            simp only [List.setIfInBounds_toArray, List.set_cons_succ, List.set_cons_zero, Array.set!_eq_setIfInBounds] at MB3
            have X1 := Lib.hid ((((LB1.out.bel BA2.out).off (OB2.out.mono (fun _ _ e => Or.inr e))).bel BA3.out).off (OB3.out.mono (fun _ _ e => Or.inr e)))
            have X2 := Lib.hid ((LB2.out.bel BA3.out).off (OB3.out.mono (fun _ _ e => Or.inr e)))
            obtain ⟨⟨m0, m1, m2, m3, m4⟩, _⟩ := box5 MB3.out
            obtain ⟨⟨d0, d1, d2, d3, d4⟩, ⟨e0, e1, e2, e3, e4⟩⟩ := box5 EB3.out
            go_wp2
            have O5 := (off5 wb3 w.heap.size (.int .i64 P) (.int .i64 G) (.slice p1 i k1) (.slice p2 m k2) (.slice p3 j k3))
            have O5' := O5.mono (g := TT w.heap.size T) (fun _ _ e => Or.inl e)
            refine bodyPost_ret (v := .tuple #[.agg #[.int .i64 P, .int .i64 G, .slice p1 i k1, .slice p2 m k2, .slice p3 j k3], .int .i64 0]) (by simp [results, Try.results22, go_sem, d0, d1, d2, d3, d4]) rfl ⟨O5.bel HB3.out (fun k e => by omega), .inr ⟨HGood.out, ⟨p1, k1, p2, k2, p3, k3⟩, by simp only [rv, ofR, N1.out, N2.out, N3.out], by simpa only [ofR, N1.out] using hk1, by simpa only [ofR, N2.out] using hk2, by simpa only [ofR, N3.out] using hk3, (X1.out.off O5').any, (X2.out.off O5').any, (LB3.out.off O5').any⟩⟩
end Go.Proofs.Ytlohpccfanmiiaa
