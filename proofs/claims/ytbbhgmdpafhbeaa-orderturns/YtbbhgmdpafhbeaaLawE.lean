/-
  The walk of OrderTurns.
-/
import Derived.Test.YtbbhgmdpafhbeaaWorks
import Derived.Test.YtbbhgmdpafhbeaaOpen
import Derived.Test.YtbbhgmdpafhbeaaSwap
namespace Go.Proofs.Ytbbhgmdpafhbeaa
open Go.RowKit Go.Deep Go.WideShapes
theorem cells5 : Try.prog.cellsOf 5 = 1 := by kernel_rfl
/-- A slice of bytes that came in. -/
def IsBytes (w : World) (b : Option Addr) (m : Nat) : Prop := m = 0 ∨ ∃ g off, b = some ⟨g, off, none⟩ ∧ ∀ i, i < m → ∃ x : Int, 0 ≤ x ∧ x ≤ 255 ∧ w.cell? ⟨g, off + i, none⟩ = some (.int .u8 x)
theorem bytes_of {H : Type} {enc : TypeId × Value → H} {w : World} {a : Option Addr} {len cap : Nat} {d : DataW H} {p : List MemPlace}
    (h : DataW.Trod enc Try.prog w 0 (fun _ => true) true 27 (.slice a len cap) d p) : IsBytes w a len := by
  obtain ⟨fuel, hf⟩ := h
  rcases open_slice1 Try.underlying27 cells5 hf with ⟨hcs, _⟩ | ⟨x, l, c, m, n, V, D, Pl, hcs, _, hl, _, hm, _, hi⟩
  · simp [Value.cells] at hcs
    exact .inl hcs.2.1
  simp [Value.cells] at hcs
  obtain ⟨rfl, rfl, rfl⟩ := hcs
  have key : ∀ i, i < len → ∃ y : Int, 0 ≤ y ∧ y ≤ 255 ∧ w.cell? (x.add i) = some (.int .u8 y) := by
    intro i hil
    obtain ⟨h1, h2⟩ := hi i (by simp at hm; omega)
    obtain ⟨y, e, _, hw⟩ := DataW.trod_int Try.underlying5 h2
    simp at e
    have hr : 0 ≤ y ∧ y ≤ 255 := by
      have hw2 := hw
      have e1 : IntKind.u8.min = 0 := rfl
      have e2 : IntKind.u8.max = 255 := rfl
      simp [Lit.wf] at hw2
      omega
    exact ⟨y, hr.1, hr.2, by rw [h1, e]⟩
  by_cases h0 : len = 0
  · exact .inl h0
  obtain ⟨b, off, spot⟩ := x
  have hspot : spot = none := by
    obtain ⟨y, _, _, k⟩ := key 0 (by omega)
    simpa [Addr.add] using World.cell?_spot k
  subst hspot
  refine .inr ⟨b, off, rfl, fun i hi' => ?_⟩
  obtain ⟨y, h1, h2, k⟩ := key i hi'
  rw [add_plain] at k
  exact ⟨y, h1, h2, k⟩
theorem turns_far (p b : Option Addr) (n m cap k : Nat) (w : World) (h : 60 < n) :
    Calls Try.prog 4 #[.slice p n cap, .slice b m k] w fun e w' => e = .returned (.bool true) ∧ Bel w w' := by
  have h' : (60 : Int) < n := by omega
  go_enter Try.func4, Try.ntmps4
  go_wp2_with fail
  with_reducible refine (works_any _).mono ?_
  rintro e w1 ⟨rfl, hb⟩
  go_wp2
  go_ret
  exact ⟨rfl, hb⟩
theorem turns_none (p b : Option Addr) (m cap k : Nat) (w : World) :
    Calls Try.prog 4 #[.slice p 0 cap, .slice b m k] w fun e w' => e = .returned (.bool true) ∧ Bel w w' := by
  go_enter Try.func4, Try.ntmps4
  go_wp2_with fail
  with_reducible refine (works_any _).mono ?_
  rintro e w1 ⟨rfl, hb⟩
  go_wp2
  go_ret
  exact ⟨rfl, hb⟩
theorem turns_many (p b : Option Addr) (n m cap k : Nat) (w : World) (h : n ≤ 60) (h0 : 1 ≤ n) (hm : 200 < m) :
    Calls Try.prog 4 #[.slice p n cap, .slice b m k] w fun e w' => e = .returned (.bool true) ∧ Bel w w' := by
  have h' : ¬ (60 : Int) < n := by omega
  have h2 : ((n : Int) == 0) = false := by simp; omega
  have h3 : (200 : Int) < m := by omega
  go_enter Try.func4, Try.ntmps4
  go_wp2_with fail
  with_reducible refine (works_any _).mono ?_
  rintro e w1 ⟨rfl, hb⟩
  go_wp2
  go_ret
  exact ⟨rfl, hb⟩
theorem Own.cells3 {w : World} {base g n c : Nat} {cur : List T} (h : Own w base (.slice (some ⟨g, 0, none⟩) n c) cur) (hn : cur.length = n) {i : Nat} (hi : i < n) {x : T} (hx : cur.getD i default = x) :
    w.cell? ⟨g, i * 3, none⟩ = some (.int .u64 x.a) ∧ w.cell? ⟨g, i * 3 + 1, none⟩ = some (.int .u64 x.s) ∧ w.cell? ⟨g, i * 3 + 2, none⟩ = some (.int .i64 x.p) := by
  subst hn
  have hown : w.ownsRow base 30 3 (.slice (some ⟨g, 0, none⟩) cur.length c) cur.length (encs cur) := h
  have hg := encs_get cur i hi
  rw [hx] at hg
  refine ⟨?_, ?_, ?_⟩
  · rw [hown.cellAt _ (by omega)]; exact hg.1
  · rw [hown.cellAt _ (by omega)]; exact hg.2.1
  · rw [hown.cellAt _ (by omega)]; exact hg.2.2
theorem rem_nat (y : Int) (n : Nat) (h0 : 0 ≤ y) (hn : 1 ≤ n) : ∃ j : Nat, y.tmod n = j ∧ j < n := by
  refine ⟨(y % n).toNat, ?_, ?_⟩
  · rw [Int.tmod_eq_emod_of_nonneg h0, Int.toNat_of_nonneg (Int.emod_nonneg _ (by omega))]
  · have := Int.emod_lt_of_pos y (show (0 : Int) < n by omega)
    have := Int.emod_nonneg y (show (n : Int) ≠ 0 by omega)
    omega
set_option maxHeartbeats 4000000 in
theorem turns_main (p b : Option Addr) (n m cap kb : Nat) (l : List T) (w : World) (h : n ≤ 60) (h0 : 1 ≤ n) (hm : m ≤ 200) (hn : l.length = n) (hl : Has w p l) (hbt : IsBytes w b m) :
    Calls Try.prog 4 #[.slice p n cap, .slice b m kb] w fun e w' => e = .returned (.bool true) ∧ Bel w w' := by
  have h' : ¬ (60 : Int) < n := by omega
  have h2 : ((n : Int) == 0) = false := by simp; omega
  have h3 : ¬ (200 : Int) < m := by omega
  have HN := Lib.hid hn
  have HL := Lib.hid hl
  have HBT := Lib.hid hbt
  clear hn hl hbt
  go_enter Try.func4, Try.ntmps4
  go_wp2_with fail
  with_reducible refine (works_any _).mono ?_
  rintro e w1 ⟨rfl, hb1⟩
  have B1 := Lib.hid hb1
  clear hb1
  go_wp2_with (at_builtin; refine wpList_append_any rfl (.tmp 29) (.tmp 30) rfl w.heap.size _ [] rfl (Own.empty _ _ B1.out.size) _ _ _ l rfl HN.out (HL.out.bel (B1.out.alloc _ _)) (by simp; omega) (by have := B1.out.size; simp; omega) ?_)
  intro v2 w2 hown hgrow hnil
  have hown : Own w2 w.heap.size v2 l := hown
  have B2 : Hid (Bel w w2) := Lib.hid (Own.grown (B1.out.alloc #[] 30) (Own.empty w1 w.heap.size B1.out.size) (by have := B1.out.size; simp; omega) hgrow)
  clear hgrow hnil
  obtain ⟨g, c, rfl, hg⟩ : ∃ g c, v2 = .slice (some ⟨g, 0, none⟩) n c ∧ w.heap.size ≤ g := by
    rcases hown.2 with ⟨_, hz⟩ | ⟨g, c, cur, e, hbg, _⟩
    · have := HN.out; omega
    · exact ⟨g, c, by rw [e, HN.out], hbg⟩
  have HO := Lib.hid hown
  clear hown
  go_wp2
  go_loopw [7] (fun i wr => ∃ k : Nat, k ≤ m ∧ i = .int .i64 k ∧ ∃ cur : List T, cur.Perm l ∧ Own wr w.heap.size (.slice (some ⟨g, 0, none⟩) n c) cur ∧ Bel w wr) (fun i _ => m - (intOf i).toNat)
  case atStart => exact ⟨0, by omega, rfl, l, List.Perm.refl _, HO.out, B2.out⟩
  case round =>
    obtain ⟨k, hk, rfl, cur, hperm, ho, hb⟩ := hrel
    have HP := Lib.hid hperm
    have HC : Hid (cur.length = n) := Lib.hid (by rw [hperm.length_eq, HN.out])
    have HO2 := Lib.hid ho
    have HB := Lib.hid hb
    clear hperm ho hb
    by_cases hlt : k < m
    · obtain ⟨gb, ob, rfl, hbytes⟩ : ∃ gb ob, b = some ⟨gb, ob, none⟩ ∧ ∀ i, i < m → ∃ x : Int, 0 ≤ x ∧ x ≤ 255 ∧ w.cell? ⟨gb, ob + i, none⟩ = some (.int .u8 x) := by
        rcases HBT.out with e | e
        · omega
        · exact e
      obtain ⟨y, y0, y1, cy⟩ := hbytes k hlt
      have cy := HB.out.cell cy
      clear hbytes
      obtain ⟨j, hj, hjn⟩ := rem_nat y n y0 h0
      obtain ⟨r, hr, hrn⟩ := rem_nat (k : Int) n (by omega) h0
      have w1y : IntKind.i64.wrap y = y := i64_in _ (by omega) (by omega)
      have b0 : (0 : Int) ≤ (k : Int) := by omega
      have b1 : (k : Int) < (m : Int) := by omega
      have b2 : ¬ (n : Int) = 0 := by omega
      go_wp2
      go_quiet (fail)
      have HO3 := Lib.hid (HO2.out.bel ((Bel.refl wr).drewN nq))
      have HB3 := Lib.hid (HB.out.drewN nq)
      clear HO2 cy hj hr w1y
      generalize wr.drewN nq = wq at HO3 HB3 ⊢
      obtain ⟨xj, hxj⟩ : ∃ x, cur.getD j default = x := ⟨_, rfl⟩
      obtain ⟨xr, hxr⟩ : ∃ x, cur.getD r default = x := ⟨_, rfl⟩
      have HSW : Hid (((cur.set j xr).set r xj).Perm cur) := Lib.hid (by have := HC.out; rw [← hxj, ← hxr]; exact swap_perm cur j r (by omega) (by omega))
      obtain ⟨j0, j1, j2⟩ := HO3.out.cells3 HC.out hjn hxj
      obtain ⟨r0, r1, r2⟩ := HO3.out.cells3 HC.out hrn hxr
      clear hxj hxr
      have r0 := ((Bel.refl wq).alloc #[.int .u64 xj.a, .int .u64 xj.s, .int .i64 xj.p] 30).cell r0
      have r1 := ((Bel.refl wq).alloc #[.int .u64 xj.a, .int .u64 xj.s, .int .i64 xj.p] 30).cell r1
      have r2 := ((Bel.refl wq).alloc #[.int .u64 xj.a, .int .u64 xj.s, .int .i64 xj.p] 30).cell r2
      have HO4 := Lib.hid (HO3.out.bel ((Bel.refl wq).alloc #[.int .u64 xj.a, .int .u64 xj.s, .int .i64 xj.p] 30))
      have HB4 := Lib.hid (HB3.out.alloc #[.int .u64 xj.a, .int .u64 xj.s, .int .i64 xj.p] 30)
      have hgl : g < wq.heap.size := (HO3.out.lt g rfl).2
      have q0 : (0 : Int) ≤ (j : Int) := by omega
      have q1 : (j : Int) < (n : Int) := by omega
      have q2 : (0 : Int) ≤ (r : Int) := by omega
      have q3 : (r : Int) < (n : Int) := by omega
      go_wp2_with (refine wpList_store_own rfl (.tmp 60) (.tmp 59) rfl g j n c w.heap.size xr cur rfl rfl HO4.out HC.out hjn ?_)
      intro w5 hown5 hgrow5
      have x0 : w5.cell? ⟨wq.heap.size, 0, none⟩ = some (.int .u64 xj.a) := hgrow5.cell (by simp [go_sem]) (by simp; omega)
      have x1 : w5.cell? ⟨wq.heap.size, 1, none⟩ = some (.int .u64 xj.s) := hgrow5.cell (by simp [go_sem]) (by simp; omega)
      have x2 : w5.cell? ⟨wq.heap.size, 2, none⟩ = some (.int .i64 xj.p) := hgrow5.cell (by simp [go_sem]) (by simp; omega)
      have HO5 := Lib.hid hown5
      have HB5 : Hid (Bel w w5) := Lib.hid (Own.grown HB4.out HO4.out HB4.out.size hgrow5)
      have HC5 : Hid ((cur.set j xr).length = n) := Lib.hid (by rw [List.length_set]; exact HC.out)
      clear hown5 hgrow5 j0 j1 j2 r0 r1 r2 HO4 HB4 HO3 HB3
      go_wp2_with (refine wpList_store_own rfl (.tmp 64) (.tmp 63) rfl g r n c w.heap.size xj (cur.set j xr) rfl rfl HO5.out HC5.out hrn ?_)
      intro w6 hown6 hgrow6
      have HO6 := Lib.hid hown6
      have HB6 : Hid (Bel w w6) := Lib.hid (Own.grown HB5.out HO5.out HB5.out.size hgrow6)
      clear hown6 hgrow6 x0 x1 x2
      go_wp2
      go_roundw
      case rel => exact ⟨k + 1, by omega, by go_num, (cur.set j xr).set r xj, HSW.out.trans HP.out, HO6.out, HB6.out⟩
      case measure => simp [intOf]; omega
    · obtain rfl : k = m := by omega
      obtain ⟨pc, cc, e, hcc, _, hpc⟩ := HO2.out.slice
      have HLC := HC.out
      rw [HLC] at hcc
      injection e with e1 e2 e3
      subst e1 e3
      have PC := Lib.hid hpc
      clear hpc e2 HLC
      have HSL : Hid ((srt l).length = n) := Lib.hid (by rw [srt_len, HN.out])
      have HSC : Hid (srt cur = srt l) := Lib.hid (srt_same HP.out)
      go_wp2_with fail
      with_reducible refine (sort_any _ n _ cur _ HC.out (by omega) PC.out).mono ?_
      rintro e w3 ⟨⟨p3, c3, rfl, hc3, hp3⟩, hb3⟩
      rw [HSC.out] at hc3 hp3 ⊢
      rw [HSL.out] at hc3 ⊢
      have P3 := Lib.hid hp3
      have B3 := Lib.hid (HB.out.trans hb3)
      clear hp3 hb3
      go_wp2_with fail
      with_reducible refine (sort_any p n cap l _ HN.out (by omega) (HL.out.bel B3.out)).mono ?_
      rintro e w4 ⟨⟨p4, c4, rfl, hc4, hp4⟩, hb4⟩
      rw [HSL.out] at hc4 ⊢
      have P4 := Lib.hid hp4
      have P3' := Lib.hid (P3.out.bel hb4)
      have B4 := Lib.hid (B3.out.trans hb4)
      clear hp4 hb4
      go_wp2_with fail
      with_reducible refine (ex_same p3 p4 c3 c4 n (srt l) _ HSL.out (by omega) P3'.out P4.out).mono ?_
      rintro e w5 ⟨rfl, hb5⟩
      have B5 := Lib.hid (B4.out.trans hb5)
      clear hb5
      go_wp2
      go_ret
      exact ⟨rfl, B5.out⟩
theorem turns_all (p b : Option Addr) (n m cap kb : Nat) (l : List T) (w : World) (hn : l.length = n) (hl : Has w p l) (hbt : IsBytes w b m) :
    Calls Try.prog 4 #[.slice p n cap, .slice b m kb] w fun e w' => e = .returned (.bool true) ∧ Bel w w' := by
  by_cases h : 60 < n
  · exact turns_far p b n m cap kb w h
  by_cases h0 : n = 0
  · subst h0; exact turns_none p b m cap kb w
  by_cases hm : 200 < m
  · exact turns_many p b n m cap kb w (by omega) (by omega) hm
  exact turns_main p b n m cap kb l w (by omega) (by omega) (by omega) hn hl hbt
end Go.Proofs.Ytbbhgmdpafhbeaa
