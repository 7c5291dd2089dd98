/-
  Contract of slab.Of.
-/
import Derived.Test.YtlohpccfanmiiaaOfr
import Derived.Test.YtlohpccfanmiiaaPlay
namespace Go.Proofs.Ytlohpccfanmiiaa
open Go.RowKit
/-- What is marked behind free, and behind alive. -/
def mF (P : Nat) (G : Int) (ul fl : List Int) : Bool × List Bool := runs (okF G ul) (nxF G ul) (List.replicate P false) fl
def mA (P : Nat) (G : Int) (ul fl : List Int) (al : List Hd) : Bool × List Bool := runs (okA ul) (nxA ul) (mF P G ul fl).2 al
/-- What the rules ask, up to the m-th. -/
structure Upto (m : Nat) (P : Nat) (G : Int) (ul fl : List Int) (al : List Hd) : Prop where
  a1 : 1 ≤ m → ul.length ≤ P
  a2 : 2 ≤ m → ul.all (tms G) = true
  a3 : 3 ≤ m → (mF P G ul fl).1 = true
  a4 : 4 ≤ m → (mA P G ul fl al).1 = true
  a5 : 5 ≤ m → Full G ul (mA P G ul fl al).2
def mst (m : Nat) (P : Nat) (G : Int) (ul fl : List Int) (al : List Hd) : List Bool := if m ≤ 2 then List.replicate P false else if m = 3 then (mF P G ul fl).2 else (mA P G ul fl al).2
/-- A place's handle is alive. -/
def setA (t : List Pl) (h : Hd) : List Pl := match t[h.p.toNat]? with
  | some x => t.set h.p.toNat ⟨x.u, true⟩
  | none => t
theorem setA_len (t : List Pl) (h : Hd) : (setA t h).length = t.length := by unfold setA; split <;> simp
def tk0 (ul : List Int) : List Pl := ul.map (fun u => ⟨u, false⟩)
theorem tk0_len (ul : List Int) : (tk0 ul).length = ul.length := by unfold tk0; simp
theorem tk0_take (ul : List Int) (m : Nat) (u : Int) (h : ul[m]? = some u) : tk0 (ul.take (m + 1)) = tk0 (ul.take m) ++ [⟨u, false⟩] := by
  unfold tk0
  rw [List.take_add_one, h, List.map_append]
  rfl
def fA (t : List Pl) (al : List Hd) : List Pl := al.foldl setA t
theorem fA_len : ∀ (al : List Hd) (t : List Pl), (fA t al).length = t.length
  | [], t => rfl
  | h :: r, t => by
    show (fA (setA t h) r).length = _
    rw [fA_len r, setA_len]
theorem fA_take (t : List Pl) (al : List Hd) (m : Nat) (h : Hd) (hm : al[m]? = some h) : fA t (al.take (m + 1)) = setA (fA t (al.take m)) h := by
  unfold fA
  rw [List.take_add_one, hm, List.foldl_append]
  rfl
/-- The slab of an image. -/
def ofS (P : Nat) (G : Int) (ul fl : List Int) (al : List Hd) : St := ⟨P, G, fA (tk0 ul) al, fl⟩
/-- The lists that came in. -/
structure Ins (w : World) (ul fl : List Int) (al : List Hd) (pu pf pl : Option Addr) (nu nf nl : Nat) : Prop where
  lu : ul.length = nu
  lf : fl.length = nf
  ll : al.length = nl
  bu : nu ≤ 1024
  bf : nf ≤ 1024
  bl : nl ≤ 1024
  iu : Lies nof w pu (encI ul)
  jf : Lies nof w pf (encI fl)
  il : Lies nof w pl (encH al)
theorem Ins.bel {w w' : World} {ul fl : List Int} {al : List Hd} {pu pf pl : Option Addr} {nu nf nl : Nat} (h : Ins w ul fl al pu pf pl nu nf nl) (k : Bel w w') : Ins w' ul fl al pu pf pl nu nf nl := ⟨h.lu, h.lf, h.ll, h.bu, h.bf, h.bl, h.iu.bel k, h.jf.bel k, h.il.bel k⟩
theorem of_arg (P G : Int) (pu pf pl : Option Addr) (nu cu nf cf nl cl : Nat) (w : World) (hP : ¬ (0 ≤ P ∧ P ≤ 1024 ∧ 1 ≤ G ∧ G ≤ 65535)) :
    Calls Try.prog 21 #[.int .i64 P, .int .i64 G, .slice pu nu cu, .slice pf nf cf, .slice pl nl cl] w fun e w' => e = .returned (.tuple #[.pointer none, .int .i64 1]) ∧ w = w' := by
  have K := Lib.hid (new_no P G w hP)
  clear hP
  go_enter Try.func21, Try.ntmps21
  go_wp2_with fail
  with_reducible refine (K.out).mono ?_
  rintro e w1 ⟨rfl, rfl⟩
  go_wp2
  go_ret2
  exact ⟨rfl, rfl⟩
/-- What Of tells. -/
def OfPost (w : World) (P : Nat) (G : Int) (ul fl : List Int) (al : List Hd) (e : Ending) (w' : World) : Prop :=
  (¬ Upto 5 P G ul fl al → e = .returned (.tuple #[.pointer none, .int .i64 2]) ∧ Bel w w') ∧
  (Upto 5 P G ul fl al → ∃ B f, e = .returned (.tuple #[.pointer (some ⟨B, 0, none⟩), .int .i64 0]) ∧ Way w B f (ofS P G ul fl al) w')
theorem mst_len (m P : Nat) (G : Int) (ul fl : List Int) (al : List Hd) (w0 w : World) (M : Nat) (h : InM w0 M P (mst m P G ul fl al) w) : (mst m P G ul fl al).length = P := h.2.2
/-- One place is alive. -/
theorem Slb.mark {w : World} {B : Nat} {f : Nat → Prop} {S : St} (h : Slb w B f S) {k : Nat} {u : Int} {a : Bool} (hk : S.tk[k]? = some ⟨u, a⟩) : ∃ g cap, w.cell? ⟨B, 2, none⟩ = some (.slice (some ⟨g, 0, none⟩) S.tk.length cap) ∧
    w.cell? ⟨g, k * 2 + 1, none⟩ = some (.bool a) ∧ w.frozen? ⟨g, k * 2 + 1, none⟩ = false ∧ f g ∧ Slb (w.setCell ⟨g, k * 2 + 1, none⟩ (.bool true)) B f { S with tk := S.tk.set k ⟨u, true⟩ } ∧ Off f w (w.setCell ⟨g, k * 2 + 1, none⟩ (.bool true)) := by
  obtain ⟨vt, vf, h1⟩ := h
  obtain ⟨pt, ct, hvt, hct, hmx, hlp⟩ := own_slice h1.ot nof (fun _ _ e => e)
  obtain ⟨b, off, rfl, _, hr⟩ := lies_pl hlp (get_lt hk)
  have hoff : off = 0 := by
    rcases h1.ot.2 with ⟨e, _⟩ | ⟨g', cap', cur, e, _⟩
    · rw [hvt] at e; cases e
    · rw [hvt] at e; injection e with e; injection e with e; injection e
  subst hoff
  subst hvt
  obtain ⟨x0, x1⟩ := row_pl hr hk
  simp only [Nat.zero_add] at x0 x1
  have p1 := h1.put (k * 2 + 1) (.bool true) (S.tk.set k ⟨u, true⟩) (by simp) (encP_seta S.tk k _ true hk)
  refine ⟨b, ct, ?_, x1, h1.ot.frozenAt _, h1.ft b rfl, ⟨_, _, p1.1⟩, p1.2⟩
  rw [cell_of_row w B _ _ 62 (0, 0) h1.hB]
  rfl
set_option maxHeartbeats 8000000 in
set_option maxRecDepth 100000 in
theorem of_any (P : Nat) (G : Int) (ul fl : List Int) (al : List Hd) (pu pf pl : Option Addr) (nu cu nf cf nl cl : Nat) (w : World) (hP : P ≤ 1024) (hG1 : 1 ≤ G) (hG2 : G ≤ 65535) (hin : Ins w ul fl al pu pf pl nu nf nl) (hkn : Upto 5 P G ul fl al → ∀ h ∈ al, ∃ k : Nat, h.p = k ∧ k < nu) :
    Calls Try.prog 21 #[.int .i64 P, .int .i64 G, .slice pu nu cu, .slice pf nf cf, .slice pl nl cl] w (OfPost w P G ul fl al) := by
  have HIn := Lib.hid hin
  have HKn := Lib.hid hkn
  have bu := hin.bu
  have bf := hin.bf
  have bl := hin.bl
  clear hin hkn
  go_enter Try.func21, Try.ntmps21
  go_wp2_with fail
  with_reducible refine (new_ok P G _ (by omega) (by omega) hG1 hG2).mono ?_
  rintro e w1 ⟨B, f, rfl, hS, hb, hf⟩
  have W1 : Hid (Way w B f (newS P G) w1) := Lib.hid ⟨hS, hb, hf⟩
  clear hS hb hf
  go_wp2_with fail
  with_reducible refine (rules_any P G ul pu pf pl nu cu nf cf nl cl _ hP HIn.out.lu (by omega) (HIn.out.iu.bel W1.out.off)).mono ?_
  rintro e w2 ⟨TF, T5, T6, T7, T8, T9, T11, T12, T13, M, rfl, hro⟩
  have HR := Lib.hid hro
  have hMge : w.heap.size ≤ M := Nat.le_trans W1.out.off.size hro.ge
  clear hro
  go_wp2
  go_loopw [38] (fun v wr => ∃ m : Nat, v = .int .i64 m ∧ m ≤ 5 ∧ Upto m P G ul fl al ∧ InM w2 M P (mst m P G ul fl al) wr) (fun v _ => 5 - (intOf v).toNat)
  case atStart => exact ⟨0, rfl, by omega, ⟨(by omega), (by omega), (by omega), (by omega), (by omega)⟩, ⟨Off.refl _ _, HR.out.marks, by simp [mst]⟩⟩
  case round =>
    obtain ⟨m, rfl, hi, hup, hinm⟩ := hrel
    have HU := Lib.hid hup
    have HM := Lib.hid hinm
    have HC := Lib.hid (HR.out.ctx.off hinm.1)
    have HO := Lib.hid hinm.1
    have g0 := hinm.1.cell (p := ⟨TF, 0, none⟩) HR.out.nF HR.out.f0
    have g1 := hinm.1.cell (p := ⟨TF, 1, none⟩) HR.out.nF HR.out.f1
    have g2 := hinm.1.cell (p := ⟨TF, 2, none⟩) HR.out.nF HR.out.f2
    have g3 := hinm.1.cell (p := ⟨TF, 3, none⟩) HR.out.nF HR.out.f3
    have g4 := hinm.1.cell (p := ⟨TF, 4, none⟩) HR.out.nF HR.out.f4
    have HBel : Hid (Bel w wr) := Lib.hid (Off.trans (W1.out.off.trans HR.out.bel) hinm.1 (fun i e => .inr (by unfold isM at e; omega)))
    clear hup hinm
    obtain rfl | rfl | rfl | rfl | rfl | rfl : m = 0 ∨ m = 1 ∨ m = 2 ∨ m = 3 ∨ m = 4 ∨ m = 5 := by omega
    · have K := Lib.hid (rule1 P pu nu cu T5 T7 _ HC.out.t5 HC.out.t7)
      by_cases hc : nu ≤ P
      · rw [decide_eq_true hc] at K
        have HU2 : Hid (Upto 1 P G ul fl al) := Lib.hid ⟨fun _ => by rw [HIn.out.lu]; exact hc, (by omega), (by omega), (by omega), (by omega)⟩
        go_wp2_with fail
        with_reducible refine (K.out).mono ?_
        rintro e w3 ⟨rfl, rfl⟩
        go_wp2
        go_roundw
        case rel => exact ⟨1, rfl, by omega, HU2.out, HM.out⟩
        case measure => simp [intOf]
      · rw [decide_eq_false hc] at K
        have HN : Hid (¬ Upto 5 P G ul fl al) := Lib.hid (fun h => hc (by have := h.a1 (by omega); rw [HIn.out.lu] at this; exact this))
        go_wp2_with fail
        with_reducible refine (K.out).mono ?_
        rintro e w3 ⟨rfl, rfl⟩
        go_wp2
        go_ret2
        exact ⟨fun _ => ⟨rfl, HBel.out⟩, fun h => absurd h HN.out⟩
    · have K := Lib.hid (rule2 G ul pu nu cu T6 T7 _ HC.out.t6 HC.out.t7 HIn.out.lu (by omega) (HIn.out.iu.bel HBel.out))
      cases hc : ul.all (tms G) with
      | true =>
        rw [hc] at K
        have HU2 : Hid (Upto 2 P G ul fl al) := Lib.hid ⟨fun _ => HU.out.a1 (by omega), fun _ => hc, (by omega), (by omega), (by omega)⟩
        clear hc
        go_wp2_with fail
        with_reducible refine (K.out).mono ?_
        rintro e w3 ⟨rfl, hb⟩
        have HM3 := Lib.hid (HM.out.bel hb)
        clear hb
        go_wp2
        go_roundw
        case rel => exact ⟨2, rfl, by omega, HU2.out, HM3.out⟩
        case measure => simp [intOf]
      | false =>
        rw [hc] at K
        have HN : Hid (¬ Upto 5 P G ul fl al) := Lib.hid (fun h => by have := h.a2 (by omega); rw [hc] at this; cases this)
        clear hc
        go_wp2_with fail
        with_reducible refine (K.out).mono ?_
        rintro e w3 ⟨rfl, hb⟩
        have HB3 := Lib.hid (HBel.out.trans hb)
        clear hb
        go_wp2
        go_ret2
        exact ⟨fun _ => ⟨rfl, HB3.out⟩, fun h => absurd h HN.out⟩
    · have hnp : nu ≤ P := by have := HU.out.a1 (by omega); rw [HIn.out.lu] at this; exact this
      have K := Lib.hid (rule3 P G ul fl pu pf nu cu nf cf P P T5 T6 T7 T8 T11 T12 T13 M (List.replicate P false) _ HC.out HM.out.2.1 (by simp) hnp (HO.out.cell (p := ⟨T8, 0, none⟩) HR.out.n8 HR.out.t8) HIn.out.lf (by omega) ((lies_isM (HIn.out.jf.bel W1.out.off) HR.out.bel HR.out.ge).off HO.out))
      have e3 : runs (okF G ul) (nxF G ul) (List.replicate P false) fl = mF P G ul fl := rfl
      rw [e3] at K
      clear e3
      cases hc : (mF P G ul fl).1 with
      | true =>
        rw [hc] at K
        have HU2 : Hid (Upto 3 P G ul fl al) := Lib.hid ⟨fun _ => HU.out.a1 (by omega), fun _ => HU.out.a2 (by omega), fun _ => hc, (by omega), (by omega)⟩
        clear hc
        go_wp2_with fail
        with_reducible refine (K.out).mono ?_
        rintro e w3 ⟨rfl, hb⟩
        have HM3 : Hid (InM w2 M P (mst 3 P G ul fl al) w3) := Lib.hid ⟨Off.trans HO.out hb.1 (fun _ e => .inl e), hb.2.1, hb.2.2⟩
        clear hb
        go_wp2
        go_roundw
        case rel => exact ⟨3, rfl, by omega, HU2.out, HM3.out⟩
        case measure => simp [intOf]
      | false =>
        rw [hc] at K
        have HN : Hid (¬ Upto 5 P G ul fl al) := Lib.hid (fun h => by have := h.a3 (by omega); rw [hc] at this; cases this)
        clear hc
        go_wp2_with fail
        with_reducible refine (K.out).mono ?_
        rintro e w3 ⟨rfl, hb⟩
        have HB3 : Hid (Bel w w3) := Lib.hid (Off.trans HBel.out hb.1 (fun i e => .inr (by unfold isM at e; omega)))
        clear hb
        go_wp2
        go_ret2
        exact ⟨fun _ => ⟨rfl, HB3.out⟩, fun h => absurd h HN.out⟩
    · have hnp : nu ≤ P := by have := HU.out.a1 (by omega); rw [HIn.out.lu] at this; exact this
      have K := Lib.hid (rule4 P G ul al pu pl nu cu nl cl P P T5 T6 T7 T9 T11 T12 T13 M (mF P G ul fl).2 _ HC.out HM.out.2.1 HM.out.2.2 hnp (HO.out.cell (p := ⟨T9, 0, none⟩) HR.out.n9 HR.out.t9) HIn.out.ll (by omega) ((lies_isM (HIn.out.il.bel W1.out.off) HR.out.bel HR.out.ge).off HO.out))
      have e3 : runs (okA ul) (nxA ul) (mF P G ul fl).2 al = mA P G ul fl al := rfl
      rw [e3] at K
      clear e3
      cases hc : (mA P G ul fl al).1 with
      | true =>
        rw [hc] at K
        have HU2 : Hid (Upto 4 P G ul fl al) := Lib.hid ⟨fun _ => HU.out.a1 (by omega), fun _ => HU.out.a2 (by omega), fun _ => HU.out.a3 (by omega), fun _ => hc, (by omega)⟩
        clear hc
        go_wp2_with fail
        with_reducible refine (K.out).mono ?_
        rintro e w3 ⟨rfl, hb⟩
        have HM3 : Hid (InM w2 M P (mst 4 P G ul fl al) w3) := Lib.hid ⟨Off.trans HO.out hb.1 (fun _ e => .inl e), hb.2.1, hb.2.2⟩
        clear hb
        go_wp2
        go_roundw
        case rel => exact ⟨4, rfl, by omega, HU2.out, HM3.out⟩
        case measure => simp [intOf]
      | false =>
        rw [hc] at K
        have HN : Hid (¬ Upto 5 P G ul fl al) := Lib.hid (fun h => by have := h.a4 (by omega); rw [hc] at this; cases this)
        clear hc
        go_wp2_with fail
        with_reducible refine (K.out).mono ?_
        rintro e w3 ⟨rfl, hb⟩
        have HB3 : Hid (Bel w w3) := Lib.hid (Off.trans HBel.out hb.1 (fun i e => .inr (by unfold isM at e; omega)))
        clear hb
        go_wp2
        go_ret2
        exact ⟨fun _ => ⟨rfl, HB3.out⟩, fun h => absurd h HN.out⟩
    · have hnp : nu ≤ P := by have := HU.out.a1 (by omega); rw [HIn.out.lu] at this; exact this
      have K := Lib.hid (rule5 P G ul pu nu cu P P T5 T6 T7 T11 T12 T13 M (mA P G ul fl al).2 _ HC.out HM.out.2.1 HM.out.2.2 hnp)
      go_wp2_with fail
      with_reducible refine (K.out).mono ?_
      rintro e w3 ⟨⟨r, rfl, hr⟩, rfl⟩
      cases r with
      | true =>
        have HU2 : Hid (Upto 5 P G ul fl al) := Lib.hid ⟨fun _ => HU.out.a1 (by omega), fun _ => HU.out.a2 (by omega), fun _ => HU.out.a3 (by omega), fun _ => HU.out.a4 (by omega), fun _ => hr.1 rfl⟩
        clear hr
        go_wp2
        go_roundw
        case rel => exact ⟨5, rfl, by omega, HU2.out, HM.out⟩
        case measure => simp [intOf]
      | false =>
        have HN : Hid (¬ Upto 5 P G ul fl al) := Lib.hid (fun h => by have := hr.2 (h.a5 (by omega)); cases this)
        clear hr
        go_wp2
        go_ret2
        exact ⟨fun _ => ⟨rfl, HBel.out⟩, fun h => absurd h HN.out⟩
    · have W3 : Hid (Way w B f (newS P G) wr) := Lib.hid ((W1.out.bel HR.out.bel).away HO.out (fun i e => ⟨fun e2 => by have := W1.out.sl.lt i e2; have := HR.out.ge; unfold isM at e; omega, by unfold isM at e; omega⟩))
      have HU5 := HU
      clear HR HM HC HO g0 g1 g2 g3 g4 W1 HU
      go_wp2
      go_loopw [48] (fun v wr => ∃ m : Nat, v = .int .i64 m ∧ m ≤ nu ∧ ∃ f, Way w B f ⟨P, G, tk0 (ul.take m), []⟩ wr) (fun v _ => nu - (intOf v).toNat)
      case atStart => exact ⟨0, rfl, by omega, f, W3.out⟩
      case round =>
        clear W3 HBel
        obtain ⟨m, rfl, hi, f4, hw⟩ := hrel
        have HW := Lib.hid hw
        clear hw
        by_cases hlt : m < nu
        · obtain ⟨u, hu⟩ : ∃ u, ul[m]? = some u := ⟨_, List.getElem?_eq_getElem (by have := HIn.out.lu; omega)⟩
          obtain ⟨b, off, rfl, _, hr⟩ := lies_int HIn.out.iu (get_lt hu)
          have x0 := HW.out.off.cell (row_int hr hu)
          have HT := Lib.hid (tk0_take ul m u hu)
          clear hr hu
          obtain ⟨vt, vf, hv⟩ := HW.out.sl
          have c2 : wr.cell? ⟨B, 2, none⟩ = some vt := by rw [cell_of_row wr B _ _ 62 (0, 0) hv.hB]; rfl
          have hB := World.block_lt_of_cell? wr _ c2
          obtain ⟨pt, ct, hvt, _⟩ := own_slice hv.ot nof (fun _ _ e => e)
          have hnt : (tk0 (ul.take m)).length = m := by rw [tk0_len, List.length_take, HIn.out.lu]; omega
          simp only [hnt] at hvt
          rw [hvt] at c2
          have HV := Lib.hid hvt
          have H := Lib.hid hv
          have HN := Lib.hid hnt
          clear hv hvt hnt
          go_wp2_with (at_builtin; refine wpList_append_gen el58 rfl (.tmp 56) (.tmp 59) rfl (.slice pt m ct) m (encP (tk0 (ul.take m))) rfl (by have h1 := own_bel H.out.ot ((Bel.refl _).alloc #[.int .i64 u, .bool false] 67); rw [HV.out] at h1; simp only [HN.out] at h1; exact h1) _ _ _ (encP [⟨u, false⟩]) rfl rfl (lies_pl1 _ ⟨u, false⟩ _ rfl) (encP_one _) (by omega) ?_)
          intro v' w5 hown hgrow hnew
          rw [← HV.out] at hgrow hnew
          have hoff : Off (fun k => vt.ownBlock = some k) wr w5 := Off.grown ((Off.refl _ _).alloc _ _) hgrow (fun k e => .inl e)
          have hown1 : w5.ownsRow 0 67 2 v' (tk0 (ul.take (m + 1))).length (encP (tk0 (ul.take (m + 1)))) := by
            rw [HT.out, encP_append, List.length_append, HN.out]
            exact hown
          have hnew1 : ∀ k, v'.ownBlock = some k → vt.ownBlock = some k ∨ wr.heap.size ≤ k := fun k e => by
            rcases hnew k e with e | e
            · exact .inl e
            · exact .inr (by omega)
          have HF := Lib.hid (H.out.newtk hoff hown1 hnew1)
          obtain ⟨q, kk, hv2, _⟩ := own_slice hown nof (fun _ _ e => e)
          have hB1 : w5.heap[B]? = some (.cells #[.int .i64 P, .int .i64 G, vt, vf] 62 (0, 0)) := (hoff.block B hB H.out.dt).trans H.out.hB
          have c31 : w5.cell? ⟨B, 2, none⟩ = some vt := by rw [cell_of_row w5 B _ _ 62 (0, 0) hB1]; rfl
          have f31 : w5.frozen? ⟨B, 2, none⟩ = false := frozen_of_row w5 B 2 _ 62 hB1
          rw [HV.out] at c31
          rw [hv2] at HF ⊢
          clear hown hgrow hnew hoff hown1 hnew1 hv2 hB1 c2 x0
          go_wp2
          go_roundw
          case rel => exact ⟨m + 1, by go_num, by omega, _, HW.out.steps ⟨_, _, HF.out.1⟩ HF.out.2⟩
          case measure => simp [intOf]; omega
        · obtain rfl : m = nu := by omega
          have HT : Hid (ul.take m = ul) := Lib.hid (List.take_of_length_le (by have := HIn.out.lu; omega))
          rw [HT.out] at HW
          clear HT
          go_wp2
          go_loopw [66] (fun v wr => ∃ j : Nat, v = .int .i64 j ∧ j ≤ nf ∧ ∃ f, Way w B f ⟨P, G, tk0 ul, fl.take j⟩ wr) (fun v _ => nf - (intOf v).toNat)
          case atStart => exact ⟨0, rfl, by omega, f4, HW.out⟩
          case round =>
            clear HW
            obtain ⟨j, rfl, hi3, f5, hw⟩ := hrel
            have HW := Lib.hid hw
            clear hw
            by_cases hlt3 : j < nf
            · obtain ⟨u, hu⟩ : ∃ u, fl[j]? = some u := ⟨_, List.getElem?_eq_getElem (by have := HIn.out.lf; omega)⟩
              obtain ⟨b, off, rfl, _, hr⟩ := lies_int HIn.out.jf (get_lt hu)
              have x0 := HW.out.off.cell (row_int hr hu)
              have HT : Hid (fl.take (j + 1) = fl.take j ++ [u]) := Lib.hid (by rw [List.take_add_one, hu]; rfl)
              clear hr hu
              go_wp2_with fail
              with_reducible refine (push_any B f5 ⟨P, G, tk0 ul, fl.take j⟩ u _ HW.out.sl (by simp; omega)).mono ?_
              rintro e w5 ⟨rfl, f6, hs, hst⟩
              have W5 : Hid (Way w B f6 ⟨P, G, tk0 ul, fl.take (j + 1)⟩ w5) := Lib.hid (HW.out.steps (by rw [HT.out]; exact hs) hst)
              clear hs hst x0
              go_wp2
              go_roundw
              case rel => exact ⟨_, .int .i64 (j + 1), _, _, _, _, _, _, _, _, _, ⟨j + 1, by go_num, by omega, f6, W5.out⟩, rfl⟩
              case measure => simp [intOf]; omega
            · obtain rfl : j = nf := by omega
              have HT : Hid (fl.take j = fl) := Lib.hid (List.take_of_length_le (by have := HIn.out.lf; omega))
              rw [HT.out] at HW
              clear HT
              go_wp2
              go_loopw [78] (fun v wr => ∃ i : Nat, v = .int .i64 i ∧ i ≤ nl ∧ ∃ f, Way w B f ⟨P, G, fA (tk0 ul) (al.take i), fl⟩ wr) (fun v _ => nl - (intOf v).toNat)
              case atStart => exact ⟨0, rfl, by omega, f5, HW.out⟩
              case round =>
                clear HW
                obtain ⟨i, rfl, hi4, f6, hw⟩ := hrel
                have HW := Lib.hid hw
                clear hw
                by_cases hlt4 : i < nl
                · obtain ⟨q, hq⟩ : ∃ q, al[i]? = some q := ⟨_, List.getElem?_eq_getElem (by have := HIn.out.ll; omega)⟩
                  obtain ⟨b, off, rfl, _, hr⟩ := lies_hd HIn.out.il (get_lt hq)
                  obtain ⟨x0, x1⟩ := row_hd hr hq
                  have x0 := HW.out.off.cell x0
                  have x1 := HW.out.off.cell x1
                  have HT := Lib.hid (fA_take (tk0 ul) al i q hq)
                  obtain ⟨k, hk1, hk2⟩ := HKn.out HU5.out q (List.mem_of_getElem? hq)
                  obtain ⟨qp, qg⟩ := q
                  simp only at hk1
                  subst hk1
                  clear hr hq
                  have hln : (fA (tk0 ul) (al.take i)).length = m := by rw [fA_len, tk0_len]; exact HIn.out.lu
                  obtain ⟨⟨u, a⟩, hp⟩ : ∃ p, (fA (tk0 ul) (al.take i))[k]? = some p := ⟨_, List.getElem?_eq_getElem (by omega)⟩
                  obtain ⟨g, cap, b2, y1, fy, hfg, hsl, hof⟩ := Slb.mark (HW.out.sl.bel ((Bel.refl wr).alloc #[.int .i64 k, .int .i64 qg] 38)) hp
                  have hset : setA (fA (tk0 ul) (al.take i)) ⟨k, qg⟩ = (fA (tk0 ul) (al.take i)).set k ⟨u, true⟩ := by unfold setA; simp [hp]
                  rw [hset] at HT
                  simp only [hln] at b2
                  have hgT : ¬ g = wr.heap.size := fun e => by have := HW.out.sl.lt g hfg; omega
                  have hgT2 : ¬ wr.heap.size = g := fun e => hgT e.symm
                  have W5 : Hid (Way w B f6 ⟨P, G, fA (tk0 ul) (al.take (i + 1)), fl⟩ ((wr.alloc (.cells #[.int .i64 k, .int .i64 qg] 38)).setCell ⟨g, k * 2 + 1, none⟩ (.bool true)).drew) := Lib.hid (by
                    rw [HT.out]
                    exact ((HW.out.bel ((Bel.refl wr).alloc #[.int .i64 k, .int .i64 qg] 38)).steps hsl ⟨hof, fun _ e => .inl e⟩).bel (Bel.refl _).drew)
                  clear hset hp hsl hof hfg hln
                  have z0 : (wr.alloc (.cells #[.int .i64 k, .int .i64 qg] 38)).cell? ⟨wr.heap.size, 0, none⟩ = some (.int .i64 k) := by simp [go_sem]
                  generalize hWy : wr.alloc (.cells #[.int .i64 k, .int .i64 qg] 38) = wy at *
                  go_wp2
                  go_region
                  go_wp2
                  go_roundw
                  case rel => exact ⟨_, .int .i64 (i + 1), _, _, _, _, _, _, _, _, _, _, _, _, ⟨i + 1, by go_num, by omega, f6, W5.out⟩, rfl⟩
                  case measure => simp [intOf]; omega
                · obtain rfl : i = nl := by omega
                  have HT : Hid (al.take i = al) := Lib.hid (List.take_of_length_le (by have := HIn.out.ll; omega))
                  rw [HT.out] at HW
                  clear HT
                  go_wp2
                  go_ret2
                  exact ⟨fun h => absurd HU5.out h, fun _ => ⟨B, f6, rfl, HW.out⟩⟩
end Go.Proofs.Ytlohpccfanmiiaa
