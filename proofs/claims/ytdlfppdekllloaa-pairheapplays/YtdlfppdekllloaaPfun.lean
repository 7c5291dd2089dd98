/-
  Contracts of a node's bear and leave, and of melded.
-/
import Derived.Test.YtdlfppdekllloaaPmem
import Derived.RegionTactic
import Derived.BigRegion
import Derived.Laws.Pointers
import Derived.LaidEql
set_option linter.unusedVariables false
set_option linter.unusedSimpArgs false
namespace Go.Proofs.Ytdlfppdekllloaa
open Go.RowKit
abbrev pt (a : Nat) : Value := .pointer (some ⟨a, 0, none⟩)
abbrev pn : Value := .pointer none
theorem eqlIn_same (d a : Nat) (w : World) : (Op.equalIn (d + 1) 69 (pt a) (pt a)).run Try.prog w = .ok true w := by
  simp [Op.equalIn, run_underlying Try.underlying69, run_sameAddr_same]
theorem eqlIn_ptn (d c : Nat) (w : World) : (Op.equalIn (d + 1) 69 pn (pt c)).run Try.prog w = .ok false w := by
  simp [Op.equalIn, run_underlying Try.underlying69]
theorem eqlIn_ne (d a c : Nat) (w : World) (ca cc : Array Value) (ta tc : TypeId) (hne : ¬ a = c) (ha : w.heap[a]? = some (.cells ca ta (0, 0))) (hc : w.heap[c]? = some (.cells cc tc (0, 0))) : (Op.equalIn (d + 1) 69 (pt a) (pt c)).run Try.prog w = .ok false w := by
  have h := run_sameAddr_other (P := Try.prog) (w := w) (a := ⟨a, 0, none⟩) (b := ⟨c, 0, none⟩) (fun e => hne (by injection e)) ha hc
  simp [Op.equalIn, run_underlying Try.underlying69, h]
theorem eqlE_same (a : Nat) (w : World) : (Op.equal 69 (pt a) (pt a)).run Try.prog w = .ok true w := eqlIn_same 9999 a w
theorem eqlE_ptn (c : Nat) (w : World) : (Op.equal 69 pn (pt c)).run Try.prog w = .ok false w := eqlIn_ptn 9999 c w
theorem eqlE_ne (a c : Nat) (w : World) (ca cc : Array Value) (ta tc : TypeId) (hne : ¬ a = c) (ha : w.heap[a]? = some (.cells ca ta (0, 0))) (hc : w.heap[c]? = some (.cells cc tc (0, 0))) : (Op.equal 69 (pt a) (pt c)).run Try.prog w = .ok false w := eqlIn_ne 9999 a c w ca cc ta tc hne ha hc
theorem eql_pt (a : Nat) (w : World) : (binOp .eql 69 (pt a) (pt a)).run Try.prog w = .ok (.bool true) w := by
  simp only [binOp]
  simp [eqlE_same]
theorem eql_ptn (c : Nat) (w : World) : (binOp .eql 69 pn (pt c)).run Try.prog w = .ok (.bool false) w := by
  simp only [binOp]
  simp [eqlE_ptn]
theorem eql_ne (a c : Nat) (w : World) (ca cc : Array Value) (ta tc : TypeId) (hne : ¬ a = c) (ha : w.heap[a]? = some (.cells ca ta (0, 0))) (hc : w.heap[c]? = some (.cells cc tc (0, 0))) : (binOp .eql 69 (pt a) (pt c)).run Try.prog w = .ok (.bool false) w := by
  simp only [binOp]
  simp [eqlE_ne a c w ca cc ta tc hne ha hc]
theorem bear_nil (n x : Nat) (tn tx : T) (bn kn fx bx kx : Value) (w : World) (hn : w.heap[n]? = some (nd tn pn bn kn)) (hx : w.heap[x]? = some (nd tx fx bx kx)) (hne : ¬ n = x) :
    Calls Try.prog 55 #[pt n, pt x] w fun e w' => e = .returned (.tuple #[]) ∧ w'.heap[n]? = some (nd tn (pt x) bn kn) ∧ w'.heap[x]? = some (nd tx fx pn (pt n)) ∧ Off (fun k => k = n ∨ k = x) w w' := by
  obtain ⟨⟨_, _, _, n3, n4, n5⟩, nz3, nz4, nz5⟩ := nd_cells hn
  obtain ⟨⟨_, _, _, x3, x4, x5⟩, xz3, xz4, xz5⟩ := nd_cells hx
  have hne2 : ¬ x = n := fun e => hne e.symm
  have HE : Hid ((((w.setCell ⟨x, 5, none⟩ (pt n)).setCell ⟨x, 4, none⟩ pn).setCell ⟨n, 3, none⟩ (pt x)).heap[n]? = some (nd tn (pt x) bn kn) ∧ (((w.setCell ⟨x, 5, none⟩ (pt n)).setCell ⟨x, 4, none⟩ pn).setCell ⟨n, 3, none⟩ (pt x)).heap[x]? = some (nd tx fx pn (pt n)) ∧ Off (fun k => k = n ∨ k = x) w (((w.setCell ⟨x, 5, none⟩ (pt n)).setCell ⟨x, 4, none⟩ pn).setCell ⟨n, 3, none⟩ (pt x))) := Lib.hid
    ⟨nd3 (set_other (set_other hn hne _) hne _) _, set_other (nd4 (nd5 hx _) _) hne2 _, off_set (off_set (off_set (Off.refl _ _) (.inr rfl) _) (.inr rfl) _) (.inl rfl) _⟩
  clear hn hx
  go_enter Try.func55, Try.ntmps55
  go_wp2
  go_end0
  exact ⟨rfl, HE.out⟩
theorem bear_some (n x c : Nat) (tn tx tc : T) (bn kn fx bx kx fc bc kc : Value) (w : World) (hn : w.heap[n]? = some (nd tn (pt c) bn kn)) (hx : w.heap[x]? = some (nd tx fx bx kx)) (hc : w.heap[c]? = some (nd tc fc bc kc)) (hne : ¬ n = x) (hcn : ¬ c = n) (hcx : ¬ c = x) :
    Calls Try.prog 55 #[pt n, pt x] w fun e w' => e = .returned (.tuple #[]) ∧ w'.heap[n]? = some (nd tn (pt x) bn kn) ∧ w'.heap[x]? = some (nd tx fx (pt c) (pt n)) ∧ w'.heap[c]? = some (nd tc fc bc (pt x)) ∧ Off (fun k => k = n ∨ k = x ∨ k = c) w w' := by
  obtain ⟨⟨_, _, _, n3, n4, n5⟩, nz3, nz4, nz5⟩ := nd_cells hn
  obtain ⟨⟨_, _, _, x3, x4, x5⟩, xz3, xz4, xz5⟩ := nd_cells hx
  obtain ⟨⟨_, _, _, c3, c4, c5⟩, cz3, cz4, cz5⟩ := nd_cells hc
  have hne2 : ¬ x = n := fun e => hne e.symm
  have hcn2 : ¬ n = c := fun e => hcn e.symm
  have hcx2 : ¬ x = c := fun e => hcx e.symm
  obtain ⟨W, eW⟩ : ∃ W, (((w.setCell ⟨x, 5, none⟩ (pt n)).setCell ⟨x, 4, none⟩ (pt c)).setCell ⟨c, 5, none⟩ (pt x)).setCell ⟨n, 3, none⟩ (pt x) = W := ⟨_, rfl⟩
  have HE : Hid (W.heap[n]? = some (nd tn (pt x) bn kn) ∧ W.heap[x]? = some (nd tx fx (pt c) (pt n)) ∧ W.heap[c]? = some (nd tc fc bc (pt x)) ∧ Off (fun k => k = n ∨ k = x ∨ k = c) w W) := Lib.hid (by
    subst eW
    exact ⟨nd3 (set_other (set_other (set_other hn hne _) hne _) hcn2 _) _, set_other (set_other (nd4 (nd5 hx _) _) hcx2 _) hne2 _, set_other (nd5 (set_other (set_other hc hcx _) hcx _) _) hcn _, off_set (off_set (off_set (off_set (Off.refl _ _) (.inr (.inl rfl)) _) (.inr (.inl rfl)) _) (.inr (.inr rfl)) _) (.inl rfl) _⟩)
  have HW := Lib.hid eW
  clear hn hx hc eW
  go_enter Try.func55, Try.ntmps55
  go_wp2
  go_end0
  refine ⟨rfl, ?_⟩
  have := HE.out
  rw [← HW.out] at this
  exact this
set_option maxRecDepth 100000 in
set_option maxHeartbeats 1000000 in
theorem leaveF_nil (a p : Nat) (t tp : T) (fa bp kp : Value) (w : World) (ha : w.heap[a]? = some (nd t fa pn (pt p))) (hp : w.heap[p]? = some (nd tp (pt a) bp kp)) (hap : ¬ a = p) :
    Calls Try.prog 63 #[pt a] w fun e W => e = .returned (.tuple #[]) ∧ W.heap[a]? = some (nd t fa pn pn) ∧ W.heap[p]? = some (nd tp pn bp kp) ∧ Off (fun k => k = a ∨ k = p) w W := by
  obtain ⟨⟨_, _, _, a3, a4, a5⟩, az3, az4, az5⟩ := nd_cells ha
  obtain ⟨⟨_, _, _, p3, p4, p5⟩, pz3, pz4, pz5⟩ := nd_cells hp
  have hpa : ¬ p = a := fun e => hap e.symm
  obtain ⟨W, eW⟩ : ∃ W, ((w.setCell ⟨p, 3, none⟩ pn).setCell ⟨a, 5, none⟩ pn).setCell ⟨a, 4, none⟩ pn = W := ⟨_, rfl⟩
  have HE : Hid (W.heap[a]? = some (nd t fa pn pn) ∧ W.heap[p]? = some (nd tp pn bp kp) ∧ Off (fun k => k = a ∨ k = p) w W) := Lib.hid (by
    subst eW
    exact ⟨nd4 (nd5 (set_other ha hap _) _) _, set_other (set_other (nd3 hp _) hpa _) hpa _, off_set (off_set (off_set (Off.refl _ _) (.inr rfl) _) (.inl rfl) _) (.inl rfl) _⟩)
  have hq := eql_pt a
  have HW := Lib.hid eW
  clear ha hp eW
  go_enter Try.func63, Try.ntmps63
  go_wp2
  go_region
  go_wp2
  go_end0
  refine ⟨rfl, ?_⟩
  have := HE.out
  rw [← HW.out] at this
  exact ⟨this.1, this.2.1, this.2.2.drew⟩
set_option maxRecDepth 100000 in
set_option maxHeartbeats 1000000 in
theorem leaveF_some (a p b : Nat) (t tp tb : T) (fa bp kp fb bb kb : Value) (w : World) (ha : w.heap[a]? = some (nd t fa (pt b) (pt p))) (hp : w.heap[p]? = some (nd tp (pt a) bp kp)) (hb : w.heap[b]? = some (nd tb fb bb kb)) (hap : ¬ a = p) (hba : ¬ b = a) (hbp : ¬ b = p) :
    Calls Try.prog 63 #[pt a] w fun e W => e = .returned (.tuple #[]) ∧ W.heap[a]? = some (nd t fa pn pn) ∧ W.heap[p]? = some (nd tp (pt b) bp kp) ∧ W.heap[b]? = some (nd tb fb bb (pt p)) ∧ Off (fun k => k = a ∨ k = p ∨ k = b) w W := by
  obtain ⟨⟨_, _, _, a3, a4, a5⟩, az3, az4, az5⟩ := nd_cells ha
  obtain ⟨⟨_, _, _, p3, p4, p5⟩, pz3, pz4, pz5⟩ := nd_cells hp
  obtain ⟨⟨_, _, _, b3, b4, b5⟩, bz3, bz4, bz5⟩ := nd_cells hb
  have hab : ¬ a = b := fun e => hba e.symm
  have hpb : ¬ p = b := fun e => hbp e.symm
  have hpa : ¬ p = a := fun e => hap e.symm
  obtain ⟨W, eW⟩ : ∃ W, (((w.setCell ⟨b, 5, none⟩ (pt p)).setCell ⟨p, 3, none⟩ (pt b)).setCell ⟨a, 5, none⟩ pn).setCell ⟨a, 4, none⟩ pn = W := ⟨_, rfl⟩
  have HE : Hid (W.heap[a]? = some (nd t fa pn pn) ∧ W.heap[p]? = some (nd tp (pt b) bp kp) ∧ W.heap[b]? = some (nd tb fb bb (pt p)) ∧ Off (fun k => k = a ∨ k = p ∨ k = b) w W) := Lib.hid (by
    subst eW
    exact ⟨nd4 (nd5 (set_other (set_other ha hab _) hap _) _) _, set_other (set_other (nd3 (set_other hp hpb _) _) hpa _) hpa _, set_other (set_other (set_other (nd5 hb _) hbp _) hba _) hba _, off_set (off_set (off_set (off_set (Off.refl _ _) (.inr (.inr rfl)) _) (.inr (.inl rfl)) _) (.inl rfl) _) (.inl rfl) _⟩)
  have hq := eql_pt a
  have HW := Lib.hid eW
  clear ha hp hb eW
  go_enter Try.func63, Try.ntmps63
  go_wp2
  go_region
  go_wp2
  go_region
  go_wp2
  go_end0
  refine ⟨rfl, ?_⟩
  have := HE.out
  rw [← HW.out] at this
  exact ⟨this.1, this.2.1, this.2.2.1, this.2.2.2.drew.drew⟩
set_option maxRecDepth 100000 in
set_option maxHeartbeats 1000000 in
theorem leaveB_nil (a p : Nat) (t tp : T) (fa  kp : Value) (w : World) (ha : w.heap[a]? = some (nd t fa pn (pt p))) (hp : w.heap[p]? = some (nd tp pn (pt a) kp)) (hap : ¬ a = p) :
    Calls Try.prog 63 #[pt a] w fun e W => e = .returned (.tuple #[]) ∧ W.heap[a]? = some (nd t fa pn pn) ∧ W.heap[p]? = some (nd tp pn pn kp) ∧ Off (fun k => k = a ∨ k = p) w W := by
  obtain ⟨⟨_, _, _, a3, a4, a5⟩, az3, az4, az5⟩ := nd_cells ha
  obtain ⟨⟨_, _, _, p3, p4, p5⟩, pz3, pz4, pz5⟩ := nd_cells hp
  have hpa : ¬ p = a := fun e => hap e.symm
  obtain ⟨W, eW⟩ : ∃ W, ((w.setCell ⟨p, 4, none⟩ pn).setCell ⟨a, 5, none⟩ pn).setCell ⟨a, 4, none⟩ pn = W := ⟨_, rfl⟩
  have HE : Hid (W.heap[a]? = some (nd t fa pn pn) ∧ W.heap[p]? = some (nd tp pn pn kp) ∧ Off (fun k => k = a ∨ k = p) w W) := Lib.hid (by
    subst eW
    exact ⟨nd4 (nd5 (set_other ha hap _) _) _, set_other (set_other (nd4 hp _) hpa _) hpa _, off_set (off_set (off_set (Off.refl _ _) (.inr rfl) _) (.inl rfl) _) (.inl rfl) _⟩)
  have hq := eql_ptn a
  have HW := Lib.hid eW
  clear ha hp eW
  go_enter Try.func63, Try.ntmps63
  go_wp2
  go_region
  go_wp2
  go_end0
  refine ⟨rfl, ?_⟩
  have := HE.out
  rw [← HW.out] at this
  exact ⟨this.1, this.2.1, this.2.2.drew⟩
set_option maxRecDepth 100000 in
set_option maxHeartbeats 1000000 in
theorem leaveB_nil_c (a p c : Nat) (t tp : T) (fa  kp : Value) (w : World) (ha : w.heap[a]? = some (nd t fa pn (pt p))) (hp : w.heap[p]? = some (nd tp (pt c) (pt a) kp)) (hap : ¬ a = p) (hca : ¬ c = a) (cc : Array Value) (hc : w.heap[c]? = some (.cells cc 92 (0, 0))) :
    Calls Try.prog 63 #[pt a] w fun e W => e = .returned (.tuple #[]) ∧ W.heap[a]? = some (nd t fa pn pn) ∧ W.heap[p]? = some (nd tp (pt c) pn kp) ∧ Off (fun k => k = a ∨ k = p) w W := by
  obtain ⟨⟨_, _, _, a3, a4, a5⟩, az3, az4, az5⟩ := nd_cells ha
  obtain ⟨⟨_, _, _, p3, p4, p5⟩, pz3, pz4, pz5⟩ := nd_cells hp
  have hac : ¬ a = c := fun e => hca e.symm
  have hpa : ¬ p = a := fun e => hap e.symm
  obtain ⟨W, eW⟩ : ∃ W, ((w.setCell ⟨p, 4, none⟩ pn).setCell ⟨a, 5, none⟩ pn).setCell ⟨a, 4, none⟩ pn = W := ⟨_, rfl⟩
  have HE : Hid (W.heap[a]? = some (nd t fa pn pn) ∧ W.heap[p]? = some (nd tp (pt c) pn kp) ∧ Off (fun k => k = a ∨ k = p) w W) := Lib.hid (by
    subst eW
    exact ⟨nd4 (nd5 (set_other ha hap _) _) _, set_other (set_other (nd4 hp _) hpa _) hpa _, off_set (off_set (off_set (Off.refl _ _) (.inr rfl) _) (.inl rfl) _) (.inl rfl) _⟩)
  have hq := eql_ne c a w _ _ _ _ hca hc ha
  clear hc
  have HW := Lib.hid eW
  clear ha hp eW
  go_enter Try.func63, Try.ntmps63
  go_wp2
  go_region
  go_wp2
  go_end0
  refine ⟨rfl, ?_⟩
  have := HE.out
  rw [← HW.out] at this
  exact ⟨this.1, this.2.1, this.2.2.drew⟩
set_option maxRecDepth 100000 in
set_option maxHeartbeats 1000000 in
theorem leaveB_some (a p b : Nat) (t tp tb : T) (fa  kp fb bb kb : Value) (w : World) (ha : w.heap[a]? = some (nd t fa (pt b) (pt p))) (hp : w.heap[p]? = some (nd tp pn (pt a) kp)) (hb : w.heap[b]? = some (nd tb fb bb kb)) (hap : ¬ a = p) (hba : ¬ b = a) (hbp : ¬ b = p) :
    Calls Try.prog 63 #[pt a] w fun e W => e = .returned (.tuple #[]) ∧ W.heap[a]? = some (nd t fa pn pn) ∧ W.heap[p]? = some (nd tp pn (pt b) kp) ∧ W.heap[b]? = some (nd tb fb bb (pt p)) ∧ Off (fun k => k = a ∨ k = p ∨ k = b) w W := by
  obtain ⟨⟨_, _, _, a3, a4, a5⟩, az3, az4, az5⟩ := nd_cells ha
  obtain ⟨⟨_, _, _, p3, p4, p5⟩, pz3, pz4, pz5⟩ := nd_cells hp
  obtain ⟨⟨_, _, _, b3, b4, b5⟩, bz3, bz4, bz5⟩ := nd_cells hb
  have hab : ¬ a = b := fun e => hba e.symm
  have hpb : ¬ p = b := fun e => hbp e.symm
  have hpa : ¬ p = a := fun e => hap e.symm
  obtain ⟨W, eW⟩ : ∃ W, (((w.setCell ⟨b, 5, none⟩ (pt p)).setCell ⟨p, 4, none⟩ (pt b)).setCell ⟨a, 5, none⟩ pn).setCell ⟨a, 4, none⟩ pn = W := ⟨_, rfl⟩
  have HE : Hid (W.heap[a]? = some (nd t fa pn pn) ∧ W.heap[p]? = some (nd tp pn (pt b) kp) ∧ W.heap[b]? = some (nd tb fb bb (pt p)) ∧ Off (fun k => k = a ∨ k = p ∨ k = b) w W) := Lib.hid (by
    subst eW
    exact ⟨nd4 (nd5 (set_other (set_other ha hab _) hap _) _) _, set_other (set_other (nd4 (set_other hp hpb _) _) hpa _) hpa _, set_other (set_other (set_other (nd5 hb _) hbp _) hba _) hba _, off_set (off_set (off_set (off_set (Off.refl _ _) (.inr (.inr rfl)) _) (.inr (.inl rfl)) _) (.inl rfl) _) (.inl rfl) _⟩)
  have hq := eql_ptn a
  have HW := Lib.hid eW
  clear ha hp hb eW
  go_enter Try.func63, Try.ntmps63
  go_wp2
  go_region
  go_wp2
  go_region
  go_wp2
  go_end0
  refine ⟨rfl, ?_⟩
  have := HE.out
  rw [← HW.out] at this
  exact ⟨this.1, this.2.1, this.2.2.1, this.2.2.2.drew.drew⟩
set_option maxRecDepth 100000 in
set_option maxHeartbeats 1000000 in
theorem leaveB_some_c (a p b c : Nat) (t tp tb : T) (fa  kp fb bb kb : Value) (w : World) (ha : w.heap[a]? = some (nd t fa (pt b) (pt p))) (hp : w.heap[p]? = some (nd tp (pt c) (pt a) kp)) (hb : w.heap[b]? = some (nd tb fb bb kb)) (hap : ¬ a = p) (hba : ¬ b = a) (hbp : ¬ b = p) (hca : ¬ c = a) (cc : Array Value) (hc : w.heap[c]? = some (.cells cc 92 (0, 0))) (hcb : ¬ c = b) :
    Calls Try.prog 63 #[pt a] w fun e W => e = .returned (.tuple #[]) ∧ W.heap[a]? = some (nd t fa pn pn) ∧ W.heap[p]? = some (nd tp (pt c) (pt b) kp) ∧ W.heap[b]? = some (nd tb fb bb (pt p)) ∧ Off (fun k => k = a ∨ k = p ∨ k = b) w W := by
  obtain ⟨⟨_, _, _, a3, a4, a5⟩, az3, az4, az5⟩ := nd_cells ha
  obtain ⟨⟨_, _, _, p3, p4, p5⟩, pz3, pz4, pz5⟩ := nd_cells hp
  obtain ⟨⟨_, _, _, b3, b4, b5⟩, bz3, bz4, bz5⟩ := nd_cells hb
  have hab : ¬ a = b := fun e => hba e.symm
  have hpb : ¬ p = b := fun e => hbp e.symm
  have hac : ¬ a = c := fun e => hca e.symm
  have hpa : ¬ p = a := fun e => hap e.symm
  obtain ⟨W, eW⟩ : ∃ W, (((w.setCell ⟨b, 5, none⟩ (pt p)).setCell ⟨p, 4, none⟩ (pt b)).setCell ⟨a, 5, none⟩ pn).setCell ⟨a, 4, none⟩ pn = W := ⟨_, rfl⟩
  have HE : Hid (W.heap[a]? = some (nd t fa pn pn) ∧ W.heap[p]? = some (nd tp (pt c) (pt b) kp) ∧ W.heap[b]? = some (nd tb fb bb (pt p)) ∧ Off (fun k => k = a ∨ k = p ∨ k = b) w W) := Lib.hid (by
    subst eW
    exact ⟨nd4 (nd5 (set_other (set_other ha hab _) hap _) _) _, set_other (set_other (nd4 (set_other hp hpb _) _) hpa _) hpa _, set_other (set_other (set_other (nd5 hb _) hbp _) hba _) hba _, off_set (off_set (off_set (off_set (Off.refl _ _) (.inr (.inr rfl)) _) (.inr (.inl rfl)) _) (.inl rfl) _) (.inl rfl) _⟩)
  have hq := eql_ne c a (w.setCell ⟨b, 5, none⟩ (pt p)) _ _ _ _ hca (set_other hc hcb _) (set_other ha hab _)
  have hq2 := eql_ne c a (w.setCell ⟨b, 5, none⟩ (pt p)).drew _ _ _ _ hca (set_other hc hcb _) (set_other ha hab _)
  clear hc
  have HW := Lib.hid eW
  clear ha hp hb eW
  go_enter Try.func63, Try.ntmps63
  go_wp2
  go_region
  go_wp2
  go_region
  go_wp2
  go_end0
  refine ⟨rfl, ?_⟩
  have := HE.out
  rw [← HW.out] at this
  exact ⟨this.1, this.2.1, this.2.2.1, this.2.2.2.drew.drew⟩
theorem Is.at {w : World} {k : Option Nat} {a : Nat} {t : T} {l r : Tr} (h : Is w k (.node a t l r)) : w.heap[a]? = some (nd t (ptv l.rt) (ptv r.rt) (ptv k)) := h.1
theorem rt_cases (x : Tr) : (x = .nil ∧ x.rt = none) ∨ ∃ b s m q, x = .node b s m q ∧ x.rt = some b := by
  cases x with
  | nil => exact .inl ⟨rfl, rfl⟩
  | node b s m q => exact .inr ⟨b, s, m, q, rfl, rfl⟩
theorem rt_mem {x : Tr} {b : Nat} (h : x.rt = some b) : b ∈ x.ads := by
  cases x with
  | nil => cases h
  | node c _ _ _ => injection h with h; subst h; rw [Tr.ads_node]; simp
/-- What is known to be apart where one stands amidst a tree. -/
theorem apart {f : Fr} {c : List Fr} {a : Nat} {t : T} {l r : Tr} (hn : (plug (f :: c) (.node a t l r)).ads.Nodup) :
    ¬ a = f.a ∧ a ∉ f.o.ads ∧ f.a ∉ f.o.ads ∧ (∀ b ∈ r.ads, ¬ b = a ∧ ¬ b = f.a ∧ b ∉ f.o.ads) := by
  have hn2 := (plug_ads (f :: c) (.node a t l r)).nodup_iff.1 hn
  have e : psC (f :: c) = (f.a, f.t) :: (f.o.ps ++ psC c) := rfl
  rw [Tr.ads_node, e] at hn2
  simp only [List.map_cons, List.map_append, List.cons_append, List.nodup_cons, List.nodup_append, List.mem_append, List.mem_cons, not_or] at hn2
  obtain ⟨⟨⟨n1, n2⟩, n3, n4, n5⟩, ⟨n6, n7, n8⟩, ⟨⟨n9, n10⟩, n11, n12, n13⟩, n14⟩ := hn2
  refine ⟨n3, n4, n9, fun b hb => ⟨fun e => n2 (e ▸ hb), fun e => n14 b (.inr hb) f.a (.inl rfl) e, fun e => n14 b (.inr hb) b (.inr (.inl e)) rfl⟩⟩
theorem leave_any (f : Fr) (c : List Fr) (a : Nat) (t : T) (l r : Tr) (w : World) (h : Is w none (plug (f :: c) (.node a t l r))) (hn : (plug (f :: c) (.node a t l r)).ads.Nodup) :
    Calls Try.prog 63 #[pt a] w fun e w' => e = .returned (.tuple #[]) ∧ Is w' none (plug (f :: c) r) ∧ Is w' none (.node a t l .nil) ∧ Off (fun k => k = a ∨ k = f.a ∨ r.rt = some k) w w' := by
  obtain ⟨h1, h2⟩ := (is_plug w (f :: c) (.node a t l r)).1 h
  obtain ⟨n1, n2, n3, n4⟩ := apart hn
  have hp := h1.1
  have ha := h2.1
  have key : ∀ w', Off (fun k => k = a ∨ k = f.a ∨ r.rt = some k) w w' → w'.heap[a]? = some (nd t (ptv l.rt) pn pn) →
      w'.heap[f.a]? = some (nd f.t (ptv (if f.d = true then r.rt else f.o.rt)) (ptv (if f.d = true then f.o.rt else r.rt)) (ptv (bk c))) →
      (∀ b s m q, r = .node b s m q → w'.heap[b]? = some (nd s (ptv m.rt) (ptv q.rt) (ptv (some f.a)))) →
      Is w' none (plug (f :: c) r) ∧ Is w' none (.node a t l .nil) ∧ Off (fun k => k = a ∨ k = f.a ∨ r.rt = some k) w w' := fun w' o e1 e2 e3 =>
    ⟨(left h hn o e1 e2 e3).1, (left h hn o e1 e2 e3).2, o⟩
  obtain ⟨d, p, tp, o⟩ := f
  simp only [Tr.rt] at hp
  simp only at n1 n2 n3 n4 ha key
  have hoc : ∀ b s m q, o = .node b s m q → w.heap[b]? = some (nd s (ptv m.rt) (ptv q.rt) (ptv (some p))) := fun b s m q e => by
    have := h1.2.1
    simp only at this
    rw [e] at this
    exact this.1
  cases d with
  | true =>
    simp only [if_true] at hp key
    rcases rt_cases r with ⟨rfl, _⟩ | ⟨b, s, m, q, rfl, _⟩
    · refine (leaveF_nil a p t tp _ _ _ w ha hp n1).mono fun e W ⟨he, e1, e2, e3⟩ => ⟨he, key W (e3.mono fun i _ e => by rcases e with e | e; exact .inl e; exact .inr (.inl e)) e1 e2 (fun _ _ _ _ e => by cases e)⟩
    · have hb := h2.2.2.1
      obtain ⟨m1, m2, _⟩ := n4 b (by rw [Tr.ads_node]; simp)
      refine (leaveF_some a p b t tp s _ _ _ _ _ _ w ha hp hb n1 m1 m2).mono fun e W ⟨he, e1, e2, e4, e3⟩ => ⟨he, key W (e3.mono fun i _ e => by rcases e with e | e | e; exact .inl e; exact .inr (.inl e); exact .inr (.inr (by rw [e]; rfl))) e1 e2 (fun _ _ _ _ e => by cases e; exact e4)⟩
  | false =>
    simp only [Bool.false_eq_true, if_false] at hp key
    rcases rt_cases o with ⟨rfl, _⟩ | ⟨b2, s2, m2, q2, rfl, _⟩
    · rcases rt_cases r with ⟨rfl, _⟩ | ⟨b, s, m, q, rfl, _⟩
      · refine (leaveB_nil a p t tp _ _ w ha hp n1).mono fun e W ⟨he, e1, e2, e3⟩ => ⟨he, key W (e3.mono fun i _ e => by rcases e with e | e; exact .inl e; exact .inr (.inl e)) e1 e2 (fun _ _ _ _ e => by cases e)⟩
      · have hb := h2.2.2.1
        obtain ⟨m1, m2, _⟩ := n4 b (by rw [Tr.ads_node]; simp)
        refine (leaveB_some a p b t tp s _ _ _ _ _ w ha hp hb n1 m1 m2).mono fun e W ⟨he, e1, e2, e4, e3⟩ => ⟨he, key W (e3.mono fun i _ e => by rcases e with e | e | e; exact .inl e; exact .inr (.inl e); exact .inr (.inr (by rw [e]; rfl))) e1 e2 (fun _ _ _ _ e => by cases e; exact e4)⟩
    · have hc2 := hoc _ _ _ _ rfl
      have hca : ¬ b2 = a := fun e => n2 (by rw [← e, Tr.ads_node]; simp)
      rcases rt_cases r with ⟨rfl, _⟩ | ⟨b, s, m, q, rfl, _⟩
      · refine (leaveB_nil_c a p b2 t tp _ _ w ha hp n1 hca _ hc2).mono fun e W ⟨he, e1, e2, e3⟩ => ⟨he, key W (e3.mono fun i _ e => by rcases e with e | e; exact .inl e; exact .inr (.inl e)) e1 e2 (fun _ _ _ _ e => by cases e)⟩
      · have hb := h2.2.2.1
        obtain ⟨m1, m2, m3⟩ := n4 b (by rw [Tr.ads_node]; simp)
        refine (leaveB_some_c a p b b2 t tp s _ _ _ _ _ w ha hp hb n1 m1 m2 hca _ hc2 (fun e => m3 (by rw [← e, Tr.ads_node]; simp))).mono fun e W ⟨he, e1, e2, e4, e3⟩ => ⟨he, key W (e3.mono fun i _ e => by rcases e with e | e | e; exact .inl e; exact .inr (.inl e); exact .inr (.inr (by rw [e]; rfl))) e1 e2 (fun _ _ _ _ e => by cases e; exact e4)⟩
end Go.Proofs.Ytdlfppdekllloaa
