/-
  NARROWER THAN 'FOR EVERY INPUT', by the rows' own cells (each row's printed sentence says how): BitmapPuts: laid · BitmapLists: laid · BitmapTwo: laid · BitmapNexts: laid · BitmapRounds: laid · BitmapGaps: laid.
  DERIVED. THE GIVEN ROWS OF THIS SEAT. 6 by the template 'for every input the law returns true; each argument reads behind the call as it read before'; 0 by the template 'total and deterministic' (their statements: YthgiknkglnagbaaDoorTotals.lean).
  GIVEN WITH THE SEED: the statements are not yours to turn. If you find one false, say at which input.
  Laid BY PROGRAM, IN A SANDBOX (cutbox-rows.mjs): the forced cells as the released guide's own fill.sh prints them over the translation e8f5a1c382fca371… (all of the seat's roots in one cut). By AI agents, Wed Nov 11 2026. No macro, syntax, notation, axiom, sorry.
-/
import Derived.Test.YthgiknkglnagbaaDoorChecked
import GoSem.Claim
import GoSem.ClaimJoined
import GoSem.ClaimMapViews
import Derived.JoinedTies
import Derived.KernelRfl
namespace Go.Proofs.YthgiknkglnagbaaDoor
/- THE CELL 'sum', in the pinned program and in every row, IS THE sha256 OF THE DUMP (.gsa) THAT YthgiknkglnagbaaDoorProg.lean LOADS. Nothing in Lean hashes anything: it is a label: what it is worth is what the hold of that sum in a sandbox is worth. -/
noncomputable def Tryd.pinned : Pinned := { name := "ythgiknkglnagbaadoor", sum := "e8f5a1c382fca371529cf6695435f67f8d3def26232b7ba56223deca3681d3fe", checked := Tryd.checked }
namespace Rows
def none {H : Type} : Left H := { results := [], args := [] }

/- WHAT THE LISTED PACKAGE-LEVEL VARIABLES READ AS WHEN THE CALL BEGINS. Each datum BY PROGRAM (the guide's laid-datum.mjs) off the statement by which the dump's own 'gosem.cut.vars' lays the variable. In a bare row this is a premise. The card (YthgiknkglnagbaaDoorCards.lean) ties it to the program's text. -/
def laid_math_bits_deBruijn64tab {H : Type} : DataW H := .agg [.lit (.int .u8 0), .lit (.int .u8 1), .lit (.int .u8 56), .lit (.int .u8 2), .lit (.int .u8 57), .lit (.int .u8 49), .lit (.int .u8 28), .lit (.int .u8 3), .lit (.int .u8 61), .lit (.int .u8 58), .lit (.int .u8 42), .lit (.int .u8 50), .lit (.int .u8 38), .lit (.int .u8 29), .lit (.int .u8 17), .lit (.int .u8 4), .lit (.int .u8 62), .lit (.int .u8 47), .lit (.int .u8 59), .lit (.int .u8 36), .lit (.int .u8 45), .lit (.int .u8 43), .lit (.int .u8 51), .lit (.int .u8 22), .lit (.int .u8 53), .lit (.int .u8 39), .lit (.int .u8 33), .lit (.int .u8 30), .lit (.int .u8 24), .lit (.int .u8 18), .lit (.int .u8 12), .lit (.int .u8 5), .lit (.int .u8 63), .lit (.int .u8 55), .lit (.int .u8 48), .lit (.int .u8 27), .lit (.int .u8 60), .lit (.int .u8 41), .lit (.int .u8 37), .lit (.int .u8 16), .lit (.int .u8 46), .lit (.int .u8 35), .lit (.int .u8 44), .lit (.int .u8 21), .lit (.int .u8 52), .lit (.int .u8 32), .lit (.int .u8 23), .lit (.int .u8 11), .lit (.int .u8 54), .lit (.int .u8 26), .lit (.int .u8 40), .lit (.int .u8 15), .lit (.int .u8 34), .lit (.int .u8 20), .lit (.int .u8 31), .lit (.int .u8 10), .lit (.int .u8 25), .lit (.int .u8 14), .lit (.int .u8 19), .lit (.int .u8 9), .lit (.int .u8 13), .lit (.int .u8 8), .lit (.int .u8 7), .lit (.int .u8 6)]

/-- 'complinelaw02.BitmapPuts': WHATEVER THE INPUT: true; the input reads as it did. -/
def bitmapPutsSpec : ChangeSpec := { name := "bitmapPuts", fn := fun _ => fun
  | [d1, d2, d3] => { results := [.lit (.bool true)], args := [d1, d2, d3] }
  | _ => none }
def bitmapPutsRow : OpenClaim := { program := "ythgiknkglnagbaadoor", sum := "e8f5a1c382fca371529cf6695435f67f8d3def26232b7ba56223deca3681d3fe", func := "compline/complinelaw02.BitmapPuts", spec := "bitmapPuts", unfollowed := true, recurses := true, named := ["math/bits.deBruijn64tab"], apart := false, laid := [("math/bits.deBruijn64tab", laid_math_bits_deBruijn64tab)] }
def BitmapPutsSaid : Prop := bitmapPutsRow.holds Tryd.pinned (OpenSpec.ofChange bitmapPutsSpec)

/-- ITS FALSE NEIGHBOUR: 'it returns false'. Refute it at one input. -/
def bitmapPutsWrong : ChangeSpec := { name := "bitmapPuts", fn := fun _ => fun
  | [d1, d2, d3] => { results := [.lit (.bool false)], args := [d1, d2, d3] }
  | _ => none }
def BitmapPutsWrongFalsely : Prop := bitmapPutsRow.holds Tryd.pinned (OpenSpec.ofChange bitmapPutsWrong)

/-- 'complinelaw02.BitmapLists': WHATEVER THE INPUT: true; the input reads as it did. -/
def bitmapListsSpec : ChangeSpec := { name := "bitmapLists", fn := fun _ => fun
  | [d1, d2] => { results := [.lit (.bool true)], args := [d1, d2] }
  | _ => none }
def bitmapListsRow : OpenClaim := { program := "ythgiknkglnagbaadoor", sum := "e8f5a1c382fca371529cf6695435f67f8d3def26232b7ba56223deca3681d3fe", func := "compline/complinelaw02.BitmapLists", spec := "bitmapLists", unfollowed := true, recurses := true, named := ["math/bits.deBruijn64tab"], apart := false, laid := [("math/bits.deBruijn64tab", laid_math_bits_deBruijn64tab)] }
def BitmapListsSaid : Prop := bitmapListsRow.holds Tryd.pinned (OpenSpec.ofChange bitmapListsSpec)

/-- ITS FALSE NEIGHBOUR: 'it returns false'. Refute it at one input. -/
def bitmapListsWrong : ChangeSpec := { name := "bitmapLists", fn := fun _ => fun
  | [d1, d2] => { results := [.lit (.bool false)], args := [d1, d2] }
  | _ => none }
def BitmapListsWrongFalsely : Prop := bitmapListsRow.holds Tryd.pinned (OpenSpec.ofChange bitmapListsWrong)

/-- 'complinelaw02.BitmapTwo': WHATEVER THE INPUT: true; the input reads as it did. -/
def bitmapTwoSpec : ChangeSpec := { name := "bitmapTwo", fn := fun _ => fun
  | [d1, d2, d3] => { results := [.lit (.bool true)], args := [d1, d2, d3] }
  | _ => none }
def bitmapTwoRow : OpenClaim := { program := "ythgiknkglnagbaadoor", sum := "e8f5a1c382fca371529cf6695435f67f8d3def26232b7ba56223deca3681d3fe", func := "compline/complinelaw02.BitmapTwo", spec := "bitmapTwo", unfollowed := true, recurses := true, named := ["math/bits.deBruijn64tab"], apart := false, laid := [("math/bits.deBruijn64tab", laid_math_bits_deBruijn64tab)] }
def BitmapTwoSaid : Prop := bitmapTwoRow.holds Tryd.pinned (OpenSpec.ofChange bitmapTwoSpec)

/-- ITS FALSE NEIGHBOUR: 'it returns false'. Refute it at one input. -/
def bitmapTwoWrong : ChangeSpec := { name := "bitmapTwo", fn := fun _ => fun
  | [d1, d2, d3] => { results := [.lit (.bool false)], args := [d1, d2, d3] }
  | _ => none }
def BitmapTwoWrongFalsely : Prop := bitmapTwoRow.holds Tryd.pinned (OpenSpec.ofChange bitmapTwoWrong)

/-- 'complinelaw02.BitmapNexts': WHATEVER THE INPUT: true; the input reads as it did. -/
def bitmapNextsSpec : ChangeSpec := { name := "bitmapNexts", fn := fun _ => fun
  | [d1, d2] => { results := [.lit (.bool true)], args := [d1, d2] }
  | _ => none }
def bitmapNextsRow : OpenClaim := { program := "ythgiknkglnagbaadoor", sum := "e8f5a1c382fca371529cf6695435f67f8d3def26232b7ba56223deca3681d3fe", func := "compline/complinelaw02.BitmapNexts", spec := "bitmapNexts", unfollowed := true, recurses := true, named := ["math/bits.deBruijn64tab"], apart := false, laid := [("math/bits.deBruijn64tab", laid_math_bits_deBruijn64tab)] }
def BitmapNextsSaid : Prop := bitmapNextsRow.holds Tryd.pinned (OpenSpec.ofChange bitmapNextsSpec)

/-- ITS FALSE NEIGHBOUR: 'it returns false'. Refute it at one input. -/
def bitmapNextsWrong : ChangeSpec := { name := "bitmapNexts", fn := fun _ => fun
  | [d1, d2] => { results := [.lit (.bool false)], args := [d1, d2] }
  | _ => none }
def BitmapNextsWrongFalsely : Prop := bitmapNextsRow.holds Tryd.pinned (OpenSpec.ofChange bitmapNextsWrong)

/-- 'complinelaw02.BitmapRounds': WHATEVER THE INPUT: true; the input reads as it did. -/
def bitmapRoundsSpec : ChangeSpec := { name := "bitmapRounds", fn := fun _ => fun
  | [d1, d2, d3] => { results := [.lit (.bool true)], args := [d1, d2, d3] }
  | _ => none }
def bitmapRoundsRow : OpenClaim := { program := "ythgiknkglnagbaadoor", sum := "e8f5a1c382fca371529cf6695435f67f8d3def26232b7ba56223deca3681d3fe", func := "compline/complinelaw02.BitmapRounds", spec := "bitmapRounds", unfollowed := true, recurses := true, named := ["math/bits.deBruijn64tab"], apart := false, laid := [("math/bits.deBruijn64tab", laid_math_bits_deBruijn64tab)] }
def BitmapRoundsSaid : Prop := bitmapRoundsRow.holds Tryd.pinned (OpenSpec.ofChange bitmapRoundsSpec)

/-- ITS FALSE NEIGHBOUR: 'it returns false'. Refute it at one input. -/
def bitmapRoundsWrong : ChangeSpec := { name := "bitmapRounds", fn := fun _ => fun
  | [d1, d2, d3] => { results := [.lit (.bool false)], args := [d1, d2, d3] }
  | _ => none }
def BitmapRoundsWrongFalsely : Prop := bitmapRoundsRow.holds Tryd.pinned (OpenSpec.ofChange bitmapRoundsWrong)

/-- 'complinelaw02.BitmapGaps': WHATEVER THE INPUT: true; the input reads as it did. -/
def bitmapGapsSpec : ChangeSpec := { name := "bitmapGaps", fn := fun _ => fun
  | [d1, d2] => { results := [.lit (.bool true)], args := [d1, d2] }
  | _ => none }
def bitmapGapsRow : OpenClaim := { program := "ythgiknkglnagbaadoor", sum := "e8f5a1c382fca371529cf6695435f67f8d3def26232b7ba56223deca3681d3fe", func := "compline/complinelaw02.BitmapGaps", spec := "bitmapGaps", unfollowed := true, recurses := true, named := ["math/bits.deBruijn64tab"], apart := false, laid := [("math/bits.deBruijn64tab", laid_math_bits_deBruijn64tab)] }
def BitmapGapsSaid : Prop := bitmapGapsRow.holds Tryd.pinned (OpenSpec.ofChange bitmapGapsSpec)

/-- ITS FALSE NEIGHBOUR: 'it returns false'. Refute it at one input. -/
def bitmapGapsWrong : ChangeSpec := { name := "bitmapGaps", fn := fun _ => fun
  | [d1, d2] => { results := [.lit (.bool false)], args := [d1, d2] }
  | _ => none }
def BitmapGapsWrongFalsely : Prop := bitmapGapsRow.holds Tryd.pinned (OpenSpec.ofChange bitmapGapsWrong)

/- THE SECOND FORM. 'bulk': how many values and letters a reading holds, each counted each time it is reached (what is shared counts as often as it is met; a slice's spare places count too). A statement '..UptoSaid' is the law's where the arguments, and the package variables that the reading takes, are together of bulk at most 1048576: NARROWER than '..Said'. Prove '..Said' where nothing that the law and all that it calls make is longer than what came in: it says more and counts as full. Else prove '..UptoSaid'. A law counts once. -/
mutual
def uptoBulk {H : Type} : DataW H → Nat
  | .lit (.string bytes) => bytes.length + 1
  | .lit _ => 1
  | .nil => 1
  | .ptr d => uptoBulk d + 1
  | .slice elems spare => uptoBulkAll elems + uptoBulkAll spare + 1
  | .agg parts => uptoBulkAll parts + 1
  | .iface _ d => uptoBulk d + 1
  | .map entries => uptoBulkEntries entries + 1
  | .held _ => 1
def uptoBulkAll {H : Type} : List (DataW H) → Nat
  | [] => 0
  | d :: r => uptoBulk d + uptoBulkAll r
def uptoBulkEntries {H : Type} : List (Lit × DataW H) → Nat
  | [] => 0
  | x :: r => uptoBulkEntry x + uptoBulkEntries r
def uptoBulkEntry {H : Type} : Lit × DataW H → Nat
  | (.string bytes, d) => bytes.length + uptoBulk d + 1
  | (_, d) => uptoBulk d + 1
 end
def uptoSmall : (H : Type) → List (DataW H) → Bool := fun _ ds => decide (uptoBulkAll ds ≤ 1048576)
def OpenSpec.upto (s : _root_.Go.ChangeSpec) : _root_.Go.OpenSpec := { _root_.Go.OpenSpec.ofChange s with cond := some uptoSmall }

/-- 'complinelaw02.BitmapPuts', WHERE WHAT IT READS IS OF BULK AT MOST 1048576: true; the input reads as it did. -/
def bitmapPutsUptoRow : OpenClaim := { program := "ythgiknkglnagbaadoor", sum := "e8f5a1c382fca371529cf6695435f67f8d3def26232b7ba56223deca3681d3fe", func := "compline/complinelaw02.BitmapPuts", spec := "bitmapPuts", unfollowed := true, recurses := true, named := ["math/bits.deBruijn64tab"], apart := false, laid := [("math/bits.deBruijn64tab", laid_math_bits_deBruijn64tab)], narrowed := true }
def BitmapPutsUptoSaid : Prop := bitmapPutsUptoRow.holds Tryd.pinned (OpenSpec.upto bitmapPutsSpec)

/-- 'complinelaw02.BitmapLists', WHERE WHAT IT READS IS OF BULK AT MOST 1048576: true; the input reads as it did. -/
def bitmapListsUptoRow : OpenClaim := { program := "ythgiknkglnagbaadoor", sum := "e8f5a1c382fca371529cf6695435f67f8d3def26232b7ba56223deca3681d3fe", func := "compline/complinelaw02.BitmapLists", spec := "bitmapLists", unfollowed := true, recurses := true, named := ["math/bits.deBruijn64tab"], apart := false, laid := [("math/bits.deBruijn64tab", laid_math_bits_deBruijn64tab)], narrowed := true }
def BitmapListsUptoSaid : Prop := bitmapListsUptoRow.holds Tryd.pinned (OpenSpec.upto bitmapListsSpec)

/-- 'complinelaw02.BitmapTwo', WHERE WHAT IT READS IS OF BULK AT MOST 1048576: true; the input reads as it did. -/
def bitmapTwoUptoRow : OpenClaim := { program := "ythgiknkglnagbaadoor", sum := "e8f5a1c382fca371529cf6695435f67f8d3def26232b7ba56223deca3681d3fe", func := "compline/complinelaw02.BitmapTwo", spec := "bitmapTwo", unfollowed := true, recurses := true, named := ["math/bits.deBruijn64tab"], apart := false, laid := [("math/bits.deBruijn64tab", laid_math_bits_deBruijn64tab)], narrowed := true }
def BitmapTwoUptoSaid : Prop := bitmapTwoUptoRow.holds Tryd.pinned (OpenSpec.upto bitmapTwoSpec)

/-- 'complinelaw02.BitmapNexts', WHERE WHAT IT READS IS OF BULK AT MOST 1048576: true; the input reads as it did. -/
def bitmapNextsUptoRow : OpenClaim := { program := "ythgiknkglnagbaadoor", sum := "e8f5a1c382fca371529cf6695435f67f8d3def26232b7ba56223deca3681d3fe", func := "compline/complinelaw02.BitmapNexts", spec := "bitmapNexts", unfollowed := true, recurses := true, named := ["math/bits.deBruijn64tab"], apart := false, laid := [("math/bits.deBruijn64tab", laid_math_bits_deBruijn64tab)], narrowed := true }
def BitmapNextsUptoSaid : Prop := bitmapNextsUptoRow.holds Tryd.pinned (OpenSpec.upto bitmapNextsSpec)

/-- 'complinelaw02.BitmapRounds', WHERE WHAT IT READS IS OF BULK AT MOST 1048576: true; the input reads as it did. -/
def bitmapRoundsUptoRow : OpenClaim := { program := "ythgiknkglnagbaadoor", sum := "e8f5a1c382fca371529cf6695435f67f8d3def26232b7ba56223deca3681d3fe", func := "compline/complinelaw02.BitmapRounds", spec := "bitmapRounds", unfollowed := true, recurses := true, named := ["math/bits.deBruijn64tab"], apart := false, laid := [("math/bits.deBruijn64tab", laid_math_bits_deBruijn64tab)], narrowed := true }
def BitmapRoundsUptoSaid : Prop := bitmapRoundsUptoRow.holds Tryd.pinned (OpenSpec.upto bitmapRoundsSpec)

/-- 'complinelaw02.BitmapGaps', WHERE WHAT IT READS IS OF BULK AT MOST 1048576: true; the input reads as it did. -/
def bitmapGapsUptoRow : OpenClaim := { program := "ythgiknkglnagbaadoor", sum := "e8f5a1c382fca371529cf6695435f67f8d3def26232b7ba56223deca3681d3fe", func := "compline/complinelaw02.BitmapGaps", spec := "bitmapGaps", unfollowed := true, recurses := true, named := ["math/bits.deBruijn64tab"], apart := false, laid := [("math/bits.deBruijn64tab", laid_math_bits_deBruijn64tab)], narrowed := true }
def BitmapGapsUptoSaid : Prop := bitmapGapsUptoRow.holds Tryd.pinned (OpenSpec.upto bitmapGapsSpec)

end Rows
end Go.Proofs.YthgiknkglnagbaaDoor
