/-
  A wheel of slots is what HierwheelTwin wants of the other queue.
-/
import Derived.Test.YtdoceldofkaapaaGreatDoorXbd
import Derived.Test.YtdoceldofkaapaaGreatDoorLawB
set_option linter.unusedVariables false
set_option linter.unusedSimpArgs false
namespace Go.Proofs.YtdoceldofkaapaaGreatDoor
open Go.RowKit
theorem conh : ConH Ha.Qu where
  off := fun h o hf h0 => Ha.con.off h o hf h0
  lt_ := fun h => Ha.con.lt_ h
  z := fun h => Ha.con.z h
  zp := fun h => Ha.con.zp h
  qnew_no := Ha.con.qnew_no
  qnew_yes := Ha.con.qnew_yes
  insert := fun t w h ht => Ha.con.insert t w h ht
  cancel := fun p w h => Ha.con.cancel p w h
  move := fun t w h ht => Ha.con.move t w h ht
  due := fun now w h hn => (Ha.con.due now w h hn).mono fun e w' ⟨p, c, f', h1, h2, h3, h4, h5, h6⟩ => ⟨p, c, f', _, h1, h2, h3, h4, h5, h6⟩
  min := fun w h => Ha.con.min w h
  count := fun w h hz => Ha.con.count w h hz
  all := fun w h hz => Ha.con.all w h hz
end Go.Proofs.YtdoceldofkaapaaGreatDoor
