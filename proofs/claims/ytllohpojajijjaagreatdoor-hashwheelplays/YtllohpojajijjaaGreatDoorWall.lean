/-
  All contracts that the laws want of a wheel's calls.
-/
import Derived.Test.YtllohpojajijjaaGreatDoorWcon
import Derived.Test.YtllohpojajijjaaGreatDoorWmin
set_option linter.unusedVariables false
set_option linter.unusedSimpArgs false
namespace Go.Proofs.YtllohpojajijjaaGreatDoor
theorem con : Con Qu := con_of (fun w h => min_any w h)
end Go.Proofs.YtllohpojajijjaaGreatDoor
