/-
  All contracts that the laws want of a wheel's calls.
-/
import Derived.Test.YtllohpojajijjaaDoorWcon
import Derived.Test.YtllohpojajijjaaDoorWmin
set_option linter.unusedVariables false
set_option linter.unusedSimpArgs false
namespace Go.Proofs.YtllohpojajijjaaDoor
theorem con : Con Qu := con_of (fun w h => min_any w h)
end Go.Proofs.YtllohpojajijjaaDoor
