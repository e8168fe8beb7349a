/- What chapter 7's example fixes. -/
import Derived.Test.YtnfcchimkfnmkaaGreatDoorMbLaw
set_option linter.unusedVariables false
namespace Go.Proofs.YtnfcchimkfnmkaaGreatDoor.Mb
open Cv St Ru Dd

end Go.Proofs.YtnfcchimkfnmkaaGreatDoor.Mb
