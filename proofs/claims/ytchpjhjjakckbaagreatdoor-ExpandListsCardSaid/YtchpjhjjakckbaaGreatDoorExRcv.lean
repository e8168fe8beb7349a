/- What the walks of vokref6 stand on. -/
import Derived.Test.YtchpjhjjakckbaaGreatDoorExLF
import Derived.Test.YtchpjhjjakckbaaGreatDoorDyR
set_option linter.unusedVariables false
