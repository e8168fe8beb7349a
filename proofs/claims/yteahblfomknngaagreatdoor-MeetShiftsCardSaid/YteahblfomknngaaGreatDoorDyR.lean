/- DaysRise answers true. The walks of vokref6's down, right, yearOf, number, Period and Days. -/
import Derived.Test.YteahblfomknngaaGreatDoorDyP
import Derived.Test.YteahblfomknngaaGreatDoorRuB
import Derived.Test.YteahblfomknngaaGreatDoorStW
import Derived.Test.YteahblfomknngaaGreatDoorCvW
set_option linter.unusedVariables false
namespace Go.Proofs.YteahblfomknngaaGreatDoor.Dd
open Go.RowKit Cv St Ru
theorem may_of {t:Int} (h:-62135596800≤t∧t≤253402300799):St.may t=true:=decide_eq_true h
end Go.Proofs.YteahblfomknngaaGreatDoor.Dd
namespace Go.Proofs.YteahblfomknngaaGreatDoor.Dd
open Go.RowKit Cv St Ru
end Go.Proofs.YteahblfomknngaaGreatDoor.Dd
