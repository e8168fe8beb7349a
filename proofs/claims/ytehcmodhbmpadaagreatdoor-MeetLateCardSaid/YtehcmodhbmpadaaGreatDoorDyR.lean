/- DaysRise answers true. -/
import Derived.Test.YtehcmodhbmpadaaGreatDoorDyP
import Derived.Test.YtehcmodhbmpadaaGreatDoorRuMay
set_option linter.unusedVariables false
namespace Go.Proofs.YtehcmodhbmpadaaGreatDoor.Dd
open Go.RowKit Cv St Ru
theorem may_of {t:Int} (h:-62135596800≤t∧t≤253402300799):St.may t=true:=decide_eq_true h
end Go.Proofs.YtehcmodhbmpadaaGreatDoor.Dd
namespace Go.Proofs.YtehcmodhbmpadaaGreatDoor.Dd
open Go.RowKit Cv St Ru
end Go.Proofs.YtehcmodhbmpadaaGreatDoor.Dd
