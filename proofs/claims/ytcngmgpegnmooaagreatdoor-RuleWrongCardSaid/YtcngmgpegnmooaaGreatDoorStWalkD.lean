/- The walks of package stamp's durations: seconds, sum, DurText, DurParse. -/
import Derived.Test.YtcngmgpegnmooaaGreatDoorStWalkB
import Derived.WalkLawsBesides
namespace Go.Proofs.YtcngmgpegnmooaaGreatDoor.St
open Go.RowKit Cv

end Go.Proofs.YtcngmgpegnmooaaGreatDoor.St
