/- The walks of package stamp's durations: seconds, sum, DurText, DurParse. -/
import Derived.Test.YtkkmhjplfpdhcaaGreatDoorStWalkB
import Derived.WalkLawsBesides
namespace Go.Proofs.YtkkmhjplfpdhcaaGreatDoor.St
open Go.RowKit Cv

end Go.Proofs.YtkkmhjplfpdhcaaGreatDoor.St
