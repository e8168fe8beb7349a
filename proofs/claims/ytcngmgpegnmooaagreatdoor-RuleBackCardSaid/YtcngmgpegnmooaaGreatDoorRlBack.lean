/- RuleBack answers true. -/
import Derived.Test.YtcngmgpegnmooaaGreatDoorRlBackA
import Derived.Test.YtcngmgpegnmooaaGreatDoorRlBackB
import Derived.Test.YtcngmgpegnmooaaGreatDoorRlBackC
import Derived.Test.YtcngmgpegnmooaaGreatDoorRlBackD
set_option linter.unusedVariables false
namespace Go.Proofs.YtcngmgpegnmooaaGreatDoor.Ru
open Go.RowKit Cv St Go.Proofs.YtcngmgpegnmooaaGreatDoor.Fd

theorem back_walk (w : World) (T : Tabs w) (S : RS) (r : Ru) (m : ByteArray) (h : RuIn w S r) (hz : m.size ≤ maxLen) :
    Calls Tryz.prog 5 #[S.val r, .string m] w fun e w' => e = .returned (.bool true) ∧ Below w.heap.size w w' := by
  cases h1 : fewB S
  · exact back_few w T S r m h hz h1
  by_cases hl : 5000 < m.size
  · exact back_long w T S r m h hz h1 hl
  cases h3 : mayR r <;> by_cases h4 : (ruParse m.data.toList).2.2 = 0
  · exact back_ny w T S r m h hz h1 (by omega) h3 h4
  · exact back_nn w T S r m h hz h1 (by omega) h3 h4
  · exact back_yy w T S r m h hz h1 (by omega) h3 h4
  · exact back_yn w T S r m h hz h1 (by omega) h3 h4
end Go.Proofs.YtcngmgpegnmooaaGreatDoor.Ru
