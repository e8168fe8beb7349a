/- RuleAlike answers true. -/
import Derived.Test.YtcngmgpegnmooaaGreatDoorRlAlikeA
import Derived.Test.YtcngmgpegnmooaaGreatDoorRlAlikeB
import Derived.Test.YtcngmgpegnmooaaGreatDoorRlAlikeC
import Derived.Test.YtcngmgpegnmooaaGreatDoorRlAlikeD
import Derived.Test.YtcngmgpegnmooaaGreatDoorRlAlikeE
set_option linter.unusedVariables false
namespace Go.Proofs.YtcngmgpegnmooaaGreatDoor.Ru
open Go.RowKit Cv St Go.Proofs.YtcngmgpegnmooaaGreatDoor.Fd

theorem alike_walk (w : World) (T : Tabs w) (S S' : RS) (r q : Ru) (h : RuIn w S r) (g : RuIn w S' q) :
    Calls Tryz.prog 10 #[S.val r, S'.val q] w fun e w' => e = .returned (.bool true) ∧ Below w.heap.size w w' := by
  cases h1 : fewB S
  · exact alike_f w T S S' r q h g h1
  cases h2 : fewB S'
  · exact alike_tf w T S S' r q h g h1 h2
  cases h3 : mayR r <;> cases h4 : mayR q
  · exact alike_nn w T S S' r q h g h1 h2 h3 h4
  · exact alike_ny w T S S' r q h g h1 h2 h3 h4
  · exact alike_yn w T S S' r q h g h1 h2 h3 h4
  · exact alike_yy w T S S' r q h g h1 h2 h3 h4
end Go.Proofs.YtcngmgpegnmooaaGreatDoor.Ru
