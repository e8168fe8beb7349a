/- voklaw7.first answers true. -/
import Derived.Test.YtnfcchimkfnmkaaGreatDoorMbF
import Derived.Test.YtnfcchimkfnmkaaGreatDoorMbL
import Derived.Test.YtnfcchimkfnmkaaGreatDoorMbEx
import Derived.Test.YtnfcchimkfnmkaaGreatDoorStX
set_option linter.unusedVariables false
namespace Go.Proofs.YtnfcchimkfnmkaaGreatDoor.Mb
open Go.RowKit Cv St Ru Dd

theorem sparse_take (s : ByteArray) (a b : Int) (h : St.parse s.data.toList = (a, b)) (hs : s.size ≤ 100) (w : World) : Calls Tryz.prog 26 #[.string s] w fun e w' => e = .returned (.tuple #[.int .i64 a, .int .i64 b]) ∧ Below w.heap.size w w' := by
  refine (St.parse_is s w w (by unfold maxLen; omega) (At.refl trivial) a b h).mono ?_
  rintro e w' ⟨rfl, b⟩
  exact ⟨rfl, b.below⟩
end Go.Proofs.YtnfcchimkfnmkaaGreatDoor.Mb
