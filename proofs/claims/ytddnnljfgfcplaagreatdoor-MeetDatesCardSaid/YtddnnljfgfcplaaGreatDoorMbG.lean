/- voklaw7.first answers true. -/
import Derived.Test.YtddnnljfgfcplaaGreatDoorMbL
set_option linter.unusedVariables false
namespace Go.Proofs.YtddnnljfgfcplaaGreatDoor.Mb
open Go.RowKit Cv St Ru Dd
theorem sparse_take (s:ByteArray) (a b:Int) (h:St.parse s.data.toList=(a,b)) (hs:s.size<=100) (w:World) (T:Tabs w):Calls Tryz.prog 27 #[.string s] w fun e w'=>e= .returned (.tuple #[.int .i64 a,.int .i64 b])/\Below w.heap.size w w':=by
 refine(St.parse_is s w w (by unfold maxLen;omega) (At.refl T.tab) a b h).mono ?_
 rintro e w' ⟨rfl,b⟩
 exact⟨rfl,b.below⟩
end Go.Proofs.YtddnnljfgfcplaaGreatDoor.Mb
