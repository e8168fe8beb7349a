/- A box that is laid: what the world was stays, and the box holds what was put. -/
import Derived.Test.YtchpjhjjakckbaaGreatDoorRuB
namespace Go.Proofs.YtchpjhjjakckbaaGreatDoor.Ru
open Go.RowKit Cv St
theorem box_new (w:World) (cs:Array Value) (T:TypeId):Below w.heap.size w (w.alloc (.cells cs T))∧Box (w.alloc (.cells cs T)) w.heap.size cs:=⟨alloc_below _ _,Box.new _ _ _⟩
end Go.Proofs.YtchpjhjjakckbaaGreatDoor.Ru
