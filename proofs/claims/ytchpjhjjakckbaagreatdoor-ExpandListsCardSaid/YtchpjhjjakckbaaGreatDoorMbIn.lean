/- What the walks of chapter 7 share. -/
import Derived.Test.YtchpjhjjakckbaaGreatDoorMbG
import Derived.Test.YtchpjhjjakckbaaGreatDoorRuCopyO
set_option linter.unusedVariables false
namespace Go.Proofs.YtchpjhjjakckbaaGreatDoor.Mb
open Go.RowKit Cv St Ru Dd
theorem in_below {W w:World} {S:RS} {r:Ru} (h:RuIn W S r) (hb:Below W.heap.size W w):RuIn w S r:=
 ⟨h.h6.below hb,h.h7.below hb,h.h8.below hb,h.h9.below hb,h.h10.below hb,h.h11.below hb,h.h12.below hb,h.h13.below hb,h.h14.below hb,h.k6,h.k7,h.k8,h.k9,h.k10,h.k11,h.k12,h.k13,h.k14,h.y6,h.y7,h.y8,h.y9,h.y10,h.y11,h.y12,h.y13,h.y14,h.i0,h.i1,h.i2,h.i3,h.i4⟩
end Go.Proofs.YtchpjhjjakckbaaGreatDoor.Mb
