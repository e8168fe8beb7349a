/- Regions that draw their order and hold calls that make memory, walked once, over a class of worlds. -/
import Derived.Test.YtkkmhjplfpdhcaaGreatDoorRuSplit
import Derived.BigQuiet
import Derived.Deep.QuietTactic
set_option linter.unusedVariables false
namespace Go.Proofs.YtkkmhjplfpdhcaaGreatDoor.Ru
open Go.RowKit Cv St

/-- a world of the class -/
structure In (K : World → Prop) where
  w : World
  h : K w
theorem wp_region_class (K : World → Prop) {P : Program} {id : Nat} {Q : Exit → Act → World → Prop} {a : Act} {w : World} {l : List Oper} (hm : P.follows .mixedOrders = true) (hB : Region.lexB .any l.toArray = true) (hd : K w.drew)
    (h : wpQuiet P l.toArray (fun w' => ∃ n : In K, w' = n.w) (fun a' => ∀ w', (∃ n : In K, w' = n.w) → Q .normal a' w') l a) : (Code.region id l.toArray true).wp P Q a w :=
  wp_region_quiet (C := fun w' => ∃ n : In K, w' = n.w) hm hB ⟨⟨_, hd⟩, rfl⟩ (by simpa using h)
theorem quiet_cl {K : World → Prop} {P : Program} {f : FuncId} {args : Array Value} {n : In K} {v : Value} (hK : ∀ w w', K w → Below w.heap.size w w' → K w') (h : Calls P f args n.w fun e w' => e = .returned v ∧ Below n.w.heap.size n.w w') :
    Calls P f args n.w fun e w'' => e = .returned v ∧ ∃ m : In K, w'' = m.w :=
  h.mono fun e w' ⟨he, hb⟩ => ⟨he, ⟨w', hK _ _ n.h hb⟩, rfl⟩
theorem quiet_eq {K : World → Prop} {P : Program} {f : FuncId} {args : Array Value} {n : In K} {v : Value} (h : Calls P f args n.w fun e w' => e = .returned v ∧ n.w = w') :
    Calls P f args n.w fun e w'' => e = .returned v ∧ ∃ m : In K, w'' = m.w :=
  h.mono fun e w' ⟨he, hb⟩ => ⟨he, n, hb.symm⟩
/-- behind W, nothing of it turned -/
def Past (W w : World) : Prop := Below W.heap.size W w
theorem Past.on {W : World} : ∀ w w', Past W w → Below w.heap.size w w' → Past W w' := fun w w' h hb => Below.trans h (hb.mono h.size)
theorem Past.drew' {W w : World} (h : Past W w) : Past W w.drew := Below.trans h ((Below.refl _ _).drew)
theorem Past.at_ {W : World} {b o : Nat} {u : Value} (hb : b < W.heap.size) (hc : W.cell? ⟨b, o, none⟩ = some u) (v : In (Past W)) : v.w.cell? ⟨b, o, none⟩ = some u :=
  (Below.cell (p := ⟨b, o, none⟩) (show Below _ _ _ from v.h) hb).trans hc
theorem IsAt.past {W : World} {A : Option Addr} {n : Nat} {l : List Int} (h : IsAt W A n l) (v : In (Past W)) : IsAt v.w A n l := h.below (show Below _ _ _ from v.h)
theorem DyAt.past {W : World} {A : Option Addr} {n : Nat} {l : List Dy} (h : DyAt W A n l) (v : In (Past W)) : DyAt v.w A n l := h.below (show Below _ _ _ from v.h)
end Go.Proofs.YtkkmhjplfpdhcaaGreatDoor.Ru
