/- What vokref.CopyRule answers, and that it owns its lists, each in. -/
import Derived.Test.YtehcmodhbmpadaaGreatDoorRpZ
import Derived.Deep.AppendLies
import Derived.Deep.Onto
set_option linter.unusedVariables false
namespace Go.Proofs.YtehcmodhbmpadaaGreatDoor.Ru
open Go.RowKit Cv St Go.Proofs.YtehcmodhbmpadaaGreatDoor.Fd
def OwnB (B C:Nat) (w:World) (v:Value) (l:List Int):Prop:=w.ownsRow B 3 1 v l.length (l.map (Value.int .i64))∧∀g,v.ownBlock=some g→g<C
def OwnDB (B C:Nat) (w:World) (v:Value) (l:List Dy):Prop:=w.ownsRow B 115 2 v l.length (dyCells l)∧∀g,v.ownBlock=some g→g<C
theorem OwnI.b {W w:World} {v:Value} {l:List Int} (h:OwnI W w v l):OwnB W.heap.size w.heap.size w v l:=⟨h,fun g q=>(World.ownsRow.lt h g q).2⟩
theorem far_own {w:World} {B g:Nat} {e:TypeId} {k n:Nat} {v:Value} {xs:List Value} (h:w.ownsRow B e k v n xs) (hg:g<B):v.ownBlock=none∨v.ownBlock≠some g:=by
 cases q:v.ownBlock with
 |none=>exact .inl rfl
 |some j=>exact .inr (fun z=>by injection z with z;have:=(World.ownsRow.lt h j q).1;omega)
theorem OwnB.on {B C:Nat} {w w':World} {v:Value} {l:List Int} (h:OwnB B C w v l) (hb:Below w.heap.size w w'):OwnB B C w' v l:=
 ⟨World.ownsRow.kept (row:=none) h.1 ⟨hb.1,hb.2,hb.3,hb.4,fun k hk _=>hb.5 k hk⟩ (by cases v.ownBlock<;>simp),h.2⟩
theorem OwnB.gr {B C g:Nat} {w w':World} {v:Value} {l:List Int} (h:OwnB B C w v l) (hb:w.grownBy w' (some g)) (hg:g<B):OwnB B C w' v l:=⟨World.ownsRow.kept h.1 hb (far_own h.1 hg),h.2⟩
theorem OwnDB.gr {B C g:Nat} {w w':World} {v:Value} {l:List Dy} (h:OwnDB B C w v l) (hb:w.grownBy w' (some g)) (hg:g<B):OwnDB B C w' v l:=⟨World.ownsRow.kept h.1 hb (far_own h.1 hg),h.2⟩
theorem Box.put {w:World} {g:Nat} {cs:Array Value} (h:Box w g cs) (k:Nat) (u:Value) (hk:k<cs.size):Box (w.setCell ⟨g,k,none⟩ u) g (cs.setIfInBounds k u):=by
 refine⟨by simpa using h.1,fun j x e => ?_⟩
 by_cases ej:k=j
 ·subst ej
  rw[Array.getElem?_setIfInBounds_self_of_lt hk] at e;injection e with e;subst e;exact World.cell?_setCell_same _ _ _ (h.2 k _ (Array.getElem?_eq_getElem hk))
 ·rw[Array.getElem?_setIfInBounds_ne ej] at e
  exact(World.cell?_setCell_other _ _ _ _ (by intro q;injection q with _ q;exact ej q)).trans (h.2 j x e)
end Go.Proofs.YtehcmodhbmpadaaGreatDoor.Ru
