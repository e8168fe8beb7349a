/- The walk of vokref.Has. The walks of vokref6's either, weekFits, dayFits, fits and aligned. The walk of vokref6's dayFits. -/
import Derived.Test.YtddnnljfgfcplaaGreatDoorExLF
set_option linter.unusedVariables false
namespace Go.Proofs.YtddnnljfgfcplaaGreatDoor.Ex
open Go.RowKit Cv St Ru Dd Mb
def hasN8 (l:List Int) (x:Int) (k:Nat):Prop:=∀j,j<k->iat l j≠x
theorem hasN8.succ {l:List Int} {x:Int} {k:Nat} (h:hasN8 l x k) (e:iat l k≠x):hasN8 l x (k+1):=fun j hj=>by
 by_cases c:j=k
 ·subst c;exact e
 ·exact h j (by omega)
end Go.Proofs.YtddnnljfgfcplaaGreatDoor.Ex
namespace Go.Proofs.YtddnnljfgfcplaaGreatDoor.Ex
open Go.RowKit Cv St Ru Dd Mb
theorem rl6 {w:World} {S:RS} {r:Ru} (h:RuAt w S r):(S.n6=r.mon.length/\S.n7=r.week.length/\S.n8=r.yday.length/\S.n9=r.mday.length/\S.n10=r.day.length)/\(S.n6<=140737488355328/\S.n7<=140737488355328/\S.n8<=140737488355328/\S.n9<=140737488355328/\S.n10<=140737488355328):=
 ⟨⟨h.h6.1,h.h7.1,h.h8.1,h.h9.1,h.h10.1⟩,h.l6,h.l7,h.l8,h.l9,h.l10⟩
section
variable {P:Program} {ops:Array Oper} {Q:Exit->Act->World->Prop} {md:Region.Mode} {S:World->Prop} {late:Nat->Bool}
theorem tk (i:Nat) {o:Oper} (ho:ops[i]? = some o) (v:Value) {g:Nat} {listed:Array Bool} {a:Act} {w:World} (hy:YieldsIf P ops S o v a) (hS:S w) (h:Late P md ops Q S late g (listed.setIfInBounds i true) (a.put o.dst v) w)
  (hs:Region.noSelect ops=true:=by kernel_rfl) (hf:Region.free md ops listed i=true:=by kernel_rfl) (hr:(Region.ready md ops listed).contains i=true:=by kernel_rfl) (hw:waitsB md ops late i=true:=by kernel_rfl)
  (pan:∀c a w,Q (.panic c) (a.put o.dst v) w->Q (.panic c) a w:=by exact fun _ _ _ h=>h):Late P md ops Q S late (g+1) listed a w:=
 Late.take i v ho hs hf hr hw pan hy hS h
end
end Go.Proofs.YtddnnljfgfcplaaGreatDoor.Ex
namespace Go.Proofs.YtddnnljfgfcplaaGreatDoor.Ex
open Go.RowKit Cv St Ru Dd Mb
end Go.Proofs.YtddnnljfgfcplaaGreatDoor.Ex
