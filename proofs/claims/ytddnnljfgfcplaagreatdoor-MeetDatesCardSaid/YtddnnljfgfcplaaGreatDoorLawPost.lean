/- The last step of a law that makes memory of its own: of what stood when it began nothing has turned, so the arguments read as they did, and it answers a bool. -/
import Derived.ProofKit
namespace Go.Proofs.YtddnnljfgfcplaaGreatDoor.Law
open Go.RowKit Go.WideShapes Go.ChangeShapes
theorem post_bool {H:Type} {enc:TypeId×Value->H} {P:Program} {f:Func} {s:ChangeSpec} {apart fresh handsOn again:Bool} {W W':World} {args:Array Value} {b:Bool} {t:TypeId} {ds gs:List (DataW H)} {before pa pv:List MemPlace}
  (whole:DataW.Whole enc P f.params.toList s.vars apart W args.toList ds gs before) (one:f.resultTypes = #[t]) (bool:P.underlying t=some .bool)
  (answer:(s.fn H (ds++gs)).results=[.lit (.bool b)])
  (same:∀sp:Nat->Bool,(∀p∈before,sp p.block=true)->DataW.TrodAll enc P W' 0 sp true f.params.toList args.toList (s.fn H (ds++gs)).args pa)
  (vars:∀sp:Nat->Bool,(∀p∈before,sp p.block=true)->DataW.TrodVars enc P W' sp s.vars (s.fn H (ds++gs)).vars pv)
  (parts:before=pa++pv) (kept:Below W.heap.size W W'):s.post enc P f apart fresh handsOn again W args (.bool b) W':=by
 have old:∀p,p∈before->p.block<W.heap.size:=fun p h=>whole.lt p h
 have res:∀(c:Nat) (sp:Nat->Bool) (hd:Bool),DataW.TrodAll enc P W' c sp hd f.resultTypes.toList ((Value.bool b).resultList f.resultTypes.size) (s.fn H (ds++gs)).results []:=by
  intro c sp hd;rw[one,answer];exact trodAll_mk1 (shut_bool bool b)
 have ok:∀(j:Nat) (u:TypeId) (r:Value),f.resultTypes[j]? = some u->((Value.bool b).resultList f.resultTypes.size)[j]? = some r->Value.okWide P W' .any 0 u r:=by
  intro j u r hj hr;rw[one] at hj hr
  cases j with
  |zero=>
   obtain rfl:t=u:=by simpa using hj
   obtain rfl:Value.bool b=r:=by simpa [Value.resultList] using hr
   exact okWide_bool_mk bool _
  |succ j=>simp at hj
 have seen:∀p∈before,(fun k=>decide (k<W.heap.size)) p.block=true:=fun p h=>decide_eq_true (old p h)
 refine⟨ds,gs,before,[],pa,pv,whole,res _ _ _,same _ seen,vars _ seen,World.keptBut_mono (fun p h=>⟨h,?_⟩) (kept.frame (·∈before)),fun _ => ?_⟩
 ·rw[parts] at h
  exact .inr (List.mem_append.1 h)
 ·obtain⟨_,_,_,_,_,unfrozen,apartness⟩:=whole
  refine⟨ok,_,_,([]++pa)++pv,⟨[]++pa,pv,trodAll_append (same _ fun _ _=>rfl) (res _ _ _),vars _ fun _ _=>rfl,rfl,?_,?_⟩,?_⟩
  ·intro c off h
   have inside:MemPlace.cell c off∈before:=by rw[parts];simpa using h
   rw[kept.frozen (old _ inside)];exact unfrozen c off inside
  ·intro h
   have:=apartness h
   rw[parts] at this
   simpa using this
  ·exact fun _ h _=>by rw[parts];simpa using h
end Go.Proofs.YtddnnljfgfcplaaGreatDoor.Law
