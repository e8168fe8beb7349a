/- The package variables off the row; the fields of a struct that came in. -/
import Derived.Test.YtddnnljfgfcplaaGreatDoorMeX2
import Derived.Test.YtddnnljfgfcplaaGreatDoorRpZ
set_option linter.unusedVariables false
namespace Go.Proofs.YtddnnljfgfcplaaGreatDoor.Me
open Go.ChangeShapes Go.WideShapes Go.RowKit Go.Deep Cv St Ru Dd
theorem gHeads : Tryz.prog.globalNamed "convoker/meet.heads" = some 0 := by kernel_rfl
theorem tHeads:(Tryz.prog.globals[0]?).map (·.type)=some 70:=by kernel_rfl
theorem read_strs5 {W:World} {n:String} {g:Nat} {ls:List (List UInt8)} (hg:Tryz.prog.globalNamed n=some g) (hy:(Tryz.prog.globals[g]?).map (·.type)=some 70) (h:Lib.VarReads Tryz.prog W n (.agg (ls.map fun s=>(.lit (.string s):DataW Unit)))) (i:Nat) (hi:i<5) (s:List UInt8) (hs:ls[i]? = some s):
  W.cell? ⟨g,i,none⟩=some (.string (str s)):=by
 obtain⟨g',t',cs,fuel,p,h1,h2,hv,hd⟩:=h
 obtain rfl:=Option.some.inj (hg.symm.trans h1)
 obtain rfl:=Option.some.inj (hy.symm.trans h2)
 rw[World.var?_cell hg hv i,<-Array.getElem?_toList]
 exact strs_tab Tryz.underlying70 Tryz.underlying9 cStr hd i hi s hs
theorem heads_of {W:World} (h:laidMet Tryz.prog Rows.meetApartRow.laid W):Heads W where
 low:=by
  have r := Lib.laidMet.reads h (n := "convoker/meet.heads") (d := Rows.laid_convoker_meet_heads) (List.mem_of_getElem? (i := 8) rfl)
  obtain⟨g',t',cs,fuel,p,h1,h2,hv,hd⟩:=r;obtain rfl:=Option.some.inj (gHeads.symm.trans h1)
  rcases Nat.lt_or_ge 0 W.heap.size with k|k
  ·exact k
  ·exfalso
   unfold World.var? at hv;rw[gHeads] at hv
   simp[Array.getElem?_eq_none k] at hv
 at_:=fun k hk=>by
  have r := Lib.laidMet.reads h (n := "convoker/meet.heads") (d := Rows.laid_convoker_meet_heads) (List.mem_of_getElem? (i := 8) rfl)
  have r' : Lib.VarReads Tryz.prog W "convoker/meet.heads" (.agg ([headW 0, headW 1, headW 2, headW 3, headW 4].map fun s => (.lit (.string s) : DataW Unit))) := r
  have h5:k=0\/k=1\/k=2\/k=3\/k=4:=by omega
  rcases h5 with rfl|rfl|rfl|rfl|rfl<;>exact read_strs5 gHeads tHeads r' _ (by decide) _ rfl
section
variable {H:Type} {enc:TypeId×Value->H} {P:Program} {W:World} {base:Nat} {spare:Nat->Bool} {held:Bool}
theorem fields_of {e:TypeId} {fs:Array Field} {n:Nat} {cs:List Value} {x:DataW H×List MemPlace} (he:P.underlying e=some (.struct fs)) (hone:oneCellFields P fs=true) (hC:P.cellsOf e=fs.size)
  (h:DataW.trod enc P W base spare held n e cs=some x) (j:Nat) (hj:j<fs.size):∃u m y,cs[j]? = some u/\DataW.trod enc P W base spare held m fs[j].type [u]=some y:=by
 obtain⟨xs,m,rfl,_,hlen,hxs,hf⟩:=DataW.trod_struct he h
 have hfj:fs[j]? = some fs[j]:=Array.getElem?_eq_getElem hj
 obtain⟨ho,hk⟩:=hone_of hone j _ hfj
 have hjc:j<cs.length:=by rw[hlen,hC];exact hj
 have ht:=hf j _ hfj
 rw[ho,hk,List.drop_eq_getElem_cons hjc,List.take_succ_cons,List.take_zero,List.getElem?_eq_getElem (by omega)] at ht
 exact⟨_,_,_,List.getElem?_eq_getElem hjc,ht⟩
end
end Go.Proofs.YtddnnljfgfcplaaGreatDoor.Me
