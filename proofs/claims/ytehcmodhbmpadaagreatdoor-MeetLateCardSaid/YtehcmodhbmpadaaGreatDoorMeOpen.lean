/- What came in, opened. -/
import Derived.Test.YtehcmodhbmpadaaGreatDoorMeX5
import Derived.Test.YtehcmodhbmpadaaGreatDoorMeX2
set_option linter.unusedVariables false
namespace Go.Proofs.YtehcmodhbmpadaaGreatDoor.Me
open Go.ChangeShapes Go.WideShapes Go.RowKit Go.Deep Cv St Ru Dd
open Zn (Sh Yr ShAt YrAt ZnAt)
theorem gHeads : Tryz.prog.globalNamed "convoker/meet.heads" = some 0 := by kernel_rfl
theorem tHeads:(Tryz.prog.globals[0]?).map (·.type)=some 76:=by kernel_rfl
theorem read_strs5 {W:World} {n:String} {g:Nat} {ls:List (List UInt8)} (hg:Tryz.prog.globalNamed n=some g) (hy:(Tryz.prog.globals[g]?).map (·.type)=some 76) (h:Lib.VarReads Tryz.prog W n (.agg (ls.map fun s=>(.lit (.string s):DataW Unit)))) (i:Nat) (hi:i<5) (s:List UInt8) (hs:ls[i]? = some s):
  W.cell? ⟨g,i,none⟩=some (.string (str s)):=by
 obtain⟨g',t',cs,fuel,p,h1,h2,hv,hd⟩:=h
 obtain rfl:=Option.some.inj (hg.symm.trans h1)
 obtain rfl:=Option.some.inj (hy.symm.trans h2)
 rw[World.var?_cell hg hv i,←Array.getElem?_toList]
 exact strs_tab Tryz.underlying76 Tryz.underlying9 cStr hd i hi s hs
theorem heads_of {W:World} (h:laidMet Tryz.prog Rows.meetShiftsRow.laid W):Heads W where
 low:=by
  have r := Lib.laidMet.reads h (n := "convoker/meet.heads") (d := Rows.laid_convoker_meet_heads) (List.mem_of_getElem? (i := 8) rfl)
  obtain⟨g',t',cs,fuel,p,h1,h2,hv,hd⟩:=r;obtain rfl:=Option.some.inj (gHeads.symm.trans h1)
  rcases Nat.lt_or_ge 0 W.heap.size with k|k
  ·exact k
  ·exfalso
   unfold World.var? at hv;rw[gHeads] at hv
   simp[Array.getElem?_eq_none k] at hv
 at_:=fun k hk=>by
  have r := Lib.laidMet.reads h (n := "convoker/meet.heads") (d := Rows.laid_convoker_meet_heads) (List.mem_of_getElem? (i := 8) rfl)
  have r' : Lib.VarReads Tryz.prog W "convoker/meet.heads" (.agg ([headW 0, headW 1, headW 2, headW 3, headW 4].map fun s => (.lit (.string s) : DataW Unit))) := r
  have h5:k=0∨k=1∨k=2∨k=3∨k=4:=by omega
  rcases h5 with rfl|rfl|rfl|rfl|rfl<;>exact read_strs5 gHeads tHeads r' _ (by decide) _ rfl
theorem addr_addO (b off n:Nat):(⟨b,off,none⟩:Addr).add n=⟨b,off+n,none⟩:=by
 unfold Addr.add;split
 ·rename_i h;rw[h];rfl
 ·rfl
section
variable {H:Type} {enc:TypeId×Value→H} {P:Program} {W:World} {base:Nat} {spare:Nat→Bool} {held:Bool}
theorem ints_of {e:TypeId} {fs:Array Field} {n:Nat} {cs:List Value} {x:DataW H×List MemPlace} (he:P.underlying e=some (.struct fs)) (hone:oneCellFields P fs=true) (hC:P.cellsOf e=fs.size)
  (hint:∀(j:Nat) (f:Field),fs[j]? = some f→P.underlying f.type=some (.int .i64)) (h:DataW.trod enc P W base spare held n e cs=some x):∀j,j<fs.size→∃z:Int,cs[j]? = some (.int .i64 z):=by
 intro j hj
 obtain⟨xs,m,rfl,_,hlen,hxs,hf⟩:=DataW.trod_struct he h
 have hfj:fs[j]? = some fs[j]:=Array.getElem?_eq_getElem hj
 obtain⟨ho,hk⟩:=hone_of hone j _ hfj
 have hjc:j<cs.length:=by rw[hlen,hC];exact hj
 have ht:=hf j _ hfj
 rw[ho,hk,List.drop_eq_getElem_cons hjc,List.take_succ_cons,List.take_zero,List.getElem?_eq_getElem (by omega)] at ht
 obtain⟨z,hz,_⟩:=DataW.trod_int (hint j _ hfj) ht
 refine⟨z,?_⟩
 rw[List.getElem?_eq_getElem hjc]
 injection hz with hz
 rw[hz]
theorem list_of {α:Type} (d:α) {Q:Nat→α→Prop}:∀ {n:Nat},(∀i,i<n→∃s,Q i s)→∃l:List α,l.length=n∧∀i,i<n→Q i (l[i]?.getD d)
 |0,_=>⟨[],rfl,fun i h=>by omega⟩
 |n+1,h=>by
  obtain⟨l,hl,hq⟩:=list_of (n:=n) d fun i hi=>h i (by omega)
  obtain⟨s,hs⟩:=h n (by omega);refine⟨l++[s],by simp[hl],fun i hi => ?_⟩
  by_cases e:i=n
  ·subst e;rw[←hl,List.getElem?_append_right (Nat.le_refl _)];simpa [hl] using hs
  ·rw[List.getElem?_append_left (by omega)];exact hq i (by omega)
end
section
variable {H:Type} {enc:TypeId×Value→H} {W:World} {base:Nat} {spare:Nat→Bool} {held:Bool}
theorem sh_open {n:Nat} {v:Value} {y:DataW H×List MemPlace} (h:DataW.trod enc Tryz.prog W base spare held n 47 [v]=some y):
  ∃A k c l,v= .slice A k c∧Zn.ShAt W A k l∧(A=none→c=0)∧k≤9223372036854775807:=by
 rcases open_slice Tryz.underlying47 h with ⟨hc,_⟩|⟨a,len,cap,m,n',D,Pl,hc,_,hl,hm,hmm,_,hi⟩
 ·injection hc with hc
  exact⟨none,0,0,[],hc,Zn.ShAt.nil _ _,fun _=>rfl,by omega⟩
 ·injection hc with hc
  have hlm:len≤m:=by rw[hmm];split<;>omega
  have each:∀i,i<len→∃s:Sh,W.cell? (a.add (i*2))=some (.int .i64 s.t)∧W.cell? ((a.add (i*2)).add 1)=some (.int .i64 s.o):=fun i hi'=>by
   obtain⟨cs,hcs,ht⟩:=hi i (by omega);have e2:Tryz.prog.cellsOf 65=2:=by kernel_rfl
   rw[e2] at hcs;obtain⟨_,hlen,hcell⟩:=World.cells?_some hcs
   have hz:=ints_of Tryz.underlying65 (by kernel_rfl) (by kernel_rfl) (fun j f hj=>by
    match j,hj with
    |0,hj=>cases hj;exact Tryz.underlying3
    |1,hj=>cases hj;exact Tryz.underlying3) ht
   obtain⟨t,h0⟩:=hz 0 (by decide);obtain⟨o,h1⟩:=hz 1 (by decide);refine⟨⟨t,o⟩,?_,(hcell 1 (by omega)).trans h1⟩
   have:=(hcell 0 (by omega)).trans h0
   rwa [show (a.add (i*2)).add 0=a.add (i*2) from rfl] at this
  obtain⟨l,hll,hall⟩:=list_of (⟨0,0⟩:Sh) each;refine⟨some a,len,cap,l,hc,⟨hll.symm,fun h0 => ?_⟩,(fun h=>by cases h),(by unfold maxLen at hm;omega)⟩;obtain⟨b,off,spot⟩:=a;have hs:spot=none:=by have:=World.cell?_spot (hall 0 h0).1;simpa [Addr.add] using this
  subst hs
  have hb:b<W.heap.size:=by
   have:=(hall 0 h0).1
   simp only[Nat.zero_mul,Addr.add,if_true] at this;exact World.block_lt_of_cell? _ _ this
  refine⟨b,off,rfl,hb,fun j hj => ?_⟩;obtain⟨c0,c1⟩:=hall j hj;rw[addr_addO] at c0 c1;rw[addr_addO] at c1;exact⟨c0,c1⟩
theorem yr_open {n:Nat} {v:Value} {y:DataW H×List MemPlace} (h:DataW.trod enc Tryz.prog W base spare held n 48 [v]=some y):
  ∃A k c l,v= .slice A k c∧Zn.YrAt W A k l∧(A=none→c=0)∧k≤9223372036854775807:=by
 rcases open_slice Tryz.underlying48 h with ⟨hc,_⟩|⟨a,len,cap,m,n',D,Pl,hc,_,hl,hm,hmm,_,hi⟩
 ·injection hc with hc
  exact⟨none,0,0,[],hc,Zn.YrAt.nil _ _,fun _=>rfl,by omega⟩
 ·injection hc with hc
  have hlm:len≤m:=by rw[hmm];split<;>omega
  have each:∀i,i<len→∃s:Yr,W.cell? (a.add (i*5))=some (.int .i64 s.m)∧W.cell? ((a.add (i*5)).add 1)=some (.int .i64 s.k)∧W.cell? ((a.add (i*5)).add 2)=some (.int .i64 s.d)∧W.cell? ((a.add (i*5)).add 3)=some (.int .i64 s.s)∧W.cell? ((a.add (i*5)).add 4)=some (.int .i64 s.o):=fun i hi'=>by
   obtain⟨cs,hcs,ht⟩:=hi i (by omega);have e2:Tryz.prog.cellsOf 146=5:=by kernel_rfl
   rw[e2] at hcs;obtain⟨_,hlen,hcell⟩:=World.cells?_some hcs
   have hz:=ints_of Tryz.underlying146 (by kernel_rfl) (by kernel_rfl) (fun j f hj=>by
    match j,hj with
    |0,hj=>cases hj;exact Tryz.underlying3
    |1,hj=>cases hj;exact Tryz.underlying3
    |2,hj=>cases hj;exact Tryz.underlying3
    |3,hj=>cases hj;exact Tryz.underlying3
    |4,hj=>cases hj;exact Tryz.underlying3) ht
   obtain⟨x0,h0⟩:=hz 0 (by decide);obtain⟨x1,h1⟩:=hz 1 (by decide);obtain⟨x2,h2⟩:=hz 2 (by decide);obtain⟨x3,h3⟩:=hz 3 (by decide);obtain⟨x4,h4⟩:=hz 4 (by decide);refine⟨⟨x0,x1,x2,x3,x4⟩,?_,(hcell 1 (by omega)).trans h1,(hcell 2 (by omega)).trans h2,(hcell 3 (by omega)).trans h3,(hcell 4 (by omega)).trans h4⟩
   have:=(hcell 0 (by omega)).trans h0
   rwa [show (a.add (i*5)).add 0=a.add (i*5) from rfl] at this
  obtain⟨l,hll,hall⟩:=list_of (⟨0,0,0,0,0⟩:Yr) each;refine⟨some a,len,cap,l,hc,⟨hll.symm,fun h0 => ?_⟩,(fun h=>by cases h),(by unfold maxLen at hm;omega)⟩;obtain⟨b,off,spot⟩:=a;have hs:spot=none:=by have:=World.cell?_spot (hall 0 h0).1;simpa [Addr.add] using this
  subst hs
  have hb:b<W.heap.size:=by
   have:=(hall 0 h0).1
   simp only[Nat.zero_mul,Addr.add,if_true] at this;exact World.block_lt_of_cell? _ _ this
  refine⟨b,off,rfl,hb,fun j hj => ?_⟩;obtain⟨c0,c1,c2,c3,c4⟩:=hall j hj;rw[addr_addO] at c0 c1 c2 c3 c4;rw[addr_addO] at c1 c2 c3 c4;exact⟨c0,c1,c2,c3,c4⟩
end
section
variable {H:Type} {enc:TypeId×Value→H} {P:Program} {W:World} {base:Nat} {spare:Nat→Bool} {held:Bool}
theorem fields_of {e:TypeId} {fs:Array Field} {n:Nat} {cs:List Value} {x:DataW H×List MemPlace} (he:P.underlying e=some (.struct fs)) (hone:oneCellFields P fs=true) (hC:P.cellsOf e=fs.size)
  (h:DataW.trod enc P W base spare held n e cs=some x) (j:Nat) (hj:j<fs.size):∃u m y,cs[j]? = some u∧DataW.trod enc P W base spare held m fs[j].type [u]=some y:=by
 obtain⟨xs,m,rfl,_,hlen,hxs,hf⟩:=DataW.trod_struct he h
 have hfj:fs[j]? = some fs[j]:=Array.getElem?_eq_getElem hj
 obtain⟨ho,hk⟩:=hone_of hone j _ hfj
 have hjc:j<cs.length:=by rw[hlen,hC];exact hj
 have ht:=hf j _ hfj
 rw[ho,hk,List.drop_eq_getElem_cons hjc,List.take_succ_cons,List.take_zero,List.getElem?_eq_getElem (by omega)] at ht
 exact⟨_,_,_,List.getElem?_eq_getElem hjc,ht⟩
end
section
variable {H:Type} {enc:TypeId×Value→H} {W:World} {base:Nat} {spare:Nat→Bool} {held:Bool}
theorem zcells_open {n:Nat} {cs:List Value} {x:DataW H×List MemPlace} (h:DataW.trod enc Tryz.prog W base spare held n 50 cs=some x):
  ∃(S:ZS) (Z:Zo),cs[0]? = some (.int .i64 Z.b)∧cs[1]? = some (.slice S.A S.n S.c)∧cs[2]? = some (.slice S.A' S.n' S.c')∧cs[3]? = some (.int .i64 Z.f)∧ZnAt W S.A S.n S.A' S.n' Z.l Z.ys:=by
 have he:=Tryz.underlying50
 obtain⟨u0,m0,y0,e0,t0⟩:=fields_of he (by kernel_rfl) (by kernel_rfl) h 0 (by decide)
 obtain⟨u1,m1,y1,e1,t1⟩:=fields_of he (by kernel_rfl) (by kernel_rfl) h 1 (by decide)
 obtain⟨u2,m2,y2,e2,t2⟩:=fields_of he (by kernel_rfl) (by kernel_rfl) h 2 (by decide)
 obtain⟨u3,m3,y3,e3,t3⟩:=fields_of he (by kernel_rfl) (by kernel_rfl) h 3 (by decide)
 obtain⟨b,hb,_⟩:=DataW.trod_int Tryz.underlying3 t0
 obtain⟨f,hf,_⟩:=DataW.trod_int Tryz.underlying3 t3
 obtain⟨A,k,c,l,rfl,hl,_,hn⟩:=sh_open t1
 obtain⟨A',k',c',ys,rfl,hy,_,hn'⟩:=yr_open t2
 injection hb with hb
 injection hf with hf
 subst hb;subst hf
 exact⟨⟨A,k,c,A',k',c'⟩,⟨b,f,l,ys⟩,e0,e1,e2,e3,⟨hl,hy,hn,hn'⟩⟩
theorem zs_open {n:Nat} {v:Value} {y:DataW H×List MemPlace} (h:DataW.trod enc Tryz.prog W base spare held n 38 [v]=some y):
  ∃A k c S Z,v= .slice A k c∧ZsAt W A k S Z∧k≤9223372036854775807:=by
 rcases open_slice Tryz.underlying38 h with ⟨hc,_⟩|⟨a,len,cap,m,n',D,Pl,hc,_,hl,hm,hmm,_,hi⟩
 ·injection hc with hc
  exact⟨none,0,0,fun _=>⟨none,0,0,none,0,0⟩,fun _=>⟨0,0,[],[]⟩,hc,fun h=>absurd h (by omega),by omega⟩
 ·injection hc with hc
  have hlm:len≤m:=by rw[hmm];split<;>omega
  have each:∀i,i<len→∃s:ZS×Zo,W.cell? ((a.add (i*4)).add 0)=some (.int .i64 s.2.b)∧W.cell? ((a.add (i*4)).add 1)=some (.slice s.1.A s.1.n s.1.c)∧W.cell? ((a.add (i*4)).add 2)=some (.slice s.1.A' s.1.n' s.1.c')∧W.cell? ((a.add (i*4)).add 3)=some (.int .i64 s.2.f)∧ZnAt W s.1.A s.1.n s.1.A' s.1.n' s.2.l s.2.ys:=fun i hi'=>by
   obtain⟨cs,hcs,ht⟩:=hi i (by omega);have e2:Tryz.prog.cellsOf 50=4:=by kernel_rfl
   rw[e2] at hcs;obtain⟨_,hlen,hcell⟩:=World.cells?_some hcs;obtain⟨S,Z,h0,h1,h2,h3,z⟩:=zcells_open ht;exact⟨(S,Z),(hcell 0 (by omega)).trans h0,(hcell 1 (by omega)).trans h1,(hcell 2 (by omega)).trans h2,(hcell 3 (by omega)).trans h3,z⟩
  obtain⟨l,hll,hall⟩:=list_of ((⟨none,0,0,none,0,0⟩,⟨0,0,[],[]⟩):ZS×Zo) each;refine⟨some a,len,cap,fun i=>(l[i]?.getD (⟨none,0,0,none,0,0⟩,⟨0,0,[],[]⟩)).1,fun i=>(l[i]?.getD (⟨none,0,0,none,0,0⟩,⟨0,0,[],[]⟩)).2,hc,fun h0 => ?_,by unfold maxLen at hm;omega⟩;obtain⟨b,off,spot⟩:=a;have hs:spot=none:=by have:=World.cell?_spot (hall 0 h0).1;simpa [Addr.add] using this
  subst hs
  have hb:b<W.heap.size:=by
   have:=(hall 0 h0).1
   simp only[Nat.zero_mul,Addr.add,if_true] at this;exact World.block_lt_of_cell? _ _ this
  refine⟨b,off,rfl,hb,fun j hj => ?_⟩;obtain⟨c0,c1,c2,c3,z⟩:=hall j hj;rw[addr_addO,addr_addO] at c0 c1 c2 c3;exact⟨⟨c0,c1,c2,c3⟩,z⟩
end
end Go.Proofs.YtehcmodhbmpadaaGreatDoor.Me
