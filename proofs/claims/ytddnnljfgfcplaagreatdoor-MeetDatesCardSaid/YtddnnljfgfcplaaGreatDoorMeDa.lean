/- The walk of voklaw9.MeetDates. -/
import Derived.Test.YtddnnljfgfcplaaGreatDoorMeX6
import Derived.Test.YtddnnljfgfcplaaGreatDoorMeX7
import Derived.Test.YtddnnljfgfcplaaGreatDoorRuX3
set_option linter.unusedVariables false
namespace Go.Proofs.YtddnnljfgfcplaaGreatDoor.Me
open Lib (hid)
open Go.RowKit Cv St Ru Dd Mb Ex
theorem load27D {ops:Array Oper} {rest:List Oper} {op:Oper} {a:Act} {w:World} {Q:Exit->Act->World->Prop} (hgd:Region.wanted op (yielded ops a.tmps)=true) (x:Operand) (ho:op.op= .load 27 x) (g:Nat) (hx:a.eval x= .pointer (some ⟨g,0,none⟩)) (cs:Array Value) (X:Box w g cs) (hn:cs.size=21)
  (h:wpList Tryz.prog ops Q rest (a.put op.dst (.agg cs)) w):wpList Tryz.prog ops Q (op::rest) a w:=
 list_met hgd fun K hK=>wp_load_mid 27 x ho g 0 hx cs.toList _ (fun j v hv=>by rw[Nat.zero_add];exact X.2 j v (by simpa using hv)) Tryz.underlying27 rfl (by rw[info_mt];simp[hn]) (by simpa using hK _ _ h)
theorem box_laid (w:World) (S:MS) (m:Mt) (T:TypeId):Box ((w.alloc (.cells zero21 T)).setCells w.heap.size 0 (mcells S m)) w.heap.size (mcells S m).toArray/\Below w.heap.size w ((w.alloc (.cells zero21 T)).setCells w.heap.size 0 (mcells S m))/\(∀k,((w.alloc (.cells zero21 T)).setCells w.heap.size 0 (mcells S m)).frozen? ⟨w.heap.size,k,none⟩=false):=by
 have th:(w.alloc (.cells zero21 T)).there w.heap.size 0 (mcells S m).length:=there_new _ _ _ (Nat.le_refl 21)
 have rg:=World.rangeAt_setCells_same _ _ _ _ th
 refine⟨⟨?_,fun k u hk => ?_⟩,cells_below (Nat.le_refl _) _ _ _ (Ru.alloc_below w _),fun k => ?_⟩
 ·have:=(Kg.cells (g:=w.heap.size) (mcells S m) 0 (w.alloc (.cells zero21 T))).size
  have h2:(w.alloc (.cells zero21 T)).heap.size=w.heap.size+1:=by simp
  omega
 ·have:=rg k u (by simpa using hk)
  rwa [Nat.zero_add] at this
 ·rw[World.frozen?_setCells];simp[go_sem]
theorem sorted_own {B:Nat} {w:World} {v:Value} {l:List Int} (o:w.ownsRow B 3 1 v l.length (l.map (Value.int .i64))) (h:l.length<=5000):∃A c,v= .slice A l.length c/\Calls Tryz.prog 21 #[.slice A l.length c] w (SortR w l):=by
 obtain⟨A,c,rfl⟩:∃A c,v= .slice A l.length c:=by
  rcases o.2 with ⟨rfl,h0⟩|⟨g',cap,cur,rfl,-⟩
  ·exact⟨none,0,by rw[h0]⟩
  ·exact⟨_,_,rfl⟩
 exact⟨A,c,rfl,sorted_is w A l.length c l (own_at o) h⟩
set_option maxRecDepth 100000 in
set_option maxHeartbeats 16000000 in
theorem dates_walk (w:World) (T:Tabs w) (H:Heads w) (S:MS) (m:Mt) (hm:MtIn w S m) (t hi:Int)
  (d1:-9223372036854775808<=t) (d2:t<=9223372036854775807) (e1:-9223372036854775808<=hi) (e2:hi<=9223372036854775807):
  Calls Tryz.prog 5 #[S.val m,.int .i64 t,.int .i64 hi] w fun e w'=>e= .returned (.bool true)/\Below w.heap.size w w':=by
 have TT:=hid T
 have HH:=hid H
 have MI:=hid hm
 clear T H hm
 show Calls Tryz.prog 5 #[.agg (mcells S m).toArray,.int .i64 t,.int .i64 hi] w _
 have cz:(mcells S m).toArray.size=21:=rfl
 obtain⟨cs,hcs⟩:∃cs,(mcells S m).toArray=cs:=⟨_,rfl⟩
 have HC:=hid (show Value.agg cs=S.val m by rw[<-hcs];rfl)
 have C20:cs[20]? = some (.slice S.ae S.ne S.ce):=by rw[<-hcs];rfl
 have FM:=hid (fun v (b:Below w.heap.size w v)=>show Calls Tryz.prog 9 #[.agg cs] v fun e w'=>e= .returned (.bool (fewM S))/\Below v.heap.size v w' by rw[HC.out];exact fewMt_is v S m (MI.out.on b))
 have LM:=hid (fun (g:fewM S=true) v (b:Below w.heap.size w v)=>show Calls Tryz.prog 15 #[.agg cs,.int .i64 hi] v (LitM v) by rw[HC.out];exact lightM_is v S m hi ((MI.out.few g).below b) MI.out.i1 e1 e2)
 have LC:=hid (fun (g:fewM S=true) v (b:Below w.heap.size w v) (q:List Int×Int) (hq:localR m hi=q)=>show Calls Tryz.prog 17 #[.agg cs,.int .i64 hi] v (SetC v q) by rw[HC.out];exact local_is v S m hi q ((MI.out.few g).below b) hq)
 have CP:=hid (fun (g:fewM S=true) v (b:Below w.heap.size w v)=>show Calls Tryz.prog 20 #[.agg cs] v (CopyM v m) by rw[<-hcs];exact copyM_is v S m (MI.out.on b) g)
 have EX:=hid (fun (g:fewM S=true) v (b:Below w.heap.size w v) (p:Bool) (hp:decide (t∈m.exc)=p)=>vhas_is v S.ae S.ne S.ce m.exc t ((MI.out.few g).below b).exc MI.out.le p hp)
 have ML:=hid (fun (g:fewM S=true)=>show m.dates.length<=400/\m.exc.length<=400 by
  unfold fewM at g;rw[Bool.and_eq_true] at g
  have:=of_decide_eq_true g.2
  have h1:=MI.out.dates.1;have h2:=MI.out.exc.1
  omega)
 rw[hcs] at cz ⊢
 clear hcs HC MI
 go_enter Tryz.func5,Tryz.ntmps5
 go_upto_region 1 with fail
 obtain⟨B0,X0⟩:=box_new w cs 27
 generalize w.alloc _=w0 at *
 obtain⟨g0,hg0⟩:∃g0,w.heap.size=g0:=⟨_,rfl⟩
 have G0:=hid hg0
 rw[hg0] at X0 ⊢
 clear hg0
 go_wp2_with fail
 refine(first9_is w0 (TT.out.on B0) (HH.out.on B0)).mono ?_
 rintro e w1 ⟨rfl,b1⟩
 have B1:=B0.trans (b1.mono B0.size)
 have X1:=X0.below b1
 clear B0 X0 b1
 go_wp2_with (refine load27 rfl _ rfl _ rfl _ X1 cz ?_)
 go_wp2_with fail
 refine(FM.out w1 B1).mono ?_
 rintro e w2 ⟨rfl,b2⟩
 have B2:=B1.trans (b2.mono B1.size)
 have X2:=X1.below b2
 clear B1 X1 b2 FM
 cases hf:fewM S with
 |false=>
  go_wp2_with fail;refine(first9_is _ (TT.out.on B2) (HH.out.on B2)).mono ?_;rintro e wz ⟨rfl,bz⟩;have BZ:=(B2).trans (bz.mono (B2).size);clear bz;go_wp2;go_ret;exact⟨rfl,BZ⟩
 |true=>
  have LM:=hid (LM.out hf);have LC:=hid (LC.out hf);have CP:=hid (CP.out hf);have EX:=hid (EX.out hf);have ML:=hid (ML.out hf);clear hf
  go_wp2_with (refine load27D (by kernel_rfl) _ rfl _ rfl _ X2 cz ?_)
  go_wp2_with fail;refine(LM.out w2 B2).mono ?_;rintro e w3 ⟨⟨x,rfl⟩,b3⟩;have B3:=B2.trans (b3.mono B2.size);have X3:=X2.below b3;clear B2 X2 b3 LM
  cases x with
  |false=>
   go_wp2_with fail;refine(first9_is _ (TT.out.on B3) (HH.out.on B3)).mono ?_;rintro e wz ⟨rfl,bz⟩;have BZ:=(B3).trans (bz.mono (B3).size);clear bz;go_wp2;go_ret;exact⟨rfl,BZ⟩
  |true=>
   obtain⟨⟨l,ee⟩,hl⟩:∃q,localR m hi=q:=⟨_,rfl⟩;have HL:=hid hl
   go_wp2_with (refine load27 rfl _ rfl _ rfl _ X3 cz ?_)
   go_wp2_with fail;refine(LC.out w3 B3 _ hl).mono ?_;rintro e w4 ⟨A,c,he,la,lcap,lz,b4⟩
   replace he:e= .returned (.tuple #[.slice A l.length c,.int .i64 ee]):=he
   subst he;have B4:=B3.trans (b4.mono B3.size);have X4:=X3.below b4;have LA:=hid (show IsAt w4 A l.length l from la);have LZ:=hid lz;clear B3 X3 b4 hl la lz
   go_wp2_with (refine load27 rfl _ rfl _ rfl _ X4 cz ?_)
   go_wp2_with fail;refine(CP.out w4 B4).mono ?_;rintro e ap ⟨Sp,gBp,gCp,gDp,rfl,cpp⟩;obtain⟨bp,hbp⟩:∃v:World,v=(ap.alloc (.cells zero21 27)).setCells ap.heap.size 0 (mcells Sp m):=⟨_,rfl⟩;obtain⟨xbp,bbp,fzp⟩:=box_laid ap Sp m 27;rw[<-hbp] at xbp bbp fzp;have THp:=hid (show (ap.alloc (.cells zero21 27)).there ap.heap.size 0 (mcells Sp m).toArray.size from there_new _ _ _ (Nat.le_refl 21));have Cp:=hid (cpp.below bbp);have GDp:=hid (show gDp<=ap.heap.size from cpp.c3);unfold zero21 at hbp THp
   go_upto_region 7 with (refine wpList_store_mid rfl 27 _ _ rfl ap.heap.size 0 (mcells Sp m).toArray rfl rfl THp.out (info_mt21 Sp m) (mcells_one Sp m) ?_;rw[<-hbp];clear hbp)
   obtain⟨gp,hgp⟩:∃g,ap.heap.size=g:=⟨_,rfl⟩;rw[hgp] at xbp GDp ⊢;have FZp:=hid (show ∀j,bp.frozen? ⟨gp,j,none⟩=false from hgp ▸ fzp);have XBp:=hid xbp;have ep:bp.cell? ⟨gp,19,none⟩=some (.slice Sp.ad Sp.nd Sp.cd):=xbp.at_ 19 _ rfl
   rw[Cp.out.nd] at ep;have alp:=Ru.alloc_below bp (.cells #[.int .i64 t] 3);clear cpp xbp bbp fzp THp hgp;clear alp
   go_wp2_with (at_builtin;refine append_oneG (B:=gBp) (by kernel_rfl) _ _ rfl (.slice Sp.ad m.dates.length Sp.cd) m.dates rfl Cp.out.dates.1 (Nat.le_trans Cp.out.c1 (Nat.le_trans Cp.out.c2 Cp.out.c3)) t _ 1 rfl (by have:=ML.out;omega) ?_)
   intro vap cp oap grp
   replace oap:cp.ownsRow gBp 3 1 vap (m.dates++[t]).length ((m.dates++[t]).map (Value.int .i64)):=by rw[List.length_append,List.map_append];exact oap
   obtain⟨Aap,cap,rfl,scp⟩:=sorted_own oap (by rw[List.length_append,List.length_singleton];have:=ML.out;omega);have GRp:=hid grp;have SCp:=hid (show Calls Tryz.prog 21 #[.slice Aap (m.dates++[t]).length cap] cp fun e w'=>∃v,e= .returned v/\OwnI cp w' v (putI m.dates t)/\Below cp.heap.size cp w' from scp);clear oap grp scp;generalize (m.dates++[t]).length=lnp at *;generalize hdp:putI m.dates t=dlp at SCp;have HDp:=hid hdp;clear hdp;go_wp2_with fail;refine SCp.out.mono ?_;rintro e dp ⟨vsp,rfl,osp,bsp⟩;obtain⟨Asp,csp,rfl,btp,⟨X2p,f2p⟩,POp⟩:=Cp.out.more XBp.out GDp.out GRp.out bsp osp;have zp:=X2p.at_ 19 _ rfl;have yp:dp.frozen? ⟨gp,19,none⟩=false:=(f2p 19).trans (FZp.out 19)
   clear osp bsp X2p f2p SCp GRp Cp XBp GDp FZp ep
   go_upto_region 8 with fail
   generalize dp.setCell ⟨gp,19,none⟩ _=wp at *;have Bwp:=B4.trans (btp.mono B4.size);have Xwp:=X4.below btp;clear zp yp;have LA:=hid (LA.out.below btp);clear B4 X4
   go_wp2_with (refine load27 rfl _ rfl _ rfl _ Xwp cz ?_)
   go_wp2_with fail;refine(CP.out wp Bwp).mono ?_;rintro e aq ⟨Sq,gBq,gCq,gDq,rfl,cpq⟩;obtain⟨bq,hbq⟩:∃v:World,v=(aq.alloc (.cells zero21 27)).setCells aq.heap.size 0 (mcells Sq m):=⟨_,rfl⟩;obtain⟨xbq,bbq,fzq⟩:=box_laid aq Sq m 27;rw[<-hbq] at xbq bbq fzq;have THq:=hid (show (aq.alloc (.cells zero21 27)).there aq.heap.size 0 (mcells Sq m).toArray.size from there_new _ _ _ (Nat.le_refl 21));have Cq:=hid (cpq.below bbq);have GDq:=hid (show gDq<=aq.heap.size from cpq.c3);unfold zero21 at hbq THq
   go_upto_region 9 with (refine wpList_store_mid rfl 27 _ _ rfl aq.heap.size 0 (mcells Sq m).toArray rfl rfl THq.out (info_mt21 Sq m) (mcells_one Sq m) ?_;rw[<-hbq];clear hbq)
   obtain⟨gq,hgq⟩:∃g,aq.heap.size=g:=⟨_,rfl⟩;rw[hgq] at xbq GDq ⊢;have FZq:=hid (show ∀j,bq.frozen? ⟨gq,j,none⟩=false from hgq ▸ fzq);have XBq:=hid xbq;have eq:bq.cell? ⟨gq,20,none⟩=some (.slice Sq.ae Sq.ne Sq.ce):=xbq.at_ 20 _ rfl
   rw[Cq.out.ne] at eq;have alq:=Ru.alloc_below bq (.cells #[.int .i64 t] 3);clear cpq xbq bbq fzq THq hgq;clear alq
   go_wp2_with (at_builtin;refine append_oneG (B:=gCq) (by kernel_rfl) _ _ rfl (.slice Sq.ae m.exc.length Sq.ce) m.exc rfl Cq.out.exc.1 (Nat.le_trans Cq.out.c2 Cq.out.c3) t _ 1 rfl (by have:=ML.out;omega) ?_)
   intro vaq cq oaq grq
   replace oaq:cq.ownsRow gCq 3 1 vaq (m.exc++[t]).length ((m.exc++[t]).map (Value.int .i64)):=by rw[List.length_append,List.map_append];exact oaq
   obtain⟨Aaq,caq,rfl,scq⟩:=sorted_own oaq (by rw[List.length_append,List.length_singleton];have:=ML.out;omega);have GRq:=hid grq;have SCq:=hid (show Calls Tryz.prog 21 #[.slice Aaq (m.exc++[t]).length caq] cq fun e w'=>∃v,e= .returned v/\OwnI cq w' v (putI m.exc t)/\Below cq.heap.size cq w' from scq);clear oaq grq scq;generalize (m.exc++[t]).length=lnq at *;generalize hdq:putI m.exc t=dlq at SCq;have HDq:=hid hdq;clear hdq;go_wp2_with fail;refine SCq.out.mono ?_;rintro e dq ⟨vsq,rfl,osq,bsq⟩;obtain⟨Asq,csq,rfl,btq,⟨X2q,f2q⟩,POq⟩:=Cq.out.less XBq.out GDq.out GRq.out bsq osq;have zq:=X2q.at_ 20 _ rfl;have yq:dq.frozen? ⟨gq,20,none⟩=false:=(f2q 20).trans (FZq.out 20)
   clear osq bsq X2q f2q SCq GRq Cq XBq GDq FZq eq
   go_upto_region 10 with fail
   generalize dq.setCell ⟨gq,20,none⟩ _=wq at *;have Bwq:=Bwp.trans (btq.mono Bwp.size);have Xwq:=Xwp.below btq;clear zq yq;have LA:=hid (LA.out.below btq);obtain⟨Sp,PB,PM⟩:=POp.out;obtain⟨Sq,QB,QM⟩:=POq.out
   replace PB:=PB.below btq
   replace PM:=PM.below btq
   clear btp btq POp POq Bwp Xwp CP;obtain⟨pm,hpm⟩:∃pm:Mt,{ m with dates:=dlp }=pm:=⟨_,rfl⟩;obtain⟨qm,hqm⟩:∃qm:Mt,{ m with exc:=dlq }=qm:=⟨_,rfl⟩;rw[hpm] at PB PM;rw[hqm] at QB QM;obtain⟨x,hx⟩:∃x,mayM pm=x:=⟨_,rfl⟩;obtain⟨y,hy⟩:∃y,mayM qm=y:=⟨_,rfl⟩
   have LP:=hid (show x=true->l.length<=4000->ee=0->localR pm hi=(if t∈m.exc\/hi<=t then l else putI l t,0) from fun h1 h2 h3=>by
    have:=local_more (t:=t) (h3 ▸ HL.out) h2 (by rw[HDp.out,hpm,hx];exact h1)
    rwa [HDp.out,hpm] at this)
   have LQ:=hid (show y=true->ee=0->localR qm hi=(l.filter fun x=>decide (x≠t),0) from fun h1 h3=>by
    have:=local_less1 (t:=t) (h3 ▸ HL.out) (by rw[HDq.out,hqm,hy];exact h1)
    rwa [HDq.out,hqm] at this)
   have DH:=hid (show ee=0->decide (t∈(if t∈m.exc\/hi<=t then l else putI l t)) = !(decide (t∈m.exc)||decide (hi<=t)) from fun h3=>dates_has (h3 ▸ HL.out));clear HL HDp HDq hpm hqm;have czp:(mcells Sp pm).toArray.size=21:=rfl
   have czq:(mcells Sq qm).toArray.size=21:=rfl
   have MP:=hid (fun v (b:Below wq.heap.size wq v)=>show Calls Tryz.prog 13 #[.agg (mcells Sp pm).toArray] v fun e w'=>e= .returned (.bool x)/\Below v.heap.size v w' from mayM_is v Sp pm x (PM.below b) hx);have MQ:=hid (fun v (b:Below wq.heap.size wq v)=>show Calls Tryz.prog 13 #[.agg (mcells Sq qm).toArray] v fun e w'=>e= .returned (.bool y)/\Below v.heap.size v w' from mayM_is v Sq qm y (QM.below b) hy);have LOP:=hid (fun v (b:Below wq.heap.size wq v) (r:List Int×Int) (hr:localR pm hi=r)=>show Calls Tryz.prog 17 #[.agg (mcells Sp pm).toArray,.int .i64 hi] v (SetC v r) from local_is v Sp pm hi r (PM.below b) hr);have LOQ:=hid (fun v (b:Below wq.heap.size wq v) (r:List Int×Int) (hr:localR qm hi=r)=>show Calls Tryz.prog 17 #[.agg (mcells Sq qm).toArray,.int .i64 hi] v (SetC v r) from local_is v Sq qm hi r (QM.below b) hr);clear PM QM hx hy;generalize (mcells Sp pm).toArray=csp at *;generalize (mcells Sq qm).toArray=csq at *
   by_cases z1:ee=0
   rotate_left
   ·have q0:(ee != 0)=true:=by rw[bne_iff_ne];exact z1
    go_wp2_with fail;refine(first9_is _ (TT.out.on Bwq) (HH.out.on Bwq)).mono ?_;rintro e wz ⟨rfl,bz⟩;have BZ:=(Bwq).trans (bz.mono (Bwq).size);clear bz;go_wp2;go_ret;exact⟨rfl,BZ⟩
   subst z1
   go_wp2_with (refine load27D (by kernel_rfl) _ rfl _ rfl _ PB czp ?_)
   go_wp2_with fail;refine(MP.out wq (Below.refl _ _)).mono ?_;rintro e v1 ⟨rfl,b1⟩;have BV1:=Bwq.trans (b1.mono Bwq.size)
   cases x with
   |false=>
    go_wp2_with fail;refine(first9_is _ (TT.out.on BV1) (HH.out.on BV1)).mono ?_;rintro e wz ⟨rfl,bz⟩;have BZ:=(BV1).trans (bz.mono (BV1).size);clear bz;go_wp2;go_ret;exact⟨rfl,BZ⟩
   |true=>
    have QB1:=QB.below b1
    go_wp2_with (refine load27D (by kernel_rfl) _ rfl _ rfl _ QB1 czq ?_)
    go_wp2_with fail;refine(MQ.out v1 b1).mono ?_;rintro e v2 ⟨rfl,b2⟩;have BV2:=BV1.trans (b2.mono BV1.size);have W2:=b1.trans (b2.mono b1.size);clear BV1 QB1 b1 b2 MP MQ
    cases y with
    |false=>
     go_wp2_with fail;refine(first9_is _ (TT.out.on BV2) (HH.out.on BV2)).mono ?_;rintro e wz ⟨rfl,bz⟩;have BZ:=(BV2).trans (bz.mono (BV2).size);clear bz;go_wp2;go_ret;exact⟨rfl,BZ⟩
    |true=>
     by_cases l4:l.length<=4000
     rotate_left
     ·have m1:(4000:Int)<(l.length:Int):=by omega
      go_wp2_with fail;refine(first9_is _ (TT.out.on BV2) (HH.out.on BV2)).mono ?_;rintro e wz ⟨rfl,bz⟩;have BZ:=(BV2).trans (bz.mono (BV2).size);clear bz;go_wp2;go_ret;exact⟨rfl,BZ⟩
     have m1:¬(4000:Int)<(l.length:Int):=by omega
     obtain⟨la2,hla2⟩:∃r,(if t∈m.exc\/hi<=t then l else putI l t)=r:=⟨_,rfl⟩;obtain⟨lb,hlb⟩:∃r,(l.filter fun x=>decide (x≠t))=r:=⟨_,rfl⟩;have lpe:=LP.out (by simp) l4 (by simp);have lqe:=LQ.out (by simp) (by simp);have dhe:=DH.out (by simp);rw[hla2] at lpe dhe;rw[hlb] at lqe;have AE:=hid (show ¬(t∈m.exc\/hi<=t)->la2=putI l t from fun g=>by rw[<-hla2,if_neg g])
     have nla:la2.length<=4001:=by
      rw[<-hla2]
      split
      ·omega
      ·have:=(putI_spec l t).2.1;omega
     have nlb:lb.length<=4000:=by rw[<-hlb];exact Nat.le_trans (List.length_filter_le _ _) l4
     have HB:=hid (show decide (t∈lb)=false from decide_eq_false (by rw[<-hlb];simp));have PBK:=hid (show putI lb t=putI l t by rw[<-hlb];exact put_back l t);have DHE:=hid dhe;have PB2:=PB.below W2;have QB2:=QB.below W2;clear hla2 hlb LP LQ DH dhe PB QB
     go_wp2_with (refine load27 rfl _ rfl _ rfl _ PB2 czp ?_)
     go_wp2_with fail;refine(LOP.out v2 W2 _ lpe).mono ?_;rintro e v3 ⟨A3,c3,he,ia3,cap3,z3,b3⟩
     replace he:e= .returned (.tuple #[.slice A3 la2.length c3,.int .i64 0]):=he
     subst he;have BV3:=BV2.trans (b3.mono BV2.size);have W3:=W2.trans (b3.mono W2.size);have QB3:=QB2.below b3;have IA3:=hid (show IsAt v3 A3 la2.length la2 from ia3);have Z3:=hid z3;clear PB2 QB2 b3 BV2 ia3 z3 lpe LOP
     go_wp2_with (refine load27 rfl _ rfl _ rfl _ QB3 czq ?_)
     go_wp2_with fail;refine(LOQ.out v3 W3 _ lqe).mono ?_;rintro e v4 ⟨A4,c4,he,ia4,cap4,z4,b4⟩
     replace he:e= .returned (.tuple #[.slice A4 lb.length c4,.int .i64 0]):=he
     subst he;have BV4:=BV3.trans (b4.mono BV3.size);have W4:=W3.trans (b4.mono W3.size);have IA4:=hid (show IsAt v4 A4 lb.length lb from ia4);have Z4:=hid z4;have IA3:=hid (IA3.out.below b4);clear QB3 b4 BV3 W3 ia4 z4 lqe LOQ;go_wp2_with fail;refine(vhas_is v4 A4 lb.length c4 lb t IA4.out (by omega) false HB.out).mono ?_;rintro e v5 ⟨rfl,b5⟩;have BV5:=BV4.trans (b5.mono BV4.size);have W5:=W4.trans (b5.mono W4.size);have IA3:=hid (IA3.out.below b5);have IA4:=hid (IA4.out.below b5);have XV5:=Xwq.below W5;have k20:=XV5.at_ 20 _ C20;clear b5 BV4 W4;obtain⟨p,hp⟩:∃p,decide (t∈m.exc)=p:=⟨_,rfl⟩;go_wp2_with fail;refine(EX.out v5 BV5 p hp).mono ?_;rintro e v6 ⟨rfl,b6⟩;have BV6:=BV5.trans (b6.mono BV5.size);have W6:=W5.trans (b6.mono W5.size);have IA3:=hid (IA3.out.below b6);have IA4:=hid (IA4.out.below b6);have LA6:=hid (LA.out.below W6);clear b6 BV5 W5 XV5 k20 EX LA Xwq Bwq
     cases p with
     |true=>
      have OUT:=hid (show (!(decide (t∈m.exc)||decide (hi<=t)))=false by rw[hp];rfl);have DX:=hid (show decide (t∈la2)=false by rw[DHE.out];exact OUT.out);go_wp2_with fail;refine(first9_is v6 (TT.out.on BV6) (HH.out.on BV6)).mono ?_;rintro e u0 ⟨rfl,q0⟩;have D0:=BV6.trans (q0.mono BV6.size);have I3:=hid (IA3.out.below q0);have I4:=hid (IA4.out.below q0);have IL:=hid (LA6.out.below q0);clear q0 IA3 IA4 LA6;go_wp2_with fail;refine(vhas_is u0 A3 la2.length c3 la2 t I3.out (by omega) _ DX.out).mono ?_;rintro e u1 ⟨rfl,q1⟩;have D1:=D0.trans (q1.mono D0.size);have I3:=hid (I3.out.below q1);have I4:=hid (I4.out.below q1);have IL:=hid (IL.out.below q1);clear q1 D0;go_wp2_with fail;refine(copyI_is u1 A4 lb.length c4 lb I4.out (by omega) Z4.out).mono ?_;rintro e u1a ⟨vv,rfl,ov,qa⟩;have OV:=hid (show u1a.ownsRow u1.heap.size 3 1 vv lb.length (lb.map (Value.int .i64)) from ov);have QA:=hid qa;obtain⟨Av,cv,ev,-,-,-⟩:=ov.at_;subst ev;clear qa ov
      go_wp2_with (at_builtin;refine append_oneG (by kernel_rfl) _ _ rfl (.slice Av lb.length cv) lb rfl OV.out QA.out.size t _ 1 rfl (by omega) ?_)
      intro va u1b oa gr
      replace oa:u1b.ownsRow u1.heap.size 3 1 va (lb++[t]).length ((lb++[t]).map (Value.int .i64)):=by rw[List.length_append,List.map_append];exact oa
      have QB:=hid (QA.out.trans (gr_low gr QA.out.size fun k hk=>(World.ownsRow.lt OV.out k hk).1));obtain⟨Ax,cx,rfl,sc⟩:=sorted_own oa (by rw[List.length_append,List.length_singleton];omega);have SC:=hid (show Calls Tryz.prog 21 #[.slice Ax (lb++[t]).length cx] u1b fun e w'=>∃v,e= .returned v/\OwnI u1b w' v (putI lb t)/\Below u1b.heap.size u1b w' from sc);clear oa gr sc OV QA;generalize (lb++[t]).length=lnx at *;go_wp2_with fail;refine SC.out.mono ?_;rintro e u2 ⟨vs,rfl,os,qs⟩;have QC:=QB.out.trans (qs.mono QB.out.size);have D2:=D1.trans (QC.mono D1.size);have I3:=hid (I3.out.below QC);have IL:=hid (IL.out.below QC);obtain⟨RBA,RBc,RBe,RBi,-,-⟩:=os.at_;subst RBe;have RB:=hid RBi;have RBn:(putI lb t).length<=5000:=Nat.le_trans (putI_spec lb t).2.1 (by omega)
      clear QC QB SC os qs D1 RBi;go_wp2_with fail;refine(copyI_is u2 A l.length c l IL.out (by omega) LZ.out).mono ?_;rintro e u2a ⟨vv,rfl,ov,qa⟩;have OV:=hid (show u2a.ownsRow u2.heap.size 3 1 vv l.length (l.map (Value.int .i64)) from ov);have QA:=hid qa;obtain⟨Av,cv,ev,-,-,-⟩:=ov.at_;subst ev;clear qa ov
      go_wp2_with (at_builtin;refine append_oneG (by kernel_rfl) _ _ rfl (.slice Av l.length cv) l rfl OV.out QA.out.size t _ 1 rfl (by omega) ?_)
      intro va u2b oa gr
      replace oa:u2b.ownsRow u2.heap.size 3 1 va (l++[t]).length ((l++[t]).map (Value.int .i64)):=by rw[List.length_append,List.map_append];exact oa
      have QB:=hid (QA.out.trans (gr_low gr QA.out.size fun k hk=>(World.ownsRow.lt OV.out k hk).1));obtain⟨Ax,cx,rfl,sc⟩:=sorted_own oa (by rw[List.length_append,List.length_singleton];omega);have SC:=hid (show Calls Tryz.prog 21 #[.slice Ax (l++[t]).length cx] u2b fun e w'=>∃v,e= .returned v/\OwnI u2b w' v (putI l t)/\Below u2b.heap.size u2b w' from sc);clear oa gr sc OV QA;generalize (l++[t]).length=lnx at *;go_wp2_with fail;refine SC.out.mono ?_;rintro e u3 ⟨vs,rfl,os,qs⟩;have QC:=QB.out.trans (qs.mono QB.out.size);have D3:=D2.trans (QC.mono D2.size);have I3:=hid (I3.out.below QC);have IL:=hid (IL.out.below QC);have RB:=hid (RB.out.below QC);obtain⟨RLA,RLc,RLe,RLi,-,-⟩:=os.at_;subst RLe;have RL:=hid RLi;have RLn:(putI l t).length<=5000:=Nat.le_trans (putI_spec l t).2.1 (by omega)
      clear QC QB SC os qs D2 RLi;have IN:=ints_any u3 RBA RLA (putI lb t).length RBc (putI l t).length RLc (putI lb t) (putI l t) RB.out RL.out (by omega) (by omega);rw[show decide (putI lb t=putI l t)=true from decide_eq_true PBK.out] at IN;generalize (putI lb t).length=k1 at *;generalize (putI l t).length=k2 at *;go_wp2_with fail;refine IN.mono ?_;rintro e u4 ⟨rfl,q4⟩;have D4:=D3.trans (q4.mono D3.size);clear IN q4 D3;go_wp2;go_ret;exact⟨rfl,D4⟩
     |false=>
      by_cases hq:hi<=t
      ·have hqb:decide (hi<=t)=true:=decide_eq_true hq
       have OUT:=hid (show (!(decide (t∈m.exc)||decide (hi<=t)))=false by rw[hp,decide_eq_true hq];rfl);have DX:=hid (show decide (t∈la2)=false by rw[DHE.out];exact OUT.out);go_wp2_with fail;refine(first9_is v6 (TT.out.on BV6) (HH.out.on BV6)).mono ?_;rintro e u0 ⟨rfl,q0⟩;have D0:=BV6.trans (q0.mono BV6.size);have I3:=hid (IA3.out.below q0);have I4:=hid (IA4.out.below q0);have IL:=hid (LA6.out.below q0);clear q0 IA3 IA4 LA6;go_wp2_with fail;refine(vhas_is u0 A3 la2.length c3 la2 t I3.out (by omega) _ DX.out).mono ?_;rintro e u1 ⟨rfl,q1⟩;have D1:=D0.trans (q1.mono D0.size);have I3:=hid (I3.out.below q1);have I4:=hid (I4.out.below q1);have IL:=hid (IL.out.below q1);clear q1 D0;go_wp2_with fail;refine(copyI_is u1 A4 lb.length c4 lb I4.out (by omega) Z4.out).mono ?_;rintro e u1a ⟨vv,rfl,ov,qa⟩;have OV:=hid (show u1a.ownsRow u1.heap.size 3 1 vv lb.length (lb.map (Value.int .i64)) from ov);have QA:=hid qa;obtain⟨Av,cv,ev,-,-,-⟩:=ov.at_;subst ev;clear qa ov
       go_wp2_with (at_builtin;refine append_oneG (by kernel_rfl) _ _ rfl (.slice Av lb.length cv) lb rfl OV.out QA.out.size t _ 1 rfl (by omega) ?_)
       intro va u1b oa gr
       replace oa:u1b.ownsRow u1.heap.size 3 1 va (lb++[t]).length ((lb++[t]).map (Value.int .i64)):=by rw[List.length_append,List.map_append];exact oa
       have QB:=hid (QA.out.trans (gr_low gr QA.out.size fun k hk=>(World.ownsRow.lt OV.out k hk).1));obtain⟨Ax,cx,rfl,sc⟩:=sorted_own oa (by rw[List.length_append,List.length_singleton];omega);have SC:=hid (show Calls Tryz.prog 21 #[.slice Ax (lb++[t]).length cx] u1b fun e w'=>∃v,e= .returned v/\OwnI u1b w' v (putI lb t)/\Below u1b.heap.size u1b w' from sc);clear oa gr sc OV QA;generalize (lb++[t]).length=lnx at *;go_wp2_with fail;refine SC.out.mono ?_;rintro e u2 ⟨vs,rfl,os,qs⟩;have QC:=QB.out.trans (qs.mono QB.out.size);have D2:=D1.trans (QC.mono D1.size);have I3:=hid (I3.out.below QC);have IL:=hid (IL.out.below QC);obtain⟨RBA,RBc,RBe,RBi,-,-⟩:=os.at_;subst RBe;have RB:=hid RBi;have RBn:(putI lb t).length<=5000:=Nat.le_trans (putI_spec lb t).2.1 (by omega)
       clear QC QB SC os qs D1 RBi;go_wp2_with fail;refine(copyI_is u2 A l.length c l IL.out (by omega) LZ.out).mono ?_;rintro e u2a ⟨vv,rfl,ov,qa⟩;have OV:=hid (show u2a.ownsRow u2.heap.size 3 1 vv l.length (l.map (Value.int .i64)) from ov);have QA:=hid qa;obtain⟨Av,cv,ev,-,-,-⟩:=ov.at_;subst ev;clear qa ov
       go_wp2_with (at_builtin;refine append_oneG (by kernel_rfl) _ _ rfl (.slice Av l.length cv) l rfl OV.out QA.out.size t _ 1 rfl (by omega) ?_)
       intro va u2b oa gr
       replace oa:u2b.ownsRow u2.heap.size 3 1 va (l++[t]).length ((l++[t]).map (Value.int .i64)):=by rw[List.length_append,List.map_append];exact oa
       have QB:=hid (QA.out.trans (gr_low gr QA.out.size fun k hk=>(World.ownsRow.lt OV.out k hk).1));obtain⟨Ax,cx,rfl,sc⟩:=sorted_own oa (by rw[List.length_append,List.length_singleton];omega);have SC:=hid (show Calls Tryz.prog 21 #[.slice Ax (l++[t]).length cx] u2b fun e w'=>∃v,e= .returned v/\OwnI u2b w' v (putI l t)/\Below u2b.heap.size u2b w' from sc);clear oa gr sc OV QA;generalize (l++[t]).length=lnx at *;go_wp2_with fail;refine SC.out.mono ?_;rintro e u3 ⟨vs,rfl,os,qs⟩;have QC:=QB.out.trans (qs.mono QB.out.size);have D3:=D2.trans (QC.mono D2.size);have I3:=hid (I3.out.below QC);have IL:=hid (IL.out.below QC);have RB:=hid (RB.out.below QC);obtain⟨RLA,RLc,RLe,RLi,-,-⟩:=os.at_;subst RLe;have RL:=hid RLi;have RLn:(putI l t).length<=5000:=Nat.le_trans (putI_spec l t).2.1 (by omega)
       clear QC QB SC os qs D2 RLi;have IN:=ints_any u3 RBA RLA (putI lb t).length RBc (putI l t).length RLc (putI lb t) (putI l t) RB.out RL.out (by omega) (by omega);rw[show decide (putI lb t=putI l t)=true from decide_eq_true PBK.out] at IN;generalize (putI lb t).length=k1 at *;generalize (putI l t).length=k2 at *;go_wp2_with fail;refine IN.mono ?_;rintro e u4 ⟨rfl,q4⟩;have D4:=D3.trans (q4.mono D3.size);clear IN q4 D3;go_wp2;go_ret;exact⟨rfl,D4⟩
      ·have hqb:decide (hi<=t)=false:=decide_eq_false hq
       have OUT:=hid (show (!(decide (t∈m.exc)||decide (hi<=t)))=true by rw[hp,decide_eq_false hq];rfl);have NOT:=hid (show ¬(t∈m.exc\/hi<=t) from fun z=>z.elim (of_decide_eq_false hp) hq);have DX:=hid (show decide (t∈la2)=true by rw[DHE.out];exact OUT.out);go_wp2_with fail;refine(first9_is v6 (TT.out.on BV6) (HH.out.on BV6)).mono ?_;rintro e u0 ⟨rfl,q0⟩;have D0:=BV6.trans (q0.mono BV6.size);have I3:=hid (IA3.out.below q0);have I4:=hid (IA4.out.below q0);have IL:=hid (LA6.out.below q0);clear q0 IA3 IA4 LA6;go_wp2_with fail;refine(vhas_is u0 A3 la2.length c3 la2 t I3.out (by omega) _ DX.out).mono ?_;rintro e u1 ⟨rfl,q1⟩;have D1:=D0.trans (q1.mono D0.size);have I3:=hid (I3.out.below q1);have I4:=hid (I4.out.below q1);have IL:=hid (IL.out.below q1);clear q1 D0;go_wp2_with fail;refine(copyI_is u1 A4 lb.length c4 lb I4.out (by omega) Z4.out).mono ?_;rintro e u1a ⟨vv,rfl,ov,qa⟩;have OV:=hid (show u1a.ownsRow u1.heap.size 3 1 vv lb.length (lb.map (Value.int .i64)) from ov);have QA:=hid qa;obtain⟨Av,cv,ev,-,-,-⟩:=ov.at_;subst ev;clear qa ov
       go_wp2_with (at_builtin;refine append_oneG (by kernel_rfl) _ _ rfl (.slice Av lb.length cv) lb rfl OV.out QA.out.size t _ 1 rfl (by omega) ?_)
       intro va u1b oa gr
       replace oa:u1b.ownsRow u1.heap.size 3 1 va (lb++[t]).length ((lb++[t]).map (Value.int .i64)):=by rw[List.length_append,List.map_append];exact oa
       have QB:=hid (QA.out.trans (gr_low gr QA.out.size fun k hk=>(World.ownsRow.lt OV.out k hk).1));obtain⟨Ax,cx,rfl,sc⟩:=sorted_own oa (by rw[List.length_append,List.length_singleton];omega);have SC:=hid (show Calls Tryz.prog 21 #[.slice Ax (lb++[t]).length cx] u1b fun e w'=>∃v,e= .returned v/\OwnI u1b w' v (putI lb t)/\Below u1b.heap.size u1b w' from sc);clear oa gr sc OV QA;generalize (lb++[t]).length=lnx at *;go_wp2_with fail;refine SC.out.mono ?_;rintro e u2 ⟨vs,rfl,os,qs⟩;have QC:=QB.out.trans (qs.mono QB.out.size);have D2:=D1.trans (QC.mono D1.size);have I3:=hid (I3.out.below QC);have IL:=hid (IL.out.below QC);obtain⟨RBA,RBc,RBe,RBi,-,-⟩:=os.at_;subst RBe;have RB:=hid RBi;have RBn:(putI lb t).length<=5000:=Nat.le_trans (putI_spec lb t).2.1 (by omega)
       clear QC QB SC os qs D1 RBi;go_wp2_with fail;refine(copyI_is u2 A l.length c l IL.out (by omega) LZ.out).mono ?_;rintro e u2a ⟨vv,rfl,ov,qa⟩;have OV:=hid (show u2a.ownsRow u2.heap.size 3 1 vv l.length (l.map (Value.int .i64)) from ov);have QA:=hid qa;obtain⟨Av,cv,ev,-,-,-⟩:=ov.at_;subst ev;clear qa ov
       go_wp2_with (at_builtin;refine append_oneG (by kernel_rfl) _ _ rfl (.slice Av l.length cv) l rfl OV.out QA.out.size t _ 1 rfl (by omega) ?_)
       intro va u2b oa gr
       replace oa:u2b.ownsRow u2.heap.size 3 1 va (l++[t]).length ((l++[t]).map (Value.int .i64)):=by rw[List.length_append,List.map_append];exact oa
       have QB:=hid (QA.out.trans (gr_low gr QA.out.size fun k hk=>(World.ownsRow.lt OV.out k hk).1));obtain⟨Ax,cx,rfl,sc⟩:=sorted_own oa (by rw[List.length_append,List.length_singleton];omega);have SC:=hid (show Calls Tryz.prog 21 #[.slice Ax (l++[t]).length cx] u2b fun e w'=>∃v,e= .returned v/\OwnI u2b w' v (putI l t)/\Below u2b.heap.size u2b w' from sc);clear oa gr sc OV QA;generalize (l++[t]).length=lnx at *;go_wp2_with fail;refine SC.out.mono ?_;rintro e u3 ⟨vs,rfl,os,qs⟩;have QC:=QB.out.trans (qs.mono QB.out.size);have D3:=D2.trans (QC.mono D2.size);have I3:=hid (I3.out.below QC);have IL:=hid (IL.out.below QC);have RB:=hid (RB.out.below QC);obtain⟨RLA,RLc,RLe,RLi,-,-⟩:=os.at_;subst RLe;have RL:=hid RLi;have RLn:(putI l t).length<=5000:=Nat.le_trans (putI_spec l t).2.1 (by omega)
       clear QC QB SC os qs D2 RLi;have IN:=ints_any u3 RBA RLA (putI lb t).length RBc (putI l t).length RLc (putI lb t) (putI l t) RB.out RL.out (by omega) (by omega);rw[show decide (putI lb t=putI l t)=true from decide_eq_true PBK.out] at IN;generalize (putI lb t).length=k1 at *;generalize (putI l t).length=k2 at *;go_wp2_with fail;refine IN.mono ?_;rintro e u4 ⟨rfl,q4⟩;have D4:=D3.trans (q4.mono D3.size);have I3:=hid (I3.out.below q4);have IL:=hid (IL.out.below q4);clear IN q4 D3 RB RL RBn RLn;go_wp2_with fail;refine(copyI_is u4 A l.length c l IL.out (by omega) LZ.out).mono ?_;rintro e u4a ⟨vv,rfl,ov,qa⟩;have OV:=hid (show u4a.ownsRow u4.heap.size 3 1 vv l.length (l.map (Value.int .i64)) from ov);have QA:=hid qa;obtain⟨Av,cv,ev,-,-,-⟩:=ov.at_;subst ev;clear qa ov
       go_wp2_with (at_builtin;refine append_oneG (by kernel_rfl) _ _ rfl (.slice Av l.length cv) l rfl OV.out QA.out.size t _ 1 rfl (by omega) ?_)
       intro va u4b oa gr
       replace oa:u4b.ownsRow u4.heap.size 3 1 va (l++[t]).length ((l++[t]).map (Value.int .i64)):=by rw[List.length_append,List.map_append];exact oa
       have QB:=hid (QA.out.trans (gr_low gr QA.out.size fun k hk=>(World.ownsRow.lt OV.out k hk).1));obtain⟨Ax,cx,rfl,sc⟩:=sorted_own oa (by rw[List.length_append,List.length_singleton];omega);have SC:=hid (show Calls Tryz.prog 21 #[.slice Ax (l++[t]).length cx] u4b fun e w'=>∃v,e= .returned v/\OwnI u4b w' v (putI l t)/\Below u4b.heap.size u4b w' from sc);clear oa gr sc OV QA;generalize (l++[t]).length=lnx at *;go_wp2_with fail;refine SC.out.mono ?_;rintro e u5 ⟨vs,rfl,os,qs⟩;have QC:=QB.out.trans (qs.mono QB.out.size);have D5:=D4.trans (QC.mono D4.size);have I3:=hid (I3.out.below QC);obtain⟨RMA,RMc,RMe,RMi,-,-⟩:=os.at_;subst RMe;have RM:=hid RMi;have RMn:(putI l t).length<=5000:=Nat.le_trans (putI_spec l t).2.1 (by omega)
       clear QC QB SC os qs D4 RMi;have IN:=ints_any u5 A3 RMA la2.length c3 (putI l t).length RMc la2 (putI l t) I3.out RM.out (by omega) (by omega);rw[show decide (la2=putI l t)=true from decide_eq_true (AE.out NOT.out)] at IN;generalize (putI l t).length=k3 at *;go_wp2_with fail;refine IN.mono ?_;rintro e u6 ⟨rfl,q6⟩;have D6:=D5.trans (q6.mono D5.size);clear IN q6 D5;go_wp2;go_ret;exact⟨rfl,D6⟩
end Go.Proofs.YtddnnljfgfcplaaGreatDoor.Me
