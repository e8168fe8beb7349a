/- What package expand's inPeriods goes through. Plain mathematics of chapter 8: of what is gone through, what is told. What package expand's moments goes through. -/
import Derived.Test.YtddnnljfgfcplaaGreatDoorExE
set_option maxRecDepth 100000
set_option maxHeartbeats 16000000
set_option linter.unusedVariables false
namespace Go.Proofs.YtddnnljfgfcplaaGreatDoor.Ex
open Lib (hid)
open Go Go.RowKit Go.Shelf Cv St Ru Dd Mb
attribute [local go_sem] Oper.semAt_some
theorem pers_seq (W0:World) (S:RS) (r:Ru) (start first last:Int) (p n:Nat) (hn:1<=n) (hR:RuAt W0 S r) (hm:mayR r=true) (hs:St.may start=true) (h3:r.freq<=4) (hp:r.pos≠[]) (f1:isday first=true) (l1:-1000000<=last) (l2:last<=2932896):
  SeqX Fence.wide n Tryz.prog 214 #[at0 (p+2),at0 (p+3),at0 p,at0 (p+1)] (setC W0 p) (InC W0 p S r start first last) (persL r start first last):=by
 intro l J Jx W hIn hJ hJx hY h0
 refine callsIn_wide.2 ?_
 have RA:=hid hR
 have FD:=of_decide_eq_true f1
 obtain⟨qP1,qP2⟩:=pos_may hm
 have PP:=hid (fun (m:Int) (a:List Int) (hl:isday last=true) (hd:isday m=true) (n1:first<=m) (n2:m<=last) ha=>perA_pre (r:=r) (start:=start) (first:=first) (last:=last) (n:=m) (a:=a) hm hs h3 hp f1 hl hd n1 n2 ha)
 have PN:=hid (fun (m:Int) (hd:isday m=true) (n1:first<=m) hb=>perA_next (r:=r) (start:=start) (first:=first) (n:=m) hm hs h3 hp f1 hd n1 hb)
 have PL:=hid (fun (m:Int) (hl:isday last=true) (hd:isday m=true) (n1:first<=m) (n2:m<=last) hb=>perA_last (r:=r) (start:=start) (first:=first) (last:=last) (n:=m) hm hs h3 hp f1 hl hd n1 n2 hb)
 have P0:=hid (perA_0 r start first)
 have PE:=hid (fun (e:last<first)=>show persL r start first last=[] by unfold persL;rw[if_neg (by omega)])
 have DI:=hid (fun (m:Int) (hd:isday m=true)=>days_in (r:=r) (n:=m) hm hd)
 have SR:=hid (fun m=>show (setR r start m 100000).1.Pairwise (· < ·) from ones_rise)
 have SF:=hid (fun m=>show ((setR r start m 100000).1.length:Int)<=100000 from setR_few (by decide))
 have HPS:=hid hp
 have M1:=hid hm
 have KY:=hid hY
 have KJ:=hid hJ
 have K0:=hid h0
 have QP1:=hid qP1
 have QP2:=hid qP2
 obtain⟨XS,hXS⟩:∃l,persL r start first last=l:=⟨_,rfl⟩
 rw[hXS] at PP PL PE KY ⊢
 clear hXS hm hs hY hJ h0 qP1 qP2 hR h3 hp f1
 have II:=hid hIn
 have FF:=hIn.four
 clear hIn
 obtain⟨ra6,rn6,rc6,ra7,rn7,rc7,ra8,rn8,rc8,ra9,rn9,rc9,ra10,rn10,rc10,ra11,rn11,rc11,ra12,rn12,rc12,ra13,rn13,rc13,ra14,rn14,rc14⟩:=S
 obtain⟨rfreq,ritv,rcnt,rtil,rwkst,rends,rmon,rweek,ryday,rmday,rday,rhour,rminu,rsec,rpos⟩:=r
 show Calls Tryz.prog 214 #[.func (.yield l) #[] #[],.pointer (some ⟨p+2,0,none⟩),.pointer (some ⟨p+3,0,none⟩),.pointer (some ⟨p,0,none⟩),.pointer (some ⟨p+1,0,none⟩)] W _
 go_enter Tryz.func214,Tryz.ntmps214
 have rs1:W.cell? ⟨p+1,0,none⟩=some (.int .i64 start):=FF.a
 have rs2:W.cell? ⟨p+2,0,none⟩=some (.int .i64 first):=FF.b
 have rs3:W.cell? ⟨p+3,0,none⟩=some (.int .i64 last):=FF.c
 go_wp2
 go_loopw [6] (fun i wr=>∃n:Int,i= .int .i64 n/\(first<=n/\n<=2932897)/\Hid (n<=last->J noneX (perA ⟨rfreq,ritv,rcnt,rtil,rwkst,rends,rmon,rweek,ryday,rmday,rday,rhour,rminu,rsec,rpos⟩ start first n) wr)/\Hid (last<n->J noneX XS wr)/\Hid (InC W0 p ⟨ra6,rn6,rc6,ra7,rn7,rc7,ra8,rn8,rc8,ra9,rn9,rc9,ra10,rn10,rc10,ra11,rn11,rc11,ra12,rn12,rc12,ra13,rn13,rc13,ra14,rn14,rc14⟩ ⟨rfreq,ritv,rcnt,rtil,rwkst,rends,rmon,rweek,ryday,rmday,rday,rhour,rminu,rsec,rpos⟩ start first last wr)) (fun i _=>(last+1-intOf i).toNat)
 case atStart=>exact⟨first,rfl,⟨Int.le_refl _,by omega⟩,hid (fun _=>by rw[P0.out];exact K0.out),hid (fun q=>by rw[PE.out q];exact K0.out),II⟩
 case round=>
  clear rs1 rs2 rs3;obtain⟨wq,rfl⟩:∃wq:World,wq=wr:=⟨_,rfl⟩;clear II FF K0;obtain⟨n0,rfl,⟨n1,n2⟩,JN,JL,IC⟩:=hrel;have FC:=IC.out.four
  by_cases hlt:n0<=last
  ·have J0:=hid (JN.out hlt)
   have t2:decide (n0<=last)=true:=decide_eq_true hlt
   have dn:isday n0=true:=decide_eq_true ⟨by omega,by omega⟩
   have dl:isday last=true:=decide_eq_true ⟨by omega,by omega⟩
   have DL:=hid dl;have DN:=hid dn;obtain⟨dr1,dr2,dr3,dr4⟩:=DI.out n0 dn;obtain⟨⟨a,b⟩,hab⟩:∃q,daysR ⟨rfreq,ritv,rcnt,rtil,rwkst,rends,rmon,rweek,ryday,rmday,rday,rhour,rminu,rsec,rpos⟩ (n0*86400)=q:=⟨_,rfl⟩;obtain⟨⟨T,x⟩,hT⟩:∃q,setR ⟨rfreq,ritv,rcnt,rtil,rwkst,rends,rmon,rweek,ryday,rmday,rday,rhour,rminu,rsec,rpos⟩ start (n0*86400) 100000=q:=⟨_,rfl⟩;obtain⟨P,hP⟩:∃l,pickL rpos T=l:=⟨_,rfl⟩;have rT:=SR.out (n0*86400);have lT:=SF.out (n0*86400);rw[hT] at rT lT
   replace lT:(T.length:Int)<=100000:=lT
   replace rT:T.Pairwise (· < ·):=rT
   rw[hab] at dr1 dr2 dr3 dr4
   replace dr2:n0<=b:=dr2
   replace dr3:b<=2932896:=dr3
   have AN:=hid (fun (hb:isday (b+1)=true)=>show perA ⟨rfreq,ritv,rcnt,rtil,rwkst,rends,rmon,rweek,ryday,rmday,rday,rhour,rminu,rsec,rpos⟩ start first n0++P=perA ⟨rfreq,ritv,rcnt,rtil,rwkst,rends,rmon,rweek,ryday,rmday,rday,rhour,rminu,rsec,rpos⟩ start first (b+1) by
    have q:=PN.out n0 dn n1 (by rw[hab];exact hb);rw[hab,hT] at q;rw[<-hP]
    exact q)
   have AL:=hid (fun (hb:last<b+1)=>show perA ⟨rfreq,ritv,rcnt,rtil,rwkst,rends,rmon,rweek,ryday,rmday,rday,rhour,rminu,rsec,rpos⟩ start first n0++P=XS by
    have q:=PL.out n0 dl dn n1 hlt (by rw[hab];exact hb);rw[hT] at q;rw[<-hP]
    exact q)
   have AP:=hid (fun (s:List Int) (hs:s <+: P)=>show perA ⟨rfreq,ritv,rcnt,rtil,rwkst,rends,rmon,rweek,ryday,rmday,rday,rhour,rminu,rsec,rpos⟩ start first n0++s <+: XS from PP.out n0 s dl dn n1 hlt (by rw[hT];rw[<-hP] at hs;exact hs));have HAB:=hid hab;have HT:=hid hT;have HP:=hid hP;have RT:=hid rT;have lP:P.length<=1000000:=by rw[<-hP];exact Nat.le_trans (pick_len _ _) (by omega)
   have lT:T.length<=1000000:=by omega
   clear hab hT hP rT dr1 dr4 dn dl JN JL;have IW:IntKind.i64.wrap (n0*86400)=n0*86400:=IntWalk.i64_in _ (by omega)
   have IW2:IntKind.i64.wrap (b+1)=b+1:=IntWalk.i64_in _ (by omega)
   have rz0:wq.cell? ⟨p,0,none⟩=some (.int .i64 rfreq):=FC.x.2 0 _ rfl
   have rz1:wq.cell? ⟨p,1,none⟩=some (.int .i64 ritv):=FC.x.2 1 _ rfl
   have rz2:wq.cell? ⟨p,2,none⟩=some (.int .i64 rcnt):=FC.x.2 2 _ rfl
   have rz3:wq.cell? ⟨p,3,none⟩=some (.int .i64 rtil):=FC.x.2 3 _ rfl
   have rz4:wq.cell? ⟨p,4,none⟩=some (.int .i64 rwkst):=FC.x.2 4 _ rfl
   have rz5:wq.cell? ⟨p,5,none⟩=some (.bool rends):=FC.x.2 5 _ rfl
   have rz6:wq.cell? ⟨p,6,none⟩=some (.slice ra6 rn6 rc6):=FC.x.2 6 _ rfl
   have rz7:wq.cell? ⟨p,7,none⟩=some (.slice ra7 rn7 rc7):=FC.x.2 7 _ rfl
   have rz8:wq.cell? ⟨p,8,none⟩=some (.slice ra8 rn8 rc8):=FC.x.2 8 _ rfl
   have rz9:wq.cell? ⟨p,9,none⟩=some (.slice ra9 rn9 rc9):=FC.x.2 9 _ rfl
   have rz10:wq.cell? ⟨p,10,none⟩=some (.slice ra10 rn10 rc10):=FC.x.2 10 _ rfl
   have rz11:wq.cell? ⟨p,11,none⟩=some (.slice ra11 rn11 rc11):=FC.x.2 11 _ rfl
   have rz12:wq.cell? ⟨p,12,none⟩=some (.slice ra12 rn12 rc12):=FC.x.2 12 _ rfl
   have rz13:wq.cell? ⟨p,13,none⟩=some (.slice ra13 rn13 rc13):=FC.x.2 13 _ rfl
   have rz14:wq.cell? ⟨p,14,none⟩=some (.slice ra14 rn14 rc14):=FC.x.2 14 _ rfl
   have rs1:wq.cell? ⟨p+1,0,none⟩=some (.int .i64 start):=FC.a
   have rs2:wq.cell? ⟨p+2,0,none⟩=some (.int .i64 first):=FC.b
   have rs3:wq.cell? ⟨p+3,0,none⟩=some (.int .i64 last):=FC.c
   go_wp2_with fail;refine(setP_is _ ⟨ra6,rn6,rc6,ra7,rn7,rc7,ra8,rn8,rc8,ra9,rn9,rc9,ra10,rn10,rc10,ra11,rn11,rc11,ra12,rn12,rc12,ra13,rn13,rc13,ra14,rn14,rc14⟩ ⟨rfreq,ritv,rcnt,rtil,rwkst,rends,rmon,rweek,ryday,rmday,rday,rhour,rminu,rsec,rpos⟩ start (n0*86400) 100000 (T,x) (RA.out.below IC.out.below) HT.out).mono ?_;rintro e w5 ⟨A1,c1,he,i1,b5⟩
   replace he:e= .returned (.tuple #[.slice A1 T.length c1,.int .i64 x]):=he
   subst he;clear rz0 rz1 rz2 rz3 rz4 rz5 rz6 rz7 rz8 rz9 rz10 rz11 rz12 rz13 rz14 rs1 rs2 rs3;have I1:=hid (show IsAt w5 A1 T.length T from i1);clear i1;have IC5:=hid (IC.out.on b5);have FC5:=FC.below b5;have J5:=hid (KJ.out.on J0.out b5);clear IC FC J0;have rz0:w5.cell? ⟨p,0,none⟩=some (.int .i64 rfreq):=FC5.x.2 0 _ rfl
   have rz1:w5.cell? ⟨p,1,none⟩=some (.int .i64 ritv):=FC5.x.2 1 _ rfl
   have rz2:w5.cell? ⟨p,2,none⟩=some (.int .i64 rcnt):=FC5.x.2 2 _ rfl
   have rz3:w5.cell? ⟨p,3,none⟩=some (.int .i64 rtil):=FC5.x.2 3 _ rfl
   have rz4:w5.cell? ⟨p,4,none⟩=some (.int .i64 rwkst):=FC5.x.2 4 _ rfl
   have rz5:w5.cell? ⟨p,5,none⟩=some (.bool rends):=FC5.x.2 5 _ rfl
   have rz6:w5.cell? ⟨p,6,none⟩=some (.slice ra6 rn6 rc6):=FC5.x.2 6 _ rfl
   have rz7:w5.cell? ⟨p,7,none⟩=some (.slice ra7 rn7 rc7):=FC5.x.2 7 _ rfl
   have rz8:w5.cell? ⟨p,8,none⟩=some (.slice ra8 rn8 rc8):=FC5.x.2 8 _ rfl
   have rz9:w5.cell? ⟨p,9,none⟩=some (.slice ra9 rn9 rc9):=FC5.x.2 9 _ rfl
   have rz10:w5.cell? ⟨p,10,none⟩=some (.slice ra10 rn10 rc10):=FC5.x.2 10 _ rfl
   have rz11:w5.cell? ⟨p,11,none⟩=some (.slice ra11 rn11 rc11):=FC5.x.2 11 _ rfl
   have rz12:w5.cell? ⟨p,12,none⟩=some (.slice ra12 rn12 rc12):=FC5.x.2 12 _ rfl
   have rz13:w5.cell? ⟨p,13,none⟩=some (.slice ra13 rn13 rc13):=FC5.x.2 13 _ rfl
   have rz14:w5.cell? ⟨p,14,none⟩=some (.slice ra14 rn14 rc14):=FC5.x.2 14 _ rfl
   have rs1:w5.cell? ⟨p+1,0,none⟩=some (.int .i64 start):=FC5.a
   go_wp2_with fail;refine(picked_is _ ⟨ra6,rn6,rc6,ra7,rn7,rc7,ra8,rn8,rc8,ra9,rn9,rc9,ra10,rn10,rc10,ra11,rn11,rc11,ra12,rn12,rc12,ra13,rn13,rc13,ra14,rn14,rc14⟩ ⟨rfreq,ritv,rcnt,rtil,rwkst,rends,rmon,rweek,ryday,rmday,rday,rhour,rminu,rsec,rpos⟩ A1 T.length c1 T P (RA.out.below IC5.out.below) QP1.out QP2.out I1.out RT.out lT HP.out).mono ?_;rintro e x2 ⟨A4,c4,rfl,i4,f4,b6⟩;clear rz0 rz1 rz2 rz3 rz4 rz5 rz6 rz7 rz8 rz9 rz10 rz11 rz12 rz13 rz14 rs1
   have FR4:=hid (show Fresh w5.heap.size A4 by
    rcases f4 with ⟨q,-⟩|f4
    ·exact absurd q HPS.out
    ·exact f4)
   have I4:=hid i4;have IC6:=hid (IC5.out.on b6);have K1:=hid (KJ.out noneX (fun k=>w5.heap.size<=k/\k<x2.heap.size) _ w5 x2 J5.out (Keeps.of_below b6) (fun k hk => .inr hk.1))
   have CX:=hid (show ∀k,(w5.heap.size<=k/\k<x2.heap.size)->¬setC W0 p k from fun k hk hc=>by
    have a:=IC5.out.below.size;have b:=IC5.out.four.lt
    rcases hc with h|h<;>omega)
   clear i4 f4 J5 IC5 FC5 I1 b5 b6;obtain⟨mP,hmP⟩:∃m,P.length=m:=⟨_,rfl⟩;have LP:=hid hmP;rw[hmP] at lP I4 ⊢;clear hmP;go_wp2
   go_loopw [29] (fun i wr=>∃u:Nat,u<=mP/\i= .int .i64 u/\Hid (J (fun k=>w5.heap.size<=k/\k<x2.heap.size) (perA ⟨rfreq,ritv,rcnt,rtil,rwkst,rends,rmon,rweek,ryday,rmday,rday,rhour,rminu,rsec,rpos⟩ start first n0++P.take u) wr)/\Hid (Keeps (fun k=>(w5.heap.size<=k/\k<x2.heap.size)\/setC W0 p k) x2 wr)) (fun i _=>mP-(intOf i).toNat)
   case atStart=>exact⟨0,Nat.zero_le _,rfl,hid (by simpa using K1.out),hid (Keeps.refl _ _)⟩
   case round=>
    clear K1;obtain⟨u,hu,rfl,JN,KK⟩:=hrel
    by_cases h5:u<mP
    ·obtain⟨bl2,of2,ea2,hl2,hc2⟩:=(is_keeps I4.out FR4.out KK.out (fun k a b => .inl ⟨a,b⟩)).2 (show 0<mP by omega)
     subst ea2;have c2:=hc2 u h5;have NM:=hid (take_at (l:=P) (t:=u) (by rw[LP.out];exact h5))
     have PRE:=hid (show (perA ⟨rfreq,ritv,rcnt,rtil,rwkst,rends,rmon,rweek,ryday,rmday,rday,rhour,rminu,rsec,rpos⟩ start first n0++P.take u)++[iat P u] <+: XS by
      rw[List.append_assoc,<-NM.out]
      exact AP.out _ (List.take_prefix _ _))
     clear hc2;generalize iat P u=m at *;obtain⟨fn,tmps,assign,body,hy,hR⟩:=KY.out _ _ m wr JN.out (fun k hk=>by have:=KK.out.size;omega) CX.out PRE.out;have HRD:=hid hR;clear hR;refine wpIn_wide (n:=n).1 ?_
     gi_wp2
     refine HRD.out.mono ?_;rintro e w7 (⟨rfl,hj,hk⟩|⟨rfl,hj,hk⟩)
     ·have JN7:=hid (show J (fun k=>w5.heap.size<=k/\k<x2.heap.size) (perA ⟨rfreq,ritv,rcnt,rtil,rwkst,rends,rmon,rweek,ryday,rmday,rday,rhour,rminu,rsec,rpos⟩ start first n0++P.take (u+1)) w7 by
       rw[List.append_assoc,<-NM.out] at hj
       exact hj)
      have KK7:=hid (KK.out.trans hk);clear hj hk hy HRD PRE
      gi_wp2
      go_roundw
      case rel=>exact⟨u+1,by omega,by go_num,JN7,KK7⟩
      case measure=>simp[intOf];omega
     ·have JX7:=hid (hJx _ noneX _ w7 w7 hj (Keeps.refl _ _) (fun k hk=>hk.elim))
      clear hj hk hy HRD
      gi_wp2
      refine bodyPost_ret (results_none rfl _ _ _) rfl ?_;exact⟨⟨_,rfl⟩,.inr ⟨_,PRE.out,JX7.out⟩⟩
    ·obtain rfl:mP=u:=by omega
     have JP:=hid (show J noneX (perA ⟨rfreq,ritv,rcnt,rtil,rwkst,rends,rmon,rweek,ryday,rmday,rday,rhour,rminu,rsec,rpos⟩ start first n0++P) wr by
      have q:=KJ.out _ noneX _ wr wr JN.out (Keeps.refl _ _) (fun k hk=>hk.elim)
      rwa [List.take_of_length_le (by rw[LP.out];exact Nat.le_refl _)] at q)
     have IC7:=hid (IC6.out.keeps KK.out fun k hk => .inr hk);have FC7:=IC7.out.four;clear JN KK;have rz0:wr.cell? ⟨p,0,none⟩=some (.int .i64 rfreq):=FC7.x.2 0 _ rfl
     have rz1:wr.cell? ⟨p,1,none⟩=some (.int .i64 ritv):=FC7.x.2 1 _ rfl
     have rz2:wr.cell? ⟨p,2,none⟩=some (.int .i64 rcnt):=FC7.x.2 2 _ rfl
     have rz3:wr.cell? ⟨p,3,none⟩=some (.int .i64 rtil):=FC7.x.2 3 _ rfl
     have rz4:wr.cell? ⟨p,4,none⟩=some (.int .i64 rwkst):=FC7.x.2 4 _ rfl
     have rz5:wr.cell? ⟨p,5,none⟩=some (.bool rends):=FC7.x.2 5 _ rfl
     have rz6:wr.cell? ⟨p,6,none⟩=some (.slice ra6 rn6 rc6):=FC7.x.2 6 _ rfl
     have rz7:wr.cell? ⟨p,7,none⟩=some (.slice ra7 rn7 rc7):=FC7.x.2 7 _ rfl
     have rz8:wr.cell? ⟨p,8,none⟩=some (.slice ra8 rn8 rc8):=FC7.x.2 8 _ rfl
     have rz9:wr.cell? ⟨p,9,none⟩=some (.slice ra9 rn9 rc9):=FC7.x.2 9 _ rfl
     have rz10:wr.cell? ⟨p,10,none⟩=some (.slice ra10 rn10 rc10):=FC7.x.2 10 _ rfl
     have rz11:wr.cell? ⟨p,11,none⟩=some (.slice ra11 rn11 rc11):=FC7.x.2 11 _ rfl
     have rz12:wr.cell? ⟨p,12,none⟩=some (.slice ra12 rn12 rc12):=FC7.x.2 12 _ rfl
     have rz13:wr.cell? ⟨p,13,none⟩=some (.slice ra13 rn13 rc13):=FC7.x.2 13 _ rfl
     have rz14:wr.cell? ⟨p,14,none⟩=some (.slice ra14 rn14 rc14):=FC7.x.2 14 _ rfl
     have EA:=hid (daysP_is wr ⟨ra6,rn6,rc6,ra7,rn7,rc7,ra8,rn8,rc8,ra9,rn9,rc9,ra10,rn10,rc10,ra11,rn11,rc11,ra12,rn12,rc12,ra13,rn13,rc13,ra14,rn14,rc14⟩ ⟨rfreq,ritv,rcnt,rtil,rwkst,rends,rmon,rweek,ryday,rmday,rday,rhour,rminu,rsec,rpos⟩ (n0*86400) a b (RA.out.below IC7.out.below) HAB.out);go_wp2_with fail;refine EA.out.mono ?_;rintro e w8 ⟨rfl,b8⟩;clear rz0 rz1 rz2 rz3 rz4 rz5 rz6 rz7 rz8 rz9 rz10 rz11 rz12 rz13 rz14;have JP8:=hid (KJ.out.on JP.out b8);have IC8:=hid (IC7.out.on b8);have G1:=hid (fun (q:b+1<=last)=>show J noneX (perA ⟨rfreq,ritv,rcnt,rtil,rwkst,rends,rmon,rweek,ryday,rmday,rday,rhour,rminu,rsec,rpos⟩ start first (b+1)) w8 by rw[<-AN.out (decide_eq_true ⟨by omega,by omega⟩)];exact JP8.out);have G2:=hid (fun (q:last<b+1)=>show J noneX XS w8 by rw[<-AL.out q];exact JP8.out);clear JP IC7 FC7 b8 EA;go_wp2
     go_roundw
     case rel=>exact⟨b+1,by first|rfl|(congr 1),⟨by omega,by omega⟩,G1,G2,IC8⟩
     case measure=>simp[intOf];omega
  ·have t2:decide (n0<=last)=false:=decide_eq_false hlt
   have JX:=hid (JL.out (by omega));have rs1:wq.cell? ⟨p+1,0,none⟩=some (.int .i64 start):=FC.a
   have rs2:wq.cell? ⟨p+2,0,none⟩=some (.int .i64 first):=FC.b
   have rs3:wq.cell? ⟨p+3,0,none⟩=some (.int .i64 last):=FC.c
   go_wp2
   go_end0
   exact⟨⟨_,rfl⟩,.inl JX.out⟩
end Go.Proofs.YtddnnljfgfcplaaGreatDoor.Ex
namespace Go.Proofs.YtddnnljfgfcplaaGreatDoor.Ex
open Cv St Ru Dd Mb
def fltF (f:Int) (l:List Int):List Int:=l.filter fun x=>decide (f<=x)
def winF (f hi:Int) (l:List Int):List Int:=l.filter fun x=>decide (f<=x/\x<hi)
theorem flt_yes {f x:Int} {l:List Int} (h:f<=x):fltF f (l++[x])=fltF f l++[x]:=by unfold fltF;rw[List.filter_append];simp[h]
theorem flt_no {f x:Int} {l:List Int} (h:x<f):fltF f (l++[x])=fltF f l:=by unfold fltF;rw[List.filter_append];simp;omega
theorem flt_win {f hi:Int} {l:List Int} (h:∀y∈fltF f l,y<hi):fltF f l=winF f hi l:=by
 unfold fltF winF at *
 refine List.filter_congr fun x hx => ?_
 by_cases c:f<=x
 ·have:=h x (List.mem_filter.2 ⟨hx,decide_eq_true c⟩)
  simp[c,this]
 ·simp[c]
theorem win_pre {f hi:Int} {l m:List Int} (h:l <+: m):winF f hi l <+: winF f hi m:=by
 obtain⟨t,rfl⟩:=h
 exact⟨winF f hi t,by unfold winF;rw[List.filter_append]⟩
def Room (c:Int) (l:List Int):Prop:=c=0\/(l.length:Int)<c
theorem cut_of {c:Int} {l m:List Int} (h:l <+: m) (hr:c=0\/(l.length:Int)<=c):l <+: cutL c m:=by
 unfold cutL
 split
 ·exact h
 ·rename_i c0
  have:l.length<=c.toNat:=by omega
  obtain⟨t,rfl⟩:=h;rw[List.take_append,List.take_of_length_le this];exact⟨_,rfl⟩
theorem cut_eq {c:Int} {m:List Int} (h:Room c m):cutL c m=m:=by
 unfold cutL
 split
 ·rfl
 ·rename_i c0
  rcases h with h|h
  ·exact absurd h c0
  ·exact List.take_of_length_le (by omega)
theorem mom_one {f hi c x:Int} {A pre:List Int} (hp:pre++[x] <+: A) (hx:f<=x) (hh:x<hi) (hl:∀y∈fltF f pre,y<hi) (hc:Room c (fltF f pre)):fltF f pre++[x] <+: cutL c (winF f hi A):=by
 have e:fltF f pre++[x]=winF f hi (pre++[x]):=by
  rw[<-flt_yes hx]
  refine flt_win fun y hy => ?_
  rw[flt_yes hx] at hy
  rcases List.mem_append.1 hy with q|q
  ·exact hl y q
  ·have:y=x:=by simpa using q
   omega
 refine cut_of (e ▸ win_pre hp) ?_
 rcases hc with h|h
 ·exact .inl h
 ·right;rw[List.length_append];simp;omega
theorem mom_end {f hi c x:Int} {A pre:List Int} (hr:A.Pairwise (· < ·)) (hp:pre++[x] <+: A) (hh:hi<=x) (hl:∀y∈fltF f pre,y<hi) (hc:Room c (fltF f pre)):fltF f pre=cutL c (winF f hi A):=by
 obtain⟨t,rfl⟩:=hp
 have e:winF f hi (pre++[x]++t)=winF f hi pre:=by
  unfold winF;rw[List.append_assoc,List.filter_append]
  have:([x]++t).filter (fun y=>decide (f<=y/\y<hi))=[]:=by
   rw[List.filter_eq_nil_iff];intro y hy
   have hxy:x<=y:=by
    rcases List.mem_append.1 hy with q|q
    ·have:y=x:=by simpa using q
     omega
    ·have:=(List.pairwise_append.1 hr).2.2 x (by simp) y q
     omega
   simp
   omega
  rw[this,List.append_nil]
 rw[e,<-flt_win hl,cut_eq hc]
theorem mom_cnt {f hi c x:Int} {A pre:List Int} (hp:fltF f pre++[x] <+: cutL c (winF f hi A)) (h0:c≠0) (h1:0<=c) (hc:((fltF f pre++[x]).length:Int)=c):fltF f pre++[x]=cutL c (winF f hi A):=by
 refine hp.eq_of_length_le ?_
 unfold cutL
 rw[if_neg h0,List.length_take]
 omega
theorem mom_all {f hi c:Int} {A:List Int} (hl:∀y∈fltF f A,y<hi) (hc:Room c (fltF f A)):fltF f A=cutL c (winF f hi A):=by
 rw[<-flt_win hl,cut_eq hc]
theorem mom_win {r:Ru} {start from_ end_:Int} (h:mayR r=true) (hf:St.may from_=true) (hs:start<=from_) (hh:hiR r end_<=253402300800):cutL r.cnt (winF from_ (hiR r end_) (arndL r start from_ (hiR r end_)))=momL r start from_ end_:=by
 unfold momL winF
 rw[arnd_win h hf hh,has_sel hs]
theorem room_more {c x:Int} {l:List Int} (h:Room c l) (hn:((l++[x]).length:Int)≠c):Room c (l++[x]):=by
 rw[List.length_append] at hn
 unfold Room
 rw[List.length_append]
 simp at hn ⊢
 rcases h with h|h
 ·exact .inl h
 ·right;omega
end Go.Proofs.YtddnnljfgfcplaaGreatDoor.Ex
namespace Go.Proofs.YtddnnljfgfcplaaGreatDoor.Ex
open Lib (hid)
open Go Go.RowKit Go.Shelf Cv St Ru Dd Mb
attribute [local go_sem] Oper.semAt_some
theorem Keeps.frozen {X:Nat->Prop} {a b:World} (h:Keeps X a b) {p:Addr} {v:Value} (hX:X p.block) (hc:a.cell? p=some v) (hf:a.frozen? p=false):b.frozen? p=false:=by
 obtain⟨o,ho,-⟩:=cells_of_cell hc
 exact(World.frozen?_of_block (w:=a) (h.same _ hX (Array.getElem?_eq_some_iff.1 ho).1)).trans hf
theorem round_wide {l0 m n l:Nat} {P:Program} {f:FuncId} {t:Array Value} {a b:Code} {w:World} {R:Ending->World->Prop} (h:RoundIn Fence.wide n P l f t a b w R):RoundIn (Fence.wide.inRound l0) m P l f t a b w R:=⟨h.1,fun c cs hr=>h.2 c cs (room_wide _)⟩
structure MomI (W0:World) (S:RS) (r:Ru) (start from_ hi:Int) (l p B E:Nat) (J:(Nat->Prop)->List Int->World->Prop) (X:Nat->Prop) (pre:List Int) (w:World):Prop where
 j:J (fun k=>X k\/(B<=k/\k<E)) (fltF from_ pre) w
 own:∀k,B<=k->k<E->¬X k
 far:∀k,setC W0 p k->¬X k
 size:E<=w.heap.size
 y:w.cell? ⟨B,0,none⟩=some (.func (.yield l) #[] #[])
 n:w.cell? ⟨B+1,0,none⟩=some (.int .i64 (fltF from_ pre).length)
 f:w.frozen? ⟨B+1,0,none⟩=false
 inc:InC W0 p S r start from_ hi w
 lo:∀y∈fltF from_ pre,y<hi
 room:Room r.cnt (fltF from_ pre)
theorem mom_foot {W0:World} {S:RS} {r:Ru} {start from_ hi:Int} {l p B E:Nat} {J:(Nat->Prop)->List Int->World->Prop} (hJ:Foot J) (hB:B+1<E) (hp:p+3<B) (h0:W0.heap.size<=p):Foot (MomI W0 S r start from_ hi l p B E J):=by
 intro X X' s W W' h hk hx
 have ny:¬X B:=h.own B (Nat.le_refl _) (by omega)
 have nn:¬X (B+1):=h.own (B+1) (by omega) hB
 refine⟨hJ _ _ _ W W' h.j (hk.mono fun k hk hx=>hk (.inl hx)) ?_,?_,?_,Nat.le_trans h.size hk.size,hk.cell ny h.y,hk.cell nn h.n,hk.frozen nn h.n h.f,h.inc.keeps hk fun k hc=>h.far k hc,h.lo,h.room⟩
 ·rintro k (q|q)
  ·rcases hx k q with q|q
   ·exact .inl (.inl q)
   ·exact .inr q
  ·exact .inl (.inr q)
 ·intro k k1 k2 q
  rcases hx k q with q|q
  ·exact h.own k k1 k2 q
  ·have:=h.size;omega
 ·intro k hc q
  rcases hx k q with q|q
  ·exact h.far k hc q
  ·have:=h.size
   rcases hc with c|c<;>omega
def MomX (XS:List Int) (J Jx:(Nat->Prop)->List Int->World->Prop) (c:Code) (X:Nat->Prop) (_:List Int) (w:World):Prop:=c= .ret/\(J X XS w\/∃q,q <+: XS/\Jx X q w)
theorem momx_foot {XS:List Int} {J Jx:(Nat->Prop)->List Int->World->Prop} (hJ:Foot J) (hJx:Foot Jx) (c:Code):Foot (MomX XS J Jx c):=by
 rintro X X' s W W' ⟨e,h⟩ hk hx
 refine⟨e,?_⟩
 rcases h with h|⟨q,hq,h⟩
 ·exact .inl (hJ _ _ _ W W' h hk hx)
 ·exact .inr ⟨q,hq,hJx _ _ _ W W' h hk hx⟩
theorem mom_seq (W0:World) (S:RS) (r:Ru) (start from_ end_:Int) (p n:Nat) (hn:4<=n) (hR:RuAt W0 S r) (hm:mayR r=true) (hs:St.may start=true) (mf:St.may from_=true) (hf:start<=from_) (he1:-62135596800<=hiR r end_) (he2:hiR r end_<=253402300800):
  SeqX Fence.wide n Tryz.prog 135 #[at0 p,at0 (p+1),at0 (p+2),at0 (p+3)] (setC W0 p) (InC W0 p S r start from_ (hiR r end_)) (momL r start from_ end_):=by
 intro l J Jx W hIn hJ hJx hY h0
 have AR:=hid (arnd_rise r start from_ (hiR r end_))
 have AW:=hid (mom_win (end_:=end_) hm mf hf he2)
 obtain⟨hi,hhi⟩:∃x,hiR r end_=x:=⟨_,rfl⟩
 obtain⟨A,hA⟩:∃x,arndL r start from_ (hiR r end_)=x:=⟨_,rfl⟩
 have HA:=hid (show arndL r start from_ hi=A by rw[<-hhi];exact hA)
 rw[hA,hhi] at AW
 rw[hA] at AR
 rw[hhi] at he1 he2 hIn
 obtain⟨XS,hXS⟩:∃l,momL r start from_ end_=l:=⟨_,rfl⟩
 rw[hXS] at AW hY ⊢
 obtain⟨itv1,itv2,cnt1,cnt2⟩:=(freq_may hm).2
 have fb:=of_decide_eq_true mf
 have RA:=hid hR
 have M1:=hid hm
 have M2:=hid hs
 have HH:=hid (show isday (from_ / 86400)=true/\-1000000<=from_ / 86400/\from_ / 86400<=3000000/\-1000000<=(hi-1) / 86400/\(hi-1) / 86400<=2932896 from ⟨may_isday mf,by omega⟩)
 have KY:=hid hY
 have KJ:=hid hJ
 have KX:=hid hJx
 have K0:=hid h0
 have II:=hid hIn
 have FF:=hIn.four
 clear hIn hY hJ hJx h0 hXS hm hs mf hR hA hhi itv1 itv2 hf
 obtain⟨ra6,rn6,rc6,ra7,rn7,rc7,ra8,rn8,rc8,ra9,rn9,rc9,ra10,rn10,rc10,ra11,rn11,rc11,ra12,rn12,rc12,ra13,rn13,rc13,ra14,rn14,rc14⟩:=S
 obtain⟨rfreq,ritv,rcnt,rtil,rwkst,rends,rmon,rweek,ryday,rmday,rday,rhour,rminu,rsec,rpos⟩:=r
 replace cnt1:0<=rcnt:=cnt1
 replace cnt2:rcnt<=4096:=cnt2
 show CallsIn Fence.wide n Tryz.prog 135 #[.func (.yield l) #[] #[],.pointer (some ⟨p,0,none⟩),.pointer (some ⟨p+1,0,none⟩),.pointer (some ⟨p+2,0,none⟩),.pointer (some ⟨p+3,0,none⟩)] W _
 refine callsIn_of_wp_marks Tryz.func135 rfl trivial ?_ rfl
 simp only[Tryz.ntmps135,List.size_toArray,List.length_cons,List.length_nil,Nat.reduceAdd,Nat.reduceSub,Array.replicate_succ,Array.replicate_zero,List.push_toArray,List.append_toArray,List.nil_append,List.cons_append]
 refine wpIn_wide.2 ?_
 go_upto_region 2 with fail
 obtain⟨y1,Y1⟩:=box_new W #[.func (.yield l) #[] #[]] 80
 generalize hv:W.alloc (.cells #[.func (.yield l) #[] #[]] 80)=v at *
 have ev:v.heap.size=W.heap.size+1:=by rw[<-hv];simp
 clear hv
 obtain⟨y2,N2⟩:=box_new v #[.int .i64 0] 3
 have fz:(v.alloc (.cells #[.int .i64 0] 3)).frozen? ⟨v.heap.size,0,none⟩=false:=by simp[go_sem]
 generalize hz:v.alloc (.cells #[.int .i64 0] 3)=z at *
 have ez:z.heap.size=W.heap.size+2:=by rw[<-hz];simp[ev]
 clear hz
 rw[ev] at fz N2
 have cy:z.cell? ⟨W.heap.size,0,none⟩=some (.func (.yield l) #[] #[]):=(Y1.below y2).2 0 _ rfl
 have cn:z.cell? ⟨W.heap.size+1,0,none⟩=some (.int .i64 0):=N2.2 0 _ rfl
 have Z:=y1.trans (y2.mono y1.size)
 have FZ:=FF.below Z
 have IZ:=hid (II.out.on Z)
 have PL:=FF.lt
 have SP:=II.out.size
 clear y1 y2 Y1 N2 ev FF
 have HH:=hid HH.out
 have rz0:z.cell? ⟨p,0,none⟩=some (.int .i64 rfreq):=FZ.x.2 0 _ rfl
 have rz1:z.cell? ⟨p,1,none⟩=some (.int .i64 ritv):=FZ.x.2 1 _ rfl
 have rz2:z.cell? ⟨p,2,none⟩=some (.int .i64 rcnt):=FZ.x.2 2 _ rfl
 have rz3:z.cell? ⟨p,3,none⟩=some (.int .i64 rtil):=FZ.x.2 3 _ rfl
 have rz4:z.cell? ⟨p,4,none⟩=some (.int .i64 rwkst):=FZ.x.2 4 _ rfl
 have rz5:z.cell? ⟨p,5,none⟩=some (.bool rends):=FZ.x.2 5 _ rfl
 have rz6:z.cell? ⟨p,6,none⟩=some (.slice ra6 rn6 rc6):=FZ.x.2 6 _ rfl
 have rz7:z.cell? ⟨p,7,none⟩=some (.slice ra7 rn7 rc7):=FZ.x.2 7 _ rfl
 have rz8:z.cell? ⟨p,8,none⟩=some (.slice ra8 rn8 rc8):=FZ.x.2 8 _ rfl
 have rz9:z.cell? ⟨p,9,none⟩=some (.slice ra9 rn9 rc9):=FZ.x.2 9 _ rfl
 have rz10:z.cell? ⟨p,10,none⟩=some (.slice ra10 rn10 rc10):=FZ.x.2 10 _ rfl
 have rz11:z.cell? ⟨p,11,none⟩=some (.slice ra11 rn11 rc11):=FZ.x.2 11 _ rfl
 have rz12:z.cell? ⟨p,12,none⟩=some (.slice ra12 rn12 rc12):=FZ.x.2 12 _ rfl
 have rz13:z.cell? ⟨p,13,none⟩=some (.slice ra13 rn13 rc13):=FZ.x.2 13 _ rfl
 have rz14:z.cell? ⟨p,14,none⟩=some (.slice ra14 rn14 rc14):=FZ.x.2 14 _ rfl
 have rs1:z.cell? ⟨p+1,0,none⟩=some (.int .i64 start):=FZ.a
 have rs2:z.cell? ⟨p+2,0,none⟩=some (.int .i64 from_):=FZ.b
 have rs3:z.cell? ⟨p+3,0,none⟩=some (.int .i64 hi):=FZ.c
 go_wp2_with fail
 refine(around_is _ ⟨ra6,rn6,rc6,ra7,rn7,rc7,ra8,rn8,rc8,ra9,rn9,rc9,ra10,rn10,rc10,ra11,rn11,rc11,ra12,rn12,rc12,ra13,rn13,rc13,ra14,rn14,rc14⟩ ⟨rfreq,ritv,rcnt,rtil,rwkst,rends,rmon,rweek,ryday,rmday,rday,rhour,rminu,rsec,rpos⟩ start from_ hi (RA.out.below IZ.out.below) (by omega) (by omega) (by omega) (by omega)).mono ?_
 rintro e w1 ⟨p2,hc,hp2,F4,b1⟩
 clear rz0 rz1 rz2 rz3 rz4 rz5 rz6 rz7 rz8 rz9 rz10 rz11 rz12 rz13 rz14 rs1 rs2 rs3
 have SZ:=b1.size
 have cy1:=(b1.cell (p:=⟨W.heap.size,0,none⟩) (by simp;omega)).trans cy
 have cn1:=(b1.cell (p:=⟨W.heap.size+1,0,none⟩) (by simp;omega)).trans cn
 have fz1:=(b1.frozen (p:=⟨W.heap.size+1,0,none⟩) (by simp;omega)).trans fz
 have BZ:=Z.trans (b1.mono Z.size)
 have I1:=hid (IZ.out.on b1)
 have J1:=hid (KJ.out noneX (fun k=>noneX k\/(W.heap.size<=k/\k<w1.heap.size)) [] W w1 K0.out (Keeps.of_below BZ) (fun k hk => .inr (by rcases hk with h|h;exact h.elim;exact h.1)))
 have lt4:=F4.lt
 obtain⟨gf,lb,hv,hg,HSEQ⟩:∃gf lb,e= .returned (.func (.func gf) #[] lb)/\(∀args w,(callFunc gf args).run Tryz.prog w= .ok (.enter gf args) w)/\SeqX Fence.wide (n-1) Tryz.prog gf lb (setC W0 p2) (InC W0 p2 ⟨ra6,rn6,rc6,ra7,rn7,rc7,ra8,rn8,rc8,ra9,rn9,rc9,ra10,rn10,rc10,ra11,rn11,rc11,ra12,rn12,rc12,ra13,rn13,rc13,ra14,rn14,rc14⟩ ⟨rfreq,ritv,rcnt,rtil,rwkst,rends,rmon,rweek,ryday,rmday,rday,rhour,rminu,rsec,rpos⟩ start (from_ / 86400) ((hi-1) / 86400)) A:=by
  obtain⟨h1,h2,h3,h4,h5⟩:=HH.out
  rcases hc with ⟨c1,c2,rfl⟩|⟨c1,rfl⟩
  ·refine⟨_,_,rfl,enters_of Tryz.func214 (by kernel_rfl) rfl,?_⟩
   rw[<-HA.out];unfold arndL;rw[if_pos ⟨c1,c2⟩];exact pers_seq W0 _ _ start _ _ p2 (n-1) (by omega) RA.out M1.out M2.out (by omega) c2 h1 h4 h5
  ·refine⟨_,_,rfl,enters_of Tryz.func218 (by kernel_rfl) rfl,?_⟩
   rw[<-HA.out];unfold arndL;rw[if_neg c1];refine days_seq W0 _ _ start _ _ p2 (n-1) (by omega) RA.out M1.out M2.out ?_ h2 h3 h4 (by omega)
   by_cases q:rpos=[]
   ·exact .inr q
   ·exact .inl (by
     have:¬rfreq<=3:=fun u=>c1 ⟨u,q⟩
     show 4<=rfreq
     omega)
 subst hv
 have IN2:InC W0 p2 ⟨ra6,rn6,rc6,ra7,rn7,rc7,ra8,rn8,rc8,ra9,rn9,rc9,ra10,rn10,rc10,ra11,rn11,rc11,ra12,rn12,rc12,ra13,rn13,rc13,ra14,rn14,rc14⟩ ⟨rfreq,ritv,rcnt,rtil,rwkst,rends,rmon,rweek,ryday,rmday,rday,rhour,rminu,rsec,rpos⟩ start (from_ / 86400) ((hi-1) / 86400) w1:=⟨Nat.le_trans (by omega) hp2,IZ.out.below.trans (b1.mono IZ.out.below.size),F4⟩
 clear hc HA HH cy cn fz IZ FZ Z b1 F4 K0
 go_wp2
 refine wpIn_wide (n:=n).1 ?_
 refine wpIn_rangeX (n:=n) rfl (by omega) (gf:=gf) (lb:=lb) rfl trivial hg HSEQ (fun k hk=>by
   have:=IN2.below.size
   rcases hk with h|h<;>omega) (fun W' hk=>IN2.keeps hk fun k hc=>by
   have:=IN2.below.size
   rcases hc with h|h<;>omega)
  (MomI W0 ⟨ra6,rn6,rc6,ra7,rn7,rc7,ra8,rn8,rc8,ra9,rn9,rc9,ra10,rn10,rc10,ra11,rn11,rc11,ra12,rn12,rc12,ra13,rn13,rc13,ra14,rn14,rc14⟩ ⟨rfreq,ritv,rcnt,rtil,rwkst,rends,rmon,rweek,ryday,rmday,rday,rhour,rminu,rsec,rpos⟩ start from_ hi l p W.heap.size w1.heap.size J) (MomX XS J Jx) (mom_foot KJ.out (by omega) (by omega) SP) (momx_foot KJ.out KX.out)
  ⟨J1.out,fun _ _ _ h=>h,fun _ _ h=>h,Nat.le_refl _,cy1,cn1,fz1,I1.out,(fun y hy=>by cases hy),(by show rcnt=0\/(0:Int)<rcnt;omega)⟩
  (fun x=>{ tmps:=#[.func (.yield l) #[] #[],.pointer (some ⟨p,0,none⟩),.pointer (some ⟨p+1,0,none⟩),.pointer (some ⟨p+2,0,none⟩),.pointer (some ⟨p+3,0,none⟩),.pointer (some ⟨W.heap.size,0,none⟩),.pointer (some ⟨W.heap.size+1,0,none⟩),.int .i64 x,.agg #[.int .i64 rfreq,.int .i64 ritv,.int .i64 rcnt,.int .i64 rtil,.int .i64 rwkst,.bool rends,.slice ra6 rn6 rc6,.slice ra7 rn7 rc7,.slice ra8 rn8 rc8,.slice ra9 rn9 rc9,.slice ra10 rn10 rc10,.slice ra11 rn11 rc11,.slice ra12 rn12 rc12,.slice ra13 rn13 rc13,.slice ra14 rn14 rc14],.int .i64 start,.int .i64 from_,.int .i64 hi,.func (.func gf) #[] lb,.int .i64 x,undef,undef,undef,undef,undef,undef,undef,undef,undef,undef,undef,undef,undef,undef,undef,undef,undef,undef],defers:= [] }) ?assign ?body ?done ?stop
 case assign=>
  intro l0 x W2 K hK
  gi_wp2
  exact hK
 case body=>
  rintro l0 X pre x W2 M hX hXC hXD hXL hpre;have FC:=M.inc.four;have my:=M.y;have mn:=M.n;have mf:=M.f;have sz:=M.size;have RM:=hid M.room;have LO:=hid M.lo;have nX:¬X (W.heap.size+1):=M.own _ (by omega) (by omega)
  have LEN:(fltF from_ pre).length<=1000000000000:=by
   have q:=AR.out.sublist (List.IsPrefix.sublist (List.IsPrefix.trans ⟨[x],rfl⟩ hpre));have u:=rise_len (a:=from_) (b:=hi) (l:=fltF from_ pre) (q.filter _) (fun y hy=>⟨of_decide_eq_true (List.mem_filter.1 hy).2,LO.out y hy⟩);omega
  by_cases hx:x<from_
  ·have t0:decide (x<from_)=true:=decide_eq_true hx
   have rs2:W2.cell? ⟨p+2,0,none⟩=some (.int .i64 from_):=FC.b
   have SAME:=hid (flt_no (f:=from_) (x:=x) (l:=pre) hx)
   gi_wp2
   exact⟨Keeps.refl _ _,⟨by rw[SAME.out];exact M.j,M.own,M.far,M.size,M.y,by rw[SAME.out];exact M.n,M.f,M.inc,by rw[SAME.out];exact M.lo,by rw[SAME.out];exact M.room⟩⟩
  ·have t0:decide (x<from_)=false:=decide_eq_false hx
   by_cases hh:hi<=x
   ·have t1:decide (hi<=x)=true:=decide_eq_true hh
    have rs2:W2.cell? ⟨p+2,0,none⟩=some (.int .i64 from_):=FC.b
    have rs3:W2.cell? ⟨p+3,0,none⟩=some (.int .i64 hi):=FC.c
    have EQ:=hid (show fltF from_ pre=XS by rw[<-AW.out];exact mom_end AR.out hpre hh LO.out RM.out)
    gi_wp2
    refine⟨fun _ h=>(by cases h),?_⟩
    gi_wp2
    exact⟨Keeps.refl _ _,rfl,.inl (KJ.out _ X _ W2 W2 (by rw[<-EQ.out];exact M.j) (Keeps.refl _ _) fun k h=>Or.inl (Or.inl h))⟩
   ·have t1:decide (hi<=x)=false:=decide_eq_false hh
    have rs2:W2.cell? ⟨p+2,0,none⟩=some (.int .i64 from_):=FC.b
    have rs3:W2.cell? ⟨p+3,0,none⟩=some (.int .i64 hi):=FC.c
    have PRE:=hid (show fltF from_ pre++[x] <+: XS by rw[<-AW.out];exact mom_one hpre (Int.not_lt.1 hx) (Int.not_le.1 hh) LO.out RM.out);have YES:=hid (flt_yes (f:=from_) (x:=x) (l:=pre) (Int.not_lt.1 hx))
    obtain⟨fn,tmps,assign,body,hy,hR⟩:=KY.out _ _ x W2 M.j (fun k hk=>by rcases hk with h|h;exact hX k h;omega) (fun k hk hc=>by
     rcases hk with h|h
     ·exact M.far k hc h
     ·rcases hc with c|c<;>omega) PRE.out
    have HRD:=hid hR;have HX:=hid hx;have HHI:=hid hh;clear hR hx hh
    gi_wp2
    refine⟨fun _=>by omega,(round_wide HRD.out).mono ?_⟩;rintro e w7 (⟨rfl,hj,hk⟩|⟨rfl,hj,hk⟩)
    ·have my7:=hk.cell (p:=⟨W.heap.size,0,none⟩) (.inl (.inr ⟨by simp,by simp;omega⟩)) my
     have mn7:=hk.cell (p:=⟨W.heap.size+1,0,none⟩) (.inl (.inr ⟨by simp,by simp;omega⟩)) mn;have mf7:=hk.frozen (p:=⟨W.heap.size+1,0,none⟩) (.inl (.inr ⟨by simp,by simp;omega⟩)) mn mf
     have ic7:=M.inc.keeps hk fun k hc => .inr hc
     have f7:=ic7.four;have zc:w7.cell? ⟨p,2,none⟩=some (.int .i64 rcnt):=f7.x.2 2 _ rfl
     have lt7:=f7.lt;have s7:=hk.size;obtain⟨m,hm⟩:∃m,(fltF from_ pre).length=m:=⟨_,rfl⟩;have HM:=hid hm;rw[hm] at mn mn7 LEN;clear hm;have W1':IntKind.i64.wrap ((m:Int)+1)=(m:Int)+1:=IntWalk.i64_in _ (by omega)
     have HK:=hid hk;have HJ:=hid hj;clear hk hj my mn mf hy HRD;have zc2:(w7.setCell ⟨W.heap.size+1,0,none⟩ (.int .i64 ((m:Int)+1))).cell? ⟨p,2,none⟩=some (.int .i64 rcnt):=by rw[World.cell?_setCell_other _ _ _ _ (by simp<;>omega)];exact zc
     have J8:=hid (KJ.out _ (fun k=>X k\/(W.heap.size<=k/\k<w1.heap.size)) _ w7 (w7.setCell ⟨W.heap.size+1,0,none⟩ (.int .i64 ((m:Int)+1))) HJ.out (Keeps.setCell _ _ _ (fun h=>h (Or.inr ⟨by simp,by simp;omega⟩))) (fun k h=>Or.inl h))
     have K8:=hid (show Keeps (fun k=>X k\/setC W0 p2 k) W2 (w7.setCell ⟨W.heap.size+1,0,none⟩ (.int .i64 ((m:Int)+1))) from (HK.out.mono (Y:=fun k=>X k\/setC W0 p2 k) fun k h=>by
       rcases h with h|h|h
       ·exact .inl (.inl h)
       ·exact .inr (.inl h)
       ·exact .inl (.inr ⟨by omega,by omega⟩)).trans (Keeps.setCell _ _ _ (fun h=>by
       rcases h with h|h|h
       ·exact nX h
       ·have:=IN2.below.size;simp at h;omega
       ·simp at h;omega)))
     have E1:=hid (show ((fltF from_ pre++[x]).length:Int)=(m:Int)+1 by rw[List.length_append,HM.out];simp)
     by_cases hc:(m:Int)+1=rcnt
     ·have t2:(((m:Int)+1)==rcnt)=true:=by rw[beq_iff_eq];exact hc
      have EQ:=hid (show fltF from_ pre++[x]=XS by
       rw[<-AW.out]
       exact mom_cnt (by rw[AW.out];exact PRE.out) (by show rcnt≠0;omega) cnt1 (E1.out.trans hc))
      have HC:=hid hc;clear hc
      gi_wp2
      exact⟨K8.out,rfl,.inl (KJ.out _ X _ _ _ (by rw[<-EQ.out];exact J8.out) (Keeps.refl _ _) fun k h=>Or.inl (Or.inl h))⟩
     ·have t2:(((m:Int)+1)==rcnt)=false:=by rw[beq_eq_false_iff_ne];exact hc
      have NR:=hid (room_more (x:=x) RM.out (fun q=>hc (E1.out.symm.trans q)));have ic8:=hid (ic7.keeps (Keeps.setCell (X:=setC W0 p) w7 ⟨W.heap.size+1,0,none⟩ (.int .i64 ((m:Int)+1)) (fun h=>by rcases h with h|h<;>simp at h<;>omega)) fun k hc=>hc);have cB:=hid (show (w7.setCell ⟨W.heap.size+1,0,none⟩ (.int .i64 ((m:Int)+1))).cell? ⟨W.heap.size,0,none⟩=some (.func (.yield l) #[] #[]) by rw[World.cell?_setCell_other _ _ _ _ (by simp)];exact my7);have cN:=hid (show (w7.setCell ⟨W.heap.size+1,0,none⟩ (.int .i64 ((m:Int)+1))).cell? ⟨W.heap.size+1,0,none⟩=some (.int .i64 ((m:Int)+1)) from World.cell?_setCell_same' _ _ _ (by rw[mn7];rfl));have fN:=hid (show (w7.setCell ⟨W.heap.size+1,0,none⟩ (.int .i64 ((m:Int)+1))).frozen? ⟨W.heap.size+1,0,none⟩=false by rw[World.frozen?_setCell];exact mf7)
      have LN:=hid (show ∀y∈fltF from_ pre++[x],y<hi from fun y hy=>by
       rcases List.mem_append.1 hy with q|q
       ·exact LO.out y q
       ·have e:y=x:=by simpa using q
        have:=HHI.out
        omega)
      have HC:=hid hc;clear hc
      gi_wp2
      exact⟨K8.out,⟨by rw[YES.out];exact J8.out,M.own,M.far,by simp;omega,cB.out,by rw[YES.out,cN.out,E1.out],fN.out,ic8.out,by rw[YES.out];exact LN.out,by rw[YES.out];exact NR.out⟩⟩
    ·have JX:=hid (KX.out _ X _ w7 w7 hj (Keeps.refl _ _) fun k h=>Or.inl (Or.inl h))
     have K8:=hid (show Keeps (fun k=>X k\/setC W0 p2 k) W2 w7 from hk.mono (Y:=fun k=>X k\/setC W0 p2 k) fun k h=>by
       rcases h with h|h|h
       ·exact .inl (.inl h)
       ·exact .inr (.inl h)
       ·exact .inl (.inr ⟨by omega,by omega⟩))
     clear hj hk
     gi_wp2
     exact⟨K8.out,rfl,.inr ⟨_,PRE.out,JX.out⟩⟩
 case done=>
  rintro D W3 hD M hK;have EQ:=hid (show fltF from_ A=XS by rw[<-AW.out];exact mom_all M.lo M.room);have JF:=hid (KJ.out _ noneX _ W3 (W3.putObj D (.deferred none)) (by have q:=M.j;rw[EQ.out] at q;exact q) (Keeps.putObj _ _ _ (fun h=>h (Or.inl rfl))) (fun k h=>h.elim))
  gi_wp2
  refine⟨by simp,.inl ⟨_,_,rfl,run_takeDeferred hK,?_⟩⟩;exact⟨.tuple #[],results_none rfl _ _ _,⟨_,rfl⟩,Or.inl JF.out⟩
 case stop=>
  rintro D c pre W3 hD hpre ⟨rfl,M⟩ hK
  have JF:=hid (show J noneX XS (W3.putObj D (.deferred none))\/∃q,q <+: XS/\Jx noneX q (W3.putObj D (.deferred none)) by
   rcases M with M|⟨q,hq,M⟩
   ·exact .inl (KJ.out _ noneX _ W3 _ M (Keeps.putObj _ _ _ (fun h=>h rfl)) (fun k h=>h.elim))
   ·exact .inr ⟨q,hq,KX.out _ noneX _ W3 _ M (Keeps.putObj _ _ _ (fun h=>h rfl)) (fun k h=>h.elim)⟩)
  gi_wp2
  refine⟨by simp,.inl ⟨_,_,rfl,run_takeDeferred hK,?_⟩⟩;exact⟨.tuple #[],results_none rfl _ _ _,⟨_,rfl⟩,JF.out⟩
end Go.Proofs.YtddnnljfgfcplaaGreatDoor.Ex
