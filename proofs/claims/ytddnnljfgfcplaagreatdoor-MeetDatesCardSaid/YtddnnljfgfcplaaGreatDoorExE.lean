/- What package expand's inDays goes through. -/
import Derived.Test.YtddnnljfgfcplaaGreatDoorExX1
set_option linter.unusedVariables false
namespace Go.Proofs.YtddnnljfgfcplaaGreatDoor.Ex
open Lib (hid)
open Go Go.RowKit Go.Shelf Cv St Ru Dd Mb
attribute [local go_sem] Oper.semAt_some
set_option maxRecDepth 100000 in
set_option maxHeartbeats 16000000 in
theorem days_seq (W0:World) (S:RS) (r:Ru) (start first last:Int) (p n:Nat) (hn:1<=n) (hR:RuAt W0 S r) (hm:mayR r=true) (hs:St.may start=true) (h4:4<=r.freq\/r.pos=[]) (f1:-1000000<=first) (f2:first<=3000000) (l1:-1000000<=last) (l2:last<=3000000):
  SeqX Fence.wide n Tryz.prog 218 #[at0 p,at0 (p+1),at0 (p+2),at0 (p+3)] (setC W0 p) (InC W0 p S r start first last) (daysL r start first last):=by
 intro l J Jx W hIn hJ hJx hY h0
 refine callsIn_wide.2 ?_
 have RA:=hid hR
 have HS:=hid hIn.size
 obtain⟨G,hG⟩:∃l,begL r start=l:=⟨_,rfl⟩
 obtain⟨Y,hY'⟩:∃l,witL r start=l:=⟨_,rfl⟩
 obtain⟨R,hR'⟩:∃l,reachL r start G=l:=⟨_,rfl⟩
 obtain⟨P,hP⟩:∃l,pickL r.pos Y=l:=⟨_,rfl⟩
 obtain⟨U,hU⟩:∃U,unitR r=U:=⟨_,rfl⟩
 have U1:=unit_01 hm
 rw[hU] at U1
 obtain⟨itv1,itv2⟩:=(freq_may hm).2
 have bG:∀x∈G,0<=x/\x<=86399:=fun x hx=>beg_bd hm (start:=start) (by rw[hG];exact hx)
 have BR:=hid (show ∀x∈R,0<=x/\x<=86399 from fun x hx=>bG x (by rw[<-hR'] at hx;exact(List.mem_filter.1 hx).1))
 have BP:=hid (show ∀x∈P,0<=x/\x<=86399 from fun x hx=>wit_bd hm (start:=start) (by rw[hY'];rw[<-hP] at hx;exact pick_sub hx))
 have lG:G.length<=100000:=by have:=beg_len start hm;rw[hG] at this;omega
 have lY:Y.length<=1000000:=by have:=wit_len start hm;rw[hY'] at this;omega
 have rY:Y.Pairwise (· < ·):=by have:=wit_rise start hm;rwa [hY'] at this
 have lR:R.length<=100000:=by rw[<-hR'];exact Nat.le_trans (List.length_filter_le _ _) lG
 have lP:P.length<=1000000:=by rw[<-hP];exact Nat.le_trans (pick_len _ _) lY
 obtain⟨qP1,qP2⟩:=pos_may hm
 have DN:=hid (fun (e:R=[]\/P=[])=>days_none (r:=r) (start:=start) (first:=first) (last:=last) hm hs h4 (by rw[hG,hR',hY',hP];exact e))
 have DC:=hid (fun n=>show dayC r start n=if fitsB r start n=true then R.flatMap (unitC r start n P) else [] by unfold dayC;rw[hG,hR',hY',hP])
 have DE:=hid (fun n=>day_eq (r:=r) (start:=start) hm hs h4 n)
 have DP:=hid (fun (n:Int) (a:List Int) (n1:first<=n) (n2:n<=last) (ha:a <+: dayC r start n)=>day_pre (r:=r) (start:=start) (first:=first) (last:=last) hm hs h4 n1 n2 ha)
 have PB:=hid (fun t ht=>per_bd (r:=r) (t:=t) hm ht)
 have M1:=hid hm
 have M2:=hid hs
 have HG:=hid hG
 have HY:=hid hY'
 have HRR:=hid hR'
 have HP:=hid hP
 have HU:=hid hU
 have KY:=hid hY
 have KJ:=hid hJ
 have K0:=hid h0
 have QP1:=hid qP1
 have QP2:=hid qP2
 have BG:=hid bG
 have RY:=hid rY
 obtain⟨XS,hXS⟩:∃l,daysL r start first last=l:=⟨_,rfl⟩
 have HXS:=hid hXS
 rw[hXS] at DN DP KY ⊢
 clear hXS hm hs hG hY' hR' hP hU hY hJ h0 qP1 qP2 bG rY h4 hR
 have II:=hid hIn
 have FF:=hIn.four
 clear hIn
 obtain⟨ra6,rn6,rc6,ra7,rn7,rc7,ra8,rn8,rc8,ra9,rn9,rc9,ra10,rn10,rc10,ra11,rn11,rc11,ra12,rn12,rc12,ra13,rn13,rc13,ra14,rn14,rc14⟩:=S
 obtain⟨rfreq,ritv,rcnt,rtil,rwkst,rends,rmon,rweek,ryday,rmday,rday,rhour,rminu,rsec,rpos⟩:=r
 replace itv1:1<=ritv:=itv1
 replace itv2:ritv<=1000/\0<=rcnt/\rcnt<=4096:=itv2
 show Calls Tryz.prog 218 #[.func (.yield l) #[] #[],.pointer (some ⟨p,0,none⟩),.pointer (some ⟨p+1,0,none⟩),.pointer (some ⟨p+2,0,none⟩),.pointer (some ⟨p+3,0,none⟩)] W _
 go_enter Tryz.func218,Tryz.ntmps218
 go_upto_region 0 with fail
 have rz0:W.cell? ⟨p,0,none⟩=some (.int .i64 rfreq):=FF.x.2 0 _ rfl
 have rz1:W.cell? ⟨p,1,none⟩=some (.int .i64 ritv):=FF.x.2 1 _ rfl
 have rz2:W.cell? ⟨p,2,none⟩=some (.int .i64 rcnt):=FF.x.2 2 _ rfl
 have rz3:W.cell? ⟨p,3,none⟩=some (.int .i64 rtil):=FF.x.2 3 _ rfl
 have rz4:W.cell? ⟨p,4,none⟩=some (.int .i64 rwkst):=FF.x.2 4 _ rfl
 have rz5:W.cell? ⟨p,5,none⟩=some (.bool rends):=FF.x.2 5 _ rfl
 have rz6:W.cell? ⟨p,6,none⟩=some (.slice ra6 rn6 rc6):=FF.x.2 6 _ rfl
 have rz7:W.cell? ⟨p,7,none⟩=some (.slice ra7 rn7 rc7):=FF.x.2 7 _ rfl
 have rz8:W.cell? ⟨p,8,none⟩=some (.slice ra8 rn8 rc8):=FF.x.2 8 _ rfl
 have rz9:W.cell? ⟨p,9,none⟩=some (.slice ra9 rn9 rc9):=FF.x.2 9 _ rfl
 have rz10:W.cell? ⟨p,10,none⟩=some (.slice ra10 rn10 rc10):=FF.x.2 10 _ rfl
 have rz11:W.cell? ⟨p,11,none⟩=some (.slice ra11 rn11 rc11):=FF.x.2 11 _ rfl
 have rz12:W.cell? ⟨p,12,none⟩=some (.slice ra12 rn12 rc12):=FF.x.2 12 _ rfl
 have rz13:W.cell? ⟨p,13,none⟩=some (.slice ra13 rn13 rc13):=FF.x.2 13 _ rfl
 have rz14:W.cell? ⟨p,14,none⟩=some (.slice ra14 rn14 rc14):=FF.x.2 14 _ rfl
 have rs1:W.cell? ⟨p+1,0,none⟩=some (.int .i64 start):=FF.a
 have rs2:W.cell? ⟨p+2,0,none⟩=some (.int .i64 first):=FF.b
 have rs3:W.cell? ⟨p+3,0,none⟩=some (.int .i64 last):=FF.c
 go_wp2_with fail
 refine(split_is _ ⟨ra6,rn6,rc6,ra7,rn7,rc7,ra8,rn8,rc8,ra9,rn9,rc9,ra10,rn10,rc10,ra11,rn11,rc11,ra12,rn12,rc12,ra13,rn13,rc13,ra14,rn14,rc14⟩ ⟨rfreq,ritv,rcnt,rtil,rwkst,rends,rmon,rweek,ryday,rmday,rday,rhour,rminu,rsec,rpos⟩ start (RA.out.below II.out.below) M1.out M2.out).mono ?_
 rintro e w1 ⟨A1,c1,A2,c2,he,i1,i2,fr1,fr2,b1⟩
 rw[HG.out,HY.out] at he
 rw[HG.out] at i1
 rw[HY.out] at i2
 subst he
 clear rz0 rz1 rz2 rz3 rz4 rz5 rz6 rz7 rz8 rz9 rz10 rz11 rz12 rz13 rz14 rs1 rs2 rs3
 have I1:=hid i1
 have I2:=hid i2
 have F1:=FF.below b1
 have J1:=hid (II.out.on b1)
 clear i1 i2 FF
 go_upto_region 1 with fail
 refine wp_region_late (fun _=>false) (fun v=>Below w1.heap.size w1 v) (by kernel_rfl) ?_
 have D0:Below w1.heap.size w1 w1.drew:=(Below.refl _ _).drew
 refine Late.take 0 (.agg #[.int .i64 rfreq,.int .i64 ritv,.int .i64 rcnt,.int .i64 rtil,.int .i64 rwkst,.bool rends,.slice ra6 rn6 rc6,.slice ra7 rn7 rc7,.slice ra8 rn8 rc8,.slice ra9 rn9 rc9,.slice ra10 rn10 rc10,.slice ra11 rn11 rc11,.slice ra12 rn12 rc12,.slice ra13 rn13 rc13,.slice ra14 rn14 rc14]) rfl (by kernel_rfl) (by kernel_rfl) (by kernel_rfl) (by kernel_rfl) (fun _ _ _ h=>h) (.inl ⟨rfl,fun w' hs => ?_⟩) D0 ?_
 ·have XQ:=F1.below hs
  have z0:w'.cell? ⟨p,0,none⟩=some (.int .i64 rfreq):=XQ.x.2 0 _ rfl
  have z1:w'.cell? ⟨p,1,none⟩=some (.int .i64 ritv):=XQ.x.2 1 _ rfl
  have z2:w'.cell? ⟨p,2,none⟩=some (.int .i64 rcnt):=XQ.x.2 2 _ rfl
  have z3:w'.cell? ⟨p,3,none⟩=some (.int .i64 rtil):=XQ.x.2 3 _ rfl
  have z4:w'.cell? ⟨p,4,none⟩=some (.int .i64 rwkst):=XQ.x.2 4 _ rfl
  have z5:w'.cell? ⟨p,5,none⟩=some (.bool rends):=XQ.x.2 5 _ rfl
  have z6:w'.cell? ⟨p,6,none⟩=some (.slice ra6 rn6 rc6):=XQ.x.2 6 _ rfl
  have z7:w'.cell? ⟨p,7,none⟩=some (.slice ra7 rn7 rc7):=XQ.x.2 7 _ rfl
  have z8:w'.cell? ⟨p,8,none⟩=some (.slice ra8 rn8 rc8):=XQ.x.2 8 _ rfl
  have z9:w'.cell? ⟨p,9,none⟩=some (.slice ra9 rn9 rc9):=XQ.x.2 9 _ rfl
  have z10:w'.cell? ⟨p,10,none⟩=some (.slice ra10 rn10 rc10):=XQ.x.2 10 _ rfl
  have z11:w'.cell? ⟨p,11,none⟩=some (.slice ra11 rn11 rc11):=XQ.x.2 11 _ rfl
  have z12:w'.cell? ⟨p,12,none⟩=some (.slice ra12 rn12 rc12):=XQ.x.2 12 _ rfl
  have z13:w'.cell? ⟨p,13,none⟩=some (.slice ra13 rn13 rc13):=XQ.x.2 13 _ rfl
  have z14:w'.cell? ⟨p,14,none⟩=some (.slice ra14 rn14 rc14):=XQ.x.2 14 _ rfl
  clear XQ
  go_simp
 refine Late.take 1 (.int .i64 start) rfl (by kernel_rfl) (by kernel_rfl) (by kernel_rfl) (by kernel_rfl) (fun _ _ _ h=>h) (.inl ⟨rfl,fun w' hs => ?_⟩) D0 ?_
 ·have XQ:=F1.below hs
  have zn:w'.cell? ⟨p+1,0,none⟩=some (.int .i64 start):=XQ.a
  clear XQ
  go_simp
 refine Late.take 2 (.slice A1 G.length c1) rfl (by kernel_rfl) (by kernel_rfl) (by kernel_rfl) (by kernel_rfl) (fun _ _ _ h=>h) (.inl ⟨rfl,fun w' hs => ?_⟩) D0 ?_
 ·go_simp
 refine Late.take 4 (.agg #[.int .i64 rfreq,.int .i64 ritv,.int .i64 rcnt,.int .i64 rtil,.int .i64 rwkst,.bool rends,.slice ra6 rn6 rc6,.slice ra7 rn7 rc7,.slice ra8 rn8 rc8,.slice ra9 rn9 rc9,.slice ra10 rn10 rc10,.slice ra11 rn11 rc11,.slice ra12 rn12 rc12,.slice ra13 rn13 rc13,.slice ra14 rn14 rc14]) rfl (by kernel_rfl) (by kernel_rfl) (by kernel_rfl) (by kernel_rfl) (fun _ _ _ h=>h) (.inl ⟨rfl,fun w' hs => ?_⟩) D0 ?_
 ·have XQ:=F1.below hs
  have z0:w'.cell? ⟨p,0,none⟩=some (.int .i64 rfreq):=XQ.x.2 0 _ rfl
  have z1:w'.cell? ⟨p,1,none⟩=some (.int .i64 ritv):=XQ.x.2 1 _ rfl
  have z2:w'.cell? ⟨p,2,none⟩=some (.int .i64 rcnt):=XQ.x.2 2 _ rfl
  have z3:w'.cell? ⟨p,3,none⟩=some (.int .i64 rtil):=XQ.x.2 3 _ rfl
  have z4:w'.cell? ⟨p,4,none⟩=some (.int .i64 rwkst):=XQ.x.2 4 _ rfl
  have z5:w'.cell? ⟨p,5,none⟩=some (.bool rends):=XQ.x.2 5 _ rfl
  have z6:w'.cell? ⟨p,6,none⟩=some (.slice ra6 rn6 rc6):=XQ.x.2 6 _ rfl
  have z7:w'.cell? ⟨p,7,none⟩=some (.slice ra7 rn7 rc7):=XQ.x.2 7 _ rfl
  have z8:w'.cell? ⟨p,8,none⟩=some (.slice ra8 rn8 rc8):=XQ.x.2 8 _ rfl
  have z9:w'.cell? ⟨p,9,none⟩=some (.slice ra9 rn9 rc9):=XQ.x.2 9 _ rfl
  have z10:w'.cell? ⟨p,10,none⟩=some (.slice ra10 rn10 rc10):=XQ.x.2 10 _ rfl
  have z11:w'.cell? ⟨p,11,none⟩=some (.slice ra11 rn11 rc11):=XQ.x.2 11 _ rfl
  have z12:w'.cell? ⟨p,12,none⟩=some (.slice ra12 rn12 rc12):=XQ.x.2 12 _ rfl
  have z13:w'.cell? ⟨p,13,none⟩=some (.slice ra13 rn13 rc13):=XQ.x.2 13 _ rfl
  have z14:w'.cell? ⟨p,14,none⟩=some (.slice ra14 rn14 rc14):=XQ.x.2 14 _ rfl
  clear XQ
  go_simp
 refine Late.take 5 (.slice A2 Y.length c2) rfl (by kernel_rfl) (by kernel_rfl) (by kernel_rfl) (by kernel_rfl) (fun _ _ _ h=>h) (.inl ⟨rfl,fun w' hs => ?_⟩) D0 ?_
 ·go_simp
 refine Late.one 3 rfl (by kernel_rfl) rfl ?_
 go_simp
 refine(reached_is _ ⟨ra6,rn6,rc6,ra7,rn7,rc7,ra8,rn8,rc8,ra9,rn9,rc9,ra10,rn10,rc10,ra11,rn11,rc11,ra12,rn12,rc12,ra13,rn13,rc13,ra14,rn14,rc14⟩ ⟨rfreq,ritv,rcnt,rtil,rwkst,rends,rmon,rweek,ryday,rmday,rday,rhour,rminu,rsec,rpos⟩ start A1 G.length c1 G R (RA.out.below (J1.out.on D0).below) M1.out M2.out (I1.out.below D0) BG.out lG HRR.out).mono ?_
 rintro e x1 ⟨A3,c3,rfl,i3,f3,y1⟩
 have D1:=D0.trans (y1.mono D0.size)
 refine⟨D1,?_⟩
 refine Late.one 6 rfl (by kernel_rfl) rfl ?_
 go_simp
 refine(picked_is _ ⟨ra6,rn6,rc6,ra7,rn7,rc7,ra8,rn8,rc8,ra9,rn9,rc9,ra10,rn10,rc10,ra11,rn11,rc11,ra12,rn12,rc12,ra13,rn13,rc13,ra14,rn14,rc14⟩ ⟨rfreq,ritv,rcnt,rtil,rwkst,rends,rmon,rweek,ryday,rmday,rday,rhour,rminu,rsec,rpos⟩ A2 Y.length c2 Y P (RA.out.below (J1.out.on D1).below) QP1.out QP2.out (I2.out.below D1) RY.out lY HP.out).mono ?_
 rintro e x2 ⟨A4,c4,rfl,i4,f4,y2⟩
 have D2:=D1.trans (y2.mono D1.size)
 refine⟨D2,?_⟩
 refine Late.take 7 (.slice A3 R.length c3) rfl (by kernel_rfl) (by kernel_rfl) (by kernel_rfl) (by kernel_rfl) (fun _ _ _ h=>h) (.inl ⟨rfl,fun w' hs => ?_⟩) D2 ?_
 ·go_simp
 refine Late.take 8 (.slice A4 P.length c4) rfl (by kernel_rfl) (by kernel_rfl) (by kernel_rfl) (by kernel_rfl) (fun _ _ _ h=>h) (.inl ⟨rfl,fun w' hs => ?_⟩) D2 ?_
 ·go_simp
 refine Late.done (by kernel_rfl) ?_
 have B2:=b1.trans (D2.mono b1.size)
 have J2:=hid (J1.out.on D2)
 have F2:=F1.below D2
 have fr3:Fresh W.heap.size A3:=fresh_mono f3 (Nat.le_trans b1.size D0.size)
 have fr4:Fresh W.heap.size A4:=by
  rcases f4 with ⟨-,e⟩|f4
  ·rw[e];exact fr2
  ·exact fresh_mono f4 (Nat.le_trans b1.size D1.size)
 have I3:=hid (i3.below y2)
 have I4:=hid i4
 have FR3:=hid fr3
 have FR4:=hid fr4
 have K1:=hid (KJ.out noneX (fun k=>W.heap.size<=k/\k<x2.heap.size) [] W x2 K0.out (Keeps.of_below B2) (fun k hk => .inr hk.1))
 have KN:=hid (KJ.out noneX noneX [] W x2 K0.out (Keeps.of_below B2) (fun k hk => .inl hk))
 have CX:=hid (show ∀k,(W.heap.size<=k/\k<x2.heap.size)->¬setC W0 p k from fun k hk hc=>by
  have a:=II.out.below.size;have b:=II.out.four.lt
  rcases hc with h|h<;>omega)
 have SZ2:W.heap.size<=x2.heap.size:=B2.size
 clear i3 i4 f3 f4 fr1 fr2 fr3 fr4 y1 y2 D0 D1 D2 F1 J1 I1 I2 b1 K0
 obtain⟨mR,hmR⟩:∃m,R.length=m:=⟨_,rfl⟩
 obtain⟨mP,hmP⟩:∃m,P.length=m:=⟨_,rfl⟩
 have LR:=hid hmR
 have LP:=hid hmP
 rw[hmR] at lR I3 ⊢
 rw[hmP] at lP I4 ⊢
 clear hmR hmP
 by_cases q0:mR=0
 ·have t0:((mR:Int)==0)=true:=by rw[beq_iff_eq];omega
  have E:=hid (DN.out (.inl (List.length_eq_zero_iff.1 (by rw[LR.out];exact q0))));go_wp2;refine bodyPost_ret (results_none rfl _ _ _) rfl ?_;have e:=E.out;subst e;exact⟨⟨_,rfl⟩,.inl KN.out⟩
 ·have t0:((mR:Int)==0)=false:=by rw[beq_eq_false_iff_ne];omega
  by_cases q1:mP=0
  ·have t1:((mP:Int)==0)=true:=by rw[beq_iff_eq];omega
   have E:=hid (DN.out (.inr (List.length_eq_zero_iff.1 (by rw[LP.out];exact q1))));go_wp2;refine bodyPost_ret (results_none rfl _ _ _) rfl ?_;have e:=E.out;subst e;exact⟨⟨_,rfl⟩,.inl KN.out⟩
  ·have t1:((mP:Int)==0)=false:=by rw[beq_eq_false_iff_ne];omega
   have rs1:x2.cell? ⟨p+1,0,none⟩=some (.int .i64 start):=F2.a
   have rs2:x2.cell? ⟨p+2,0,none⟩=some (.int .i64 first):=F2.b
   have rs3:x2.cell? ⟨p+3,0,none⟩=some (.int .i64 last):=F2.c
   go_wp2
   go_loopw [8] (fun i wr=>∃n:Int,i= .int .i64 n/\(first<=n/\(n<=last+1\/n=first))/\Hid (J (fun k=>W.heap.size<=k/\k<x2.heap.size) (selL (inA ⟨rfreq,ritv,rcnt,rtil,rwkst,rends,rmon,rweek,ryday,rmday,rday,rhour,rminu,rsec,rpos⟩ start) (first*86400) (n*86400)) wr)/\Hid (Keeps (fun k=>(W.heap.size<=k/\k<x2.heap.size)\/setC W0 p k) x2 wr)) (fun i _=>(last+1-intOf i).toNat)
   case atStart=>exact⟨first,rfl,⟨Int.le_refl _,.inr rfl⟩,hid (by rw[sel_nil (Int.le_refl _)];exact K1.out),hid (Keeps.refl _ _)⟩
   case round=>
    clear rs1 rs2 rs3;obtain⟨n0,rfl,⟨n1,n2⟩,JN,KK⟩:=hrel;have IC:=hid (J2.out.keeps KK.out fun k hk => .inr hk);have FC:=IC.out.four;obtain⟨wq,rfl⟩:∃wq:World,wq=wr:=⟨_,rfl⟩
    by_cases hlt:n0<=last
    ·have t2:decide (n0<=last)=true:=decide_eq_true hlt
     have W1:IntKind.i64.wrap (n0+1)=n0+1:=IntWalk.i64_in _ (by omega)
     obtain⟨f,hf⟩:∃f,fitsB ⟨rfreq,ritv,rcnt,rtil,rwkst,rends,rmon,rweek,ryday,rmday,rday,rhour,rminu,rsec,rpos⟩ start n0=f:=⟨_,rfl⟩;have HF:=hid hf;clear hf;have rz0:wq.cell? ⟨p,0,none⟩=some (.int .i64 rfreq):=FC.x.2 0 _ rfl
     have rz1:wq.cell? ⟨p,1,none⟩=some (.int .i64 ritv):=FC.x.2 1 _ rfl
     have rz2:wq.cell? ⟨p,2,none⟩=some (.int .i64 rcnt):=FC.x.2 2 _ rfl
     have rz3:wq.cell? ⟨p,3,none⟩=some (.int .i64 rtil):=FC.x.2 3 _ rfl
     have rz4:wq.cell? ⟨p,4,none⟩=some (.int .i64 rwkst):=FC.x.2 4 _ rfl
     have rz5:wq.cell? ⟨p,5,none⟩=some (.bool rends):=FC.x.2 5 _ rfl
     have rz6:wq.cell? ⟨p,6,none⟩=some (.slice ra6 rn6 rc6):=FC.x.2 6 _ rfl
     have rz7:wq.cell? ⟨p,7,none⟩=some (.slice ra7 rn7 rc7):=FC.x.2 7 _ rfl
     have rz8:wq.cell? ⟨p,8,none⟩=some (.slice ra8 rn8 rc8):=FC.x.2 8 _ rfl
     have rz9:wq.cell? ⟨p,9,none⟩=some (.slice ra9 rn9 rc9):=FC.x.2 9 _ rfl
     have rz10:wq.cell? ⟨p,10,none⟩=some (.slice ra10 rn10 rc10):=FC.x.2 10 _ rfl
     have rz11:wq.cell? ⟨p,11,none⟩=some (.slice ra11 rn11 rc11):=FC.x.2 11 _ rfl
     have rz12:wq.cell? ⟨p,12,none⟩=some (.slice ra12 rn12 rc12):=FC.x.2 12 _ rfl
     have rz13:wq.cell? ⟨p,13,none⟩=some (.slice ra13 rn13 rc13):=FC.x.2 13 _ rfl
     have rz14:wq.cell? ⟨p,14,none⟩=some (.slice ra14 rn14 rc14):=FC.x.2 14 _ rfl
     have rs1:wq.cell? ⟨p+1,0,none⟩=some (.int .i64 start):=FC.a
     have rs2:wq.cell? ⟨p+2,0,none⟩=some (.int .i64 first):=FC.b
     have rs3:wq.cell? ⟨p+3,0,none⟩=some (.int .i64 last):=FC.c
     go_wp2_with fail;refine(fits_is _ ⟨ra6,rn6,rc6,ra7,rn7,rc7,ra8,rn8,rc8,ra9,rn9,rc9,ra10,rn10,rc10,ra11,rn11,rc11,ra12,rn12,rc12,ra13,rn13,rc13,ra14,rn14,rc14⟩ ⟨rfreq,ritv,rcnt,rtil,rwkst,rends,rmon,rweek,ryday,rmday,rday,rhour,rminu,rsec,rpos⟩ start n0 f (RA.out.below IC.out.below) HF.out).mono ?_;rintro e w5 ⟨rfl,b5⟩;clear rz0 rz1 rz2 rz3 rz4 rz5 rz6 rz7 rz8 rz9 rz10 rz11 rz12 rz13 rz14 rs1 rs2 rs3;have JN5:=hid (KJ.out.on JN.out b5);have KK5:=hid (KK.out.trans (Keeps.of_below b5));have IC5:=hid (IC.out.on b5);have FC5:=FC.below b5;clear JN KK IC FC b5;cases f
     ·have E:=hid (show selL (inA ⟨rfreq,ritv,rcnt,rtil,rwkst,rends,rmon,rweek,ryday,rmday,rday,rhour,rminu,rsec,rpos⟩ start) (first*86400) (n0*86400)=selL (inA ⟨rfreq,ritv,rcnt,rtil,rwkst,rends,rmon,rweek,ryday,rmday,rday,rhour,rminu,rsec,rpos⟩ start) (first*86400) ((n0+1)*86400) by
       have q:=DE.out n0;rw[DC.out,HF.out,if_neg (by decide)] at q
       rw[<-sel_cat (a:=first*86400) (b:=n0*86400) (c:=(n0+1)*86400) (by omega) (by omega),<-q,List.append_nil])
      go_wp2
      go_roundw
      case rel=>exact⟨n0+1,by first|rfl|(congr 1),⟨by omega,.inl (by omega)⟩,hid (by rw[<-E.out];exact JN5.out),KK5⟩
      case measure=>simp[intOf];omega
     ·obtain⟨d1,d2⟩:=of_decide_eq_true (fits_day HF.out)
      have IW:IntKind.i64.wrap (n0*86400)=n0*86400:=IntWalk.i64_in _ (by omega)
      obtain⟨p9,hp9⟩:∃p9,per ⟨rfreq,ritv,rcnt,rtil,rwkst,rends,rmon,rweek,ryday,rmday,rday,rhour,rminu,rsec,rpos⟩ (n0*86400)-per ⟨rfreq,ritv,rcnt,rtil,rwkst,rends,rmon,rweek,ryday,rmday,rday,rhour,rminu,rsec,rpos⟩ start=p9:=⟨_,rfl⟩;have md:=day_may (n:=n0) (decide_eq_true ⟨d1,d2⟩);have pb1:=PB.out _ md;have pb2:=PB.out _ M2.out;have HP9:=hid (show perR ⟨rfreq,ritv,rcnt,rtil,rwkst,rends,rmon,rweek,ryday,rmday,rday,rhour,rminu,rsec,rpos⟩ start (n0*86400)=(p9,true) by unfold perR;rw[if_pos (by rw[M1.out,M2.out,md];rfl),hp9]);have P9:=hid hp9;have p91:-4000000000000<=p9:=by omega
      have p92:p9<=4000000000000:=by omega
      have DAY:=hid (show dayC ⟨rfreq,ritv,rcnt,rtil,rwkst,rends,rmon,rweek,ryday,rmday,rday,rhour,rminu,rsec,rpos⟩ start n0=R.flatMap (unitC ⟨rfreq,ritv,rcnt,rtil,rwkst,rends,rmon,rweek,ryday,rmday,rday,rhour,rminu,rsec,rpos⟩ start n0 P) by rw[DC.out,HF.out,if_pos rfl]);clear md pb1 pb2 hp9;have rz0:w5.cell? ⟨p,0,none⟩=some (.int .i64 rfreq):=FC5.x.2 0 _ rfl
      have rz1:w5.cell? ⟨p,1,none⟩=some (.int .i64 ritv):=FC5.x.2 1 _ rfl
      have rz2:w5.cell? ⟨p,2,none⟩=some (.int .i64 rcnt):=FC5.x.2 2 _ rfl
      have rz3:w5.cell? ⟨p,3,none⟩=some (.int .i64 rtil):=FC5.x.2 3 _ rfl
      have rz4:w5.cell? ⟨p,4,none⟩=some (.int .i64 rwkst):=FC5.x.2 4 _ rfl
      have rz5:w5.cell? ⟨p,5,none⟩=some (.bool rends):=FC5.x.2 5 _ rfl
      have rz6:w5.cell? ⟨p,6,none⟩=some (.slice ra6 rn6 rc6):=FC5.x.2 6 _ rfl
      have rz7:w5.cell? ⟨p,7,none⟩=some (.slice ra7 rn7 rc7):=FC5.x.2 7 _ rfl
      have rz8:w5.cell? ⟨p,8,none⟩=some (.slice ra8 rn8 rc8):=FC5.x.2 8 _ rfl
      have rz9:w5.cell? ⟨p,9,none⟩=some (.slice ra9 rn9 rc9):=FC5.x.2 9 _ rfl
      have rz10:w5.cell? ⟨p,10,none⟩=some (.slice ra10 rn10 rc10):=FC5.x.2 10 _ rfl
      have rz11:w5.cell? ⟨p,11,none⟩=some (.slice ra11 rn11 rc11):=FC5.x.2 11 _ rfl
      have rz12:w5.cell? ⟨p,12,none⟩=some (.slice ra12 rn12 rc12):=FC5.x.2 12 _ rfl
      have rz13:w5.cell? ⟨p,13,none⟩=some (.slice ra13 rn13 rc13):=FC5.x.2 13 _ rfl
      have rz14:w5.cell? ⟨p,14,none⟩=some (.slice ra14 rn14 rc14):=FC5.x.2 14 _ rfl
      have rs1:w5.cell? ⟨p+1,0,none⟩=some (.int .i64 start):=FC5.a
      go_wp2_with fail;refine(periodP_is _ ⟨ra6,rn6,rc6,ra7,rn7,rc7,ra8,rn8,rc8,ra9,rn9,rc9,ra10,rn10,rc10,ra11,rn11,rc11,ra12,rn12,rc12,ra13,rn13,rc13,ra14,rn14,rc14⟩ ⟨rfreq,ritv,rcnt,rtil,rwkst,rends,rmon,rweek,ryday,rmday,rday,rhour,rminu,rsec,rpos⟩ start (n0*86400) p9 true (RA.out.below IC5.out.below) HP9.out).mono ?_;rintro e w6 ⟨rfl,b6⟩;clear rz0 rz1 rz2 rz3 rz4 rz5 rz6 rz7 rz8 rz9 rz10 rz11 rz12 rz13 rz14 rs1;have JN6:=hid (KJ.out.on JN5.out b6);have KK6:=hid (KK5.out.trans (Keeps.of_below b6));clear JN5 KK5 IC5 FC5 b6;go_wp2
      go_loopw [57] (fun i wr=>∃t:Nat,t<=mR/\i= .int .i64 t/\Hid (J (fun k=>W.heap.size<=k/\k<x2.heap.size) (selL (inA ⟨rfreq,ritv,rcnt,rtil,rwkst,rends,rmon,rweek,ryday,rmday,rday,rhour,rminu,rsec,rpos⟩ start) (first*86400) (n0*86400)++(R.take t).flatMap (unitC ⟨rfreq,ritv,rcnt,rtil,rwkst,rends,rmon,rweek,ryday,rmday,rday,rhour,rminu,rsec,rpos⟩ start n0 P)) wr)/\Hid (Keeps (fun k=>(W.heap.size<=k/\k<x2.heap.size)\/setC W0 p k) x2 wr)) (fun i _=>mR-(intOf i).toNat)
      case atStart=>exact⟨0,Nat.zero_le _,rfl,hid (by simpa using JN6.out),KK6⟩
      case round=>
       obtain⟨wo,rfl⟩:∃wo:World,wo=wr:=⟨_,rfl⟩;clear JN6 KK6;obtain⟨t,ht,rfl,JN,KK⟩:=hrel
       by_cases h3:t<mR
       ·obtain⟨bl1,of1,ea1,hl1,hc1⟩:=(is_keeps I3.out FR3.out KK.out (fun k a b => .inl ⟨a,b⟩)).2 (show 0<mR by omega)
        have EA1:=hid ea1;subst ea1;have c1:=hc1 t h3;have e1:=BR.out (iat R t) (by rw[iat_lt (by rw[LR.out];exact h3)];exact List.getElem_mem _);have NF:=hid (flat_take (f:=(unitC ⟨rfreq,ritv,rcnt,rtil,rwkst,rends,rmon,rweek,ryday,rmday,rday,rhour,rminu,rsec,rpos⟩ start n0 P)) (R:=R) (t:=t) (by rw[LR.out];exact h3));have PF:=hid (fun a ha=>flat_pre (f:=(unitC ⟨rfreq,ritv,rcnt,rtil,rwkst,rends,rmon,rweek,ryday,rmday,rday,rhour,rminu,rsec,rpos⟩ start n0 P)) (R:=R) (t:=t) (by rw[LR.out];exact h3) (a:=a) ha);have IC:=hid (J2.out.keeps KK.out fun k hk => .inr hk);have FC:=IC.out.four;clear hc1;generalize iat R t=s at *;have q1:=tdiv_nn (u:=U) e1.1;have q2:0<=s / U:=Int.ediv_nonneg e1.1 (by omega)
        have q3:s / U<=s:=Int.ediv_le_self U e1.1
        obtain⟨nb,hnb⟩:∃nb,(((p9+s / U:Int).tmod ritv:Int) != 0)=nb:=⟨_,rfl⟩
        have CB:=hid (show (unitC ⟨rfreq,ritv,rcnt,rtil,rwkst,rends,rmon,rweek,ryday,rmday,rday,rhour,rminu,rsec,rpos⟩ start n0 P) s=if nb=true then [] else P.map (fun m=>n0*86400+s+m) by
         unfold unitC;rw[P9.out,HU.out];have z:=tmod_z (p9+s / U) ritv;cases nb
         ·have:(((p9+s / U:Int).tmod ritv:Int)==0)=true:=by simpa using hnb
          rw[z] at this;have c:(p9+s / U) % ritv=0:=of_decide_eq_true this
          rw[if_pos c];simp
         ·have:(((p9+s / U:Int).tmod ritv:Int)==0)=false:=by simpa using hnb
          rw[z] at this;have c:¬(p9+s / U) % ritv=0:=of_decide_eq_false this
          rw[if_neg c]
          simp)
        obtain⟨q,hq⟩:∃q,s / U=q:=⟨_,rfl⟩;rw[hq] at q1 q2 q3 hnb;clear hq;have V0:IntKind.i64.wrap q=q:=IntWalk.i64_in _ (by omega)
        have V1:IntKind.i64.wrap (p9+q)=p9+q:=IntWalk.i64_in _ (by omega)
        have z1:¬ritv=0:=by omega
        have z2:((ritv:Int)==0)=false:=by rw[beq_eq_false_iff_ne];omega
        have u0:¬U=0:=by omega
        have u1:((U:Int)==0)=false:=by rw[beq_eq_false_iff_ne];omega
        go_upto_region 11 with fail
        refine wp_region_late (fun _=>false) (fun v=>Below wo.heap.size wo v) (by kernel_rfl) ?_;have D0:Below wo.heap.size wo wo.drew:=(Below.refl _ _).drew
        refine Late.take 0 (.int .i64 p9) rfl (by kernel_rfl) (by kernel_rfl) (by kernel_rfl) (by kernel_rfl) (fun _ _ _ h=>h) (.inl ⟨rfl,fun w' hs => ?_⟩) D0 ?_
        ·go_simp
        refine Late.take 1 (.int .i64 s) rfl (by kernel_rfl) (by kernel_rfl) (by kernel_rfl) (by kernel_rfl) (fun _ _ _ h=>h) (.inl ⟨rfl,fun w' hs => ?_⟩) D0 ?_
        ·go_simp
        refine Late.take 2 (.agg #[.int .i64 rfreq,.int .i64 ritv,.int .i64 rcnt,.int .i64 rtil,.int .i64 rwkst,.bool rends,.slice ra6 rn6 rc6,.slice ra7 rn7 rc7,.slice ra8 rn8 rc8,.slice ra9 rn9 rc9,.slice ra10 rn10 rc10,.slice ra11 rn11 rc11,.slice ra12 rn12 rc12,.slice ra13 rn13 rc13,.slice ra14 rn14 rc14]) rfl (by kernel_rfl) (by kernel_rfl) (by kernel_rfl) (by kernel_rfl) (fun _ _ _ h=>h) (.inl ⟨rfl,fun w' hs => ?_⟩) D0 ?_
        ·have XQ:=FC.below hs
         have z0:w'.cell? ⟨p,0,none⟩=some (.int .i64 rfreq):=XQ.x.2 0 _ rfl
         have z1:w'.cell? ⟨p,1,none⟩=some (.int .i64 ritv):=XQ.x.2 1 _ rfl
         have z2:w'.cell? ⟨p,2,none⟩=some (.int .i64 rcnt):=XQ.x.2 2 _ rfl
         have z3:w'.cell? ⟨p,3,none⟩=some (.int .i64 rtil):=XQ.x.2 3 _ rfl
         have z4:w'.cell? ⟨p,4,none⟩=some (.int .i64 rwkst):=XQ.x.2 4 _ rfl
         have z5:w'.cell? ⟨p,5,none⟩=some (.bool rends):=XQ.x.2 5 _ rfl
         have z6:w'.cell? ⟨p,6,none⟩=some (.slice ra6 rn6 rc6):=XQ.x.2 6 _ rfl
         have z7:w'.cell? ⟨p,7,none⟩=some (.slice ra7 rn7 rc7):=XQ.x.2 7 _ rfl
         have z8:w'.cell? ⟨p,8,none⟩=some (.slice ra8 rn8 rc8):=XQ.x.2 8 _ rfl
         have z9:w'.cell? ⟨p,9,none⟩=some (.slice ra9 rn9 rc9):=XQ.x.2 9 _ rfl
         have z10:w'.cell? ⟨p,10,none⟩=some (.slice ra10 rn10 rc10):=XQ.x.2 10 _ rfl
         have z11:w'.cell? ⟨p,11,none⟩=some (.slice ra11 rn11 rc11):=XQ.x.2 11 _ rfl
         have z12:w'.cell? ⟨p,12,none⟩=some (.slice ra12 rn12 rc12):=XQ.x.2 12 _ rfl
         have z13:w'.cell? ⟨p,13,none⟩=some (.slice ra13 rn13 rc13):=XQ.x.2 13 _ rfl
         have z14:w'.cell? ⟨p,14,none⟩=some (.slice ra14 rn14 rc14):=XQ.x.2 14 _ rfl
         clear XQ
         go_simp
        refine Late.take 6 (.pointer (some ⟨p,1,none⟩)) rfl (by kernel_rfl) (by kernel_rfl) (by kernel_rfl) (by kernel_rfl) (fun _ _ _ h=>h) (.inl ⟨rfl,fun w' hs => ?_⟩) D0 ?_
        ·go_simp
        refine Late.take 7 (.int .i64 ritv) rfl (by kernel_rfl) (by kernel_rfl) (by kernel_rfl) (by kernel_rfl) (fun _ _ _ h=>h) (.inl ⟨rfl,fun w' hs => ?_⟩) D0 ?_
        ·have XQ:=FC.below hs
         have z1:w'.cell? ⟨p,1,none⟩=some (.int .i64 ritv):=XQ.x.2 1 _ rfl
         clear XQ
         go_simp
        refine Late.one 3 rfl (by kernel_rfl) rfl ?_
        go_simp
        refine(unit_is _ ⟨ra6,rn6,rc6,ra7,rn7,rc7,ra8,rn8,rc8,ra9,rn9,rc9,ra10,rn10,rc10,ra11,rn11,rc11,ra12,rn12,rc12,ra13,rn13,rc13,ra14,rn14,rc14⟩ ⟨rfreq,ritv,rcnt,rtil,rwkst,rends,rmon,rweek,ryday,rmday,rday,rhour,rminu,rsec,rpos⟩ U HU.out).mono ?_;rintro e y1 ⟨rfl,b7⟩;have D1:=D0.trans (b7.mono D0.size);refine⟨D1,?_⟩;refine Late.take 4 (.int .i64 q) rfl (by kernel_rfl) (by kernel_rfl) (by kernel_rfl) (by kernel_rfl) (fun _ _ _ h=>h) (.inl ⟨rfl,fun w' hs => ?_⟩) D1 ?_
        ·go_simp
        refine Late.take 5 (.int .i64 (p9+q)) rfl (by kernel_rfl) (by kernel_rfl) (by kernel_rfl) (by kernel_rfl) (fun _ _ _ h=>h) (.inl ⟨rfl,fun w' hs => ?_⟩) D1 ?_
        ·go_simp
        refine Late.take 8 (.int .i64 ((p9+q).tmod ritv)) rfl (by kernel_rfl) (by kernel_rfl) (by kernel_rfl) (by kernel_rfl) (fun _ _ _ h=>h) (.inl ⟨rfl,fun w' hs => ?_⟩) D1 ?_
        ·go_simp
        refine Late.take 9 (.bool nb) rfl (by kernel_rfl) (by kernel_rfl) (by kernel_rfl) (by kernel_rfl) (fun _ _ _ h=>h) (.inl ⟨rfl,fun w' hs => ?_⟩) D1 ?_
        ·go_simp
        refine Late.done (by kernel_rfl) ?_;have JN1:=hid (KJ.out.on JN.out D1);have KK1:=hid (KK.out.trans (Keeps.of_below D1));clear JN KK IC FC D0 D1 b7 hnb q1 q2 q3 V0 V1 z1 z2 u0 u1;cases nb
        ·have CB1:=hid (show (unitC ⟨rfreq,ritv,rcnt,rtil,rwkst,rends,rmon,rweek,ryday,rmday,rday,rhour,rminu,rsec,rpos⟩ start n0 P) s=P.map (fun m=>n0*86400+s+m) by rw[CB.out,if_neg (by decide)])
         clear CB;go_wp2
         go_loopw [73] (fun i wr=>∃u:Nat,u<=mP/\i= .int .i64 u/\Hid (J (fun k=>W.heap.size<=k/\k<x2.heap.size) (selL (inA ⟨rfreq,ritv,rcnt,rtil,rwkst,rends,rmon,rweek,ryday,rmday,rday,rhour,rminu,rsec,rpos⟩ start) (first*86400) (n0*86400)++((R.take t).flatMap (unitC ⟨rfreq,ritv,rcnt,rtil,rwkst,rends,rmon,rweek,ryday,rmday,rday,rhour,rminu,rsec,rpos⟩ start n0 P)++(P.take u).map (fun m=>n0*86400+s+m))) wr)/\Hid (Keeps (fun k=>(W.heap.size<=k/\k<x2.heap.size)\/setC W0 p k) x2 wr)) (fun i _=>mP-(intOf i).toNat)
         case atStart=>exact⟨0,Nat.zero_le _,rfl,hid (by simpa using JN1.out),KK1⟩
         case round=>
          clear JN1 KK1;obtain⟨u,hu,rfl,JN,KK⟩:=hrel
          by_cases h5:u<mP
          ·obtain⟨bl2,of2,ea2,hl2,hc2⟩:=(is_keeps I4.out FR4.out KK.out (fun k a b => .inl ⟨a,b⟩)).2 (show 0<mP by omega)
           subst ea2;have c2:=hc2 u h5;have e2:=BP.out (iat P u) (by rw[iat_lt (by rw[LP.out];exact h5)];exact List.getElem_mem _);have NM:=hid (map_take (f:=fun m=>n0*86400+s+m) (P:=P) (t:=u) (by rw[LP.out];exact h5));have PM:=hid (map_pre (f:=fun m=>n0*86400+s+m) (P:=P) (t:=u) (by rw[LP.out];exact h5));clear hc2;generalize iat P u=m at *;have V1:IntKind.i64.wrap (n0*86400+s)=n0*86400+s:=IntWalk.i64_in _ (by omega)
           have V2:IntKind.i64.wrap (n0*86400+s+m)=n0*86400+s+m:=IntWalk.i64_in _ (by omega)
           have PRE:=hid (show (selL (inA ⟨rfreq,ritv,rcnt,rtil,rwkst,rends,rmon,rweek,ryday,rmday,rday,rhour,rminu,rsec,rpos⟩ start) (first*86400) (n0*86400)++((R.take t).flatMap (unitC ⟨rfreq,ritv,rcnt,rtil,rwkst,rends,rmon,rweek,ryday,rmday,rday,rhour,rminu,rsec,rpos⟩ start n0 P)++(P.take u).map (fun m=>n0*86400+s+m)))++[n0*86400+s+m] <+: XS by
            rw[List.append_assoc,List.append_assoc]
            exact DP.out n0 _ n1 hlt (by rw[DAY.out];exact PF.out _ (by rw[CB1.out];exact PM.out)))
           obtain⟨fn,tmps,assign,body,hy,hR⟩:=KY.out _ _ (n0*86400+s+m) wr JN.out (fun k hk=>by have:=KK.out.size;omega) CX.out PRE.out;have HRD:=hid hR;clear hR;refine wpIn_wide (n:=n).1 ?_
           gi_wp2
           refine HRD.out.mono ?_;rintro e w7 (⟨rfl,hj,hk⟩|⟨rfl,hj,hk⟩)
           ·have JN7:=hid (show J (fun k=>W.heap.size<=k/\k<x2.heap.size) (selL (inA ⟨rfreq,ritv,rcnt,rtil,rwkst,rends,rmon,rweek,ryday,rmday,rday,rhour,rminu,rsec,rpos⟩ start) (first*86400) (n0*86400)++((R.take t).flatMap (unitC ⟨rfreq,ritv,rcnt,rtil,rwkst,rends,rmon,rweek,ryday,rmday,rday,rhour,rminu,rsec,rpos⟩ start n0 P)++(P.take (u+1)).map (fun m=>n0*86400+s+m))) w7 by
             rw[List.append_assoc,List.append_assoc,<-NM.out] at hj
             exact hj)
            have KK7:=hid (KK.out.trans hk);clear hj hk hy HRD PRE
            gi_wp2
            go_roundw
            case rel=>exact⟨u+1,by omega,by go_num,JN7,KK7⟩
            case measure=>simp[intOf];omega
           ·have JX7:=hid (hJx _ noneX _ w7 w7 hj (Keeps.refl _ _) (fun k hk=>hk.elim))
            clear hj hk hy HRD
            gi_wp2
            refine bodyPost_ret (results_none rfl _ _ _) rfl ?_;exact⟨⟨_,rfl⟩,.inr ⟨_,PRE.out,JX7.out⟩⟩
          ·obtain rfl:mP=u:=by omega
           have E:=hid (show (R.take t).flatMap (unitC ⟨rfreq,ritv,rcnt,rtil,rwkst,rends,rmon,rweek,ryday,rmday,rday,rhour,rminu,rsec,rpos⟩ start n0 P)++(P.take mP).map (fun m=>n0*86400+s+m)=(R.take (t+1)).flatMap (unitC ⟨rfreq,ritv,rcnt,rtil,rwkst,rends,rmon,rweek,ryday,rmday,rday,rhour,rminu,rsec,rpos⟩ start n0 P) by rw[NF.out,CB1.out,show P.take mP=P from List.take_of_length_le (by rw[LP.out];exact Nat.le_refl _)]);go_wp2
           go_roundw
           case rel=>exact⟨t+1,by omega,by go_num,hid (by rw[<-E.out];exact JN.out),KK⟩
           case measure=>simp[intOf];omega
        ·have E:=hid (show (R.take t).flatMap (unitC ⟨rfreq,ritv,rcnt,rtil,rwkst,rends,rmon,rweek,ryday,rmday,rday,rhour,rminu,rsec,rpos⟩ start n0 P)=(R.take (t+1)).flatMap (unitC ⟨rfreq,ritv,rcnt,rtil,rwkst,rends,rmon,rweek,ryday,rmday,rday,rhour,rminu,rsec,rpos⟩ start n0 P) by rw[NF.out,CB.out,if_pos rfl,List.append_nil])
         clear CB;go_wp2
         go_roundw
         case rel=>exact⟨t+1,by omega,by go_num,hid (by rw[<-E.out];exact JN1.out),KK1⟩
         case measure=>simp[intOf];omega
       ·obtain rfl:mR=t:=by omega
        have E:=hid (show selL (inA ⟨rfreq,ritv,rcnt,rtil,rwkst,rends,rmon,rweek,ryday,rmday,rday,rhour,rminu,rsec,rpos⟩ start) (first*86400) (n0*86400)++(R.take mR).flatMap (unitC ⟨rfreq,ritv,rcnt,rtil,rwkst,rends,rmon,rweek,ryday,rmday,rday,rhour,rminu,rsec,rpos⟩ start n0 P)=selL (inA ⟨rfreq,ritv,rcnt,rtil,rwkst,rends,rmon,rweek,ryday,rmday,rday,rhour,rminu,rsec,rpos⟩ start) (first*86400) ((n0+1)*86400) by
         rw[List.take_of_length_le (by rw[LR.out];exact Nat.le_refl _),<-DAY.out,DE.out,sel_cat (by omega) (by omega)])
        go_wp2
        go_roundw
        case rel=>exact⟨n0+1,by first|rfl|(congr 1),⟨by omega,.inl (by omega)⟩,hid (by rw[<-E.out];exact JN.out),KK⟩
        case measure=>simp[intOf];omega
    ·have t2:decide (n0<=last)=false:=decide_eq_false hlt
     have E:=hid (show selL (inA ⟨rfreq,ritv,rcnt,rtil,rwkst,rends,rmon,rweek,ryday,rmday,rday,rhour,rminu,rsec,rpos⟩ start) (first*86400) (n0*86400)=XS by
      rw[<-HXS.out];unfold daysL
      rcases n2 with q|q
      ·rw[show n0=last+1 by omega]
      ·subst q
       rw[sel_nil (Int.le_refl _),sel_nil (by omega)])
     have JX:=hid (show J noneX XS wq from KJ.out _ noneX XS wq wq (by rw[<-E.out];exact JN.out) (Keeps.refl _ _) (fun k hk=>hk.elim));have rs1:wq.cell? ⟨p+1,0,none⟩=some (.int .i64 start):=FC.a
     have rs2:wq.cell? ⟨p+2,0,none⟩=some (.int .i64 first):=FC.b
     have rs3:wq.cell? ⟨p+3,0,none⟩=some (.int .i64 last):=FC.c
     go_wp2
     go_end0
     exact⟨⟨_,rfl⟩,.inl JX.out⟩
end Go.Proofs.YtddnnljfgfcplaaGreatDoor.Ex
