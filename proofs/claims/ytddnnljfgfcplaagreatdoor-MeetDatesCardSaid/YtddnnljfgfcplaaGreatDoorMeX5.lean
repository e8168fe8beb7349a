/- MeX5 -/
import Derived.Test.YtddnnljfgfcplaaGreatDoorMeN
import Derived.Test.YtddnnljfgfcplaaGreatDoorExHc
import Derived.Test.YtddnnljfgfcplaaGreatDoorExR1
set_option maxRecDepth 100000
set_option maxHeartbeats 16000000
set_option linter.unusedVariables false
namespace Go.Proofs.YtddnnljfgfcplaaGreatDoor.Me
open Lib (hid)
open Go.RowKit Cv St Ru Dd Mb Ex
theorem load25_hc {w:World} {g:Nat} {a0 a1 a2 a3 a4 a5 a6 a7 a8 a9 a10 a11 a12 a13 a14 a15 a16 a17 a18 a19 a20:Value} (X:Box w g #[a0,a1,a2,a3,a4,a5,a6,a7,a8,a9,a10,a11,a12,a13,a14,a15,a16,a17,a18,a19,a20]):w.rangeAt g 4 [a4,a5,a6,a7,a8,a9,a10,a11,a12,a13,a14,a15,a16,a17,a18]:=by
 intro j v hv
 have hj:j<15:=by have:=(List.getElem?_eq_some_iff.1 hv).1;simpa using this
 rcases(by omega:j=0\/j=1\/j=2\/j=3\/j=4\/j=5\/j=6\/j=7\/j=8\/j=9\/j=10\/j=11\/j=12\/j=13\/j=14) with rfl|rfl|rfl|rfl|rfl|rfl|rfl|rfl|rfl|rfl|rfl|rfl|rfl|rfl|rfl
 ·cases hv;exact X.2 4 _ rfl
 ·cases hv;exact X.2 5 _ rfl
 ·cases hv;exact X.2 6 _ rfl
 ·cases hv;exact X.2 7 _ rfl
 ·cases hv;exact X.2 8 _ rfl
 ·cases hv;exact X.2 9 _ rfl
 ·cases hv;exact X.2 10 _ rfl
 ·cases hv;exact X.2 11 _ rfl
 ·cases hv;exact X.2 12 _ rfl
 ·cases hv;exact X.2 13 _ rfl
 ·cases hv;exact X.2 14 _ rfl
 ·cases hv;exact X.2 15 _ rfl
 ·cases hv;exact X.2 16 _ rfl
 ·cases hv;exact X.2 17 _ rfl
 ·cases hv;exact X.2 18 _ rfl
theorem info_ru:(Tryz.prog.info? 25).map (·.size)=some 15:=by kernel_rfl
theorem load25 {ops:Array Oper} {rest:List Oper} {op:Oper} {a:Act} {w:World} {Q:Exit->Act->World->Prop} (hgd:op.guard=none) (x:Operand) (ho:op.op= .load 25 x) (g:Nat) (hx:a.eval x= .pointer (some ⟨g,4,none⟩)) {a0 a1 a2 a3 a4 a5 a6 a7 a8 a9 a10 a11 a12 a13 a14 a15 a16 a17 a18 a19 a20:Value} (X:Box w g #[a0,a1,a2,a3,a4,a5,a6,a7,a8,a9,a10,a11,a12,a13,a14,a15,a16,a17,a18,a19,a20])
  (h:wpList Tryz.prog ops Q rest (a.put op.dst (.agg #[a4,a5,a6,a7,a8,a9,a10,a11,a12,a13,a14,a15,a16,a17,a18])) w):wpList Tryz.prog ops Q (op::rest) a w:=
 wpList_load_mid hgd 25 x ho g 4 hx _ _ (load25_hc X) Tryz.underlying25 rfl (by rw[info_ru];rfl) h
def SetC (w:World) (p:List Int×Int) (e:Ending) (w':World):Prop:=∃A c,e= .returned (.tuple #[.slice A p.1.length c,.int .i64 p.2])/\IsAt w' A p.1.length p.1/\p.1.length<=c/\(A=none->c=0)/\Below w.heap.size w w'
theorem setC_nil {w w':World} {p:List Int×Int} {x:Int} (h:([],x)=p) (hb:Below w.heap.size w w'):SetC w p (.returned (.tuple #[.slice none 0 0,.int .i64 x])) w':=by
 subst h
 exact⟨none,0,rfl,IsAt.nil _ _,Nat.le_refl _,fun _=>rfl,hb⟩
theorem is_takeM {W:World} {A:Option Addr} {n m:Nat} {l:List Int} (h:IsAt W A n l) (hm:m<=n):IsAt W A m (l.take m):=by
 refine⟨by rw[List.length_take];have:=h.1;omega,fun h0 => ?_⟩
 obtain⟨b,off,e,hlt,hc⟩:=h.2 (by omega)
 refine⟨b,off,e,hlt,fun j hj => ?_⟩
 rw[hc j (by omega),iat_lt (by have:=h.1;omega),iat_lt (by rw[List.length_take];have:=h.1;omega),List.getElem_take]
theorem oneI (w:World) (x:Int):IsAt (w.alloc (.cells #[.int .i64 x] 3)) (some ⟨w.heap.size,0,none⟩) 1 [x]:=
 ⟨rfl,fun _=>⟨w.heap.size,0,rfl,by simp,fun j hj=>by
  obtain rfl:j=0:=by omega
  simp[go_sem,iat]⟩⟩
def toldR (m:Mt) (end_:Int):List Int×Int:=if m.recs=true then listR m.rule m.start end_ 4096 else ([m.start],0)
def allR (m:Mt) (l:List Int):List Int:=withL (mergeL l m.dates) m.exc
def cntR (end_:Int) (l:List Int):Nat:=l.countP fun y=>decide (y<end_)
def localR (m:Mt) (end_:Int):List Int×Int:=
 if mayM m=false then ([],1)
 else if (toldR m end_).2≠0 then ([],(toldR m end_).2)
 else if 4096<cntR end_ (allR m (toldR m end_).1) then ([],10)
 else ((allR m (toldR m end_).1).take (cntR end_ (allR m (toldR m end_).1)),0)
theorem local_no {m:Mt} {end_:Int} (h:mayM m=false):localR m end_=([],1):=if_pos h
theorem local_err {m:Mt} {end_:Int} {l:List Int} {x:Int} (h:mayM m=true) (ht:toldR m end_=(l,x)) (hx:x≠0):localR m end_=([],x):=by
 unfold localR
 rw[if_neg (by rw[h];decide),ht,if_pos hx]
theorem local_yes {m:Mt} {end_:Int} {l r:List Int} {k:Nat} (h:mayM m=true) (ht:toldR m end_=(l,0)) (hr:allR m l=r) (hk:cntR end_ r=k):localR m end_=if 4096<k then ([],10) else (r.take k,0):=by
 unfold localR
 rw[if_neg (by rw[h];decide),ht,if_neg (by simp)]
 simp only[hr,hk]
theorem list_le {r:Ru} {start end_:Int} {l:List Int} {x:Int} (hp:listR r start end_ 4096=(l,x)):l.length<=4096:=by
 unfold listR at hp
 split at hp
 ·rw[<-(Prod.mk.inj hp).1];simp
 ·split at hp
  ·rw[<-(Prod.mk.inj hp).1];simp
  ·rename_i d
   rw[<-(Prod.mk.inj hp).1];omega
theorem list_up {r:Ru} {start end_:Int} {l:List Int} {x:Int} (hp:listR r start end_ 4096=(l,x)):l.Pairwise (· < ·):=by
 unfold listR at hp
 split at hp
 ·rw[<-(Prod.mk.inj hp).1];exact List.Pairwise.nil
 ·split at hp
  ·rw[<-(Prod.mk.inj hp).1];exact List.Pairwise.nil
  ·rw[<-(Prod.mk.inj hp).1]
   unfold momL cutL
   split
   ·exact sel_rise _ _ _
   ·exact(sel_rise _ _ _).sublist (List.take_sublist _ _)
theorem dates_up {l:List Int} (h:datesB l=true):l.Pairwise (· < ·)/\l.length<=64:=by
 unfold datesB at h
 simp only[Bool.and_eq_true] at h
 exact⟨of_decide_eq_true h.2.1,of_decide_eq_true h.1⟩
theorem may_parts {m:Mt} (h:mayM m=true):(0<=m.zone/\m.zone<=15)/\innerB m.start=true/\(1<=m.dur/\m.dur<=2678400)/\ruleB m=true/\datesB m.dates=true/\datesB m.exc=true:=by
 unfold mayM at h
 simp only[Bool.and_eq_true] at h
 exact⟨of_decide_eq_true h.1,h.2.1,of_decide_eq_true h.2.2.1,h.2.2.2.1,h.2.2.2.2.1,h.2.2.2.2.2⟩
theorem allR_is {zo st du:Int} {re:Bool} {ru:Ru} {dl el l:List Int}:allR ⟨zo,st,du,re,ru,dl,el⟩ l=withL (mergeL l dl) el:=rfl
theorem told_no {zo st du:Int} {ru:Ru} {dl el:List Int} {end_:Int}:toldR ⟨zo,st,du,false,ru,dl,el⟩ end_=([st],0):=by
 unfold toldR;exact if_neg (fun h=>by cases h)
theorem told_yes {zo st du:Int} {ru:Ru} {dl el:List Int} {end_:Int}:toldR ⟨zo,st,du,true,ru,dl,el⟩ end_=listR ru st end_ 4096:=by
 unfold toldR;exact if_pos rfl
theorem told_le {m:Mt} {end_:Int} {l:List Int} {x:Int} (h:toldR m end_=(l,x)):l.length<=4096/\l.Pairwise (· < ·):=by
 unfold toldR at h
 split at h
 ·exact⟨list_le h,list_up h⟩
 ·rw[<-(Prod.mk.inj h).1];exact⟨by simp,List.pairwise_singleton _ _⟩
theorem all_up {m:Mt} {end_:Int} {l:List Int} {x:Int} (hm:mayM m=true) (h:toldR m end_=(l,x)):(allR m l).Pairwise (· < ·)/\(allR m l).length<=5000:=by
 obtain⟨-,-,-,-,d1,d2⟩:=may_parts hm
 obtain⟨u1,n1⟩:=dates_up d1
 obtain⟨u2,n2⟩:=dates_up d2
 obtain⟨n3,u3⟩:=told_le h
 have mr:=merge_rise l m.dates u3 u1
 refine⟨?_,?_⟩
 ·unfold allR;rw[with_is _ _ mr u2];exact mr.filter _
 ·have a:=with_len (mergeL l m.dates) m.exc
  have b:=merge_len l m.dates;unfold allR;omega
theorem local_is (w:World) (S:MS) (m:Mt) (end_:Int) (q:List Int×Int) (h:MtAt w S m) (hq:localR m end_=q):
  Calls Tryz.prog 17 #[S.val m,.int .i64 end_] w fun e w'=>SetC w q e w':=by
 have HA:=hid h
 obtain⟨p,hp⟩:∃p,mayM m=p:=⟨_,rfl⟩
 obtain⟨⟨tl,te⟩,ht⟩:∃t,toldR m end_=t:=⟨_,rfl⟩
 have HP:=hid hp
 have NO:=hid (fun (g:p=false)=>show ([],(1:Int))=q by rw[<-hq];exact(local_no (hp.trans g)).symm)
 have ERR:=hid (fun (g:p=true) (g2:te≠0)=>show ([],te)=q by rw[<-hq];exact(local_err (hp.trans g) ht g2).symm)
 have YES:=hid (fun (g:p=true) (g2:te=0) (r:List Int) (k:Nat) (hr:allR m tl=r) (hk:cntR end_ r=k)=>show q=if 4096<k then ([],10) else (r.take k,0) by
  rw[<-hq];exact local_yes (hp.trans g) (by rw[ht,g2]) hr hk)
 have UP:=hid (fun (g:p=true)=>show (allR m tl).Pairwise (· < ·)/\(allR m tl).length<=5000 from all_up (hp.trans g) ht)
 have TL:=hid (told_le ht).1
 have DS:=hid (fun (g:p=true)=>show m.dates.length<=64/\m.exc.length<=64 from ⟨(dates_up (may_parts (hp.trans g)).2.2.2.2.1).2,(dates_up (may_parts (hp.trans g)).2.2.2.2.2).2⟩)
 have HT:=hid ht
 clear h hq hp ht
 obtain⟨⟨ra6,rn6,rc6,ra7,rn7,rc7,ra8,rn8,rc8,ra9,rn9,rc9,ra10,rn10,rc10,ra11,rn11,rc11,ra12,rn12,rc12,ra13,rn13,rc13,ra14,rn14,rc14⟩,ad,nd,cd,ae,ne,ce⟩:=S
 obtain⟨zo,st,du,re,⟨rfreq,ritv,rcnt,rtil,rwkst,rends,rmon,rweek,ryday,rmday,rday,rhour,rminu,rsec,rpos⟩,dl,el⟩:=m
 show Calls Tryz.prog 17 #[.agg #[.int .i64 zo,.int .i64 st,.int .i64 du,.bool re,.int .i64 rfreq,.int .i64 ritv,.int .i64 rcnt,.int .i64 rtil,.int .i64 rwkst,.bool rends,.slice ra6 rn6 rc6,.slice ra7 rn7 rc7,.slice ra8 rn8 rc8,.slice ra9 rn9 rc9,.slice ra10 rn10 rc10,.slice ra11 rn11 rc11,.slice ra12 rn12 rc12,.slice ra13 rn13 rc13,.slice ra14 rn14 rc14,.slice ad nd cd,.slice ae ne ce],.int .i64 end_] w _
 go_enter Tryz.func17,Tryz.ntmps17
 go_upto_region 1 with fail
 obtain⟨B0,X0⟩:=box_new w #[.int .i64 zo,.int .i64 st,.int .i64 du,.bool re,.int .i64 rfreq,.int .i64 ritv,.int .i64 rcnt,.int .i64 rtil,.int .i64 rwkst,.bool rends,.slice ra6 rn6 rc6,.slice ra7 rn7 rc7,.slice ra8 rn8 rc8,.slice ra9 rn9 rc9,.slice ra10 rn10 rc10,.slice ra11 rn11 rc11,.slice ra12 rn12 rc12,.slice ra13 rn13 rc13,.slice ra14 rn14 rc14,.slice ad nd cd,.slice ae ne ce] 27
 generalize w.alloc _=w0 at *
 have DC:=HA.out.dc;have EC:=HA.out.ec;have ZD:=hid HA.out.zd
 simp only at DC EC
 go_wp2_with (refine load27 rfl _ rfl _ rfl _ X0 rfl ?_)
 go_wp2_with fail
 refine(mayM_is _ ⟨⟨ra6,rn6,rc6,ra7,rn7,rc7,ra8,rn8,rc8,ra9,rn9,rc9,ra10,rn10,rc10,ra11,rn11,rc11,ra12,rn12,rc12,ra13,rn13,rc13,ra14,rn14,rc14⟩,ad,nd,cd,ae,ne,ce⟩ ⟨zo,st,du,re,⟨rfreq,ritv,rcnt,rtil,rwkst,rends,rmon,rweek,ryday,rmday,rday,rhour,rminu,rsec,rpos⟩,dl,el⟩ p (HA.out.below B0) HP.out).mono ?_
 rintro e w1 ⟨rfl,b1⟩
 have B1:=B0.trans (b1.mono B0.size)
 have X1:=X0.below b1
 clear B0 X0 b1
 cases p
 ·have N:=hid (NO.out rfl)
  go_wp2
  go_ret2
  exact setC_nil N.out B1
 ·obtain⟨LD,LE⟩:dl.length<=64/\el.length<=64:=DS.out rfl
  have YS:=hid (YES.out rfl);have UPR:=hid (UP.out rfl);have ER:=hid (ERR.out rfl);clear NO ERR YES UP DS;obtain⟨mz0,mz1,mz2,mz3,mz4,mz5,mz6,mz7,mz8,mz9,mz10,mz11,mz12,mz13,mz14,mz15,mz16,mz17,mz18,mz19,mz20⟩:=cells21 X1
  go_upto_region 4 with fail
  have b2:=alloc_below w1 (.cells #[.int .i64 st] 3);have T2:=hid (oneI w1 st);generalize hw2:w1.alloc (.cells #[.int .i64 st] 3)=w2 at *;clear hw2;have B2:=B1.trans (b2.mono B1.size);have X2:=X1.below b2;clear mz0 mz1 mz2 mz3 mz4 mz5 mz6 mz7 mz8 mz9 mz10 mz11 mz12 mz13 mz14 mz15 mz16 mz17 mz18 mz19 mz20;clear B1 X1;obtain⟨mz0,mz1,mz2,mz3,mz4,mz5,mz6,mz7,mz8,mz9,mz10,mz11,mz12,mz13,mz14,mz15,mz16,mz17,mz18,mz19,mz20⟩:=cells21 X2;cases re
  ·have ET:=hid (show ([st],(0:Int))=(tl,te) from told_no.symm.trans HT.out)
   obtain⟨e1,e2⟩:=Prod.mk.inj ET.out;subst e2;have T2:=hid (show IsAt w2 (some ⟨w1.heap.size,0,none⟩) 1 tl from e1 ▸ T2.out);clear e1;have YS:=hid (YS.out rfl);clear ER ET HT;obtain⟨ml,hml⟩:∃l,mergeL tl dl=l:=⟨_,rfl⟩;obtain⟨r,hr⟩:∃l,withL ml el=l:=⟨_,rfl⟩;have HML:=hid hml;have HR:=hid hr;have AR:=hid (show allR ⟨zo,st,du,false,⟨rfreq,ritv,rcnt,rtil,rwkst,rends,rmon,rweek,ryday,rmday,rday,rhour,rminu,rsec,rpos⟩,dl,el⟩ tl=r by rw[<-hr,<-hml,allR_is]);have U:=hid UPR.out;rw[AR.out] at U;obtain⟨k,hk⟩:∃k,cntR end_ r=k:=⟨_,rfl⟩;have YK:=hid (YS.out r k AR.out hk);have HK:=hid hk;have ML:=hid (show ml.length<=5000 by rw[<-hml];have:=merge_len tl dl;have:=TL.out;omega);clear hml hr hk
   go_upto_region 9 with fail
   clear mz0 mz1 mz2 mz3 mz4 mz5 mz6 mz7 mz8 mz9 mz10 mz11 mz12 mz13 mz14 mz15 mz16 mz17 mz18 mz19 mz20;refine wp_region_late (fun _=>false) (fun v=>Below w2.heap.size w2 v) (by kernel_rfl) ?_;have D0:Below w2.heap.size w2 w2.drew:=(Below.refl _ _).drew
   refine Late.take 0 (.slice (some ⟨w1.heap.size,0,none⟩) 1 1) rfl (by kernel_rfl) (by kernel_rfl) (by kernel_rfl) (by kernel_rfl) (fun _ _ _ h=>h) (.inl ⟨rfl,fun w' hs => ?_⟩) D0 ?_
   ·go_simp
   refine Late.take 1 (.pointer (some ⟨w.heap.size,19,none⟩)) rfl (by kernel_rfl) (by kernel_rfl) (by kernel_rfl) (by kernel_rfl) (fun _ _ _ h=>h) (.inl ⟨rfl,fun w' hs => ?_⟩) D0 ?_
   ·go_simp
   refine Late.take 2 (.slice ad nd cd) rfl (by kernel_rfl) (by kernel_rfl) (by kernel_rfl) (by kernel_rfl) (fun _ _ _ h=>h) (.inl ⟨rfl,fun w' hs => ?_⟩) D0 ?_
   ·have zz:w'.cell? ⟨w.heap.size,19,none⟩=some (.slice ad nd cd):=(X2.below hs).at_ 19 _ rfl
    go_simp
   refine Late.take 4 (.pointer (some ⟨w.heap.size,20,none⟩)) rfl (by kernel_rfl) (by kernel_rfl) (by kernel_rfl) (by kernel_rfl) (fun _ _ _ h=>h) (.inl ⟨rfl,fun w' hs => ?_⟩) D0 ?_
   ·go_simp
   refine Late.take 5 (.slice ae ne ce) rfl (by kernel_rfl) (by kernel_rfl) (by kernel_rfl) (by kernel_rfl) (fun _ _ _ h=>h) (.inl ⟨rfl,fun w' hs => ?_⟩) D0 ?_
   ·have zz:w'.cell? ⟨w.heap.size,20,none⟩=some (.slice ae ne ce):=(X2.below hs).at_ 20 _ rfl
    go_simp
   have C0:=B2.trans (D0.mono B2.size);refine Late.one 3 rfl (by kernel_rfl) rfl ?_
   go_simp
   refine(merged_is _ (some ⟨w1.heap.size,0,none⟩) ad 1 nd 1 cd tl dl ml (T2.out.below D0) (HA.out.below C0).dates (Nat.le_refl _) DC (fun e=>by cases e) ZD.out (by omega) (by have:=HA.out.dates.1;simp only at this;omega) HML.out).mono ?_;rintro e w20 ⟨A9,c9,rfl,i9,-,l9,z9,y9⟩;have K9:=hid i9;have D1:=D0.trans (y9.mono D0.size);refine⟨D1,?_⟩;have C1:=B2.trans (D1.mono B2.size);refine Late.one 6 rfl (by kernel_rfl) rfl ?_
   go_simp
   refine(without_is _ A9 ae ml.length ne c9 ce ml el r K9.out (HA.out.below C1).exc EC (by have:=ML.out;omega) (by have:=HA.out.exc.1;simp only at this;omega) HR.out).mono ?_;rintro e w21 ⟨g10,c10,rfl,i10,l10,y10⟩;have K10:=hid i10;have D2:=D1.trans (y10.mono D1.size);refine⟨D2,?_⟩;refine Late.take 7 (.slice (some ⟨g10,0,none⟩) r.length c10) rfl (by kernel_rfl) (by kernel_rfl) (by kernel_rfl) (by kernel_rfl) (fun _ _ _ h=>h) (.inl ⟨rfl,fun w' hs => ?_⟩) D2 ?_
   ·go_simp
   refine Late.done (by kernel_rfl) ?_;have B9:=B2.trans (D2.mono B2.size);clear D0 C0 D1 C1 y9 y10 i9 i10 l9 K9 b2;go_wp2_with fail;refine(search_is _ g10 r.length c10 r end_ K10.out U.out.1 (by have:=U.out.2;omega)).mono ?_;rintro e w22 ⟨f,he,y22⟩
   replace he:e= .returned (.tuple #[.int .i64 (k:Nat),.bool f]):=by rw[he];have:=HK.out;unfold cntR at this;rw[this]
   subst he;have B10:=B9.trans (y22.mono B9.size);have kr:k<=r.length:=by rw[<-HK.out];exact List.countP_le_length
   have rn:=U.out.2
   by_cases big:4096<k
   ·have N:=hid (show ([],(10:Int))=q by rw[YK.out,if_pos big])
    have t1:decide ((4096:Int)<k)=true:=decide_eq_true (by omega)
    have t2:decide (4096<k)=true:=decide_eq_true big
    go_wp2
    go_ret2
    exact setC_nil N.out B10
   ·have N:=hid (show q=(r.take k,0) by rw[YK.out,if_neg big])
    have t1:decide ((4096:Int)<k)=false:=decide_eq_false (by omega)
    have t2:decide (4096<k)=false:=decide_eq_false big
    have KT:=hid (show IsAt w22 (some ⟨g10,0,none⟩) k (r.take k) from is_takeM (K10.out.below y22) kr);have kc:k<=c10:=by omega
    have kc2:(k:Int)<=c10:=by omega
    have k0:(0:Int)<=k:=by omega
    go_wp2
    go_ret2
    rw[N.out];have tk:(r.take k).length=k:=by rw[List.length_take];omega
    exact⟨_,c10,by show _=Ending.returned (.tuple #[.slice (some ⟨g10,0,none⟩) (r.take k).length c10,.int .i64 0]);rw[tk];rfl,by show IsAt _ (some ⟨g10,0,none⟩) (r.take k).length (r.take k);rw[tk];exact KT.out,by show (r.take k).length<=c10;omega,(fun e=>by cases e),B10⟩
  ·have HL:=hid (show listR ⟨rfreq,ritv,rcnt,rtil,rwkst,rends,rmon,rweek,ryday,rmday,rday,rhour,rminu,rsec,rpos⟩ st end_ 4096=(tl,te) from told_yes.symm.trans HT.out)
   clear HT
   go_wp2_with (refine load25 rfl _ rfl _ rfl X2 ?_)
   go_wp2_with fail;refine(listC_is _ ⟨ra6,rn6,rc6,ra7,rn7,rc7,ra8,rn8,rc8,ra9,rn9,rc9,ra10,rn10,rc10,ra11,rn11,rc11,ra12,rn12,rc12,ra13,rn13,rc13,ra14,rn14,rc14⟩ ⟨rfreq,ritv,rcnt,rtil,rwkst,rends,rmon,rweek,ryday,rmday,rday,rhour,rminu,rsec,rpos⟩ st end_ 4096 (tl,te) (HA.out.below B2).rule HL.out).mono ?_;rintro e w3 ⟨A3,c3,he,i3,l3,z3,b3⟩
   replace he:e= .returned (.tuple #[.slice A3 (tl:List Int).length c3,.int .i64 te]):=he
   replace i3:IsAt w3 A3 tl.length tl:=i3
   replace l3:tl.length<=c3:=l3
   subst he;have T3:=hid i3;have B3:=B2.trans (b3.mono B2.size);have X3:=X2.below b3;clear mz0 mz1 mz2 mz3 mz4 mz5 mz6 mz7 mz8 mz9 mz10 mz11 mz12 mz13 mz14 mz15 mz16 mz17 mz18 mz19 mz20;clear B2 X2 i3 b2 T2
   by_cases x0:te=0
   rotate_left
   ·have t0:(te != 0)=true:=by rw[bne_iff_ne];exact x0
    have N:=hid (ER.out x0);go_wp2
    go_ret2
    exact setC_nil N.out B3
   subst x0;have t0:((0:Int) != 0)=false:=by simp
   obtain⟨mz0,mz1,mz2,mz3,mz4,mz5,mz6,mz7,mz8,mz9,mz10,mz11,mz12,mz13,mz14,mz15,mz16,mz17,mz18,mz19,mz20⟩:=cells21 X3;have tn:=TL.out;obtain⟨ml,hml⟩:∃l,mergeL tl dl=l:=⟨_,rfl⟩;obtain⟨r,hr⟩:∃l,withL ml el=l:=⟨_,rfl⟩;have HML:=hid hml;have HR:=hid hr;have AR:=hid (show allR ⟨zo,st,du,true,⟨rfreq,ritv,rcnt,rtil,rwkst,rends,rmon,rweek,ryday,rmday,rday,rhour,rminu,rsec,rpos⟩,dl,el⟩ tl=r by rw[<-hr,<-hml,allR_is]);have U:=hid UPR.out;rw[AR.out] at U;obtain⟨k,hk⟩:∃k,cntR end_ r=k:=⟨_,rfl⟩;have YK:=hid (YS.out (by first|rfl|trivial) r k AR.out hk);have HK:=hid hk;have ML:=hid (show ml.length<=5000 by rw[<-hml];have:=merge_len tl dl;have:=TL.out;omega);clear hml hr hk
   go_upto_region 9 with fail
   clear mz0 mz1 mz2 mz3 mz4 mz5 mz6 mz7 mz8 mz9 mz10 mz11 mz12 mz13 mz14 mz15 mz16 mz17 mz18 mz19 mz20;refine wp_region_late (fun _=>false) (fun v=>Below w3.heap.size w3 v) (by kernel_rfl) ?_;have D0:Below w3.heap.size w3 w3.drew:=(Below.refl _ _).drew
   refine Late.take 0 (.slice (A3) tl.length c3) rfl (by kernel_rfl) (by kernel_rfl) (by kernel_rfl) (by kernel_rfl) (fun _ _ _ h=>h) (.inl ⟨rfl,fun w' hs => ?_⟩) D0 ?_
   ·go_simp
   refine Late.take 1 (.pointer (some ⟨w.heap.size,19,none⟩)) rfl (by kernel_rfl) (by kernel_rfl) (by kernel_rfl) (by kernel_rfl) (fun _ _ _ h=>h) (.inl ⟨rfl,fun w' hs => ?_⟩) D0 ?_
   ·go_simp
   refine Late.take 2 (.slice ad nd cd) rfl (by kernel_rfl) (by kernel_rfl) (by kernel_rfl) (by kernel_rfl) (fun _ _ _ h=>h) (.inl ⟨rfl,fun w' hs => ?_⟩) D0 ?_
   ·have zz:w'.cell? ⟨w.heap.size,19,none⟩=some (.slice ad nd cd):=(X3.below hs).at_ 19 _ rfl
    go_simp
   refine Late.take 4 (.pointer (some ⟨w.heap.size,20,none⟩)) rfl (by kernel_rfl) (by kernel_rfl) (by kernel_rfl) (by kernel_rfl) (fun _ _ _ h=>h) (.inl ⟨rfl,fun w' hs => ?_⟩) D0 ?_
   ·go_simp
   refine Late.take 5 (.slice ae ne ce) rfl (by kernel_rfl) (by kernel_rfl) (by kernel_rfl) (by kernel_rfl) (fun _ _ _ h=>h) (.inl ⟨rfl,fun w' hs => ?_⟩) D0 ?_
   ·have zz:w'.cell? ⟨w.heap.size,20,none⟩=some (.slice ae ne ce):=(X3.below hs).at_ 20 _ rfl
    go_simp
   have C0:=B3.trans (D0.mono B3.size);refine Late.one 3 rfl (by kernel_rfl) rfl ?_
   go_simp
   refine(merged_is _ (A3) ad tl.length nd c3 cd tl dl ml (T3.out.below D0) (HA.out.below C0).dates (l3) DC (z3) ZD.out (by omega) (by have:=HA.out.dates.1;simp only at this;omega) HML.out).mono ?_;rintro e w20 ⟨A9,c9,rfl,i9,-,l9,z9,y9⟩;have K9:=hid i9;have D1:=D0.trans (y9.mono D0.size);refine⟨D1,?_⟩;have C1:=B3.trans (D1.mono B3.size);refine Late.one 6 rfl (by kernel_rfl) rfl ?_
   go_simp
   refine(without_is _ A9 ae ml.length ne c9 ce ml el r K9.out (HA.out.below C1).exc EC (by have:=ML.out;omega) (by have:=HA.out.exc.1;simp only at this;omega) HR.out).mono ?_;rintro e w21 ⟨g10,c10,rfl,i10,l10,y10⟩;have K10:=hid i10;have D2:=D1.trans (y10.mono D1.size);refine⟨D2,?_⟩;refine Late.take 7 (.slice (some ⟨g10,0,none⟩) r.length c10) rfl (by kernel_rfl) (by kernel_rfl) (by kernel_rfl) (by kernel_rfl) (fun _ _ _ h=>h) (.inl ⟨rfl,fun w' hs => ?_⟩) D2 ?_
   ·go_simp
   refine Late.done (by kernel_rfl) ?_;have B9:=B3.trans (D2.mono B3.size);clear D0 C0 D1 C1 y9 y10 i9 i10 l9 K9;go_wp2_with fail;refine(search_is _ g10 r.length c10 r end_ K10.out U.out.1 (by have:=U.out.2;omega)).mono ?_;rintro e w22 ⟨f,he,y22⟩
   replace he:e= .returned (.tuple #[.int .i64 (k:Nat),.bool f]):=by rw[he];have:=HK.out;unfold cntR at this;rw[this]
   subst he;have B10:=B9.trans (y22.mono B9.size);have kr:k<=r.length:=by rw[<-HK.out];exact List.countP_le_length
   have rn:=U.out.2
   by_cases big:4096<k
   ·have N:=hid (show ([],(10:Int))=q by rw[YK.out,if_pos big])
    have t1:decide ((4096:Int)<k)=true:=decide_eq_true (by omega)
    have t2:decide (4096<k)=true:=decide_eq_true big
    go_wp2
    go_ret2
    exact setC_nil N.out B10
   ·have N:=hid (show q=(r.take k,0) by rw[YK.out,if_neg big])
    have t1:decide ((4096:Int)<k)=false:=decide_eq_false (by omega)
    have t2:decide (4096<k)=false:=decide_eq_false big
    have KT:=hid (show IsAt w22 (some ⟨g10,0,none⟩) k (r.take k) from is_takeM (K10.out.below y22) kr);have kc:k<=c10:=by omega
    have kc2:(k:Int)<=c10:=by omega
    have k0:(0:Int)<=k:=by omega
    go_wp2
    go_ret2
    rw[N.out];have tk:(r.take k).length=k:=by rw[List.length_take];omega
    exact⟨_,c10,by show _=Ending.returned (.tuple #[.slice (some ⟨g10,0,none⟩) (r.take k).length c10,.int .i64 0]);rw[tk];rfl,by show IsAt _ (some ⟨g10,0,none⟩) (r.take k).length (r.take k);rw[tk];exact KT.out,by show (r.take k).length<=c10;omega,(fun e=>by cases e),B10⟩
end Go.Proofs.YtddnnljfgfcplaaGreatDoor.Me
namespace Go.Proofs.YtddnnljfgfcplaaGreatDoor.Me
open Lib (hid)
open Go.RowKit Cv St Ru Dd Mb Ex
def sortG (l:List Int):List Int:=l.mergeSort fun x y=>decide (x<=y)
def begG (U:Int->Int) (hi:Int) (l:List Int):List Int:=(l.map U).filter fun u=>decide (u<hi)
def spansG (m:Mt) (n:Nat) (may:Bool) (U:Int->Int) (hi:Int):List (Int×Int)×Int:=
 if mayM m=false\/(n:Int)<=m.zone\/may=false\/¬(-62072524800<=hi/\hi<=253339228799) then ([],1)
 else if (localR m (hi+172800)).2≠0 then ([],(localR m (hi+172800)).2)
 else (joinL m.dur (sortG (begG U hi (localR m (hi+172800)).1)),0)
theorem begG_step {U:Int->Int} {hi:Int} {l:List Int} {t:Nat} (h:t<l.length):begG U hi (l.take (t+1))=begG U hi (l.take t)++if U (iat l t)<hi then [U (iat l t)] else []:=by
 unfold begG
 rw[List.take_succ_eq_append_getElem h,List.map_append,List.filter_append,iat_lt h]
 congr 1
 by_cases c:U l[t]<hi
 ·rw[if_pos c];simp[c]
 ·rw[if_neg c];simp[c]
theorem begG_bd {U:Int->Int} {hi x:Int} {l:List Int} (UB:∀y∈l,-1000000000000<=U y/\U y<=1000000000000) (h:x∈sortG (begG U hi l)):-1000000000000<=x/\x<=1000000000000:=by
 unfold sortG at h
 rw[List.mem_mergeSort] at h
 unfold begG at h
 obtain⟨y,hy,rfl⟩:=List.mem_map.1 (List.mem_filter.1 h).1
 exact UB y hy
theorem list_bdG {r:Ru} {start end_ x:Int} {l:List Int} {e:Int} (hp:listR r start end_ 4096=(l,e)) (hx:x∈l):-1000000000000<=x/\x<=1000000000000:=by
 unfold listR at hp
 split at hp
 ·rw[<-(Prod.mk.inj hp).1] at hx;cases hx
 ·rename_i c
  split at hp
  ·rw[<-(Prod.mk.inj hp).1] at hx;cases hx
  ·rw[<-(Prod.mk.inj hp).1] at hx
   have c:mayE r start end_ 4096=true:=by simpa using c
   unfold mayE at c;simp only[Bool.and_eq_true] at c;have s1:=of_decide_eq_true c.1.1.1.2;have s2:=hi_bd c.1.1.1.1 c.1.1.2
   have:x∈selL (hasM r start) start (hiR r end_):=by
    unfold momL cutL at hx
    split at hx
    ·exact hx
    ·exact List.mem_of_mem_take hx
   obtain⟨a,b,-⟩:=mem_sel.1 this;omega
theorem inner_bdG {x:Int} (h:innerB x=true):-1000000000000<=x/\x<=1000000000000:=by
 have:=of_decide_eq_true h;omega
theorem local_bdG {m:Mt} {end_ x:Int} (hx:x∈(localR m end_).1):-1000000000000<=x/\x<=1000000000000:=by
 unfold localR at hx
 split at hx
 ·cases hx
 ·rename_i c
  have hm:mayM m=true:=by simpa using c
  split at hx
  ·cases hx
  ·split at hx
   ·cases hx
   ·have h1:=List.mem_of_mem_take hx
    obtain⟨-,hs,-,-,d1,d2⟩:=may_parts hm;obtain⟨l,e,ht⟩:∃l e,toldR m end_=(l,e):=⟨_,_,rfl⟩;rw[ht] at h1;obtain⟨-,u3⟩:=told_le ht;unfold allR at h1;rw[with_is _ _ (merge_rise l m.dates u3 (dates_up d1).1) (dates_up d2).1] at h1
    rcases(mem_merge x _ _).1 (List.mem_filter.1 h1).1 with h|h
    ·unfold toldR at ht
     split at ht
     ·exact list_bdG ht h
     ·rw[<-(Prod.mk.inj ht).1,List.mem_singleton] at h
      rw[h];exact inner_bdG hs
    ·unfold datesB at d1
     simp only[Bool.and_eq_true] at d1;exact inner_bdG (List.all_eq_true.1 d1.2.2 x h)
theorem local_lenG {m:Mt} {end_:Int}:(localR m end_).1.length<=4096:=by
 unfold localR
 split
 ·simp
 ·split
  ·simp
  ·split
   ·simp
   ·rw[List.length_take];omega
def SpansCG (w:World) (p:List (Int×Int)×Int) (e:Ending) (w':World):Prop:=∃A c,e= .returned (.tuple #[.slice A p.1.length c,.int .i64 p.2])/\SpAt w' A p.1.length p.1/\Below w.heap.size w w'
theorem spansC_nilG {w w':World} {p:List (Int×Int)×Int} {x:Int} (h:([],x)=p) (hb:Below w.heap.size w w'):SpansCG w p (.returned (.tuple #[.slice none 0 0,.int .i64 x])) w':=by
 subst h
 exact⟨none,0,rfl,⟨rfl,fun h0=>absurd h0 (by simp)⟩,hb⟩
theorem spansG_is (w:World) (S:MS) (m:Mt) (hi:Int) (ZA:Option Addr) (zn zc:Nat) (may:Bool) (U:Int->Int) (zb zf:Int) (sA:Option Addr) (sn sc:Nat) (sA':Option Addr) (sn' sc':Nat) (q:List (Int×Int)×Int) (h:MtAt w S m)
  (hz:∀zk:Nat,m.zone=zk->zk<zn->∃bl off,ZA=some ⟨bl,off,none⟩/\bl<w.heap.size/\w.cell? ⟨bl,off+zk*4,none⟩=some (.int .i64 zb)/\w.cell? ⟨bl,off+zk*4+1,none⟩=some (.slice sA sn sc)/\w.cell? ⟨bl,off+zk*4+2,none⟩=some (.slice sA' sn' sc')/\w.cell? ⟨bl,off+zk*4+3,none⟩=some (.int .i64 zf))
  (hM:∀v,Below w.heap.size w v->Calls Tryz.prog 47 #[.agg #[.int .i64 zb,.slice sA sn sc,.slice sA' sn' sc',.int .i64 zf]] v fun e w'=>e= .returned (.bool may)/\Below v.heap.size v w')
  (hU:∀v x,Below w.heap.size w v->x∈(localR m (hi+172800)).1->Calls Tryz.prog 18 #[.agg #[.int .i64 zb,.slice sA sn sc,.slice sA' sn' sc',.int .i64 zf],.int .i64 x] v fun e w'=>e= .returned (.int .i64 (U x))/\Below v.heap.size v w')
  (hB:∀x∈(localR m (hi+172800)).1,-1000000000000<=U x/\U x<=1000000000000) (hn:zn<=9223372036854775807) (hq:spansG m zn may U hi=q):
  Calls Tryz.prog 16 #[S.val m,.slice ZA zn zc,.int .i64 hi] w fun e w'=>SpansCG w q e w':=by
 have HA:=hid h
 have HZ:=hid hz
 have ZM:=hid hM
 obtain⟨p,hp⟩:∃p,mayM m=p:=⟨_,rfl⟩
 have HP:=hid hp
 have NO:=hid (fun (g:mayM m=false\/(zn:Int)<=m.zone\/may=false\/¬(-62072524800<=hi/\hi<=253339228799))=>show ([],(1:Int))=q by
  rw[<-hq];unfold spansG;rw[if_pos g])
 have YES:=hid (fun (g:¬(mayM m=false\/(zn:Int)<=m.zone\/may=false\/¬(-62072524800<=hi/\hi<=253339228799)))=>show q=if (localR m (hi+172800)).2≠0 then ([],(localR m (hi+172800)).2) else (joinL m.dur (sortG (begG U hi (localR m (hi+172800)).1)),0) by
  rw[<-hq];unfold spansG;rw[if_neg g])
 have MP:=hid (fun (g:p=true)=>may_parts (hp.trans g))
 obtain⟨⟨ll,te⟩,hl⟩:∃t,localR m (hi+172800)=t:=⟨_,rfl⟩
 have HL:=hid hl
 have LB:=hid (fun x (hx:x∈ll)=>local_bdG (m:=m) (end_:=hi+172800) (x:=x) (by rw[hl];exact hx))
 have LL:=hid (show ll.length<=4096 by have:=local_lenG (m:=m) (end_:=hi+172800);rw[hl] at this;exact this)
 rw[hl] at YES
 have ZU:=hid (show ∀v x,Below w.heap.size w v->x∈ll->Calls Tryz.prog 18 #[.agg #[.int .i64 zb,.slice sA sn sc,.slice sA' sn' sc',.int .i64 zf],.int .i64 x] v fun e w'=>e= .returned (.int .i64 (U x))/\Below v.heap.size v w' from fun v x b hx=>hU v x b (by rw[hl];exact hx))
 have UB:=hid (show ∀x∈ll,-1000000000000<=U x/\U x<=1000000000000 from fun x hx=>hB x (by rw[hl];exact hx))
 clear h hz hq hp hl hM hU hB
 obtain⟨⟨ra6,rn6,rc6,ra7,rn7,rc7,ra8,rn8,rc8,ra9,rn9,rc9,ra10,rn10,rc10,ra11,rn11,rc11,ra12,rn12,rc12,ra13,rn13,rc13,ra14,rn14,rc14⟩,ad,nd,cd,ae,ne,ce⟩:=S
 obtain⟨zo,st,du,re,⟨rfreq,ritv,rcnt,rtil,rwkst,rends,rmon,rweek,ryday,rmday,rday,rhour,rminu,rsec,rpos⟩,dl,el⟩:=m
 show Calls Tryz.prog 16 #[.agg #[.int .i64 zo,.int .i64 st,.int .i64 du,.bool re,.int .i64 rfreq,.int .i64 ritv,.int .i64 rcnt,.int .i64 rtil,.int .i64 rwkst,.bool rends,.slice ra6 rn6 rc6,.slice ra7 rn7 rc7,.slice ra8 rn8 rc8,.slice ra9 rn9 rc9,.slice ra10 rn10 rc10,.slice ra11 rn11 rc11,.slice ra12 rn12 rc12,.slice ra13 rn13 rc13,.slice ra14 rn14 rc14,.slice ad nd cd,.slice ae ne ce],.slice ZA zn zc,.int .i64 hi] w _
 go_enter Tryz.func16,Tryz.ntmps16
 go_upto_region 1 with fail
 obtain⟨B0,X0⟩:=box_new w #[.int .i64 zo,.int .i64 st,.int .i64 du,.bool re,.int .i64 rfreq,.int .i64 ritv,.int .i64 rcnt,.int .i64 rtil,.int .i64 rwkst,.bool rends,.slice ra6 rn6 rc6,.slice ra7 rn7 rc7,.slice ra8 rn8 rc8,.slice ra9 rn9 rc9,.slice ra10 rn10 rc10,.slice ra11 rn11 rc11,.slice ra12 rn12 rc12,.slice ra13 rn13 rc13,.slice ra14 rn14 rc14,.slice ad nd cd,.slice ae ne ce] 27
 generalize w.alloc _=w0 at *
 go_wp2_with (refine load27 rfl _ rfl _ rfl _ X0 rfl ?_)
 go_wp2_with fail
 refine(mayM_is _ ⟨⟨ra6,rn6,rc6,ra7,rn7,rc7,ra8,rn8,rc8,ra9,rn9,rc9,ra10,rn10,rc10,ra11,rn11,rc11,ra12,rn12,rc12,ra13,rn13,rc13,ra14,rn14,rc14⟩,ad,nd,cd,ae,ne,ce⟩ ⟨zo,st,du,re,⟨rfreq,ritv,rcnt,rtil,rwkst,rends,rmon,rweek,ryday,rmday,rday,rhour,rminu,rsec,rpos⟩,dl,el⟩ p (HA.out.below B0) HP.out).mono ?_
 rintro e w1 ⟨rfl,b1⟩
 have B1:=B0.trans (b1.mono B0.size)
 have X1:=X0.below b1
 clear B0 X0 b1
 cases p
 ·have N:=hid (NO.out (.inl HP.out))
  go_wp2
  go_ret2
  exact spansC_nilG N.out B1
 ·obtain⟨⟨z0,z15⟩,-,⟨d1,d2⟩,-⟩:=MP.out rfl
  obtain⟨zk,rfl⟩:∃zk:Nat,zo=zk:=⟨zo.toNat,by omega⟩;have m0:w1.cell? ⟨w.heap.size,0,none⟩=some (.int .i64 zk):=X1.at_ 0 _ rfl
  by_cases hk:(zn:Int)<=zk
  ·have t1:decide ((zn:Int)<=zk)=true:=decide_eq_true hk
   have t2:decide (zn<=zk)=true:=decide_eq_true (by omega)
   have N:=hid (NO.out (.inr (.inl hk)));go_wp2
   go_ret2
   exact spansC_nilG N.out B1
  have t1:decide ((zn:Int)<=zk)=false:=decide_eq_false hk
  have t2:decide (zn<=zk)=false:=decide_eq_false (by omega)
  have zi:zk<zn:=by omega
  have zi2:(zk:Int)<zn:=by omega
  have zi3:(0:Int)<=zk:=by omega
  obtain⟨bl,off,rfl,hbl,z0c,z1c,z2c,z3c⟩:=HZ.out zk rfl zi;have c0:=(B1.cell (p:=⟨bl,_,none⟩) hbl).trans z0c;have c1:=(B1.cell (p:=⟨bl,_,none⟩) hbl).trans z1c;have c2:=(B1.cell (p:=⟨bl,_,none⟩) hbl).trans z2c;have c3:=(B1.cell (p:=⟨bl,_,none⟩) hbl).trans z3c;have Z0C:=hid z0c;have Z1C:=hid z1c;have Z2C:=hid z2c;have Z3C:=hid z3c;have NO:=hid (show (may=false\/¬(-62072524800<=hi/\hi<=253339228799))->([],(1:Int))=q from fun g=>NO.out (.inr (.inr g)))
  have YES:=hid (show may=true->(-62072524800<=hi/\hi<=253339228799)->q=if te≠0 then ([],te) else (joinL du (sortG (begG U hi ll)),0) from fun g1 g2=>YES.out (by
    rintro(g|g|g|g)
    ·exact absurd (HP.out.symm.trans g) (by simp)
    ·exact hk g
    ·rw[g1] at g;cases g
    ·exact g g2))
  clear z0c z1c z2c z3c HZ;go_wp2_with fail;refine(ZM.out w1 B1).mono ?_;rintro e w2 ⟨rfl,b2⟩;have B2:=B1.trans (b2.mono B1.size);have X2:=X1.below b2;clear m0 c0 c1 c2 c3 X1;cases may
  ·have N:=hid (NO.out (.inl rfl))
   go_wp2
   go_ret2
   exact spansC_nilG N.out B2
  ·obtain⟨hb,hhb⟩:∃x,decide (-62072524800<=hi/\hi<=253339228799)=x:=⟨_,rfl⟩
   have HB:=hid hhb;clear hhb;go_wp2_with fail;refine(within_is hi _ _ hb HB.out _).mono ?_;rintro e w' ⟨rfl,rfl⟩;cases hb
   ·have N:=hid (NO.out (.inr (of_decide_eq_false HB.out)))
    go_wp2
    go_ret2
    exact spansC_nilG N.out B2
   ·obtain⟨h1,h2⟩:=of_decide_eq_true HB.out
    have Y:=hid (YES.out (by simp) ⟨h1,h2⟩);clear NO YES;have W1:IntKind.i64.wrap (hi+172800)=hi+172800:=IntWalk.i64_in _ (by omega)
    go_wp2_with (refine load27 rfl _ rfl _ rfl _ X2 rfl ?_)
    go_wp2_with fail;refine(local_is _ ⟨⟨ra6,rn6,rc6,ra7,rn7,rc7,ra8,rn8,rc8,ra9,rn9,rc9,ra10,rn10,rc10,ra11,rn11,rc11,ra12,rn12,rc12,ra13,rn13,rc13,ra14,rn14,rc14⟩,ad,nd,cd,ae,ne,ce⟩ ⟨(zk:Int),st,du,re,⟨rfreq,ritv,rcnt,rtil,rwkst,rends,rmon,rweek,ryday,rmday,rday,rhour,rminu,rsec,rpos⟩,dl,el⟩ (hi+172800) (ll,te) (HA.out.below B2) HL.out).mono ?_;rintro e w4 ⟨A3,c3,he,i3,l3,-,b3⟩
    replace he:e= .returned (.tuple #[.slice A3 (ll:List Int).length c3,.int .i64 te]):=he
    subst he;have B3:=B2.trans (b3.mono B2.size);have X3:=X2.below b3;have I3:=hid (show IsAt w4 A3 ll.length ll from i3);clear X2 i3 l3 W1
    by_cases x0:te=0
    rotate_left
    ·have t0:(te != 0)=true:=by rw[bne_iff_ne];exact x0
     have N:=hid (show ([],te)=q by rw[Y.out,if_pos x0]);go_wp2
     go_ret2
     exact spansC_nilG N.out B3
    subst x0;have t0:((0:Int) != 0)=false:=by simp
    have YY:=hid (show q=(joinL du (sortG (begG U hi ll)),0) by rw[Y.out,if_neg (by simp)]);clear Y;obtain⟨n,hn9⟩:∃n,ll.length=n:=⟨_,rfl⟩;have LN:=hid hn9;have nn:=LL.out;rw[hn9] at nn I3 ⊢;clear hn9;have M0:=hid X3;go_wp2
    go_loopw [10,50] (fun ov i wr=>∃(t:Nat) (acc:List Int) (v:Value),v=ov/\i= .int .i64 t/\t<=n/\acc.length<=t/\Hid (begG U hi (ll.take t)=acc)/\Hid (OwnI w4 wr v acc)/\Below w4.heap.size w4 wr) (fun _ i _=>n-(intOf i).toNat)
    case atStart=>exact⟨0,[],_,rfl,rfl,Nat.zero_le _,Nat.zero_le _,hid (by rw[List.take_zero];rfl),hid (OwnI.nil _ _),Below.refl _ _⟩
    case round=>
     obtain⟨wo,rfl⟩:∃wo:World,wo=wr:=⟨_,rfl⟩;obtain⟨t,acc,v,rfl,rfl,ht,al,D,OV,hB⟩:=hrel
     by_cases hlt:t<n
     ·obtain⟨b5,o5,ea,hl5,hc5⟩:=I3.out.2 (by omega)
      subst ea;have cx:=(hB.cell (p:=⟨b5,_,none⟩) hl5).trans (hc5 t hlt);have hlen:t<ll.length:=by rw[LN.out];exact hlt
      obtain⟨y1,y2⟩:=LB.out (iat ll t) (by rw[iat_lt hlen];exact List.getElem_mem _);have ST:=hid (begG_step (U:=U) (hi:=hi) hlen);rw[D.out] at ST;have m0:wo.cell? ⟨w.heap.size,0,none⟩=some (.int .i64 zk):=(M0.out.below hB).at_ 0 _ rfl
      have BO:=B3.trans (hB.mono B3.size);have c0:=(BO.cell (p:=⟨bl,_,none⟩) hbl).trans Z0C.out;have c1:=(BO.cell (p:=⟨bl,_,none⟩) hbl).trans Z1C.out;have c2:=(BO.cell (p:=⟨bl,_,none⟩) hbl).trans Z2C.out;have c3:=(BO.cell (p:=⟨bl,_,none⟩) hbl).trans Z3C.out;have UC:=hid (ZU.out wo (iat ll t) BO (by rw[iat_lt hlen];exact List.getElem_mem _));obtain⟨ux,hux⟩:∃u,U (iat ll t)=u:=⟨_,rfl⟩;rw[hux] at ST UC;have Y12:=hid (show -9223372036854775808<=iat ll t/\iat ll t<=9223372036854775807 by omega);have s0:decide ((t:Int)<n)=true:=decide_eq_true (by omega)
      have s00:decide (t<n)=true:=decide_eq_true hlt
      clear hc5 hux D BO;generalize iat ll t=x at *
      as_aux_lemma=>
       go_wp2_with fail;refine UC.out.mono ?_;rintro e w5 ⟨rfl,b5⟩;have B5:=hB.trans (b5.mono hB.size);have OV5:=hid (OV.out.on b5);clear c0 c1 c2 c3 m0 cx hB
       by_cases c:ux<hi
       ·have s1:decide (ux<hi)=true:=decide_eq_true c
        have S:=hid (show begG U hi (ll.take (t+1))=acc++[ux] by rw[ST.out,if_pos c])
        go_wp2_with (at_builtin;refine append_num rfl _ _ rfl v acc rfl OV5.out B5 _ _ _ rfl (by omega) ?_)
        intro v6 w6 ow6 hb6;have OW:=hid ow6;clear ow6;go_wp2
        go_roundw
        case rel=>exact⟨t+1,_,v6,rfl,by go_num,by omega,by simp;omega,S,OW,hb6⟩
        case measure=>simp[intOf];omega
       ·have s1:decide (ux<hi)=false:=decide_eq_false c
        have S:=hid (show begG U hi (ll.take (t+1))=acc by rw[ST.out,if_neg c,List.append_nil]);go_wp2
        go_roundw
        case rel=>exact⟨t+1,acc,v,rfl,by go_num,by omega,by omega,S,OV5,B5⟩
        case measure=>simp[intOf];omega
     ·obtain rfl:n=t:=by omega
      have E:=hid (show begG U hi ll=acc by rw[<-D.out,List.take_of_length_le (by rw[LN.out];exact Nat.le_refl _)]);have s0:decide ((n:Int)<n)=false:=decide_eq_false (by omega)
      have s00:decide (n<n)=false:=decide_eq_false (by omega)
      have m2:∀v:World,Below w4.heap.size w4 v->v.cell? ⟨w.heap.size,2,none⟩=some (.int .i64 du):=fun v hv=>(M0.out.below hv).at_ 2 _ rfl
      have M2:=hid m2;clear m2;go_wp2_with fail;refine(sortO_is w4 _ v acc (by first|exact OV.out|exact OV.out.on (Below.drewN' _ _ _)) (by first|exact hB|exact hB.trans (Below.drewN' _ _ _)) (by omega)).mono ?_;rintro e w7 ⟨rfl,ow7,hb7⟩;obtain⟨A7,c7,rfl,i7,-,-⟩:=ow7.at_;have I7:=hid (show IsAt w7 A7 acc.length (sortG acc) by have:=i7;rw[List.length_mergeSort] at this;exact this);have sl:(sortG acc).length=acc.length:=List.length_mergeSort _
      have m2:=M2.out w7 hb7;have JB:=hid (show ∀x∈sortG acc,-1000000000000<=x/\x<=1000000000000 from fun x hx=>begG_bd UB.out (by rw[E.out];exact hx));obtain⟨r,hr⟩:∃r,joinL du (sortG acc)=r:=⟨_,rfl⟩;have HR:=hid hr;have FIN:=hid (show q=(r,0) by rw[YY.out,E.out,hr]);clear hr i7 ow7;rw[show (acc.mergeSort fun x y=>decide (x<=y)).length=acc.length from sl];go_wp2_with fail;refine(joined_is _ A7 acc.length c7 du (sortG acc) r I7.out (by omega) (by omega) (by omega) JB.out HR.out).mono ?_;rintro e w8 ⟨A8,c8,rfl,i8,b8⟩;have I8:=hid i8;have B8:=B3.trans ((hb7.trans (b8.mono hb7.size)).mono B3.size);clear i8;obtain⟨rk,hrk⟩:∃k,r.length=k:=⟨_,rfl⟩;have HRK:=hid hrk;rw[hrk] at I8 ⊢;clear hrk;go_wp2
      go_ret2
      rw[FIN.out];exact⟨A8,c8,by show _=Ending.returned (.tuple #[.slice A8 r.length c8,.int .i64 0]);rw[HRK.out];rfl,by show SpAt _ A8 r.length r;rw[HRK.out];exact I8.out,B8⟩
end Go.Proofs.YtddnnljfgfcplaaGreatDoor.Me
