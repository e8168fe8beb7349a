/- MbX1 -/
import Derived.Test.YtddnnljfgfcplaaGreatDoorMbM
import Derived.Test.YtddnnljfgfcplaaGreatDoorDyT
import Derived.Test.YtddnnljfgfcplaaGreatDoorDyP
set_option maxRecDepth 100000
set_option maxHeartbeats 8000000
set_option linter.unusedVariables false
namespace Go.Proofs.YtddnnljfgfcplaaGreatDoor.Mb
open Lib (hid)
open Go.RowKit Cv St Ru
def noTo (l:List Int) (x:Int) (k:Nat):Prop:=∀j,j<k->iat l j≠x
theorem noTo.succ {l:List Int} {x:Int} {k:Nat} (h:noTo l x k) (e:iat l k≠x):noTo l x (k+1):=fun j hj=>by
 by_cases c:j=k
 ·subst c;exact e
 ·exact h j (by omega)
theorem noTo_idx {l:List Int} {x:Int} {k:Nat} (h:noTo l x k) (hk:k<l.length) (e:iat l k=x):idx l x=(k:Int):=
 idx_of hk (by rw[<-iat_lt hk];exact e) fun j hj=>by rw[<-iat_lt (by omega)];exact h j hj
theorem noTo_none {l:List Int} {x:Int} (h:noTo l x l.length):idx l x = -1:=idx_no fun g=>by
 obtain⟨j,hj,e⟩:=List.getElem_of_mem g
 exact h j hj (by rw[iat_lt hj];exact e)
theorem idx_mem {l:List Int} {x:Int}:(0<=idx l x)↔x∈l:=by
 constructor
 ·intro h
  by_cases c:x∈l
  ·exact c
  ·rw[idx_no c] at h;omega
 ·intro h
  induction l with
  |nil=>cases h
  |cons y l ih=>
   unfold idx
   split
   ·omega
   ·rename_i c
    have:=ih (by rcases List.mem_cons.1 h with q|q;exact absurd q.symm c;exact q)
    split<;>omega
theorem index_is (w:World) (A:Option Addr) (n c:Nat) (l:List Int) (x:Int) (hl:IsAt w A n l) (h1:n<=9223372036854775807) (p:Int) (hp:idx l x=p):
  Calls Tryz.prog 230 #[.slice A n c,.int .i64 x] w fun e w'=>e= .returned (.int .i64 p)/\Below w.heap.size w w':=by
 obtain⟨en,hc⟩:=hl
 have EN:=hid en
 have HP:=hid hp
 clear en hp
 go_enter Tryz.func230,Tryz.ntmps230
 go_wp2
 go_loopw [8] (fun i wr=>∃t:Nat,t<=n/\i= .int .i64 t/\Hid (noTo l x t)/\∃q:Nat,wr=w.drewN q) (fun i _=>n-(intOf i).toNat)
 case atStart=>exact⟨0,Nat.zero_le _,rfl,hid (fun j hj=>absurd hj (by omega)),0,rfl⟩
 case round=>
  obtain⟨t,ht,rfl,D,q,rfl⟩:=hrel
  by_cases hlt:t<n
  ·obtain⟨bl,off,rfl,hb,hcc⟩:=hc (by omega)
   have c0:=hcc t hlt;have Y:=hid (fun (h:iat l t=x)=>show (t:Int)=p from (noTo_idx D.out (by rw[<-EN.out];exact hlt) h).symm.trans HP.out);have X:=hid (fun (e1:iat l t≠x)=>D.out.succ e1);clear hc hcc D
   by_cases p1:iat l t=x
   ·have e1:((x:Int)==iat l t)=true:=by rw[beq_iff_eq];exact p1.symm
    have F:=hid (Y.out p1);clear p1 X Y;generalize iat l t=s at *;go_wp2;go_ret;exact⟨ret_int F.out,Below.drewN' _ _ _⟩
   ·have e1:((x:Int)==iat l t)=false:=by rw[beq_eq_false_iff_ne];exact fun g=>p1 g.symm
    have F:=hid (X.out p1);clear p1 X Y;generalize iat l t=s at *;go_wp2
    go_roundw
    case rel=>exact⟨t+1,by omega,by go_num,F,_,rfl⟩
    case measure=>simp[intOf];omega
  ·obtain rfl:n=t:=by omega
   have F:=hid (show (-1:Int)=p from (noTo_none (by rw[<-EN.out];exact D.out)).symm.trans HP.out);go_wp2;go_ret;exact⟨ret_int F.out,Below.drewN' _ _ _⟩
theorem contains_is (w:World) (A:Option Addr) (n c:Nat) (l:List Int) (x:Int) (hl:IsAt w A n l) (h1:n<=9223372036854775807) (p:Bool) (hp:decide (x∈l)=p):
  Calls Tryz.prog 193 #[.slice A n c,.int .i64 x] w fun e w'=>e= .returned (.bool p)/\Below w.heap.size w w':=by
 obtain⟨z,hz⟩:∃z,idx l x=z:=⟨_,rfl⟩
 have F:=hid (show decide (0<=z)=p by rw[<-hp,<-hz];exact decide_eq_decide.2 idx_mem)
 have HL:=hid hl
 have HZ:=hid hz
 clear hp hz hl
 go_enter Tryz.func193,Tryz.ntmps193
 go_wp2_with fail
 refine(index_is _ A n c l x HL.out h1 z HZ.out).mono ?_
 rintro e w' ⟨rfl,hb⟩
 go_wp2
 go_ret
 exact⟨ret_bool F.out,hb⟩
def ListIs (w:World) (m:List Int) (e:Ending) (w':World):Prop:=∃A c,e= .returned (.slice A m.length c)/\IsAt w' A m.length m/\Below w.heap.size w w'
theorem oneI (w:World) (x:Int):IsAt (w.alloc (.cells #[.int .i64 x] 3)) (some ⟨w.heap.size,0,none⟩) 1 [x]:=
 ⟨rfl,fun _=>⟨w.heap.size,0,rfl,by simp,fun j hj=>by
  obtain rfl:j=0:=by omega
  simp[go_sem,iat]⟩⟩
theorem only_is (w:World) (A:Option Addr) (n c:Nat) (l:List Int) (x:Int) (hl:IsAt w A n l) (h1:n<=9223372036854775807) (m:List Int) (hm:only l x=m):
  Calls Tryz.prog 271 #[.slice A n c,.int .i64 x] w (ListIs w m):=by
 obtain⟨b,hb⟩:∃b,decide (x∈l)=b:=⟨_,rfl⟩
 have HB:=hid hb
 have HL:=hid hl
 have F1:=hid (fun (h:b=true)=>show [x]=m by rw[<-hm];unfold only;rw[if_pos (of_decide_eq_true (hb.trans h))])
 have F0:=hid (fun (h:b=false)=>show []=m by rw[<-hm];unfold only;rw[if_neg (of_decide_eq_false (hb.trans h))])
 clear hb hl hm
 go_enter Tryz.func271,Tryz.ntmps271
 go_wp2_with fail
 refine(contains_is _ A n c l x HL.out h1 b HB.out).mono ?_
 rintro e w1 ⟨rfl,b1⟩
 cases b
 ·have E:=F0.out rfl
  subst E;go_wp2;go_ret;exact⟨none,0,rfl,IsAt.nil _ _,b1⟩
 ·have E:=F1.out rfl
  subst E;go_wp2;go_ret;exact⟨_,1,rfl,oneI _ x,b1.trans ((alloc_below _ _).mono b1.size)⟩
end Go.Proofs.YtddnnljfgfcplaaGreatDoor.Mb
namespace Go.Proofs.YtddnnljfgfcplaaGreatDoor.Mb
open Lib (hid)
open Go.RowKit Cv St Ru Dd
theorem scal_of {r:Ru} (h:mayR r=true):(1<=r.freq/\r.freq<=7)/\(1<=r.itv/\r.itv<=1000):=by
 have f:=(mayR_of h).1
 unfold scalB at f
 have f:=of_decide_eq_true f
 omega
theorem inPer_no {r:Ru} {start t:Int} (h:(perR r start t).2=false):inPer r start t=false:=by
 unfold perR at h
 split at h
 ·simp at h
 ·rename_i c
  unfold inPer;rw[Bool.eq_false_iff];intro g;simp only[Bool.and_eq_true] at g;exact c (by rw[g.1.1.1,g.1.1.2,g.1.2];rfl)
theorem inPer_yes {r:Ru} {start t a:Int} (h:perR r start t=(a,true)):inPer r start t=decide (a % r.itv=0)/\mayR r=true/\-2000000000000<=a/\a<=2000000000000:=by
 unfold perR at h
 split at h
 ·rename_i c
  simp only[Bool.and_eq_true] at c;obtain⟨⟨c1,c2⟩,c3⟩:=c;have e:=(Prod.mk.inj h).1;have p:=per_bd c1 c2;have q:=per_bd c1 c3;refine⟨?_,c1,by omega,by omega⟩;unfold inPer;rw[c1,c2,c3,e];rfl
 ·have:=(Prod.mk.inj h).2;cases this
theorem tmod_zero (a b:Int):((a.tmod b:Int)==0)=decide (a % b=0):=by
 rw[Bool.eq_iff_iff,beq_iff_eq,decide_eq_true_eq]
 constructor
 ·intro h;exact Int.emod_eq_zero_of_dvd (Int.dvd_of_tmod_eq_zero h)
 ·intro h;exact Int.tmod_eq_zero_of_dvd (Int.dvd_of_emod_eq_zero h)
theorem inPer_is (w:World) (S:RS) (r:Ru) (start t:Int) (x:Bool) (h:RuAt w S r) (hx:inPer r start t=x):
  Calls Tryz.prog 247 #[S.val r,.int .i64 start,.int .i64 t] w fun e w'=>e= .returned (.bool x)/\Below w.heap.size w w':=by
 have RA:=hid h
 obtain⟨⟨a,b⟩,hab⟩:∃p,perR r start t=p:=⟨_,rfl⟩
 have HAB:=hid hab
 have F0:=hid (fun (e:b=false)=>show false=x from (inPer_no (by rw[hab];exact e)).symm.trans hx)
 have F1:=hid (fun (e:b=true)=>show decide (a % r.itv=0)=x/\(1<=r.itv/\r.itv<=1000)/\-2000000000000<=a/\a<=2000000000000 by
  subst e;obtain⟨p,m,q⟩:=inPer_yes hab
  exact⟨p.symm.trans hx,(scal_of m).2,q⟩)
 clear h hx hab
 obtain⟨ra6,rn6,rc6,ra7,rn7,rc7,ra8,rn8,rc8,ra9,rn9,rc9,ra10,rn10,rc10,ra11,rn11,rc11,ra12,rn12,rc12,ra13,rn13,rc13,ra14,rn14,rc14⟩:=S
 obtain⟨rfreq,ritv,rcnt,rtil,rwkst,rends,rmon,rweek,ryday,rmday,rday,rhour,rminu,rsec,rpos⟩:=r
 show Calls Tryz.prog 247 #[.agg #[.int .i64 rfreq,.int .i64 ritv,.int .i64 rcnt,.int .i64 rtil,.int .i64 rwkst,.bool rends,.slice ra6 rn6 rc6,.slice ra7 rn7 rc7,.slice ra8 rn8 rc8,.slice ra9 rn9 rc9,.slice ra10 rn10 rc10,.slice ra11 rn11 rc11,.slice ra12 rn12 rc12,.slice ra13 rn13 rc13,.slice ra14 rn14 rc14],.int .i64 start,.int .i64 t] w _
 go_enter Tryz.func247,Tryz.ntmps247
 go_upto_region 1 with fail
 obtain⟨B0,Xr0⟩:=box_new w #[.int .i64 rfreq,.int .i64 ritv,.int .i64 rcnt,.int .i64 rtil,.int .i64 rwkst,.bool rends,.slice ra6 rn6 rc6,.slice ra7 rn7 rc7,.slice ra8 rn8 rc8,.slice ra9 rn9 rc9,.slice ra10 rn10 rc10,.slice ra11 rn11 rc11,.slice ra12 rn12 rc12,.slice ra13 rn13 rc13,.slice ra14 rn14 rc14] 25
 generalize w.alloc _=w0 at *
 obtain⟨rz0,rz1,rz2,rz3,rz4,rz5,rz6,rz7,rz8,rz9,rz10,rz11,rz12,rz13,rz14⟩:=cells15 Xr0
 go_wp2_with fail
 refine(periodP_is _ ⟨ra6,rn6,rc6,ra7,rn7,rc7,ra8,rn8,rc8,ra9,rn9,rc9,ra10,rn10,rc10,ra11,rn11,rc11,ra12,rn12,rc12,ra13,rn13,rc13,ra14,rn14,rc14⟩ ⟨rfreq,ritv,rcnt,rtil,rwkst,rends,rmon,rweek,ryday,rmday,rday,rhour,rminu,rsec,rpos⟩ start t a b (RA.out.below B0) HAB.out).mono ?_
 rintro e w1 ⟨rfl,b1⟩
 clear rz0 rz1 rz2 rz3 rz4 rz5 rz6 rz7 rz8 rz9 rz10 rz11 rz12 rz13 rz14
 have B1:=B0.trans (b1.mono B0.size)
 have Xr1:=Xr0.below b1
 clear B0 Xr0
 clear b1
 cases b
 ·have E:=hid (F0.out rfl)
  clear F0 F1;go_wp2;go_ret;exact⟨ret_bool E.out,B1⟩
 ·obtain⟨e1,i1,a1,a2⟩:=F1.out rfl
  obtain⟨i1,i2⟩:=show 1<=ritv/\ritv<=1000 from i1
  have E:=hid (show ((a.tmod ritv:Int)==0)=x by rw[tmod_zero];exact e1);have n0:((ritv:Int)==0)=false:=by rw[beq_eq_false_iff_ne];omega
  have n1:¬ritv=0:=by omega
  clear F0 F1 e1;obtain⟨rz0,rz1,rz2,rz3,rz4,rz5,rz6,rz7,rz8,rz9,rz10,rz11,rz12,rz13,rz14⟩:=cells15 Xr1;go_wp2;go_ret;exact⟨ret_bool E.out,B1⟩
end Go.Proofs.YtddnnljfgfcplaaGreatDoor.Mb
namespace Go.Proofs.YtddnnljfgfcplaaGreatDoor.Mb
open Lib (hid)
open Go.RowKit Cv St Ru Dd
theorem take_iat {l:List Int} {t:Nat} (h:t<l.length):l.take (t+1)=l.take t++[iat l t]:=by
 rw[iat_lt h,List.take_succ_eq_append_getElem h]
def secL (h m:Int) (S:List Int):List Int:=S.map fun s=>h*3600+m*60+s
def minL (h:Int) (M S:List Int):List Int:=M.flatMap fun m=>secL h m S
theorem time_min (H M S:List Int):timeL H M S=H.flatMap fun h=>minL h M S:=rfl
theorem sec_take {h m:Int} {S:List Int} {k:Nat} (hk:k<S.length):secL h m (S.take (k+1))=secL h m (S.take k)++[h*3600+m*60+iat S k]:=by
 unfold secL;rw[take_iat hk,List.map_append];rfl
theorem min_take {h:Int} {M S:List Int} {u:Nat} (hu:u<M.length):minL h (M.take (u+1)) S=minL h (M.take u) S++secL h (iat M u) S:=by
 unfold minL;rw[take_iat hu,List.flatMap_append];simp
theorem time_take {H M S:List Int} {t:Nat} (ht:t<H.length):timeL (H.take (t+1)) M S=timeL (H.take t) M S++minL (iat H t) M S:=by
 rw[time_min,time_min,take_iat ht,List.flatMap_append];simp
theorem sec_len (h m:Int) (S:List Int):(secL h m S).length=S.length:=by simp[secL]
theorem min_len (h:Int) (M S:List Int):(minL h M S).length=M.length*S.length:=flat_len fun x _=>sec_len h x S
theorem take_le {l:List Int} {n k:Nat} (h:l.length<=n):(l.take k).length<=n:=by rw[List.length_take];omega
theorem room3 {H M S:List Int} {t u k:Nat} {h m:Int} (a:H.length<=60) (b:M.length<=60) (c:S.length<=60):(timeL (H.take t) M S++minL h (M.take u) S++secL h m (S.take k)).length<=1000000:=by
 rw[List.length_append,List.length_append,time_len,min_len,sec_len]
 have x:=Nat.mul_le_mul (take_le (k:=t) a) (Nat.mul_le_mul b c)
 have y:=Nat.mul_le_mul (take_le (k:=u) b) c
 have z:=take_le (k:=k) c
 omega
theorem timesOf_is (w:World) (S:RS) (r:Ru) (start t:Int) (m:List Int) (h:RuAt w S r) (hm:mayR r=true) (hs:St.may start=true) (ht:St.may t=true) (hx:tmsR r start t=m):
  Calls Tryz.prog 249 #[S.val r,.int .i64 start,.int .i64 t] w (ListIs w m):=by
 have RA:=hid h
 have E11:=h.h11.1
 have E12:=h.h12.1
 have E13:=h.h13.1
 obtain⟨H,hH⟩:∃l,timH r start=l:=⟨_,rfl⟩
 obtain⟨M,hM⟩:∃l,timM r start=l:=⟨_,rfl⟩
 obtain⟨C,hC⟩:∃l,timS r start=l:=⟨_,rfl⟩
 obtain⟨H2,h2⟩:∃l,setH r start t=l:=⟨_,rfl⟩
 obtain⟨M2,m2⟩:∃l,setM r start t=l:=⟨_,rfl⟩
 obtain⟨C2,c2⟩:∃l,setS r start t=l:=⟨_,rfl⟩
 have TH:=setH_ok start t hm
 have TM:=setM_ok start t hm
 have TS:=setS_ok start t hm
 rw[h2] at TH
 rw[m2] at TM
 rw[c2] at TS
 have XT:=hid (show timeL H2 M2 C2=m by rw[<-hx,<-h2,<-m2,<-c2];rfl)
 have G5:=hid (show (5<=r.freq->only H (ownH t)=H2)/\(r.freq<5->H=H2) from ⟨fun q=>by rw[<-h2,<-hH];unfold setH;rw[if_pos q],fun q=>by rw[<-h2,<-hH];unfold setH;rw[if_neg (by omega)]⟩)
 have G6:=hid (show (6<=r.freq->only M (ownM t)=M2)/\(r.freq<6->M=M2) from ⟨fun q=>by rw[<-m2,<-hM];unfold setM;rw[if_pos q],fun q=>by rw[<-m2,<-hM];unfold setM;rw[if_neg (by omega)]⟩)
 have G7:=hid (show (7<=r.freq->only C (ownS t)=C2)/\(r.freq<7->C=C2) from ⟨fun q=>by rw[<-c2,<-hC];unfold setS;rw[if_pos q],fun q=>by rw[<-c2,<-hC];unfold setS;rw[if_neg (by omega)]⟩)
 have tt:=of_decide_eq_true ht
 have tl:-9223372036854775808<=t:=by omega
 have th:t<=9223372036854775807:=by omega
 obtain⟨u11,u12,u13⟩:=lens_of (mayR_of hm).2.2.1
 have q11:S.n11<=1000000:=by omega
 have q12:S.n12<=1000000:=by omega
 have q13:S.n13<=1000000:=by omega
 have L1:H.length<=60:=by rw[<-hH];exact(timH_ok start hm).len
 have L2:M.length<=60:=by rw[<-hM];exact(timM_ok start hm).len
 have L3:C.length<=60:=by rw[<-hC];exact(timS_ok start hm).len
 have M1:=hid hm
 have M2':=hid hs
 have HH:=hid hH
 have HM:=hid hM
 have HC:=hid hC
 have TH:=hid TH
 have TM:=hid TM
 have TS:=hid TS
 clear h hx hm hs ht hH hM hC h2 m2 c2 tt E11 E12 E13 u11 u12 u13
 obtain⟨ra6,rn6,rc6,ra7,rn7,rc7,ra8,rn8,rc8,ra9,rn9,rc9,ra10,rn10,rc10,ra11,rn11,rc11,ra12,rn12,rc12,ra13,rn13,rc13,ra14,rn14,rc14⟩:=S
 obtain⟨rfreq,ritv,rcnt,rtil,rwkst,rends,rmon,rweek,ryday,rmday,rday,rhour,rminu,rsec,rpos⟩:=r
 replace q11:rn11<=1000000:=q11
 replace q12:rn12<=1000000:=q12
 replace q13:rn13<=1000000:=q13
 show Calls Tryz.prog 249 #[.agg #[.int .i64 rfreq,.int .i64 ritv,.int .i64 rcnt,.int .i64 rtil,.int .i64 rwkst,.bool rends,.slice ra6 rn6 rc6,.slice ra7 rn7 rc7,.slice ra8 rn8 rc8,.slice ra9 rn9 rc9,.slice ra10 rn10 rc10,.slice ra11 rn11 rc11,.slice ra12 rn12 rc12,.slice ra13 rn13 rc13,.slice ra14 rn14 rc14],.int .i64 start,.int .i64 t] w _
 go_enter Tryz.func249,Tryz.ntmps249
 go_upto_region 1 with fail
 obtain⟨B0,Xr0⟩:=box_new w #[.int .i64 rfreq,.int .i64 ritv,.int .i64 rcnt,.int .i64 rtil,.int .i64 rwkst,.bool rends,.slice ra6 rn6 rc6,.slice ra7 rn7 rc7,.slice ra8 rn8 rc8,.slice ra9 rn9 rc9,.slice ra10 rn10 rc10,.slice ra11 rn11 rc11,.slice ra12 rn12 rc12,.slice ra13 rn13 rc13,.slice ra14 rn14 rc14] 25
 generalize w.alloc _=w0 at *
 go_wp2_with fail
 refine(day_any t _ tl th).mono ?_
 rintro e w' ⟨rfl,rfl⟩
 obtain⟨rz0,rz1,rz2,rz3,rz4,rz5,rz6,rz7,rz8,rz9,rz10,rz11,rz12,rz13,rz14⟩:=cells15 Xr0
 go_wp2_with fail
 refine(timesR_yes _ ⟨ra6,rn6,rc6,ra7,rn7,rc7,ra8,rn8,rc8,ra9,rn9,rc9,ra10,rn10,rc10,ra11,rn11,rc11,ra12,rn12,rc12,ra13,rn13,rc13,ra14,rn14,rc14⟩ ⟨rfreq,ritv,rcnt,rtil,rwkst,rends,rmon,rweek,ryday,rmday,rday,rhour,rminu,rsec,rpos⟩ start (RA.out.below B0) M1.out M2'.out q11 q12 q13).mono ?_
 rintro e w1 ⟨A1,p1,A2,p2,A3,p3,he,a1,a2,a3,b1⟩
 rw[HH.out,HM.out,HC.out] at he
 rw[HH.out] at a1
 rw[HM.out] at a2
 rw[HC.out] at a3
 subst he
 clear rz0 rz1 rz2 rz3 rz4 rz5 rz6 rz7 rz8 rz9 rz10 rz11 rz12 rz13 rz14
 have B1:=B0.trans (b1.mono B0.size)
 have Xr1:=Xr0.below b1
 clear B0 Xr0
 clear b1
 have K1:=hid a1
 have K2:=hid a2
 have K3:=hid a3
 clear a1 a2 a3
 clear q11 q12 q13
 obtain⟨s,hs⟩:∃s,t % 86400=s:=⟨_,rfl⟩
 have s0:0<=s:=by omega
 have s1:s<86400:=by omega
 have G5:=hid (show (5<=rfreq->only H (s / 3600)=H2)/\(rfreq<5->H=H2) by rw[<-hs];exact G5.out)
 have G6:=hid (show (6<=rfreq->only M (s % 3600 / 60)=M2)/\(rfreq<6->M=M2) by rw[<-hs];exact G6.out)
 have G7:=hid (show (7<=rfreq->only C (s % 60)=C2)/\(rfreq<7->C=C2) by rw[<-hs];exact G7.out)
 rw[hs]
 clear hs tl th
 have z0:w1.cell? ⟨w.heap.size,0,none⟩=some (.int .i64 rfreq):=Xr1.at_ 0 _ rfl
 go_upto_if 33 with fail
 go_cut [9] (fun v wx=>(∃A c,v= .slice A H2.length c/\IsAt wx A H2.length H2)/\Below w1.heap.size w1 wx)
 case first=>
  by_cases hc:5<=rfreq
  ·have O:=hid (G5.out.1 hc)
   have t0:decide ((5:Int)<=rfreq)=true:=decide_eq_true hc
   have t9:¬rfreq<5:=by omega
   go_wp2_with fail;refine(only_is _ A1 H.length p1 H (s / 3600) K1.out (by omega) H2 O.out).mono ?_;rintro e x1 ⟨A,c,rfl,ia,y1⟩;go_wp2
   go_meet
   exact⟨⟨A,c,rfl,ia⟩,y1⟩
  ·have t9:rfreq<5:=by omega
   have O:=hid (G5.out.2 t9);have t0:decide ((5:Int)<=rfreq)=false:=decide_eq_false hc
   go_wp2
   go_meet
   exact⟨⟨A1,p1,by rw[<-O.out],by have:=K1.out;rw[<-O.out];exact this⟩,Below.refl _ _⟩
 case rest=>
  obtain⟨⟨D1,d1,rfl,i1⟩,b2⟩:=hcut;generalize wc=w2 at *;have B2:=B1.trans (b2.mono B1.size);have Xr2:=Xr1.below b2;clear B1 Xr1;have K1:=hid (K1.out.below b2);have K2:=hid (K2.out.below b2);have K3:=hid (K3.out.below b2);clear b2;have K1:=hid i1;clear i1 z0;have z0:w2.cell? ⟨w.heap.size,0,none⟩=some (.int .i64 rfreq):=Xr2.at_ 0 _ rfl
  go_upto_if 40 with fail
  go_cut [10] (fun v wx=>(∃A c,v= .slice A M2.length c/\IsAt wx A M2.length M2)/\Below w2.heap.size w2 wx)
  case first=>
   by_cases hc:6<=rfreq
   ·have O:=hid (G6.out.1 hc)
    have t0:decide ((6:Int)<=rfreq)=true:=decide_eq_true hc
    have t9:¬rfreq<6:=by omega
    go_wp2_with fail;refine(only_is _ A2 M.length p2 M (s % 3600 / 60) K2.out (by omega) M2 O.out).mono ?_;rintro e x1 ⟨A,c,rfl,ia,y1⟩;go_wp2
    go_meet
    exact⟨⟨A,c,rfl,ia⟩,y1⟩
   ·have t9:rfreq<6:=by omega
    have O:=hid (G6.out.2 t9);have t0:decide ((6:Int)<=rfreq)=false:=decide_eq_false hc
    go_wp2
    go_meet
    exact⟨⟨A2,p2,by rw[<-O.out],by have:=K2.out;rw[<-O.out];exact this⟩,Below.refl _ _⟩
  case rest=>
   obtain⟨⟨D2,d2,rfl,i2⟩,b3⟩:=hcut;generalize wc=w3 at *;have B3:=B2.trans (b3.mono B2.size);have Xr3:=Xr2.below b3;clear B2 Xr2;have K1:=hid (K1.out.below b3);have K2:=hid (K2.out.below b3);have K3:=hid (K3.out.below b3);clear b3;have K2:=hid i2;clear i2 z0;have z0:w3.cell? ⟨w.heap.size,0,none⟩=some (.int .i64 rfreq):=Xr3.at_ 0 _ rfl
   go_upto_if 48 with fail
   go_cut [11] (fun v wx=>(∃A c,v= .slice A C2.length c/\IsAt wx A C2.length C2)/\Below w3.heap.size w3 wx)
   case first=>
    by_cases hc:7<=rfreq
    ·have O:=hid (G7.out.1 hc)
     have t0:decide ((7:Int)<=rfreq)=true:=decide_eq_true hc
     have t9:¬rfreq<7:=by omega
     go_wp2_with fail;refine(only_is _ A3 C.length p3 C (s % 60) K3.out (by omega) C2 O.out).mono ?_;rintro e x1 ⟨A,c,rfl,ia,y1⟩;go_wp2
     go_meet
     exact⟨⟨A,c,rfl,ia⟩,y1⟩
    ·have t9:rfreq<7:=by omega
     have O:=hid (G7.out.2 t9);have t0:decide ((7:Int)<=rfreq)=false:=decide_eq_false hc
     go_wp2
     go_meet
     exact⟨⟨A3,p3,by rw[<-O.out],by have:=K3.out;rw[<-O.out];exact this⟩,Below.refl _ _⟩
   case rest=>
    obtain⟨⟨D3,d3,rfl,i3⟩,b4⟩:=hcut;generalize wc=w4 at *;have B4:=B3.trans (b4.mono B3.size);have Xr4:=Xr3.below b4;clear B3 Xr3;have K1:=hid (K1.out.below b4);have K2:=hid (K2.out.below b4);have K3:=hid (K3.out.below b4);clear b4;have K3:=hid i3;clear i3 z0;clear Xr4 L1 L2 L3 G5 G6 G7 s0 s1;have l1:H2.length<=60:=TH.out.len
    obtain⟨m1,hm1⟩:∃m,H2.length=m:=⟨_,rfl⟩;have LN1:=hid hm1;rw[hm1] at l1 K1 ⊢;clear hm1;have l2:M2.length<=60:=TM.out.len
    obtain⟨m2,hm2⟩:∃m,M2.length=m:=⟨_,rfl⟩;have LN2:=hid hm2;rw[hm2] at l2 K2 ⊢;clear hm2;have l3:C2.length<=60:=TS.out.len
    obtain⟨m3,hm3⟩:∃m,C2.length=m:=⟨_,rfl⟩;have LN3:=hid hm3;rw[hm3] at l3 K3 ⊢;clear hm3;go_wp2
    go_loopw [12,55] (fun ov i wr=>∃(v:Value) (t1:Nat) (acc:List Int),t1<=m1/\v=ov/\i= .int .i64 t1/\OwnI w4 wr v acc/\Hid (timeL (H2.take t1) M2 C2=acc)/\Below w4.heap.size w4 wr) (fun _ i _=>m1-(intOf i).toNat)
    case atStart=>exact⟨_,0,[],Nat.zero_le _,rfl,rfl,OwnI.nil _ _,hid rfl,Below.refl _ _⟩
    case round=>
     obtain⟨wo,rfl⟩:∃wo:World,wo=wr:=⟨_,rfl⟩;obtain⟨v0,t1,acc1,ht1,rfl,rfl,ov1,D1,hB1⟩:=hrel
     by_cases hlt1:t1<m1
     ·obtain⟨bl1,of1,ea1,hl1,hc1⟩:=K1.out.2 (show 0<m1 by omega)
      subst ea1;have c1:=(hB1.cell (p:=⟨bl1,_,none⟩) hl1).trans (hc1 t1 hlt1);have e1:=TH.out.bd (iat H2 t1) (by rw[iat_lt (by rw[LN1.out];exact hlt1)];exact List.getElem_mem _);clear hc1;have N1:=hid (time_take (H:=H2) (M:=M2) (S:=C2) (t:=t1) (by rw[LN1.out];exact hlt1));generalize iat H2 t1=g1 at *;go_wp2
      go_loopw [12,61] (fun ov i wr=>∃(v:Value) (t2:Nat) (acc:List Int),t2<=m2/\v=ov/\i= .int .i64 t2/\OwnI w4 wr v acc/\Hid (acc1++minL g1 (M2.take t2) C2=acc)/\Below w4.heap.size w4 wr) (fun _ i _=>m2-(intOf i).toNat)
      case atStart=>exact⟨_,0,acc1,Nat.zero_le _,rfl,rfl,ov1,hid (by simp[minL]),hB1⟩
      case round=>
       obtain⟨wp,rfl⟩:∃wp:World,wp=wr:=⟨_,rfl⟩;obtain⟨v1,t2,acc2,ht2,rfl,rfl,ov2,D2,hB2⟩:=hrel
       by_cases hlt2:t2<m2
       ·obtain⟨bl2,of2,ea2,hl2,hc2⟩:=K2.out.2 (show 0<m2 by omega)
        subst ea2;have c2:=(hB2.cell (p:=⟨bl2,_,none⟩) hl2).trans (hc2 t2 hlt2);have e2:=TM.out.bd (iat M2 t2) (by rw[iat_lt (by rw[LN2.out];exact hlt2)];exact List.getElem_mem _);clear hc2;have N2:=hid (min_take (h:=g1) (M:=M2) (S:=C2) (u:=t2) (by rw[LN2.out];exact hlt2));generalize iat M2 t2=g2 at *;go_wp2
        go_loopw [12,67] (fun ov i wr=>∃(v:Value) (t3:Nat) (acc:List Int),t3<=m3/\v=ov/\i= .int .i64 t3/\OwnI w4 wr v acc/\Hid (acc2++secL g1 g2 (C2.take t3)=acc)/\Below w4.heap.size w4 wr) (fun _ i _=>m3-(intOf i).toNat)
        case atStart=>exact⟨_,0,acc2,Nat.zero_le _,rfl,rfl,ov2,hid (by simp[secL]),hB2⟩
        case round=>
         obtain⟨v2,t3,acc3,ht3,rfl,rfl,ov3,D3,hB3⟩:=hrel
         by_cases hlt3:t3<m3
         ·obtain⟨bl3,of3,ea3,hl3,hc3⟩:=K3.out.2 (show 0<m3 by omega)
          subst ea3;have c3:=(hB3.cell (p:=⟨bl3,_,none⟩) hl3).trans (hc3 t3 hlt3);have e3:=TS.out.bd (iat C2 t3) (by rw[iat_lt (by rw[LN3.out];exact hlt3)];exact List.getElem_mem _);clear hc3;have N3:=hid (sec_take (h:=g1) (m:=g2) (S:=C2) (k:=t3) (by rw[LN3.out];exact hlt3));have R:=room3 (H:=H2) (M:=M2) (S:=C2) (t:=t1) (u:=t2) (k:=t3) (h:=g1) (m:=g2) (by rw[LN1.out];exact l1) (by rw[LN2.out];exact l2) (by rw[LN3.out];exact l3);rw[D1.out,D2.out,D3.out] at R;generalize iat C2 t3=g3 at *;have OV:=hid ov3;clear ov1 ov2 ov3
          go_wp2_with (at_builtin;refine append_num rfl _ _ rfl _ acc3 rfl OV.out hB3 _ _ _ rfl R ?_)
          intro v4 w4 ow4 hb4;have OW:=hid ow4;clear ow4;go_wp2
          go_roundw
          case rel=>exact⟨v4,t3+1,_,by omega,rfl,by go_num,OW.out,hid (by rw[N3.out,<-List.append_assoc,D3.out]),hb4⟩
          case measure=>simp[intOf];omega
         ·obtain rfl:m3=t3:=by omega
          have E3:=hid (show acc2++secL g1 g2 C2=acc3 by rw[<-D3.out,List.take_of_length_le (by rw[LN3.out];exact Nat.le_refl _)]);have OV:=hid ov3;clear ov1 ov2 ov3;go_wp2
          go_roundw
          case rel=>exact⟨v2,t2+1,acc3,by omega,rfl,by go_num,OV.out,hid (by rw[N2.out,<-List.append_assoc,D2.out,E3.out]),hB3⟩
          case measure=>simp[intOf];omega
       ·obtain rfl:m2=t2:=by omega
        have E2:=hid (show acc1++minL g1 M2 C2=acc2 by rw[<-D2.out,List.take_of_length_le (by rw[LN2.out];exact Nat.le_refl _)]);have OV:=hid ov2;clear ov1 ov2;go_wp2
        go_roundw
        case rel=>exact⟨v1,t1+1,acc2,by omega,rfl,by go_num,OV.out,hid (by rw[N1.out,D1.out,E2.out]),hB2⟩
        case measure=>simp[intOf];omega
     ·obtain rfl:m1=t1:=by omega
      have E1:=hid (show m=acc1 by rw[<-XT.out,<-D1.out,List.take_of_length_le (by rw[LN1.out];exact Nat.le_refl _)]);have OV:=hid ov1;clear ov1;go_wp2;go_ret;obtain⟨A,c,rfl,ia,-,-⟩:=OV.out.at_;have e:=E1.out;subst e;exact⟨A,c,rfl,ia,B4.trans (hB1.mono B4.size)⟩
end Go.Proofs.YtddnnljfgfcplaaGreatDoor.Mb
namespace Go.Proofs.YtddnnljfgfcplaaGreatDoor.Mb
open Lib (hid)
open Go.RowKit Cv St Ru Dd
def fitL (r:Ru) (start a:Int) (k:Nat):List Int:=(span a k).filter fun n=>fitsB r start n
theorem fitL_yes {r:Ru} {start a:Int} {k:Nat} (h:fitsB r start (a+k)=true):fitL r start a (k+1)=fitL r start a k++[a+k]:=by
 unfold fitL;rw[span_succ,List.filter_append];simp[h]
theorem fitL_no {r:Ru} {start a:Int} {k:Nat} (h:fitsB r start (a+k)=false):fitL r start a (k+1)=fitL r start a k:=by
 unfold fitL;rw[span_succ,List.filter_append];simp[h]
theorem fitL_len (r:Ru) (start a:Int) (k:Nat):(fitL r start a k).length<=k:=Nat.le_trans (List.length_filter_le _ _) (by rw[span_len];exact Nat.le_refl _)
theorem days_bd (r:Ru) (t:Int):-800000<=(daysR r t).1/\(daysR r t).2<=3000000:=by
 unfold daysR
 split
 ·simp only;omega
 ·simp
theorem daysOf_is (w:World) (S:RS) (r:Ru) (start t:Int) (m:List Int) (h:RuAt w S r) (hx:dysR r start t=m):
  Calls Tryz.prog 248 #[S.val r,.int .i64 start,.int .i64 t] w (ListIs w m):=by
 have RA:=hid h
 have FW:=days_few (r:=r) (t:=t)
 have BDS:=days_bd r t
 obtain⟨⟨a,b⟩,hab⟩:∃p,daysR r t=p:=⟨_,rfl⟩
 obtain⟨k,hk⟩:∃k,(b-a+1).toNat=k:=⟨_,rfl⟩
 have XT:=hid (show fitL r start a k=m by rw[<-hx,<-hk];unfold dysR;rw[hab];rfl)
 rw[hab] at FW BDS
 replace FW:k<=401:=by rw[<-hk];exact FW
 obtain⟨a0,b0⟩:=show -800000<=a/\b<=3000000 from BDS
 have HAB:=hid hab
 have kk:a+(k:Int)<=b+1\/k=0:=by omega
 have kb:∀i:Nat,i<k->a+(i:Int)<=b:=fun i hi=>by omega
 have kc:¬a+(k:Int)<=b:=by omega
 have KB:=hid kb
 have KC:=hid kc
 have KK:=hid kk
 clear h hx hab hk BDS kb kc kk
 obtain⟨ra6,rn6,rc6,ra7,rn7,rc7,ra8,rn8,rc8,ra9,rn9,rc9,ra10,rn10,rc10,ra11,rn11,rc11,ra12,rn12,rc12,ra13,rn13,rc13,ra14,rn14,rc14⟩:=S
 obtain⟨rfreq,ritv,rcnt,rtil,rwkst,rends,rmon,rweek,ryday,rmday,rday,rhour,rminu,rsec,rpos⟩:=r
 show Calls Tryz.prog 248 #[.agg #[.int .i64 rfreq,.int .i64 ritv,.int .i64 rcnt,.int .i64 rtil,.int .i64 rwkst,.bool rends,.slice ra6 rn6 rc6,.slice ra7 rn7 rc7,.slice ra8 rn8 rc8,.slice ra9 rn9 rc9,.slice ra10 rn10 rc10,.slice ra11 rn11 rc11,.slice ra12 rn12 rc12,.slice ra13 rn13 rc13,.slice ra14 rn14 rc14],.int .i64 start,.int .i64 t] w _
 go_enter Tryz.func248,Tryz.ntmps248
 go_upto_region 1 with fail
 obtain⟨B0,Xr0⟩:=box_new w #[.int .i64 rfreq,.int .i64 ritv,.int .i64 rcnt,.int .i64 rtil,.int .i64 rwkst,.bool rends,.slice ra6 rn6 rc6,.slice ra7 rn7 rc7,.slice ra8 rn8 rc8,.slice ra9 rn9 rc9,.slice ra10 rn10 rc10,.slice ra11 rn11 rc11,.slice ra12 rn12 rc12,.slice ra13 rn13 rc13,.slice ra14 rn14 rc14] 25
 generalize w.alloc _=w0 at *
 obtain⟨rz0,rz1,rz2,rz3,rz4,rz5,rz6,rz7,rz8,rz9,rz10,rz11,rz12,rz13,rz14⟩:=cells15 Xr0
 go_upto_region 2 with fail
 clear rz0 rz1 rz2 rz3 rz4 rz5 rz6 rz7 rz8 rz9 rz10 rz11 rz12 rz13 rz14
 obtain⟨rz0,rz1,rz2,rz3,rz4,rz5,rz6,rz7,rz8,rz9,rz10,rz11,rz12,rz13,rz14⟩:=cells15 Xr0
 go_wp2_with fail
 refine(daysP_is _ ⟨ra6,rn6,rc6,ra7,rn7,rc7,ra8,rn8,rc8,ra9,rn9,rc9,ra10,rn10,rc10,ra11,rn11,rc11,ra12,rn12,rc12,ra13,rn13,rc13,ra14,rn14,rc14⟩ ⟨rfreq,ritv,rcnt,rtil,rwkst,rends,rmon,rweek,ryday,rmday,rday,rhour,rminu,rsec,rpos⟩ t a b (RA.out.below B0) HAB.out).mono ?_
 rintro e w1 ⟨rfl,b1⟩
 clear rz0 rz1 rz2 rz3 rz4 rz5 rz6 rz7 rz8 rz9 rz10 rz11 rz12 rz13 rz14
 have B1:=B0.trans (b1.mono B0.size)
 have Xr1:=Xr0.below b1
 clear B0 Xr0
 clear b1
 go_wp2
 go_loopw [7,10] (fun ov i wr=>∃(v:Value) (t1:Nat) (acc:List Int),t1<=k/\v=ov/\i= .int .i64 (a+t1)/\OwnI w1 wr v acc/\Hid (fitL ⟨rfreq,ritv,rcnt,rtil,rwkst,rends,rmon,rweek,ryday,rmday,rday,rhour,rminu,rsec,rpos⟩ start a t1=acc)/\Below w1.heap.size w1 wr) (fun _ i _=>k-(intOf i-a).toNat)
 case atStart=>exact⟨_,0,[],Nat.zero_le _,rfl,by simp,OwnI.nil _ _,hid rfl,Below.refl _ _⟩
 case round=>
  obtain⟨v0,t1,acc1,ht1,rfl,rfl,ov1,D1,hB1⟩:=hrel;have OV:=hid ov1;clear ov1
  by_cases hlt1:t1<k
  ·have c1:a+(t1:Int)<=b:=KB.out t1 hlt1
   have t0:decide (a+(t1:Int)<=b)=true:=decide_eq_true c1
   have SZ:acc1.length<=1000000:=by rw[<-D1.out];have:=fitL_len ⟨rfreq,ritv,rcnt,rtil,rwkst,rends,rmon,rweek,ryday,rmday,rday,rhour,rminu,rsec,rpos⟩ start a t1;omega
   obtain⟨f,hf⟩:∃f,fitsB ⟨rfreq,ritv,rcnt,rtil,rwkst,rends,rmon,rweek,ryday,rmday,rday,rhour,rminu,rsec,rpos⟩ start (a+t1)=f:=⟨_,rfl⟩;have HF:=hid hf;have FY:=hid (fun (e:f=true)=>show fitL ⟨rfreq,ritv,rcnt,rtil,rwkst,rends,rmon,rweek,ryday,rmday,rday,rhour,rminu,rsec,rpos⟩ start a (t1+1)=acc1++[a+t1] by rw[fitL_yes (by rw[hf];exact e),D1.out]);have FN:=hid (fun (e:f=false)=>show fitL ⟨rfreq,ritv,rcnt,rtil,rwkst,rends,rmon,rweek,ryday,rmday,rday,rhour,rminu,rsec,rpos⟩ start a (t1+1)=acc1 by rw[fitL_no (by rw[hf];exact e),D1.out]);clear hf;have IW:IntKind.i64.wrap (a+(t1:Int)+1)=a+(t1:Int)+1:=IntWalk.i64_in _ (by omega)
   have IE:a+(t1:Int)+1=a+((t1+1:Nat):Int):=by omega
   have XRr:=Xr1.below hB1;have BR:=B1.trans (hB1.mono B1.size);obtain⟨rz0,rz1,rz2,rz3,rz4,rz5,rz6,rz7,rz8,rz9,rz10,rz11,rz12,rz13,rz14⟩:=cells15 XRr;obtain⟨g,hg⟩:∃g,a+(t1:Int)=g:=⟨_,rfl⟩;rw[hg] at c1 t0 IW IE HF FY ⊢;have HG:=hid hg;clear hg;go_wp2_with fail;refine(fits_is _ ⟨ra6,rn6,rc6,ra7,rn7,rc7,ra8,rn8,rc8,ra9,rn9,rc9,ra10,rn10,rc10,ra11,rn11,rc11,ra12,rn12,rc12,ra13,rn13,rc13,ra14,rn14,rc14⟩ ⟨rfreq,ritv,rcnt,rtil,rwkst,rends,rmon,rweek,ryday,rmday,rday,rhour,rminu,rsec,rpos⟩ start g f (RA.out.below BR) HF.out).mono ?_;rintro e w5 ⟨rfl,b5⟩;clear rz0 rz1 rz2 rz3 rz4 rz5 rz6 rz7 rz8 rz9 rz10 rz11 rz12 rz13 rz14;have hB5:=hB1.trans (b5.mono hB1.size);cases f
   ·have OV5:=hid (OV.out.on b5)
    have F2:=FN.out rfl;have F3:=hid F2;clear FN FY F2;go_wp2
    go_roundw
    case rel=>exact⟨v0,t1+1,acc1,by omega,rfl,by have:=HG.out;first|(congr 1<;>omega)|(simp;omega),OV5.out,F3,hB5⟩
    case measure=>simp[intOf];omega
   ·have F2:=FY.out rfl
    have F3:=hid F2;clear FN FY F2
    go_wp2_with (at_builtin;refine append_num rfl _ _ rfl _ acc1 rfl (OV.out.on b5) hB5 _ _ _ rfl SZ ?_)
    intro v4 w4 ow4 hb4;have OW:=hid ow4;clear ow4;go_wp2
    go_roundw
    case rel=>exact⟨v4,t1+1,_,by omega,rfl,by have:=HG.out;first|(congr 1<;>omega)|(simp;omega),OW.out,F3,hb4⟩
    case measure=>simp[intOf];omega
  ·obtain rfl:k=t1:=by omega
   have t0:decide (a+(k:Int)<=b)=false:=decide_eq_false (by have:=KC.out;omega)
   have E1:=hid (show m=acc1 by rw[<-XT.out,<-D1.out]);go_wp2;go_ret;obtain⟨A,c,rfl,ia,-,-⟩:=OV.out.at_;have e:=E1.out;subst e;exact⟨A,c,rfl,ia,B1.trans (hB1.mono B1.size)⟩
end Go.Proofs.YtddnnljfgfcplaaGreatDoor.Mb
namespace Go.Proofs.YtddnnljfgfcplaaGreatDoor.Mb
open Lib (hid)
open Go.RowKit Cv St Ru Dd
def dayL (n:Int) (T:List Int):List Int:=T.map fun s=>n*86400+s
theorem all_take {D T:List Int} {t:Nat} (ht:t<D.length):allL (D.take (t+1)) T=allL (D.take t) T++dayL (iat D t) T:=by
 unfold allL;rw[take_iat ht,List.flatMap_append];simp[dayL]
theorem day_take {n:Int} {T:List Int} {k:Nat} (hk:k<T.length):dayL n (T.take (k+1))=dayL n (T.take k)++[n*86400+iat T k]:=by
 unfold dayL;rw[take_iat hk,List.map_append];rfl
theorem dayL_len (n:Int) (T:List Int):(dayL n T).length=T.length:=by simp[dayL]
theorem room2 {D T:List Int} {t k:Nat} {n:Int} (h:D.length*T.length<=100000) (ht:t<D.length):(allL (D.take t) T++dayL n (T.take k)).length<=1000000:=by
 rw[List.length_append,all_len,dayL_len,List.length_take,List.length_take]
 have a:min t D.length*T.length<=D.length*T.length:=Nat.mul_le_mul (by omega) (Nat.le_refl _)
 have b:T.length<=D.length*T.length:=by
  have:=Nat.mul_le_mul (show 1<=D.length by omega) (Nat.le_refl T.length)
  omega
 omega
def SetIs (w:World) (p:List Int×Int) (e:Ending) (w':World):Prop:=∃A c,e= .returned (.tuple #[.slice A p.1.length c,.int .i64 p.2])/\IsAt w' A p.1.length p.1/\Below w.heap.size w w'
theorem set_nil {w w':World} {p:List Int×Int} {x:Int} (h:([],x)=p) (hb:Below w.heap.size w w'):SetIs w p (.returned (.tuple #[.slice none 0 0,.int .i64 x])) w':=by
 subst h
 exact⟨none,0,rfl,IsAt.nil _ _,hb⟩
theorem set_no (w:World) (S:RS) (r:Ru) (start t most:Int) (p:List Int×Int) (h:RuAt w S r) (hn:setOk r start t most=false) (hx:setR r start t most=p):
  Calls Tryz.prog 215 #[S.val r,.int .i64 start,.int .i64 t,.int .i64 most] w (SetIs w p):=by
 have RA:=hid h
 obtain⟨m,hm⟩:∃m,mayR r=m:=⟨_,rfl⟩
 have HM:=hid hm
 have HX:=hid (show ([],1)=p by rw[<-hx,setR_0 hn])
 have HN:=hid (show (m&&St.may start&&St.may t&&decide (1<=most/\most<=100000))=false by rw[<-hm];exact hn)
 clear hm hn
 clear h hx
 obtain⟨ra6,rn6,rc6,ra7,rn7,rc7,ra8,rn8,rc8,ra9,rn9,rc9,ra10,rn10,rc10,ra11,rn11,rc11,ra12,rn12,rc12,ra13,rn13,rc13,ra14,rn14,rc14⟩:=S
 obtain⟨rfreq,ritv,rcnt,rtil,rwkst,rends,rmon,rweek,ryday,rmday,rday,rhour,rminu,rsec,rpos⟩:=r
 show Calls Tryz.prog 215 #[.agg #[.int .i64 rfreq,.int .i64 ritv,.int .i64 rcnt,.int .i64 rtil,.int .i64 rwkst,.bool rends,.slice ra6 rn6 rc6,.slice ra7 rn7 rc7,.slice ra8 rn8 rc8,.slice ra9 rn9 rc9,.slice ra10 rn10 rc10,.slice ra11 rn11 rc11,.slice ra12 rn12 rc12,.slice ra13 rn13 rc13,.slice ra14 rn14 rc14],.int .i64 start,.int .i64 t,.int .i64 most] w _
 go_enter Tryz.func215,Tryz.ntmps215
 go_upto_region 1 with fail
 obtain⟨B0,Xr0⟩:=box_new w #[.int .i64 rfreq,.int .i64 ritv,.int .i64 rcnt,.int .i64 rtil,.int .i64 rwkst,.bool rends,.slice ra6 rn6 rc6,.slice ra7 rn7 rc7,.slice ra8 rn8 rc8,.slice ra9 rn9 rc9,.slice ra10 rn10 rc10,.slice ra11 rn11 rc11,.slice ra12 rn12 rc12,.slice ra13 rn13 rc13,.slice ra14 rn14 rc14] 25
 generalize w.alloc _=w0 at *
 obtain⟨rz0,rz1,rz2,rz3,rz4,rz5,rz6,rz7,rz8,rz9,rz10,rz11,rz12,rz13,rz14⟩:=cells15 Xr0
 go_wp2_with fail
 refine(may_r _ ⟨ra6,rn6,rc6,ra7,rn7,rc7,ra8,rn8,rc8,ra9,rn9,rc9,ra10,rn10,rc10,ra11,rn11,rc11,ra12,rn12,rc12,ra13,rn13,rc13,ra14,rn14,rc14⟩ ⟨rfreq,ritv,rcnt,rtil,rwkst,rends,rmon,rweek,ryday,rmday,rday,rhour,rminu,rsec,rpos⟩ m (RA.out.below B0) HM.out).mono ?_
 rintro e w1 ⟨rfl,b1⟩
 clear rz0 rz1 rz2 rz3 rz4 rz5 rz6 rz7 rz8 rz9 rz10 rz11 rz12 rz13 rz14
 have B1:=B0.trans (b1.mono B0.size)
 have Xr1:=Xr0.below b1
 clear B0 Xr0
 clear b1
 cases m
 ·go_wp2
  go_ret2
  exact set_nil HX.out B1
 ·cases hp:St.may start
  ·go_wp2_with fail
   refine(may_no start _ hp).mono ?_;rintro e w' ⟨rfl,rfl⟩;go_wp2
   go_ret2
   exact set_nil HX.out B1
  ·go_wp2_with fail
   refine(may_yes start _ hp).mono ?_;rintro e w' ⟨rfl,rfl⟩;cases hq:St.may t
   ·go_wp2_with fail
    refine(may_no t _ hq).mono ?_;rintro e w' ⟨rfl,rfl⟩;go_wp2
    go_ret2
    exact set_nil HX.out B1
   ·go_wp2_with fail
    refine(may_yes t _ hq).mono ?_;rintro e w' ⟨rfl,rfl⟩
    have NB:¬(1<=most/\most<=100000):=by
     have:=HN.out
     rw[hp,hq] at this
     simpa using this
    by_cases c1:most<1
    ·have t0:decide (most<1)=true:=decide_eq_true c1
     go_wp2
     go_ret2
     exact set_nil HX.out B1
    ·have t0:decide (most<1)=false:=decide_eq_false c1
     have t1:decide ((100000:Int)<most)=true:=decide_eq_true (by omega)
     go_wp2
     go_ret2
     exact set_nil HX.out B1
theorem set_off (w:World) (S:RS) (r:Ru) (start t most:Int) (p:List Int×Int) (h:RuAt w S r) (hn:setOk r start t most=true) (hi:inPer r start t=false) (hx:setR r start t most=p):
  Calls Tryz.prog 215 #[S.val r,.int .i64 start,.int .i64 t,.int .i64 most] w (SetIs w p):=by
 have RA:=hid h
 have HK:=hn
 unfold setOk at HK
 simp only[Bool.and_eq_true,decide_eq_true_eq] at HK
 obtain⟨⟨⟨m1,m2⟩,m3⟩,o1,o2⟩:=HK
 have M1:=hid m1
 have M2:=hid m2
 have M3:=hid m3
 have HI:=hid hi
 have HX:=hid (show ([],0)=p by rw[<-hx,setR_1 hn hi])
 clear hi
 clear hn m1 m2 m3
 clear h hx
 obtain⟨ra6,rn6,rc6,ra7,rn7,rc7,ra8,rn8,rc8,ra9,rn9,rc9,ra10,rn10,rc10,ra11,rn11,rc11,ra12,rn12,rc12,ra13,rn13,rc13,ra14,rn14,rc14⟩:=S
 obtain⟨rfreq,ritv,rcnt,rtil,rwkst,rends,rmon,rweek,ryday,rmday,rday,rhour,rminu,rsec,rpos⟩:=r
 show Calls Tryz.prog 215 #[.agg #[.int .i64 rfreq,.int .i64 ritv,.int .i64 rcnt,.int .i64 rtil,.int .i64 rwkst,.bool rends,.slice ra6 rn6 rc6,.slice ra7 rn7 rc7,.slice ra8 rn8 rc8,.slice ra9 rn9 rc9,.slice ra10 rn10 rc10,.slice ra11 rn11 rc11,.slice ra12 rn12 rc12,.slice ra13 rn13 rc13,.slice ra14 rn14 rc14],.int .i64 start,.int .i64 t,.int .i64 most] w _
 go_enter Tryz.func215,Tryz.ntmps215
 go_upto_region 1 with fail
 obtain⟨B0,Xr0⟩:=box_new w #[.int .i64 rfreq,.int .i64 ritv,.int .i64 rcnt,.int .i64 rtil,.int .i64 rwkst,.bool rends,.slice ra6 rn6 rc6,.slice ra7 rn7 rc7,.slice ra8 rn8 rc8,.slice ra9 rn9 rc9,.slice ra10 rn10 rc10,.slice ra11 rn11 rc11,.slice ra12 rn12 rc12,.slice ra13 rn13 rc13,.slice ra14 rn14 rc14] 25
 generalize w.alloc _=w0 at *
 obtain⟨rz0,rz1,rz2,rz3,rz4,rz5,rz6,rz7,rz8,rz9,rz10,rz11,rz12,rz13,rz14⟩:=cells15 Xr0
 go_wp2_with fail
 refine(may_r _ ⟨ra6,rn6,rc6,ra7,rn7,rc7,ra8,rn8,rc8,ra9,rn9,rc9,ra10,rn10,rc10,ra11,rn11,rc11,ra12,rn12,rc12,ra13,rn13,rc13,ra14,rn14,rc14⟩ ⟨rfreq,ritv,rcnt,rtil,rwkst,rends,rmon,rweek,ryday,rmday,rday,rhour,rminu,rsec,rpos⟩ true (RA.out.below B0) M1.out).mono ?_
 rintro e w1 ⟨rfl,b1⟩
 clear rz0 rz1 rz2 rz3 rz4 rz5 rz6 rz7 rz8 rz9 rz10 rz11 rz12 rz13 rz14
 have B1:=B0.trans (b1.mono B0.size)
 have Xr1:=Xr0.below b1
 clear B0 Xr0
 clear b1
 go_wp2_with fail
 refine(may_yes start _ M2.out).mono ?_
 rintro e w' ⟨rfl,rfl⟩
 go_wp2_with fail
 refine(may_yes t _ M3.out).mono ?_
 rintro e w' ⟨rfl,rfl⟩
 have t0:decide (most<1)=false:=decide_eq_false (by omega)
 have t1:decide ((100000:Int)<most)=false:=decide_eq_false (by omega)
 obtain⟨rz0,rz1,rz2,rz3,rz4,rz5,rz6,rz7,rz8,rz9,rz10,rz11,rz12,rz13,rz14⟩:=cells15 Xr1
 go_wp2_with fail
 refine(inPer_is _ ⟨ra6,rn6,rc6,ra7,rn7,rc7,ra8,rn8,rc8,ra9,rn9,rc9,ra10,rn10,rc10,ra11,rn11,rc11,ra12,rn12,rc12,ra13,rn13,rc13,ra14,rn14,rc14⟩ ⟨rfreq,ritv,rcnt,rtil,rwkst,rends,rmon,rweek,ryday,rmday,rday,rhour,rminu,rsec,rpos⟩ start t false (RA.out.below B1) HI.out).mono ?_
 rintro e w2 ⟨rfl,b2⟩
 clear rz0 rz1 rz2 rz3 rz4 rz5 rz6 rz7 rz8 rz9 rz10 rz11 rz12 rz13 rz14
 have B2:=B1.trans (b2.mono B1.size)
 have Xr2:=Xr1.below b2
 clear B1 Xr1
 clear b2
 go_wp2
 go_ret2
 exact set_nil HX.out B2
theorem set_on (w:World) (S:RS) (r:Ru) (start t most:Int) (p:List Int×Int) (h:RuAt w S r) (hn:setOk r start t most=true) (hi:inPer r start t=true) (hx:setR r start t most=p):
  Calls Tryz.prog 215 #[S.val r,.int .i64 start,.int .i64 t,.int .i64 most] w (SetIs w p):=by
 have RA:=hid h
 have HK:=hn
 unfold setOk at HK
 simp only[Bool.and_eq_true,decide_eq_true_eq] at HK
 obtain⟨⟨⟨m1,m2⟩,m3⟩,o1,o2⟩:=HK
 have M1:=hid m1
 have M2:=hid m2
 have M3:=hid m3
 have HI:=hid hi
 obtain⟨D,hD⟩:∃l,dysR r start t=l:=⟨_,rfl⟩
 obtain⟨T,hT⟩:∃l,tmsR r start t=l:=⟨_,rfl⟩
 have LD:D.length<=401:=by rw[<-hD];exact dys_len r start t
 have LT:T.length<=216000:=by rw[<-hT];exact tms_len start t m1
 have X1:=hid (fun (q:most<(D.length:Int)*(T.length:Int))=>show ([],10)=p by rw[<-hx,setR_2 hn hi (by rw[hD,hT];exact q)])
 have X2:=hid (fun (q:(D.length:Int)*(T.length:Int)<=most)=>show (allL D T,0)=p by rw[<-hx,setR_3 hn hi (by rw[hD,hT];exact Int.not_lt.2 q)];unfold allR;rw[hD,hT])
 have HD:=hid hD
 have HT:=hid hT
 clear hi hD hT
 clear hn m1 m2 m3
 clear h hx
 obtain⟨ra6,rn6,rc6,ra7,rn7,rc7,ra8,rn8,rc8,ra9,rn9,rc9,ra10,rn10,rc10,ra11,rn11,rc11,ra12,rn12,rc12,ra13,rn13,rc13,ra14,rn14,rc14⟩:=S
 obtain⟨rfreq,ritv,rcnt,rtil,rwkst,rends,rmon,rweek,ryday,rmday,rday,rhour,rminu,rsec,rpos⟩:=r
 show Calls Tryz.prog 215 #[.agg #[.int .i64 rfreq,.int .i64 ritv,.int .i64 rcnt,.int .i64 rtil,.int .i64 rwkst,.bool rends,.slice ra6 rn6 rc6,.slice ra7 rn7 rc7,.slice ra8 rn8 rc8,.slice ra9 rn9 rc9,.slice ra10 rn10 rc10,.slice ra11 rn11 rc11,.slice ra12 rn12 rc12,.slice ra13 rn13 rc13,.slice ra14 rn14 rc14],.int .i64 start,.int .i64 t,.int .i64 most] w _
 go_enter Tryz.func215,Tryz.ntmps215
 go_upto_region 1 with fail
 obtain⟨B0,Xr0⟩:=box_new w #[.int .i64 rfreq,.int .i64 ritv,.int .i64 rcnt,.int .i64 rtil,.int .i64 rwkst,.bool rends,.slice ra6 rn6 rc6,.slice ra7 rn7 rc7,.slice ra8 rn8 rc8,.slice ra9 rn9 rc9,.slice ra10 rn10 rc10,.slice ra11 rn11 rc11,.slice ra12 rn12 rc12,.slice ra13 rn13 rc13,.slice ra14 rn14 rc14] 25
 generalize w.alloc _=w0 at *
 obtain⟨rz0,rz1,rz2,rz3,rz4,rz5,rz6,rz7,rz8,rz9,rz10,rz11,rz12,rz13,rz14⟩:=cells15 Xr0
 go_wp2_with fail
 refine(may_r _ ⟨ra6,rn6,rc6,ra7,rn7,rc7,ra8,rn8,rc8,ra9,rn9,rc9,ra10,rn10,rc10,ra11,rn11,rc11,ra12,rn12,rc12,ra13,rn13,rc13,ra14,rn14,rc14⟩ ⟨rfreq,ritv,rcnt,rtil,rwkst,rends,rmon,rweek,ryday,rmday,rday,rhour,rminu,rsec,rpos⟩ true (RA.out.below B0) M1.out).mono ?_
 rintro e w1 ⟨rfl,b1⟩
 clear rz0 rz1 rz2 rz3 rz4 rz5 rz6 rz7 rz8 rz9 rz10 rz11 rz12 rz13 rz14
 have B1:=B0.trans (b1.mono B0.size)
 have Xr1:=Xr0.below b1
 clear B0 Xr0
 clear b1
 go_wp2_with fail
 refine(may_yes start _ M2.out).mono ?_
 rintro e w' ⟨rfl,rfl⟩
 go_wp2_with fail
 refine(may_yes t _ M3.out).mono ?_
 rintro e w' ⟨rfl,rfl⟩
 have t0:decide (most<1)=false:=decide_eq_false (by omega)
 have t1:decide ((100000:Int)<most)=false:=decide_eq_false (by omega)
 obtain⟨rz0,rz1,rz2,rz3,rz4,rz5,rz6,rz7,rz8,rz9,rz10,rz11,rz12,rz13,rz14⟩:=cells15 Xr1
 go_wp2_with fail
 refine(inPer_is _ ⟨ra6,rn6,rc6,ra7,rn7,rc7,ra8,rn8,rc8,ra9,rn9,rc9,ra10,rn10,rc10,ra11,rn11,rc11,ra12,rn12,rc12,ra13,rn13,rc13,ra14,rn14,rc14⟩ ⟨rfreq,ritv,rcnt,rtil,rwkst,rends,rmon,rweek,ryday,rmday,rday,rhour,rminu,rsec,rpos⟩ start t true (RA.out.below B1) HI.out).mono ?_
 rintro e w2 ⟨rfl,b2⟩
 clear rz0 rz1 rz2 rz3 rz4 rz5 rz6 rz7 rz8 rz9 rz10 rz11 rz12 rz13 rz14
 have B2:=B1.trans (b2.mono B1.size)
 have Xr2:=Xr1.below b2
 clear B1 Xr1
 clear b2
 go_upto_region 5 with fail
 refine wp_region_late (fun _=>false) (fun v=>Below w2.heap.size w2 v) (by kernel_rfl) ?_
 have D0:Below w2.heap.size w2 w2.drew:=(Below.refl _ _).drew
 refine Late.take 0 (.agg #[.int .i64 rfreq,.int .i64 ritv,.int .i64 rcnt,.int .i64 rtil,.int .i64 rwkst,.bool rends,.slice ra6 rn6 rc6,.slice ra7 rn7 rc7,.slice ra8 rn8 rc8,.slice ra9 rn9 rc9,.slice ra10 rn10 rc10,.slice ra11 rn11 rc11,.slice ra12 rn12 rc12,.slice ra13 rn13 rc13,.slice ra14 rn14 rc14]) rfl (by kernel_rfl) (by kernel_rfl) (by kernel_rfl) (by kernel_rfl) (fun _ _ _ h=>h) (.inl ⟨rfl,fun w' hs => ?_⟩) D0 ?_
 ·have XQ:=Xr2.below hs
  obtain⟨z0,z1,z2,z3,z4,z5,z6,z7,z8,z9,z10,z11,z12,z13,z14⟩:=cells15 XQ;clear XQ
  go_simp
 refine Late.take 1 (.int .i64 start) rfl (by kernel_rfl) (by kernel_rfl) (by kernel_rfl) (by kernel_rfl) (fun _ _ _ h=>h) (.inl ⟨rfl,fun w' hs => ?_⟩) D0 ?_
 ·go_simp
 refine Late.take 2 (.int .i64 t) rfl (by kernel_rfl) (by kernel_rfl) (by kernel_rfl) (by kernel_rfl) (fun _ _ _ h=>h) (.inl ⟨rfl,fun w' hs => ?_⟩) D0 ?_
 ·go_simp
 refine Late.take 4 (.agg #[.int .i64 rfreq,.int .i64 ritv,.int .i64 rcnt,.int .i64 rtil,.int .i64 rwkst,.bool rends,.slice ra6 rn6 rc6,.slice ra7 rn7 rc7,.slice ra8 rn8 rc8,.slice ra9 rn9 rc9,.slice ra10 rn10 rc10,.slice ra11 rn11 rc11,.slice ra12 rn12 rc12,.slice ra13 rn13 rc13,.slice ra14 rn14 rc14]) rfl (by kernel_rfl) (by kernel_rfl) (by kernel_rfl) (by kernel_rfl) (fun _ _ _ h=>h) (.inl ⟨rfl,fun w' hs => ?_⟩) D0 ?_
 ·have XQ:=Xr2.below hs
  obtain⟨z0,z1,z2,z3,z4,z5,z6,z7,z8,z9,z10,z11,z12,z13,z14⟩:=cells15 XQ;clear XQ
  go_simp
 refine Late.take 5 (.int .i64 start) rfl (by kernel_rfl) (by kernel_rfl) (by kernel_rfl) (by kernel_rfl) (fun _ _ _ h=>h) (.inl ⟨rfl,fun w' hs => ?_⟩) D0 ?_
 ·go_simp
 refine Late.take 6 (.int .i64 t) rfl (by kernel_rfl) (by kernel_rfl) (by kernel_rfl) (by kernel_rfl) (fun _ _ _ h=>h) (.inl ⟨rfl,fun w' hs => ?_⟩) D0 ?_
 ·go_simp
 have C0:=B2.trans (D0.mono B2.size)
 refine Late.one 3 rfl (by kernel_rfl) rfl ?_
 go_simp
 refine(daysOf_is _ ⟨ra6,rn6,rc6,ra7,rn7,rc7,ra8,rn8,rc8,ra9,rn9,rc9,ra10,rn10,rc10,ra11,rn11,rc11,ra12,rn12,rc12,ra13,rn13,rc13,ra14,rn14,rc14⟩ ⟨rfreq,ritv,rcnt,rtil,rwkst,rends,rmon,rweek,ryday,rmday,rday,rhour,rminu,rsec,rpos⟩ start t D (RA.out.below C0) HD.out).mono ?_
 rintro e x1 ⟨A1,p1,rfl,o1',y1⟩
 have D1:=D0.trans (y1.mono D0.size)
 have C1:=B2.trans (D1.mono B2.size)
 refine⟨D1,?_⟩
 refine Late.one 7 rfl (by kernel_rfl) rfl ?_
 go_simp
 refine(timesOf_is _ ⟨ra6,rn6,rc6,ra7,rn7,rc7,ra8,rn8,rc8,ra9,rn9,rc9,ra10,rn10,rc10,ra11,rn11,rc11,ra12,rn12,rc12,ra13,rn13,rc13,ra14,rn14,rc14⟩ ⟨rfreq,ritv,rcnt,rtil,rwkst,rends,rmon,rweek,ryday,rmday,rday,rhour,rminu,rsec,rpos⟩ start t T (RA.out.below C1) M1.out M2.out M3.out HT.out).mono ?_
 rintro e x2 ⟨A2,p2,rfl,o2',y2⟩
 have D2:=D1.trans (y2.mono D1.size)
 refine⟨D2,?_⟩
 refine Late.take 8 (.slice A1 D.length p1) rfl (by kernel_rfl) (by kernel_rfl) (by kernel_rfl) (by kernel_rfl) (fun _ _ _ h=>h) (.inl ⟨rfl,fun w' hs => ?_⟩) D2 ?_
 ·go_simp
 refine Late.take 9 (.slice A2 T.length p2) rfl (by kernel_rfl) (by kernel_rfl) (by kernel_rfl) (by kernel_rfl) (fun _ _ _ h=>h) (.inl ⟨rfl,fun w' hs => ?_⟩) D2 ?_
 ·go_simp
 refine Late.done (by kernel_rfl) ?_
 have C2:=B2.trans (D2.mono B2.size)
 have K1:=hid (o1'.below y2)
 have K2:=hid o2'
 clear o1' o2' y1 y2 D0 D1 D2 C0 C1 B2 Xr2
 obtain⟨m1,hm1⟩:∃m,D.length=m:=⟨_,rfl⟩
 obtain⟨m2,hm2⟩:∃m,T.length=m:=⟨_,rfl⟩
 have LN1:=hid hm1
 have LN2:=hid hm2
 rw[hm1] at LD K1 X1 X2
 rw[hm2] at LT K2 X1 X2
 rw[hm1,hm2]
 clear hm1 hm2
 have pr:(m1:Int)*(m2:Int)<=401*216000:=Int.mul_le_mul (by omega) (by omega) (by omega) (by omega)
 have p0:0<=(m1:Int)*(m2:Int):=Int.mul_nonneg (by omega) (by omega)
 have PE:=hid (show (m1:Int)*(m2:Int)=((m1*m2:Nat):Int) by simp)
 have IW:IntKind.i64.wrap ((m1:Int)*(m2:Int))=(m1:Int)*(m2:Int):=IntWalk.i64_in _ (by omega)
 by_cases hc:most<(m1:Int)*(m2:Int)
 ·have E:=hid (X1.out hc)
  have t2:decide (most<(m1:Int)*(m2:Int))=true:=decide_eq_true hc
  clear X1 X2;go_wp2
  go_ret2
  exact set_nil E.out C2
 ·have E:=hid (X2.out (Int.not_lt.1 hc))
  have t2:decide (most<(m1:Int)*(m2:Int))=false:=decide_eq_false hc
  clear X1 X2;have PN:m1*m2<=100000:=by have:=PE.out;omega
  obtain⟨i0,hi,hz0,hz1,hz2⟩:=info_parts info_int
  go_wp2_with (at_make;refine wpList_make_own _ rfl _ _ 22 rfl x2.heap.size 3 i0 (.int .i64 0) 1 Tryz.underlying22 hi hz0 hz1 .i64 .i64 _ (m1*m2) rfl rfl (by rw[<-PE.out]) (by rw[hz2];omega) (by unfold maxLen;omega) (Nat.le_refl _) ?_)
  intro wm hown hg;have OW0:=hid (show OwnI x2 wm (.slice (some ⟨x2.heap.size,0,none⟩) 0 (m1*m2)) [] from hown);have BW:=hid (show Below x2.heap.size x2 wm from (Below.refl _ _).grown hg (Nat.le_refl _) (fun k hk=>by cases hk));clear hown hg hi hz0 hz1 hz2 i0 t0 t1 t2 IW;go_wp2
  go_loopw [12,66] (fun ov i wr=>∃(v:Value) (t1:Nat) (acc:List Int),t1<=m1/\v=ov/\i= .int .i64 t1/\OwnI x2 wr v acc/\Hid (allL (D.take t1) T=acc)/\Below x2.heap.size x2 wr) (fun _ i _=>m1-(intOf i).toNat)
  case atStart=>exact⟨_,0,[],Nat.zero_le _,rfl,rfl,OW0.out,hid rfl,BW.out⟩
  case round=>
   obtain⟨wo,rfl⟩:∃wo:World,wo=wr:=⟨_,rfl⟩;obtain⟨v0,t1,acc1,ht1,rfl,rfl,ov1,D1,hB1⟩:=hrel;have OV1:=hid ov1;clear ov1
   by_cases hlt1:t1<m1
   ·obtain⟨bl1,of1,ea1,hl1,hc1⟩:=K1.out.2 (show 0<m1 by omega)
    subst ea1;have c1:=(hB1.cell (p:=⟨bl1,_,none⟩) hl1).trans (hc1 t1 hlt1)
    have e1:-719162<=iat D t1/\iat D t1<=2932896:=by
     have q:iat D t1∈D:=by rw[iat_lt (by rw[LN1.out];exact hlt1)];exact List.getElem_mem _
     have q2:fitsB ⟨rfreq,ritv,rcnt,rtil,rwkst,rends,rmon,rweek,ryday,rmday,rday,rhour,rminu,rsec,rpos⟩ start (iat D t1)=true:=((mem_dys M1.out M3.out).1 (by rw[HD.out];exact q)).2
     exact of_decide_eq_true (fits_day q2)
    have N1:=hid (all_take (D:=D) (T:=T) (t:=t1) (by rw[LN1.out];exact hlt1));have RM:=hid (fun k=>room2 (D:=D) (T:=T) (t:=t1) (k:=k) (n:=iat D t1) (by rw[LN1.out,LN2.out];exact PN) (by rw[LN1.out];exact hlt1));clear hc1;generalize iat D t1=g1 at *;go_wp2
    go_loopw [12,72] (fun ov i wr=>∃(v:Value) (t2:Nat) (acc:List Int),t2<=m2/\v=ov/\i= .int .i64 t2/\OwnI x2 wr v acc/\Hid (acc1++dayL g1 (T.take t2)=acc)/\Below x2.heap.size x2 wr) (fun _ i _=>m2-(intOf i).toNat)
    case atStart=>exact⟨_,0,acc1,Nat.zero_le _,rfl,rfl,OV1.out,hid (by simp[dayL]),hB1⟩
    case round=>
     obtain⟨v1,t2,acc2,ht2,rfl,rfl,ov2,D2,hB2⟩:=hrel;have OV2:=hid ov2;clear ov2
     by_cases hlt2:t2<m2
     ·obtain⟨bl2,of2,ea2,hl2,hc2⟩:=K2.out.2 (show 0<m2 by omega)
      subst ea2;have c2:=(hB2.cell (p:=⟨bl2,_,none⟩) hl2).trans (hc2 t2 hlt2)
      have e2:0<=iat T t2/\iat T t2<=86399:=by
       have q:iat T t2∈T:=by rw[iat_lt (by rw[LN2.out];exact hlt2)];exact List.getElem_mem _
       exact tms_bd M1.out _ (by rw[HT.out];exact q)
      have N2:=hid (day_take (n:=g1) (T:=T) (k:=t2) (by rw[LN2.out];exact hlt2));have R:=RM.out t2;rw[D1.out,D2.out] at R;clear hc2;generalize iat T t2=g2 at *
      go_wp2_with (at_builtin;refine append_num rfl _ _ rfl _ acc2 rfl OV2.out hB2 _ _ _ rfl R ?_)
      intro v4 w4 ow4 hb4;have OW:=hid ow4;clear ow4;go_wp2
      go_roundw
      case rel=>exact⟨v4,t2+1,_,by omega,rfl,by go_num,OW.out,hid (by rw[N2.out,<-List.append_assoc,D2.out]),hb4⟩
      case measure=>simp[intOf];omega
     ·obtain rfl:m2=t2:=by omega
      have E2:=hid (show acc1++dayL g1 T=acc2 by rw[<-D2.out,List.take_of_length_le (by rw[LN2.out];exact Nat.le_refl _)]);go_wp2
      go_roundw
      case rel=>exact⟨v1,t1+1,acc2,by omega,rfl,by go_num,OV2.out,hid (by rw[N1.out,D1.out,E2.out]),hB2⟩
      case measure=>simp[intOf];omega
   ·obtain rfl:m1=t1:=by omega
    have E1:=hid (show (acc1,0)=p by rw[<-E.out,<-D1.out,List.take_of_length_le (by rw[LN1.out];exact Nat.le_refl _)]);go_wp2
    go_ret2
    obtain⟨A,c,rfl,ia,-,-⟩:=OV1.out.at_;have e:=E1.out;subst e;exact⟨A,c,rfl,ia,C2.trans (hB1.mono C2.size)⟩
end Go.Proofs.YtddnnljfgfcplaaGreatDoor.Mb
namespace Go.Proofs.YtddnnljfgfcplaaGreatDoor.Mb
open Go.RowKit Cv St Ru Dd
theorem setP_is (w:World) (S:RS) (r:Ru) (start t most:Int) (p:List Int×Int) (h:RuAt w S r) (hx:setR r start t most=p):
  Calls Tryz.prog 215 #[S.val r,.int .i64 start,.int .i64 t,.int .i64 most] w (SetIs w p):=by
 cases hn:setOk r start t most
 ·exact set_no w S r start t most p h hn hx
 ·cases hi:inPer r start t
  ·exact set_off w S r start t most p h hn hi hx
  ·exact set_on w S r start t most p h hn hi hx
end Go.Proofs.YtddnnljfgfcplaaGreatDoor.Mb
