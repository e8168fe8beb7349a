/- A meeting that came in: opened; vokref.FewMeeting, vokref25.Light. -/
import Derived.Test.YtddnnljfgfcplaaGreatDoorMeOpA
import Derived.Test.YtddnnljfgfcplaaGreatDoorMeX5
set_option maxRecDepth 100000
set_option maxHeartbeats 8000000
set_option linter.unusedVariables false
namespace Go.Proofs.YtddnnljfgfcplaaGreatDoor.Me
open Lib (hid)
open Go.ChangeShapes Go.WideShapes Go.RowKit Go.Deep Cv St Ru Dd Ex
structure MtIn (W:World) (S:MS) (m:Mt):Prop where
 rule:RuIn W S.R m.rule
 dates:IsAt W S.ad S.nd m.dates
 exc:IsAt W S.ae S.ne m.exc
 ld:S.nd<=9223372036854775807
 le:S.ne<=9223372036854775807
 dc:S.nd<=S.cd
 ec:S.ne<=S.ce
 zd:S.ad=none->S.cd=0
 ze:S.ae=none->S.ce=0
 i0:-9223372036854775808<=m.zone/\m.zone<=9223372036854775807
 i1:-9223372036854775808<=m.start/\m.start<=9223372036854775807
 i2:-9223372036854775808<=m.dur/\m.dur<=9223372036854775807
theorem RuIn.on {w v:World} {S:RS} {r:Ru} (h:RuIn w S r) (hb:Below w.heap.size w v):RuIn v S r:=
 ⟨h.h6.below hb,h.h7.below hb,h.h8.below hb,h.h9.below hb,h.h10.below hb,h.h11.below hb,h.h12.below hb,h.h13.below hb,h.h14.below hb,h.k6,h.k7,h.k8,h.k9,h.k10,h.k11,h.k12,h.k13,h.k14,h.y6,h.y7,h.y8,h.y9,h.y10,h.y11,h.y12,h.y13,h.y14,h.i0,h.i1,h.i2,h.i3,h.i4⟩
theorem MtIn.on {w v:World} {S:MS} {m:Mt} (h:MtIn w S m) (hb:Below w.heap.size w v):MtIn v S m:=⟨RuIn.on h.rule hb,h.dates.below hb,h.exc.below hb,h.ld,h.le,h.dc,h.ec,h.zd,h.ze,h.i0,h.i1,h.i2⟩
def fewM (S:MS):Bool:=fewB S.R&&decide (S.nd<=400/\S.ne<=400)
theorem MtIn.few {W:World} {S:MS} {m:Mt} (h:MtIn W S m) (f:fewM S=true):MtAt W S m:=by
 unfold fewM at f
 rw[Bool.and_eq_true] at f
 exact⟨h.rule.few f.1,h.dates,h.exc,h.ld,h.le,h.dc,h.ec,h.zd⟩
section
variable {H:Type} {enc:TypeId×Value->H} {W:World} {base:Nat} {spare:Nat->Bool} {held:Bool}
theorem is_cap {n:Nat} {A:Option Addr} {k c:Nat} {y:DataW H×List MemPlace} (h:DataW.trod enc Tryz.prog W base spare held n 22 [.slice A k c]=some y):k<=c:=by
 rcases open_slice Tryz.underlying22 h with ⟨hc,_⟩|⟨a,len,cap,m,n',D,Pl,hc,_,hl,hm,hmm,_,hi⟩
 ·injection hc with hc;injection hc with h1 h2 h3;omega
 ·injection hc with hc;injection hc with h1 h2 h3;omega
theorem rcells_open {n:Nat} {cs:List Value} {x:DataW H×List MemPlace} (h:DataW.trod enc Tryz.prog W base spare held n 25 cs=some x) (hl:cs.length=15):
  ∃(S:RS) (r:Ru),cs=(S.cells r).toList/\RuIn W S r:=by
 have he:=Tryz.underlying25
 obtain⟨u0,m0,y0,e0,t0⟩:=fields_of he (by kernel_rfl) (by kernel_rfl) h 0 (by decide)
 obtain⟨u1,m1,y1,e1,t1⟩:=fields_of he (by kernel_rfl) (by kernel_rfl) h 1 (by decide)
 obtain⟨u2,m2,y2,e2,t2⟩:=fields_of he (by kernel_rfl) (by kernel_rfl) h 2 (by decide)
 obtain⟨u3,m3,y3,e3,t3⟩:=fields_of he (by kernel_rfl) (by kernel_rfl) h 3 (by decide)
 obtain⟨u4,m4,y4,e4,t4⟩:=fields_of he (by kernel_rfl) (by kernel_rfl) h 4 (by decide)
 obtain⟨u5,m5,y5,e5,t5⟩:=fields_of he (by kernel_rfl) (by kernel_rfl) h 5 (by decide)
 obtain⟨u6,m6,y6,e6,t6⟩:=fields_of he (by kernel_rfl) (by kernel_rfl) h 6 (by decide)
 obtain⟨u7,m7,y7,e7,t7⟩:=fields_of he (by kernel_rfl) (by kernel_rfl) h 7 (by decide)
 obtain⟨u8,m8,y8,e8,t8⟩:=fields_of he (by kernel_rfl) (by kernel_rfl) h 8 (by decide)
 obtain⟨u9,m9,y9,e9,t9⟩:=fields_of he (by kernel_rfl) (by kernel_rfl) h 9 (by decide)
 obtain⟨u10,m10,y10,e10,t10⟩:=fields_of he (by kernel_rfl) (by kernel_rfl) h 10 (by decide)
 obtain⟨u11,m11,y11,e11,t11⟩:=fields_of he (by kernel_rfl) (by kernel_rfl) h 11 (by decide)
 obtain⟨u12,m12,y12,e12,t12⟩:=fields_of he (by kernel_rfl) (by kernel_rfl) h 12 (by decide)
 obtain⟨u13,m13,y13,e13,t13⟩:=fields_of he (by kernel_rfl) (by kernel_rfl) h 13 (by decide)
 obtain⟨u14,m14,y14,e14,t14⟩:=fields_of he (by kernel_rfl) (by kernel_rfl) h 14 (by decide)
 obtain⟨z0,g0,_,w0⟩:=DataW.trod_int Tryz.underlying3 t0
 injection g0 with g0;subst g0
 have b0:=bounds_i64 w0
 obtain⟨z1,g1,_,w1⟩:=DataW.trod_int Tryz.underlying3 t1
 injection g1 with g1;subst g1
 have b1:=bounds_i64 w1
 obtain⟨z2,g2,_,w2⟩:=DataW.trod_int Tryz.underlying3 t2
 injection g2 with g2;subst g2
 have b2:=bounds_i64 w2
 obtain⟨z3,g3,_,w3⟩:=DataW.trod_int Tryz.underlying3 t3
 injection g3 with g3;subst g3
 have b3:=bounds_i64 w3
 obtain⟨z4,g4,_,w4⟩:=DataW.trod_int Tryz.underlying3 t4
 injection g4 with g4;subst g4
 have b4:=bounds_i64 w4
 obtain⟨z5,g5,_⟩:=DataW.trod_bool Tryz.underlying4 t5
 injection g5 with g5;subst g5
 obtain⟨A6,n6,k6,l6,rfl,g6,o6,_,q6⟩:=is_open t6
 obtain⟨A7,n7,k7,l7,rfl,g7,o7,_,q7⟩:=is_open t7
 obtain⟨A8,n8,k8,l8,rfl,g8,o8,_,q8⟩:=is_open t8
 obtain⟨A9,n9,k9,l9,rfl,g9,o9,_,q9⟩:=is_open t9
 obtain⟨A10,n10,k10,l10,rfl,g10,o10,q10⟩:=dy_open t10
 obtain⟨A11,n11,k11,l11,rfl,g11,o11,_,q11⟩:=is_open t11
 obtain⟨A12,n12,k12,l12,rfl,g12,o12,_,q12⟩:=is_open t12
 obtain⟨A13,n13,k13,l13,rfl,g13,o13,_,q13⟩:=is_open t13
 obtain⟨A14,n14,k14,l14,rfl,g14,o14,_,q14⟩:=is_open t14
 refine⟨⟨A6,n6,k6,A7,n7,k7,A8,n8,k8,A9,n9,k9,A10,n10,k10,A11,n11,k11,A12,n12,k12,A13,n13,k13,A14,n14,k14⟩,⟨z0,z1,z2,z3,z4,z5,l6,l7,l8,l9,l10,l11,l12,l13,l14⟩,?_,⟨g6,g7,g8,g9,g10,g11,g12,g13,g14,o6,o7,o8,o9,o10,o11,o12,o13,o14,q6,q7,q8,q9,q10,q11,q12,q13,q14,b0,b1,b2,b3,b4⟩⟩
 clear t0 t1 t2 t3 t4 t5 t6 t7 t8 t9 t10 t11 t12 t13 t14 h he
 match cs,hl with
 | [c0,c1,c2,c3,c4,c5,c6,c7,c8,c9,c10,c11,c12,c13,c14],_=>
   obtain rfl:c0=_:=Option.some.inj e0
   obtain rfl:c1=_:=Option.some.inj e1
   obtain rfl:c2=_:=Option.some.inj e2
   obtain rfl:c3=_:=Option.some.inj e3
   obtain rfl:c4=_:=Option.some.inj e4
   obtain rfl:c5=_:=Option.some.inj e5
   obtain rfl:c6=_:=Option.some.inj e6
   obtain rfl:c7=_:=Option.some.inj e7
   obtain rfl:c8=_:=Option.some.inj e8
   obtain rfl:c9=_:=Option.some.inj e9
   obtain rfl:c10=_:=Option.some.inj e10
   obtain rfl:c11=_:=Option.some.inj e11
   obtain rfl:c12=_:=Option.some.inj e12
   obtain rfl:c13=_:=Option.some.inj e13
   obtain rfl:c14=_:=Option.some.inj e14
   rfl
theorem mid_of {P:Program} {t:TypeId} {fs:Array Field} {n:Nat} {cs:List Value} {x:DataW H×List MemPlace} (he:P.underlying t=some (.struct fs)) (h:DataW.trod enc P W base spare held n t cs=some x) (j:Nat) (f:Field) (hj:fs[j]? = some f) (k:Nat) (hk:P.cellsOf f.type=k):
  ∃m y,DataW.trod enc P W base spare held m f.type ((cs.drop f.offset).take k)=some y:=by
 obtain⟨xs,m,rfl,_,hlen,hxs,hf⟩:=DataW.trod_struct he h
 have q:=hf j _ hj
 have hl:=(Array.getElem?_eq_some_iff.1 hj).1
 rw[hk,List.getElem?_eq_getElem (l:=xs) (by omega)] at q
 exact⟨_,_,q⟩
theorem struct_len {P:Program} {t:TypeId} {fs:Array Field} {n:Nat} {cs:List Value} {x:DataW H×List MemPlace} (he:P.underlying t=some (.struct fs)) (h:DataW.trod enc P W base spare held n t cs=some x):cs.length=P.cellsOf t:=by
 obtain⟨xs,m,rfl,_,hlen,hxs,hf⟩:=DataW.trod_struct he h
 exact hlen
theorem list21 {cs:List Value} (h:cs.length=21):∃c0 c1 c2 c3 c4 c5 c6 c7 c8 c9 c10 c11 c12 c13 c14 c15 c16 c17 c18 c19 c20,cs=[c0,c1,c2,c3,c4,c5,c6,c7,c8,c9,c10,c11,c12,c13,c14,c15,c16,c17,c18,c19,c20]:=by
 match cs,h with
 | [c0,c1,c2,c3,c4,c5,c6,c7,c8,c9,c10,c11,c12,c13,c14,c15,c16,c17,c18,c19,c20],_=>exact⟨c0,c1,c2,c3,c4,c5,c6,c7,c8,c9,c10,c11,c12,c13,c14,c15,c16,c17,c18,c19,c20,rfl⟩
theorem mt_open {n:Nat} {cs:List Value} {x:DataW H×List MemPlace} (h:DataW.trod enc Tryz.prog W base spare held n 27 cs=some x):
  ∃(S:MS) (m:Mt),.agg cs.toArray=S.val m/\MtIn W S m:=by
 have he:=Tryz.underlying27
 have e21:Tryz.prog.cellsOf 27=21:=by kernel_rfl
 obtain⟨c0,c1,c2,c3,c4,c5,c6,c7,c8,c9,c10,c11,c12,c13,c14,c15,c16,c17,c18,c19,c20,rfl⟩:=list21 ((struct_len he h).trans e21)
 have e1:Tryz.prog.cellsOf 3=1:=by kernel_rfl
 have eb:Tryz.prog.cellsOf 4=1:=by kernel_rfl
 have er:Tryz.prog.cellsOf 25=15:=by kernel_rfl
 have es:Tryz.prog.cellsOf 22=1:=by kernel_rfl
 obtain⟨m0,y0,t0⟩:∃m y,DataW.trod enc Tryz.prog W base spare held m 3 [c0]=some y:=mid_of he h 0 _ rfl 1 e1
 obtain⟨m1,y1,t1⟩:∃m y,DataW.trod enc Tryz.prog W base spare held m 3 [c1]=some y:=mid_of he h 1 _ rfl 1 e1
 obtain⟨m2,y2,t2⟩:∃m y,DataW.trod enc Tryz.prog W base spare held m 3 [c2]=some y:=mid_of he h 2 _ rfl 1 e1
 obtain⟨m3,y3,t3⟩:∃m y,DataW.trod enc Tryz.prog W base spare held m 4 [c3]=some y:=mid_of he h 3 _ rfl 1 eb
 obtain⟨m4,y4,t4⟩:∃m y,DataW.trod enc Tryz.prog W base spare held m 25 [c4,c5,c6,c7,c8,c9,c10,c11,c12,c13,c14,c15,c16,c17,c18]=some y:=mid_of he h 4 _ rfl 15 er
 obtain⟨m5,y5,t5⟩:∃m y,DataW.trod enc Tryz.prog W base spare held m 22 [c19]=some y:=mid_of he h 5 _ rfl 1 es
 obtain⟨m6,y6,t6⟩:∃m y,DataW.trod enc Tryz.prog W base spare held m 22 [c20]=some y:=mid_of he h 6 _ rfl 1 es
 clear h he
 obtain⟨z0,g0,_,w0⟩:=DataW.trod_int Tryz.underlying3 t0
 injection g0 with g0;subst g0
 have b0:=bounds_i64 w0
 obtain⟨z1,g1,_,w1⟩:=DataW.trod_int Tryz.underlying3 t1
 injection g1 with g1;subst g1
 have b1:=bounds_i64 w1
 obtain⟨z2,g2,_,w2⟩:=DataW.trod_int Tryz.underlying3 t2
 injection g2 with g2;subst g2
 have b2:=bounds_i64 w2
 obtain⟨z3,g3,_⟩:=DataW.trod_bool Tryz.underlying4 t3
 injection g3 with g3;subst g3
 obtain⟨R,r,hr,ri⟩:=rcells_open t4 rfl
 obtain⟨A5,n5,k5,l5,rfl,g5,o5,_,q5⟩:=is_open t5
 obtain⟨A6,n6,k6,l6,rfl,g6,o6,_,q6⟩:=is_open t6
 have p5:=is_cap t5
 have p6:=is_cap t6
 refine⟨⟨R,A5,n5,k5,A6,n6,k6⟩,⟨z0,z1,z2,z3,r,l5,l6⟩,?_,⟨ri,g5,g6,o5,o6,p5,p6,q5,q6,b0,b1,b2⟩⟩
 clear t0 t1 t2 t3 t4 t5 t6 ri g5 g6
 unfold RS.cells at hr
 injection hr with h4 hr
 injection hr with h5 hr
 injection hr with h6 hr
 injection hr with h7 hr
 injection hr with h8 hr
 injection hr with h9 hr
 injection hr with h10 hr
 injection hr with h11 hr
 injection hr with h12 hr
 injection hr with h13 hr
 injection hr with h14 hr
 injection hr with h15 hr
 injection hr with h16 hr
 injection hr with h17 hr
 injection hr with h18 hr
 subst h4 h5 h6 h7 h8 h9 h10 h11 h12 h13 h14 h15 h16 h17 h18
 rfl
end
theorem fewMt_is (w:World) (S:MS) (m:Mt) (h:MtIn w S m):
  Calls Tryz.prog 9 #[S.val m] w fun e w'=>e= .returned (.bool (fewM S))/\Below w.heap.size w w':=by
 have RA:=hid h.rule
 have ld:=h.ld
 have le:=h.le
 obtain⟨x,hx⟩:∃x,fewB S.R=x:=⟨_,rfl⟩
 obtain⟨f,hf⟩:∃f,fewM S=f:=⟨_,rfl⟩
 rw[hf]
 have HF:=hid (show (x&&decide (S.nd<=400/\S.ne<=400))=f by rw[<-hf,<-hx];rfl)
 have FW:=hid (fun v (b:Below w.heap.size w v)=>few_is v S.R m.rule x RA.out.k6 RA.out.k7 RA.out.k8 RA.out.k9 RA.out.k10 RA.out.k11 RA.out.k12 RA.out.k13 RA.out.k14 hx)
 clear h hx hf RA
 obtain⟨⟨ra6,rn6,rc6,ra7,rn7,rc7,ra8,rn8,rc8,ra9,rn9,rc9,ra10,rn10,rc10,ra11,rn11,rc11,ra12,rn12,rc12,ra13,rn13,rc13,ra14,rn14,rc14⟩,ad,nd,cd,ae,ne,ce⟩:=S
 obtain⟨zo,st,du,re,⟨rfreq,ritv,rcnt,rtil,rwkst,rends,rmon,rweek,ryday,rmday,rday,rhour,rminu,rsec,rpos⟩,dl,el⟩:=m
 have ld:nd<=9223372036854775807:=ld
 have le:ne<=9223372036854775807:=le
 show Calls Tryz.prog 9 #[.agg #[.int .i64 zo,.int .i64 st,.int .i64 du,.bool re,.int .i64 rfreq,.int .i64 ritv,.int .i64 rcnt,.int .i64 rtil,.int .i64 rwkst,.bool rends,.slice ra6 rn6 rc6,.slice ra7 rn7 rc7,.slice ra8 rn8 rc8,.slice ra9 rn9 rc9,.slice ra10 rn10 rc10,.slice ra11 rn11 rc11,.slice ra12 rn12 rc12,.slice ra13 rn13 rc13,.slice ra14 rn14 rc14,.slice ad nd cd,.slice ae ne ce]] w _
 have FW:=hid (show ∀v,Below w.heap.size w v->Calls Tryz.prog 29 #[.agg #[.int .i64 rfreq,.int .i64 ritv,.int .i64 rcnt,.int .i64 rtil,.int .i64 rwkst,.bool rends,.slice ra6 rn6 rc6,.slice ra7 rn7 rc7,.slice ra8 rn8 rc8,.slice ra9 rn9 rc9,.slice ra10 rn10 rc10,.slice ra11 rn11 rc11,.slice ra12 rn12 rc12,.slice ra13 rn13 rc13,.slice ra14 rn14 rc14]] v fun e w'=>e= .returned (.bool x)/\Below v.heap.size v w' from FW.out)
 have HF:=hid (show (x&&decide (nd<=400/\ne<=400))=f from HF.out)
 go_enter Tryz.func9,Tryz.ntmps9
 go_upto_region 1 with fail
 obtain⟨B0,X0⟩:=box_new w #[.int .i64 zo,.int .i64 st,.int .i64 du,.bool re,.int .i64 rfreq,.int .i64 ritv,.int .i64 rcnt,.int .i64 rtil,.int .i64 rwkst,.bool rends,.slice ra6 rn6 rc6,.slice ra7 rn7 rc7,.slice ra8 rn8 rc8,.slice ra9 rn9 rc9,.slice ra10 rn10 rc10,.slice ra11 rn11 rc11,.slice ra12 rn12 rc12,.slice ra13 rn13 rc13,.slice ra14 rn14 rc14,.slice ad nd cd,.slice ae ne ce] 27
 generalize w.alloc _=w0 at *
 go_wp2_with (refine load25 rfl _ rfl _ rfl X0 ?_)
 go_wp2_with fail
 refine(FW.out w0 B0).mono ?_
 rintro e w1 ⟨rfl,b1⟩
 have B1:=B0.trans (b1.mono B0.size)
 have X1:=X0.below b1
 clear B0 X0 b1 FW
 obtain⟨mz0,mz1,mz2,mz3,mz4,mz5,mz6,mz7,mz8,mz9,mz10,mz11,mz12,mz13,mz14,mz15,mz16,mz17,mz18,mz19,mz20⟩:=cells21 X1
 clear mz0 mz1 mz2 mz3 mz4 mz5 mz6 mz7 mz8 mz9 mz10 mz11 mz12 mz13 mz14 mz15 mz16 mz17 mz18 X1
 cases x with
 |false=>
  obtain rfl:false=f:=HF.out
  clear HF;go_wp2;go_ret;exact⟨rfl,B1⟩
 |true=>
  by_cases q1:nd<=400
  ·have p1:(nd:Int)<=400:=by omega
   have t1:decide ((nd:Int)<=400)=true:=decide_eq_true p1
   by_cases q2:ne<=400
   ·have p2:(ne:Int)<=400:=by omega
    have t2:decide ((ne:Int)<=400)=true:=decide_eq_true p2
    obtain rfl:true=f:=by rw[<-HF.out];simp[q1,q2]
    clear HF;go_wp2;go_ret;exact⟨rfl,B1⟩
   ·have p2:400<(ne:Int):=by omega
    have t2:decide ((ne:Int)<=400)=false:=decide_eq_false (by omega)
    obtain rfl:false=f:=by rw[<-HF.out];simp[q1,q2]
    clear HF;go_wp2;go_ret;exact⟨rfl,B1⟩
  ·have p1:400<(nd:Int):=by omega
   have t1:decide ((nd:Int)<=400)=false:=decide_eq_false (by omega)
   obtain rfl:false=f:=by rw[<-HF.out];simp[q1]
   clear HF;go_wp2;go_ret;exact⟨rfl,B1⟩
theorem list_met {P:Program} {ops:Array Oper} {Q:Exit->Act->World->Prop} {a:Act} {w:World} {rest:List Oper} {o:Oper} (hg:Region.wanted o (yielded ops a.tmps)=true)
  (h:∀K:Act->World->Prop,(∀a w,wpList P ops Q rest a w->K a w)->o.wp P a w K Q):wpList P ops Q (o::rest) a w:=
 wpList_step fun K hK=>by rw[if_pos hg];exact h K hK
theorem load25G {ops:Array Oper} {rest:List Oper} {op:Oper} {a:Act} {w:World} {Q:Exit->Act->World->Prop} (hgd:Region.wanted op (yielded ops a.tmps)=true) (x:Operand) (ho:op.op= .load 25 x) (g:Nat) (hx:a.eval x= .pointer (some ⟨g,4,none⟩)) {a0 a1 a2 a3 a4 a5 a6 a7 a8 a9 a10 a11 a12 a13 a14 a15 a16 a17 a18 a19 a20:Value} (X:Box w g #[a0,a1,a2,a3,a4,a5,a6,a7,a8,a9,a10,a11,a12,a13,a14,a15,a16,a17,a18,a19,a20])
  (h:wpList Tryz.prog ops Q rest (a.put op.dst (.agg #[a4,a5,a6,a7,a8,a9,a10,a11,a12,a13,a14,a15,a16,a17,a18])) w):wpList Tryz.prog ops Q (op::rest) a w:=
 list_met hgd fun K hK=>wp_load_mid 25 x ho g 4 hx _ _ (load25_hc X) Tryz.underlying25 rfl (by rw[info_ru];rfl) (hK _ _ h)
def LitM (w:World) (e:Ending) (w':World):Prop:=(∃x,e= .returned (.bool x))/\Below w.heap.size w w'
theorem lightM_is (w:World) (S:MS) (m:Mt) (end_:Int) (h:MtAt w S m) (i1:-9223372036854775808<=m.start/\m.start<=9223372036854775807) (e1:-9223372036854775808<=end_) (e2:end_<=9223372036854775807):
  Calls Tryz.prog 15 #[S.val m,.int .i64 end_] w (LitM w):=by
 have RA:=hid h.rule
 obtain⟨j1,j2⟩:=i1
 obtain⟨x,hx⟩:∃x,mayR m.rule=x:=⟨_,rfl⟩
 have HX:=hid hx
 clear h hx
 obtain⟨⟨ra6,rn6,rc6,ra7,rn7,rc7,ra8,rn8,rc8,ra9,rn9,rc9,ra10,rn10,rc10,ra11,rn11,rc11,ra12,rn12,rc12,ra13,rn13,rc13,ra14,rn14,rc14⟩,ad,nd,cd,ae,ne,ce⟩:=S
 obtain⟨zo,st,du,re,⟨rfreq,ritv,rcnt,rtil,rwkst,rends,rmon,rweek,ryday,rmday,rday,rhour,rminu,rsec,rpos⟩,dl,el⟩:=m
 have j1:-9223372036854775808<=st:=j1
 have j2:st<=9223372036854775807:=j2
 have RA:=hid (show RuAt w ⟨ra6,rn6,rc6,ra7,rn7,rc7,ra8,rn8,rc8,ra9,rn9,rc9,ra10,rn10,rc10,ra11,rn11,rc11,ra12,rn12,rc12,ra13,rn13,rc13,ra14,rn14,rc14⟩ ⟨rfreq,ritv,rcnt,rtil,rwkst,rends,rmon,rweek,ryday,rmday,rday,rhour,rminu,rsec,rpos⟩ from RA.out)
 have HX:=hid (show mayR ⟨rfreq,ritv,rcnt,rtil,rwkst,rends,rmon,rweek,ryday,rmday,rday,rhour,rminu,rsec,rpos⟩=x from HX.out)
 show Calls Tryz.prog 15 #[.agg #[.int .i64 zo,.int .i64 st,.int .i64 du,.bool re,.int .i64 rfreq,.int .i64 ritv,.int .i64 rcnt,.int .i64 rtil,.int .i64 rwkst,.bool rends,.slice ra6 rn6 rc6,.slice ra7 rn7 rc7,.slice ra8 rn8 rc8,.slice ra9 rn9 rc9,.slice ra10 rn10 rc10,.slice ra11 rn11 rc11,.slice ra12 rn12 rc12,.slice ra13 rn13 rc13,.slice ra14 rn14 rc14,.slice ad nd cd,.slice ae ne ce],.int .i64 end_] w _
 go_enter Tryz.func15,Tryz.ntmps15
 go_upto_region 1 with fail
 obtain⟨B0,X0⟩:=box_new w #[.int .i64 zo,.int .i64 st,.int .i64 du,.bool re,.int .i64 rfreq,.int .i64 ritv,.int .i64 rcnt,.int .i64 rtil,.int .i64 rwkst,.bool rends,.slice ra6 rn6 rc6,.slice ra7 rn7 rc7,.slice ra8 rn8 rc8,.slice ra9 rn9 rc9,.slice ra10 rn10 rc10,.slice ra11 rn11 rc11,.slice ra12 rn12 rc12,.slice ra13 rn13 rc13,.slice ra14 rn14 rc14,.slice ad nd cd,.slice ae ne ce] 27
 generalize w.alloc _=w0 at *
 obtain⟨mz0,mz1,mz2,mz3,mz4,mz5,mz6,mz7,mz8,mz9,mz10,mz11,mz12,mz13,mz14,mz15,mz16,mz17,mz18,mz19,mz20⟩:=cells21 X0
 clear mz0 mz2 mz4 mz5 mz6 mz7 mz8 mz9 mz10 mz11 mz12 mz13 mz14 mz15 mz16 mz17 mz18 mz19 mz20
 cases re with
 |false=>
  go_wp2;go_ret;exact⟨⟨_,rfl⟩,B0⟩
 |true=>
  go_wp2_with (refine load25G (by kernel_rfl) _ rfl _ rfl X0 ?_)
  go_wp2_with fail;refine(rmayR_is _ ⟨ra6,rn6,rc6,ra7,rn7,rc7,ra8,rn8,rc8,ra9,rn9,rc9,ra10,rn10,rc10,ra11,rn11,rc11,ra12,rn12,rc12,ra13,rn13,rc13,ra14,rn14,rc14⟩ ⟨rfreq,ritv,rcnt,rtil,rwkst,rends,rmon,rweek,ryday,rmday,rday,rhour,rminu,rsec,rpos⟩ x (RA.out.below B0) HX.out).mono ?_;rintro e w1 ⟨rfl,b1⟩;have B1:=B0.trans (b1.mono B0.size);have X1:=X0.below b1;clear B0 X0 b1 mz1 mz3;obtain⟨mz0,mz1,mz2,mz3,mz4,mz5,mz6,mz7,mz8,mz9,mz10,mz11,mz12,mz13,mz14,mz15,mz16,mz17,mz18,mz19,mz20⟩:=cells21 X1;clear mz0 mz2 mz3 mz4 mz5 mz6 mz7 mz8 mz9 mz10 mz11 mz12 mz13 mz14 mz15 mz16 mz17 mz18 mz19 mz20
  cases x with
  |false=>
   go_wp2;go_ret;exact⟨⟨_,rfl⟩,B1⟩
  |true=>
   go_wp2_with fail;refine(rmay_any st _).mono ?_;rintro e w' ⟨rfl,rfl⟩
   cases ha:St.may st with
   |false=>
    go_wp2;go_ret;exact⟨⟨_,rfl⟩,B1⟩
   |true=>
    have s1:=of_decide_eq_true ha;go_wp2_with fail;refine(rmay_any end_ _).mono ?_;rintro e w' ⟨rfl,rfl⟩
    cases hb:St.may end_ with
    |false=>
     go_wp2;go_ret;exact⟨⟨_,rfl⟩,B1⟩
    |true=>
     have s2:=of_decide_eq_true hb
     go_wp2_with (refine load25 rfl _ rfl _ rfl X1 ?_)
     go_wp2_with fail;refine(cost8_is _ ⟨ra6,rn6,rc6,ra7,rn7,rc7,ra8,rn8,rc8,ra9,rn9,rc9,ra10,rn10,rc10,ra11,rn11,rc11,ra12,rn12,rc12,ra13,rn13,rc13,ra14,rn14,rc14⟩ ⟨rfreq,ritv,rcnt,rtil,rwkst,rends,rmon,rweek,ryday,rmday,rday,rhour,rminu,rsec,rpos⟩ _ _ (RA.out.below B1) HX.out).mono ?_;rintro e w9 ⟨⟨n,rfl⟩,b9⟩;go_wp2;go_ret;exact⟨⟨_,rfl⟩,B1.trans (b9.mono B1.size)⟩
end Go.Proofs.YtddnnljfgfcplaaGreatDoor.Me
