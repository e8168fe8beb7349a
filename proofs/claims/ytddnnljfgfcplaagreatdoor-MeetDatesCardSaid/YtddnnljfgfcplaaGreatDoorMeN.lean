/- A meeting: what it is, how it lies; the walks of package meet's mayRule and May. -/
import Derived.Test.YtddnnljfgfcplaaGreatDoorMeX1
import Derived.Test.YtddnnljfgfcplaaGreatDoorMeSame
import Derived.Test.YtddnnljfgfcplaaGreatDoorMbG
import Derived.Test.YtddnnljfgfcplaaGreatDoorExM
import Derived.Test.YtddnnljfgfcplaaGreatDoorRuCopyO
set_option maxRecDepth 100000
set_option maxHeartbeats 16000000
set_option linter.unusedVariables false
namespace Go.Proofs.YtddnnljfgfcplaaGreatDoor.Me
open Lib (hid)
open Go.RowKit Cv St Ru Dd Mb Ex
structure Mt where
 zone:Int
 start:Int
 dur:Int
 recs:Bool
 rule:Ru
 dates:List Int
 exc:List Int
structure MS where
 R:RS
 ad:Option Addr
 nd:Nat
 cd:Nat
 ae:Option Addr
 ne:Nat
 ce:Nat
def MS.val (S:MS) (m:Mt):Value:= .agg #[.int .i64 m.zone,.int .i64 m.start,.int .i64 m.dur,.bool m.recs,.int .i64 m.rule.freq,.int .i64 m.rule.itv,.int .i64 m.rule.cnt,.int .i64 m.rule.til,.int .i64 m.rule.wkst,.bool m.rule.ends,.slice S.R.a6 S.R.n6 S.R.c6,.slice S.R.a7 S.R.n7 S.R.c7,.slice S.R.a8 S.R.n8 S.R.c8,.slice S.R.a9 S.R.n9 S.R.c9,.slice S.R.a10 S.R.n10 S.R.c10,.slice S.R.a11 S.R.n11 S.R.c11,.slice S.R.a12 S.R.n12 S.R.c12,.slice S.R.a13 S.R.n13 S.R.c13,.slice S.R.a14 S.R.n14 S.R.c14,.slice S.ad S.nd S.cd,.slice S.ae S.ne S.ce]
structure MtAt (w:World) (S:MS) (m:Mt):Prop where
 rule:RuAt w S.R m.rule
 dates:IsAt w S.ad S.nd m.dates
 exc:IsAt w S.ae S.ne m.exc
 ld:S.nd<=9223372036854775807
 le:S.ne<=9223372036854775807
 dc:S.nd<=S.cd
 ec:S.ne<=S.ce
 zd:S.ad=none->S.cd=0
theorem MtAt.below {w v:World} {S:MS} {m:Mt} (h:MtAt w S m) (hb:Below w.heap.size w v):MtAt v S m:=⟨h.rule.below hb,h.dates.below hb,h.exc.below hb,h.ld,h.le,h.dc,h.ec,h.zd⟩
def zeroS:RS:=⟨none,0,0,none,0,0,none,0,0,none,0,0,none,0,0,none,0,0,none,0,0,none,0,0,none,0,0⟩
def zeroR:Ru:=⟨0,0,0,0,0,false,[],[],[],[],[],[],[],[],[]⟩
theorem zero_at (w:World):RuAt w zeroS zeroR:=
 ⟨IsAt.nil _ _,IsAt.nil _ _,IsAt.nil _ _,IsAt.nil _ _,DyAt.nil _ _,IsAt.nil _ _,IsAt.nil _ _,IsAt.nil _ _,IsAt.nil _ _,Nat.zero_le _,Nat.zero_le _,Nat.zero_le _,Nat.zero_le _,Nat.zero_le _,Nat.zero_le _,Nat.zero_le _,Nat.zero_le _,Nat.zero_le _⟩
def ruleB (m:Mt):Bool:=if m.recs=true then mayR m.rule else decide (m.rule=zeroR)
def mayM (m:Mt):Bool:=decide (0<=m.zone/\m.zone<=15)&&(innerB m.start&&(decide (1<=m.dur/\m.dur<=2678400)&&(ruleB m&&(datesB m.dates&&datesB m.exc))))
theorem cells21 {w:World} {g:Nat} {a0 a1 a2 a3 a4 a5 a6 a7 a8 a9 a10 a11 a12 a13 a14 a15 a16 a17 a18 a19 a20:Value} (X:Box w g #[a0,a1,a2,a3,a4,a5,a6,a7,a8,a9,a10,a11,a12,a13,a14,a15,a16,a17,a18,a19,a20]):w.cell? ⟨g,0,none⟩=some a0/\w.cell? ⟨g,1,none⟩=some a1/\w.cell? ⟨g,2,none⟩=some a2/\w.cell? ⟨g,3,none⟩=some a3/\w.cell? ⟨g,4,none⟩=some a4/\w.cell? ⟨g,5,none⟩=some a5/\w.cell? ⟨g,6,none⟩=some a6/\w.cell? ⟨g,7,none⟩=some a7/\w.cell? ⟨g,8,none⟩=some a8/\w.cell? ⟨g,9,none⟩=some a9/\w.cell? ⟨g,10,none⟩=some a10/\w.cell? ⟨g,11,none⟩=some a11/\w.cell? ⟨g,12,none⟩=some a12/\w.cell? ⟨g,13,none⟩=some a13/\w.cell? ⟨g,14,none⟩=some a14/\w.cell? ⟨g,15,none⟩=some a15/\w.cell? ⟨g,16,none⟩=some a16/\w.cell? ⟨g,17,none⟩=some a17/\w.cell? ⟨g,18,none⟩=some a18/\w.cell? ⟨g,19,none⟩=some a19/\w.cell? ⟨g,20,none⟩=some a20:=
 ⟨X.at_ 0 _ rfl,X.at_ 1 _ rfl,X.at_ 2 _ rfl,X.at_ 3 _ rfl,X.at_ 4 _ rfl,X.at_ 5 _ rfl,X.at_ 6 _ rfl,X.at_ 7 _ rfl,X.at_ 8 _ rfl,X.at_ 9 _ rfl,X.at_ 10 _ rfl,X.at_ 11 _ rfl,X.at_ 12 _ rfl,X.at_ 13 _ rfl,X.at_ 14 _ rfl,X.at_ 15 _ rfl,X.at_ 16 _ rfl,X.at_ 17 _ rfl,X.at_ 18 _ rfl,X.at_ 19 _ rfl,X.at_ 20 _ rfl⟩
theorem info_mt:(Tryz.prog.info? 27).map (·.size)=some 21:=by kernel_rfl
theorem load27 {ops:Array Oper} {rest:List Oper} {op:Oper} {a:Act} {w:World} {Q:Exit->Act->World->Prop} (hgd:op.guard=none) (x:Operand) (ho:op.op= .load 27 x) (g:Nat) (hx:a.eval x= .pointer (some ⟨g,0,none⟩)) (cs:Array Value) (X:Box w g cs) (hn:cs.size=21)
  (h:wpList Tryz.prog ops Q rest (a.put op.dst (.agg cs)) w):wpList Tryz.prog ops Q (op::rest) a w:=
 wpList_load_mid hgd 27 x ho g 0 hx cs.toList _ (fun j v hv=>by rw[Nat.zero_add];exact X.2 j v (by simpa using hv)) Tryz.underlying27 rfl (by rw[info_mt];simp[hn]) (by simpa using h)
theorem mayRule_is (w:World) (S:MS) (m:Mt) (x:Bool) (h:MtAt w S m) (hx:ruleB m=x):
  Calls Tryz.prog 41 #[S.val m] w fun e w'=>e= .returned (.bool x)/\Below w.heap.size w w':=by
 have RA:=hid h.rule
 have HX:=hid hx
 clear h hx
 obtain⟨⟨ra6,rn6,rc6,ra7,rn7,rc7,ra8,rn8,rc8,ra9,rn9,rc9,ra10,rn10,rc10,ra11,rn11,rc11,ra12,rn12,rc12,ra13,rn13,rc13,ra14,rn14,rc14⟩,ad,nd,cd,ae,ne,ce⟩:=S
 obtain⟨zo,st,du,re,⟨rfreq,ritv,rcnt,rtil,rwkst,rends,rmon,rweek,ryday,rmday,rday,rhour,rminu,rsec,rpos⟩,dl,el⟩:=m
 show Calls Tryz.prog 41 #[.agg #[.int .i64 zo,.int .i64 st,.int .i64 du,.bool re,.int .i64 rfreq,.int .i64 ritv,.int .i64 rcnt,.int .i64 rtil,.int .i64 rwkst,.bool rends,.slice ra6 rn6 rc6,.slice ra7 rn7 rc7,.slice ra8 rn8 rc8,.slice ra9 rn9 rc9,.slice ra10 rn10 rc10,.slice ra11 rn11 rc11,.slice ra12 rn12 rc12,.slice ra13 rn13 rc13,.slice ra14 rn14 rc14,.slice ad nd cd,.slice ae ne ce]] w _
 go_enter Tryz.func41,Tryz.ntmps41
 go_upto_region 1 with fail
 obtain⟨B0,X0⟩:=box_new w #[.int .i64 zo,.int .i64 st,.int .i64 du,.bool re,.int .i64 rfreq,.int .i64 ritv,.int .i64 rcnt,.int .i64 rtil,.int .i64 rwkst,.bool rends,.slice ra6 rn6 rc6,.slice ra7 rn7 rc7,.slice ra8 rn8 rc8,.slice ra9 rn9 rc9,.slice ra10 rn10 rc10,.slice ra11 rn11 rc11,.slice ra12 rn12 rc12,.slice ra13 rn13 rc13,.slice ra14 rn14 rc14,.slice ad nd cd,.slice ae ne ce] 27
 generalize w.alloc _=w0 at *
 have RA:=hid (show RuAt w ⟨ra6,rn6,rc6,ra7,rn7,rc7,ra8,rn8,rc8,ra9,rn9,rc9,ra10,rn10,rc10,ra11,rn11,rc11,ra12,rn12,rc12,ra13,rn13,rc13,ra14,rn14,rc14⟩ ⟨rfreq,ritv,rcnt,rtil,rwkst,rends,rmon,rweek,ryday,rmday,rday,rhour,rminu,rsec,rpos⟩ from RA.out)
 cases re
 ·have H:=hid (show decide (⟨rfreq,ritv,rcnt,rtil,rwkst,rends,rmon,rweek,ryday,rmday,rday,rhour,rminu,rsec,rpos⟩=zeroR)=x by rw[<-HX.out];rfl)
  obtain⟨mz0,mz1,mz2,mz3,mz4,mz5,mz6,mz7,mz8,mz9,mz10,mz11,mz12,mz13,mz14,mz15,mz16,mz17,mz18,mz19,mz20⟩:=cells21 X0;clear mz0 mz1 mz2 mz19 mz20 HX
  as_aux_lemma=>
   go_wp2_with fail;refine(same_is _ ⟨ra6,rn6,rc6,ra7,rn7,rc7,ra8,rn8,rc8,ra9,rn9,rc9,ra10,rn10,rc10,ra11,rn11,rc11,ra12,rn12,rc12,ra13,rn13,rc13,ra14,rn14,rc14⟩ zeroS ⟨rfreq,ritv,rcnt,rtil,rwkst,rends,rmon,rweek,ryday,rmday,rday,rhour,rminu,rsec,rpos⟩ zeroR x (RA.out.below B0) (zero_at _) H.out).mono ?_
   as_aux_lemma=>
    rintro e w1 ⟨rfl,b1⟩;go_wp2;go_ret;exact⟨rfl,B0.trans (b1.mono B0.size)⟩
 ·have H:=hid (show mayR ⟨rfreq,ritv,rcnt,rtil,rwkst,rends,rmon,rweek,ryday,rmday,rday,rhour,rminu,rsec,rpos⟩=x by rw[<-HX.out];rfl)
  obtain⟨mz0,mz1,mz2,mz3,mz4,mz5,mz6,mz7,mz8,mz9,mz10,mz11,mz12,mz13,mz14,mz15,mz16,mz17,mz18,mz19,mz20⟩:=cells21 X0;clear mz0 mz1 mz2 mz19 mz20 HX
  as_aux_lemma=>
   go_wp2_with fail;refine(may_r _ ⟨ra6,rn6,rc6,ra7,rn7,rc7,ra8,rn8,rc8,ra9,rn9,rc9,ra10,rn10,rc10,ra11,rn11,rc11,ra12,rn12,rc12,ra13,rn13,rc13,ra14,rn14,rc14⟩ ⟨rfreq,ritv,rcnt,rtil,rwkst,rends,rmon,rweek,ryday,rmday,rday,rhour,rminu,rsec,rpos⟩ x (RA.out.below B0) H.out).mono ?_
   as_aux_lemma=>
    rintro e w1 ⟨rfl,b1⟩;go_wp2;go_ret;exact⟨rfl,B0.trans (b1.mono B0.size)⟩
theorem mayM_is (w:World) (S:MS) (m:Mt) (x:Bool) (h:MtAt w S m) (hx:mayM m=x):
  Calls Tryz.prog 13 #[S.val m] w fun e w'=>e= .returned (.bool x)/\Below w.heap.size w w':=by
 have HA:=hid h
 obtain⟨p1,e1⟩:∃p,decide (0<=m.zone/\m.zone<=15)=p:=⟨_,rfl⟩
 obtain⟨p2,e2⟩:∃p,innerB m.start=p:=⟨_,rfl⟩
 obtain⟨p3,e3⟩:∃p,decide (1<=m.dur/\m.dur<=2678400)=p:=⟨_,rfl⟩
 obtain⟨p4,e4⟩:∃p,ruleB m=p:=⟨_,rfl⟩
 obtain⟨p5,e5⟩:∃p,datesB m.dates=p:=⟨_,rfl⟩
 obtain⟨p6,e6⟩:∃p,datesB m.exc=p:=⟨_,rfl⟩
 have HX:=hid (show (p1&&(p2&&(p3&&(p4&&(p5&&p6)))))=x by rw[<-hx,<-e1,<-e2,<-e3,<-e4,<-e5,<-e6];rfl)
 have E1:=hid e1;have E2:=hid e2;have E3:=hid e3;have E4:=hid e4;have E5:=hid e5;have E6:=hid e6
 clear h hx e1 e2 e3 e4 e5 e6
 obtain⟨⟨ra6,rn6,rc6,ra7,rn7,rc7,ra8,rn8,rc8,ra9,rn9,rc9,ra10,rn10,rc10,ra11,rn11,rc11,ra12,rn12,rc12,ra13,rn13,rc13,ra14,rn14,rc14⟩,ad,nd,cd,ae,ne,ce⟩:=S
 obtain⟨zo,st,du,re,⟨rfreq,ritv,rcnt,rtil,rwkst,rends,rmon,rweek,ryday,rmday,rday,rhour,rminu,rsec,rpos⟩,dl,el⟩:=m
 show Calls Tryz.prog 13 #[.agg #[.int .i64 zo,.int .i64 st,.int .i64 du,.bool re,.int .i64 rfreq,.int .i64 ritv,.int .i64 rcnt,.int .i64 rtil,.int .i64 rwkst,.bool rends,.slice ra6 rn6 rc6,.slice ra7 rn7 rc7,.slice ra8 rn8 rc8,.slice ra9 rn9 rc9,.slice ra10 rn10 rc10,.slice ra11 rn11 rc11,.slice ra12 rn12 rc12,.slice ra13 rn13 rc13,.slice ra14 rn14 rc14,.slice ad nd cd,.slice ae ne ce]] w _
 go_enter Tryz.func13,Tryz.ntmps13
 go_upto_region 1 with fail
 obtain⟨B0,X0⟩:=box_new w #[.int .i64 zo,.int .i64 st,.int .i64 du,.bool re,.int .i64 rfreq,.int .i64 ritv,.int .i64 rcnt,.int .i64 rtil,.int .i64 rwkst,.bool rends,.slice ra6 rn6 rc6,.slice ra7 rn7 rc7,.slice ra8 rn8 rc8,.slice ra9 rn9 rc9,.slice ra10 rn10 rc10,.slice ra11 rn11 rc11,.slice ra12 rn12 rc12,.slice ra13 rn13 rc13,.slice ra14 rn14 rc14,.slice ad nd cd,.slice ae ne ce] 27
 generalize w.alloc _=w0 at *
 obtain⟨mz0,mz1,mz2,mz3,mz4,mz5,mz6,mz7,mz8,mz9,mz10,mz11,mz12,mz13,mz14,mz15,mz16,mz17,mz18,mz19,mz20⟩:=cells21 X0
 go_wp2_with fail
 refine(within_is zo 0 15 p1 E1.out _).mono ?_
 rintro e w' ⟨rfl,rfl⟩
 cases p1
 ·have N:=hid (show false=x by rw[<-HX.out];rfl)
  go_wp2;go_ret;exact⟨ret_bool N.out,B0⟩
 ·as_aux_lemma=>
   go_wp2_with fail;refine(mayMoment_is st p2 E2.out _).mono ?_;rintro e w' ⟨rfl,rfl⟩;cases p2
   ·have N:=hid (show false=x by rw[<-HX.out];rfl)
    go_wp2;go_ret;exact⟨ret_bool N.out,B0⟩
   ·as_aux_lemma=>
     go_wp2_with fail;refine(within_is du 1 2678400 p3 E3.out _).mono ?_;rintro e w' ⟨rfl,rfl⟩;cases p3
     ·have N:=hid (show false=x by rw[<-HX.out];rfl)
      go_wp2;go_ret;exact⟨ret_bool N.out,B0⟩
     ·as_aux_lemma=>
       go_upto_region 3 with fail
       as_aux_lemma=>
        go_wp2_with (refine load27 rfl _ rfl _ rfl _ X0 rfl ?_)
        go_wp2_with fail;refine(mayRule_is _ ⟨⟨ra6,rn6,rc6,ra7,rn7,rc7,ra8,rn8,rc8,ra9,rn9,rc9,ra10,rn10,rc10,ra11,rn11,rc11,ra12,rn12,rc12,ra13,rn13,rc13,ra14,rn14,rc14⟩,ad,nd,cd,ae,ne,ce⟩ ⟨zo,st,du,re,⟨rfreq,ritv,rcnt,rtil,rwkst,rends,rmon,rweek,ryday,rmday,rday,rhour,rminu,rsec,rpos⟩,dl,el⟩ p4 (HA.out.below B0) E4.out).mono ?_
        as_aux_lemma=>
         rintro e w1 ⟨rfl,b1⟩;have B1:=B0.trans (b1.mono B0.size);have X1:=X0.below b1;clear mz0 mz1 mz2 mz3 mz4 mz5 mz6 mz7 mz8 mz9 mz10 mz11 mz12 mz13 mz14 mz15 mz16 mz17 mz18 mz19 mz20;obtain⟨mz0,mz1,mz2,mz3,mz4,mz5,mz6,mz7,mz8,mz9,mz10,mz11,mz12,mz13,mz14,mz15,mz16,mz17,mz18,mz19,mz20⟩:=cells21 X1;clear B0 X0 b1;cases p4
         ·have N:=hid (show false=x by rw[<-HX.out];rfl)
          go_wp2;go_ret;exact⟨ret_bool N.out,B1⟩
         ·as_aux_lemma=>
           have DD:=hid (HA.out.below B1).dates;have EE:=hid (HA.out.below B1).exc;go_wp2_with fail;refine(mayMoments_is _ ad nd cd dl p5 DD.out HA.out.ld E5.out).mono ?_;rintro e w' ⟨rfl,rfl⟩;cases p5
           ·have N:=hid (show false=x by rw[<-HX.out];rfl)
            go_wp2;go_ret;exact⟨ret_bool N.out,B1⟩
           ·as_aux_lemma=>
             go_wp2_with fail;refine(mayMoments_is _ ae ne ce el p6 EE.out HA.out.le E6.out).mono ?_;rintro e w' ⟨rfl,rfl⟩;have N:=hid (show p6=x by rw[<-HX.out];rfl);go_wp2;go_ret;exact⟨ret_bool N.out,B1⟩
end Go.Proofs.YtddnnljfgfcplaaGreatDoor.Me
