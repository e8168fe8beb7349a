/- The walks of vokref6.Cost, voklaw8.Light and expand.Count. What chapter 8's examples fix. voklaw8.first answers true. -/
import Derived.Test.YtchpjhjjakckbaaGreatDoorRuBx
import Derived.Test.YtchpjhjjakckbaaGreatDoorMbL
import Derived.Test.YtchpjhjjakckbaaGreatDoorRpZ
import Derived.Test.YtchpjhjjakckbaaGreatDoorMbIn
import Derived.Test.YtchpjhjjakckbaaGreatDoorExH
import Derived.Test.YtchpjhjjakckbaaGreatDoorMbM
import Derived.Test.YtchpjhjjakckbaaGreatDoorExM
set_option linter.unusedVariables false
namespace Go.Proofs.YtchpjhjjakckbaaGreatDoor.Ex
open Go.RowKit Cv St Ru Dd Mb
set_option maxRecDepth 100000 in
set_option maxHeartbeats 16000000 in
theorem cost8_is (w:World) (S:RS) (r:Ru) (start days:Int) (h:RuAt w S r) (hm:mayR r=true):
  Calls Tryz.prog 50 #[S.val r,.int .i64 start,.int .i64 days] w fun e w'=>(∃n,e= .returned (.int .i64 n))∧Below w.heap.size w w':=by
 have RA:=Lib.hid h
 have HM:=Lib.hid hm
 clear h hm
 obtain⟨ra6,rn6,rc6,ra7,rn7,rc7,ra8,rn8,rc8,ra9,rn9,rc9,ra10,rn10,rc10,ra11,rn11,rc11,ra12,rn12,rc12,ra13,rn13,rc13,ra14,rn14,rc14⟩:=S
 obtain⟨rfreq,ritv,rcnt,rtil,rwkst,rends,rmon,rweek,ryday,rmday,rday,rhour,rminu,rsec,rpos⟩:=r
 show Calls Tryz.prog 50 #[.agg #[.int .i64 rfreq,.int .i64 ritv,.int .i64 rcnt,.int .i64 rtil,.int .i64 rwkst,.bool rends,.slice ra6 rn6 rc6,.slice ra7 rn7 rc7,.slice ra8 rn8 rc8,.slice ra9 rn9 rc9,.slice ra10 rn10 rc10,.slice ra11 rn11 rc11,.slice ra12 rn12 rc12,.slice ra13 rn13 rc13,.slice ra14 rn14 rc14],.int .i64 start,.int .i64 days] w _
 go_enter Tryz.func50,Tryz.ntmps50
 go_upto_region 1 with fail
 obtain⟨B0,Xr0⟩:=box_new w #[.int .i64 rfreq,.int .i64 ritv,.int .i64 rcnt,.int .i64 rtil,.int .i64 rwkst,.bool rends,.slice ra6 rn6 rc6,.slice ra7 rn7 rc7,.slice ra8 rn8 rc8,.slice ra9 rn9 rc9,.slice ra10 rn10 rc10,.slice ra11 rn11 rc11,.slice ra12 rn12 rc12,.slice ra13 rn13 rc13,.slice ra14 rn14 rc14] 25
 generalize w.alloc _=w0 at *
 obtain⟨rz0,rz1,rz2,rz3,rz4,rz5,rz6,rz7,rz8,rz9,rz10,rz11,rz12,rz13,rz14⟩:=cells15 Xr0
 go_wp2_with fail
 refine(times7_is _ ⟨ra6,rn6,rc6,ra7,rn7,rc7,ra8,rn8,rc8,ra9,rn9,rc9,ra10,rn10,rc10,ra11,rn11,rc11,ra12,rn12,rc12,ra13,rn13,rc13,ra14,rn14,rc14⟩ ⟨rfreq,ritv,rcnt,rtil,rwkst,rends,rmon,rweek,ryday,rmday,rday,rhour,rminu,rsec,rpos⟩ start (RA.out.below B0) HM.out).mono ?_
 rintro e w1 ⟨A1,n1,p1,A2,n2,p2,A3,n3,p3,rfl,o1,o2,o3,b1⟩
 clear rz0 rz1 rz2 rz3 rz4 rz5 rz6 rz7 rz8 rz9 rz10 rz11 rz12 rz13 rz14
 have B1:=B0.trans (b1.mono B0.size)
 have Xr1:=Xr0.below b1
 clear B0 Xr0
 clear b1
 obtain⟨rz0,rz1,rz2,rz3,rz4,rz5,rz6,rz7,rz8,rz9,rz10,rz11,rz12,rz13,rz14⟩:=cells15 Xr1
 go_wp2
 all_goals
  go_ret
  exact⟨⟨_,rfl⟩,B1⟩
set_option maxRecDepth 100000 in
set_option maxHeartbeats 16000000 in
theorem light8_is (w:World) (S:RS) (r:Ru) (start end_:Int) (h:RuIn w S r):
  Calls Tryz.prog 37 #[S.val r,.int .i64 start,.int .i64 end_] w (LightIs w (fewB S)):=by
 have HK:=Lib.hid h
 obtain⟨x,hx⟩:∃x,fewB S=x:=⟨_,rfl⟩
 have X1:=Lib.hid hx
 have RAF:=Lib.hid (fun (e:x=true)=>h.few (hx.trans e))
 obtain⟨m,hm⟩:∃m,mayR r=m:=⟨_,rfl⟩
 have HM:=Lib.hid hm
 obtain⟨a,ha⟩:∃m,St.may start=m:=⟨_,rfl⟩
 obtain⟨b,hb⟩:∃m,St.may end_=m:=⟨_,rfl⟩
 have HA:=Lib.hid ha
 have HB:=Lib.hid hb
 rw[hx]
 clear h hx hm ha hb
 obtain⟨ra6,rn6,rc6,ra7,rn7,rc7,ra8,rn8,rc8,ra9,rn9,rc9,ra10,rn10,rc10,ra11,rn11,rc11,ra12,rn12,rc12,ra13,rn13,rc13,ra14,rn14,rc14⟩:=S
 obtain⟨rfreq,ritv,rcnt,rtil,rwkst,rends,rmon,rweek,ryday,rmday,rday,rhour,rminu,rsec,rpos⟩:=r
 show Calls Tryz.prog 37 #[.agg #[.int .i64 rfreq,.int .i64 ritv,.int .i64 rcnt,.int .i64 rtil,.int .i64 rwkst,.bool rends,.slice ra6 rn6 rc6,.slice ra7 rn7 rc7,.slice ra8 rn8 rc8,.slice ra9 rn9 rc9,.slice ra10 rn10 rc10,.slice ra11 rn11 rc11,.slice ra12 rn12 rc12,.slice ra13 rn13 rc13,.slice ra14 rn14 rc14],.int .i64 start,.int .i64 end_] w _
 go_enter Tryz.func37,Tryz.ntmps37
 go_upto_region 1 with fail
 obtain⟨B0,Xr0⟩:=box_new w #[.int .i64 rfreq,.int .i64 ritv,.int .i64 rcnt,.int .i64 rtil,.int .i64 rwkst,.bool rends,.slice ra6 rn6 rc6,.slice ra7 rn7 rc7,.slice ra8 rn8 rc8,.slice ra9 rn9 rc9,.slice ra10 rn10 rc10,.slice ra11 rn11 rc11,.slice ra12 rn12 rc12,.slice ra13 rn13 rc13,.slice ra14 rn14 rc14] 25
 generalize w.alloc _=w0 at *
 obtain⟨rz0,rz1,rz2,rz3,rz4,rz5,rz6,rz7,rz8,rz9,rz10,rz11,rz12,rz13,rz14⟩:=cells15 Xr0
 go_wp2_with fail
 refine(few_is _ ⟨ra6,rn6,rc6,ra7,rn7,rc7,ra8,rn8,rc8,ra9,rn9,rc9,ra10,rn10,rc10,ra11,rn11,rc11,ra12,rn12,rc12,ra13,rn13,rc13,ra14,rn14,rc14⟩ ⟨rfreq,ritv,rcnt,rtil,rwkst,rends,rmon,rweek,ryday,rmday,rday,rhour,rminu,rsec,rpos⟩ x HK.out.k6 HK.out.k7 HK.out.k8 HK.out.k9 HK.out.k10 HK.out.k11 HK.out.k12 HK.out.k13 HK.out.k14 X1.out).mono ?_
 rintro e w1 ⟨rfl,b1⟩
 clear rz0 rz1 rz2 rz3 rz4 rz5 rz6 rz7 rz8 rz9 rz10 rz11 rz12 rz13 rz14
 have B1:=B0.trans (b1.mono B0.size)
 have Xr1:=Xr0.below b1
 clear B0 Xr0
 clear b1
 cases x
 ·obtain⟨rz0,rz1,rz2,rz3,rz4,rz5,rz6,rz7,rz8,rz9,rz10,rz11,rz12,rz13,rz14⟩:=cells15 Xr1
  go_wp2_with fail
  refine(few_is _ ⟨ra6,rn6,rc6,ra7,rn7,rc7,ra8,rn8,rc8,ra9,rn9,rc9,ra10,rn10,rc10,ra11,rn11,rc11,ra12,rn12,rc12,ra13,rn13,rc13,ra14,rn14,rc14⟩ ⟨rfreq,ritv,rcnt,rtil,rwkst,rends,rmon,rweek,ryday,rmday,rday,rhour,rminu,rsec,rpos⟩ false HK.out.k6 HK.out.k7 HK.out.k8 HK.out.k9 HK.out.k10 HK.out.k11 HK.out.k12 HK.out.k13 HK.out.k14 X1.out).mono ?_
  rintro e w2 ⟨rfl,b2⟩
  clear rz0 rz1 rz2 rz3 rz4 rz5 rz6 rz7 rz8 rz9 rz10 rz11 rz12 rz13 rz14
  have B2:=B1.trans (b2.mono B1.size)
  have Xr2:=Xr1.below b2
  clear B1 Xr1
  clear b2
  go_wp2
  go_ret
  exact⟨⟨false,rfl,fun e=>e⟩,B2⟩
 ·have RA:=Lib.hid (RAF.out rfl)
  clear RAF
  obtain⟨rz0,rz1,rz2,rz3,rz4,rz5,rz6,rz7,rz8,rz9,rz10,rz11,rz12,rz13,rz14⟩:=cells15 Xr1
  go_wp2_with fail
  refine(may_r _ ⟨ra6,rn6,rc6,ra7,rn7,rc7,ra8,rn8,rc8,ra9,rn9,rc9,ra10,rn10,rc10,ra11,rn11,rc11,ra12,rn12,rc12,ra13,rn13,rc13,ra14,rn14,rc14⟩ ⟨rfreq,ritv,rcnt,rtil,rwkst,rends,rmon,rweek,ryday,rmday,rday,rhour,rminu,rsec,rpos⟩ m (RA.out.below B1) HM.out).mono ?_
  rintro e w2 ⟨rfl,b2⟩
  clear rz0 rz1 rz2 rz3 rz4 rz5 rz6 rz7 rz8 rz9 rz10 rz11 rz12 rz13 rz14
  have B2:=B1.trans (b2.mono B1.size)
  have Xr2:=Xr1.below b2
  clear B1 Xr1
  clear b2
  cases m
  ·obtain⟨rz0,rz1,rz2,rz3,rz4,rz5,rz6,rz7,rz8,rz9,rz10,rz11,rz12,rz13,rz14⟩:=cells15 Xr2
   go_wp2_with fail
   refine(few_is _ ⟨ra6,rn6,rc6,ra7,rn7,rc7,ra8,rn8,rc8,ra9,rn9,rc9,ra10,rn10,rc10,ra11,rn11,rc11,ra12,rn12,rc12,ra13,rn13,rc13,ra14,rn14,rc14⟩ ⟨rfreq,ritv,rcnt,rtil,rwkst,rends,rmon,rweek,ryday,rmday,rday,rhour,rminu,rsec,rpos⟩ true HK.out.k6 HK.out.k7 HK.out.k8 HK.out.k9 HK.out.k10 HK.out.k11 HK.out.k12 HK.out.k13 HK.out.k14 X1.out).mono ?_
   rintro e w3 ⟨rfl,b3⟩
   clear rz0 rz1 rz2 rz3 rz4 rz5 rz6 rz7 rz8 rz9 rz10 rz11 rz12 rz13 rz14
   have B3:=B2.trans (b3.mono B2.size)
   have Xr3:=Xr2.below b3
   clear B2 Xr2
   clear b3
   go_wp2
   go_ret
   exact⟨⟨true,rfl,fun e=>rfl⟩,B3⟩
  ·cases a
   ·go_wp2_with fail
    refine(may_no start _ HA.out).mono ?_
    rintro e w' ⟨rfl,rfl⟩
    obtain⟨rz0,rz1,rz2,rz3,rz4,rz5,rz6,rz7,rz8,rz9,rz10,rz11,rz12,rz13,rz14⟩:=cells15 Xr2
    go_wp2_with fail
    refine(few_is _ ⟨ra6,rn6,rc6,ra7,rn7,rc7,ra8,rn8,rc8,ra9,rn9,rc9,ra10,rn10,rc10,ra11,rn11,rc11,ra12,rn12,rc12,ra13,rn13,rc13,ra14,rn14,rc14⟩ ⟨rfreq,ritv,rcnt,rtil,rwkst,rends,rmon,rweek,ryday,rmday,rday,rhour,rminu,rsec,rpos⟩ true HK.out.k6 HK.out.k7 HK.out.k8 HK.out.k9 HK.out.k10 HK.out.k11 HK.out.k12 HK.out.k13 HK.out.k14 X1.out).mono ?_
    rintro e w3 ⟨rfl,b3⟩
    clear rz0 rz1 rz2 rz3 rz4 rz5 rz6 rz7 rz8 rz9 rz10 rz11 rz12 rz13 rz14
    have B3:=B2.trans (b3.mono B2.size)
    have Xr3:=Xr2.below b3
    clear B2 Xr2
    clear b3
    go_wp2
    go_ret
    exact⟨⟨true,rfl,fun e=>rfl⟩,B3⟩
   ·go_wp2_with fail
    refine(may_yes start _ HA.out).mono ?_
    rintro e w' ⟨rfl,rfl⟩
    cases b
    ·go_wp2_with fail
     refine(may_no end_ _ HB.out).mono ?_
     rintro e w' ⟨rfl,rfl⟩
     obtain⟨rz0,rz1,rz2,rz3,rz4,rz5,rz6,rz7,rz8,rz9,rz10,rz11,rz12,rz13,rz14⟩:=cells15 Xr2
     go_wp2_with fail
     refine(few_is _ ⟨ra6,rn6,rc6,ra7,rn7,rc7,ra8,rn8,rc8,ra9,rn9,rc9,ra10,rn10,rc10,ra11,rn11,rc11,ra12,rn12,rc12,ra13,rn13,rc13,ra14,rn14,rc14⟩ ⟨rfreq,ritv,rcnt,rtil,rwkst,rends,rmon,rweek,ryday,rmday,rday,rhour,rminu,rsec,rpos⟩ true HK.out.k6 HK.out.k7 HK.out.k8 HK.out.k9 HK.out.k10 HK.out.k11 HK.out.k12 HK.out.k13 HK.out.k14 X1.out).mono ?_
     rintro e w3 ⟨rfl,b3⟩
     clear rz0 rz1 rz2 rz3 rz4 rz5 rz6 rz7 rz8 rz9 rz10 rz11 rz12 rz13 rz14
     have B3:=B2.trans (b3.mono B2.size)
     have Xr3:=Xr2.below b3
     clear B2 Xr2
     clear b3
     go_wp2
     go_ret
     exact⟨⟨true,rfl,fun e=>rfl⟩,B3⟩
    ·go_wp2_with fail
     refine(may_yes end_ _ HB.out).mono ?_
     rintro e w' ⟨rfl,rfl⟩
     have s1:=of_decide_eq_true HA.out
     have s2:=of_decide_eq_true HB.out
     by_cases c1:end_≤start
     ·have t1:decide (end_≤start)=true:=decide_eq_true c1
      obtain⟨rz0,rz1,rz2,rz3,rz4,rz5,rz6,rz7,rz8,rz9,rz10,rz11,rz12,rz13,rz14⟩:=cells15 Xr2
      go_wp2_with fail
      refine(few_is _ ⟨ra6,rn6,rc6,ra7,rn7,rc7,ra8,rn8,rc8,ra9,rn9,rc9,ra10,rn10,rc10,ra11,rn11,rc11,ra12,rn12,rc12,ra13,rn13,rc13,ra14,rn14,rc14⟩ ⟨rfreq,ritv,rcnt,rtil,rwkst,rends,rmon,rweek,ryday,rmday,rday,rhour,rminu,rsec,rpos⟩ true HK.out.k6 HK.out.k7 HK.out.k8 HK.out.k9 HK.out.k10 HK.out.k11 HK.out.k12 HK.out.k13 HK.out.k14 X1.out).mono ?_
      rintro e w3 ⟨rfl,b3⟩
      clear rz0 rz1 rz2 rz3 rz4 rz5 rz6 rz7 rz8 rz9 rz10 rz11 rz12 rz13 rz14
      have B3:=B2.trans (b3.mono B2.size)
      have Xr3:=Xr2.below b3
      clear B2 Xr2
      clear b3
      go_wp2
      go_ret
      exact⟨⟨true,rfl,fun e=>rfl⟩,B3⟩
     ·have t1:decide (end_≤start)=false:=decide_eq_false c1
      clear c1
      obtain⟨rz0,rz1,rz2,rz3,rz4,rz5,rz6,rz7,rz8,rz9,rz10,rz11,rz12,rz13,rz14⟩:=cells15 Xr2
      go_wp2_with fail
      refine(cost8_is _ ⟨ra6,rn6,rc6,ra7,rn7,rc7,ra8,rn8,rc8,ra9,rn9,rc9,ra10,rn10,rc10,ra11,rn11,rc11,ra12,rn12,rc12,ra13,rn13,rc13,ra14,rn14,rc14⟩ ⟨rfreq,ritv,rcnt,rtil,rwkst,rends,rmon,rweek,ryday,rmday,rday,rhour,rminu,rsec,rpos⟩ start _ (RA.out.below B2) HM.out).mono ?_
      rintro e w9 ⟨⟨n,rfl⟩,b9⟩
      go_wp2
      go_ret
      exact⟨⟨_,rfl,fun e=>rfl⟩,B2.trans (b9.mono B2.size)⟩
set_option maxRecDepth 100000 in
set_option maxHeartbeats 16000000 in
theorem count_is (w:World) (S:RS) (r:Ru) (start end_ most:Int) (l:List Int) (x:Int) (h:RuAt w S r) (hx:listR r start end_ most=(l,x)):
  Calls Tryz.prog 41 #[S.val r,.int .i64 start,.int .i64 end_,.int .i64 most] w fun e w'=>e= .returned (.tuple #[.int .i64 l.length,.int .i64 x])∧Below w.heap.size w w':=by
 have RA:=Lib.hid h
 have HX:=Lib.hid hx
 clear h hx
 obtain⟨ra6,rn6,rc6,ra7,rn7,rc7,ra8,rn8,rc8,ra9,rn9,rc9,ra10,rn10,rc10,ra11,rn11,rc11,ra12,rn12,rc12,ra13,rn13,rc13,ra14,rn14,rc14⟩:=S
 obtain⟨rfreq,ritv,rcnt,rtil,rwkst,rends,rmon,rweek,ryday,rmday,rday,rhour,rminu,rsec,rpos⟩:=r
 show Calls Tryz.prog 41 #[.agg #[.int .i64 rfreq,.int .i64 ritv,.int .i64 rcnt,.int .i64 rtil,.int .i64 rwkst,.bool rends,.slice ra6 rn6 rc6,.slice ra7 rn7 rc7,.slice ra8 rn8 rc8,.slice ra9 rn9 rc9,.slice ra10 rn10 rc10,.slice ra11 rn11 rc11,.slice ra12 rn12 rc12,.slice ra13 rn13 rc13,.slice ra14 rn14 rc14],.int .i64 start,.int .i64 end_,.int .i64 most] w _
 go_enter Tryz.func41,Tryz.ntmps41
 go_upto_region 1 with fail
 obtain⟨B0,Xr0⟩:=box_new w #[.int .i64 rfreq,.int .i64 ritv,.int .i64 rcnt,.int .i64 rtil,.int .i64 rwkst,.bool rends,.slice ra6 rn6 rc6,.slice ra7 rn7 rc7,.slice ra8 rn8 rc8,.slice ra9 rn9 rc9,.slice ra10 rn10 rc10,.slice ra11 rn11 rc11,.slice ra12 rn12 rc12,.slice ra13 rn13 rc13,.slice ra14 rn14 rc14] 25
 generalize w.alloc _=w0 at *
 obtain⟨rz0,rz1,rz2,rz3,rz4,rz5,rz6,rz7,rz8,rz9,rz10,rz11,rz12,rz13,rz14⟩:=cells15 Xr0
 go_wp2_with fail
 refine(list_is _ ⟨ra6,rn6,rc6,ra7,rn7,rc7,ra8,rn8,rc8,ra9,rn9,rc9,ra10,rn10,rc10,ra11,rn11,rc11,ra12,rn12,rc12,ra13,rn13,rc13,ra14,rn14,rc14⟩ ⟨rfreq,ritv,rcnt,rtil,rwkst,rends,rmon,rweek,ryday,rmday,rday,rhour,rminu,rsec,rpos⟩ start end_ most (l,x) (RA.out.below B0) HX.out).mono ?_
 rintro e w1 ⟨A,c,he,ia,b1⟩
 replace he:e= .returned (.tuple #[.slice A l.length c,.int .i64 x]):=he
 subst he
 clear rz0 rz1 rz2 rz3 rz4 rz5 rz6 rz7 rz8 rz9 rz10 rz11 rz12 rz13 rz14
 have B1:=B0.trans (b1.mono B0.size)
 have Xr1:=Xr0.below b1
 clear B0 Xr0
 clear b1 ia
 obtain⟨k,hk⟩:∃k,l.length=k:=⟨_,rfl⟩
 have HK9:=Lib.hid hk
 rw[hk]
 clear hk HX
 go_wp2
 go_ret2
 exact⟨by rw[HK9.out];rfl,B1⟩
end Go.Proofs.YtchpjhjjakckbaaGreatDoor.Ex
namespace Go.Proofs.YtchpjhjjakckbaaGreatDoor.Ex
open Cv St Ru Dd Mb
def exD:Ru:=⟨4,1,3,0,0,false,[],[],[],[],[],[],[],[],[]⟩
def exS:Ru:=⟨7,1,0,0,0,false,[],[],[],[],[],[],[],[],[]⟩
def txD:List UInt8:= [70,82,69,81,61,68,65,73,76,89,59,67,79,85,78,84,61,51]
def txS:List UInt8:= [70,82,69,81,61,83,69,67,79,78,68,76,89]
theorem itoa_3:Lib.itoa 3=[51]:=by
 unfold Lib.itoa
 rw[if_neg (by decide),show (3:Int).toNat=3 from rfl,Lib.decDigits_one (by decide)];rfl
theorem exD_may:mayR exD=true:=by decide +kernel
theorem exS_may:mayR exS=true:=by decide +kernel
theorem exS_text:ruText exS=txS:=by decide +kernel
theorem exD_text:ruText exD=txD:=by
 have f:fieldsP exD=[(0,freqW 4),(2,[51])]:=by
  unfold fieldsP exD
  simp only[itoa_3]
  rfl
 unfold ruText
 rw[f]
 decide
theorem exD_parse:ruParse txD=(exD,0,0):=by
 have h:=print_parse exD_may
 rw[exD_text] at h
 exact h
theorem exS_parse:ruParse txS=(exS,0,0):=by
 have h:=print_parse exS_may
 rw[exS_text] at h
 exact h
theorem ex8_a:St.parse [50,48,50,54,48,49,48,49,84,48,48,48,48,48,48]=(1767225600,0):=by decide +kernel
theorem ex8_b:St.parse [50,48,50,55,48,49,48,49,84,48,48,48,48,48,48]=(1798761600,0):=by decide +kernel
theorem exD_list:listR exD 1767225600 1798761600 10=([1767225600,1767312000,1767398400],0):=by
 have e:momL exD 1767225600 1767225600 1798761600=[1767225600,1767312000,1767398400]:=by
  have h:selL (hasM exD 1767225600) 1767225600 1767398401=[1767225600,1767312000,1767398400]:=by
   refine(sel_eq (by decide) fun x => ?_).symm
   have q:hasM exD 1767225600 x=hasM (dailyR 1) 1767225600 x:=less_count (r:=dailyR 1) (c:=3) (daily_may (by decide) (by decide)) exD_may
   rw[q,daily_has]
   constructor
   ·intro hx
    have hx:x=1767225600∨x=1767312000∨x=1767398400:=by simpa using hx
    have m:St.may x=true:=decide_eq_true (by omega)
    rw[daily_raw (by decide) (by decide) (by decide) m]
    refine⟨by omega,by omega,?_⟩
    rcases hx with rfl|rfl|rfl<;>decide
   ·rintro⟨a,b,c⟩
    have m:St.may x=true:=decide_eq_true (by omega)
    rw[daily_raw (by decide) (by decide) (by decide) m] at c
    simp only[Bool.and_eq_true,decide_eq_true_eq] at c
    have:x=1767225600∨x=1767312000∨x=1767398400:=by omega
    simpa using this
  unfold momL cutL
  rw[if_neg (by decide),show hiR exD 1798761600=1798761600 from rfl,←sel_cat (b:=1767398401) (by decide) (by decide),h]
  rfl
 unfold listR
 rw[if_neg (by decide +kernel),e]
 rfl
theorem exS_list:listR exS 1767225600 1798761600 10=([],10):=by
 have l:(selL (hasM exS 1767225600) 1767225600 1767225611).length=11:=by decide +kernel
 have e:(10:Int)<(momL exS 1767225600 1767225600 1798761600).length:=by
  unfold momL cutL
  rw[if_pos (by decide),show hiR exS 1798761600=1798761600 from rfl,←sel_cat (b:=1767225611) (by decide) (by decide),List.length_append,l]
  omega
 unfold listR
 rw[if_neg (by decide +kernel),if_pos e]
end Go.Proofs.YtchpjhjjakckbaaGreatDoor.Ex
namespace Go.Proofs.YtchpjhjjakckbaaGreatDoor.Ex
open Go.RowKit Cv St Ru Dd Mb
set_option maxRecDepth 100000 in
set_option maxHeartbeats 16000000 in
theorem threeI (w:World) (x y z:Int):IsAt (w.alloc (.cells #[.int .i64 x,.int .i64 y,.int .i64 z] 3)) (some ⟨w.heap.size,0,none⟩) 3 [x,y,z]:=
 ⟨rfl,fun _=>⟨w.heap.size,0,rfl,by simp,fun j hj=>by
  rcases(by omega:j=0∨j=1∨j=2) with rfl|rfl|rfl<;>simp[go_sem,iat]⟩⟩
set_option maxRecDepth 100000 in
set_option maxHeartbeats 16000000 in
theorem first8_is (w:World) (T:Tabs w):Calls Tryz.prog 36 #[] w fun e w'=>e= .returned (.bool true)∧Below w.heap.size w w':=by
 have TT:=Lib.hid T
 clear T
 show Calls Tryz.prog 36 #[] w _
 go_enter Tryz.func36,Tryz.ntmps36
 have B0:=Below.refl w.heap.size w
 go_wp2_with fail
 refine(parse_ok ⟨#[70,82,69,81,61,68,65,73,76,89,59,67,79,85,78,84,61,51]⟩ _ (TT.out.on B0) exD 0 0 exD_parse).mono ?_
 rintro e w1 ⟨⟨pa6,pn6,pc6,pa7,pn7,pc7,pa8,pn8,pc8,pa9,pn9,pc9,pa10,pn10,pc10,pa11,pn11,pc11,pa12,pn12,pc12,pa13,pn13,pc13,pa14,pn14,pc14⟩,he,hS,b1⟩
 replace he:e= .returned (.tuple #[.agg #[.int .i64 4,.int .i64 1,.int .i64 3,.int .i64 0,.int .i64 0,.bool false,.slice pa6 pn6 pc6,.slice pa7 pn7 pc7,.slice pa8 pn8 pc8,.slice pa9 pn9 pc9,.slice pa10 pn10 pc10,.slice pa11 pn11 pc11,.slice pa12 pn12 pc12,.slice pa13 pn13 pc13,.slice pa14 pn14 pc14],.int .i64 0,.int .i64 0]):=he
 subst he
 have B1:=B0.trans (b1.mono B0.size)
 clear B0
 clear b1
 go_upto_region 2 with fail
 obtain⟨b2,Xp2⟩:=box_new w1 #[.int .i64 4,.int .i64 1,.int .i64 3,.int .i64 0,.int .i64 0,.bool false,.slice pa6 pn6 pc6,.slice pa7 pn7 pc7,.slice pa8 pn8 pc8,.slice pa9 pn9 pc9,.slice pa10 pn10 pc10,.slice pa11 pn11 pc11,.slice pa12 pn12 pc12,.slice pa13 pn13 pc13,.slice pa14 pn14 pc14] 25
 have Rp2:=hS.below b2
 clear hS
 generalize w1.alloc (.cells #[.int .i64 4,.int .i64 1,.int .i64 3,.int .i64 0,.int .i64 0,.bool false,.slice pa6 pn6 pc6,.slice pa7 pn7 pc7,.slice pa8 pn8 pc8,.slice pa9 pn9 pc9,.slice pa10 pn10 pc10,.slice pa11 pn11 pc11,.slice pa12 pn12 pc12,.slice pa13 pn13 pc13,.slice pa14 pn14 pc14] 25)=w2 at *
 have B2:=B1.trans (b2.mono B1.size)
 clear B1
 clear b2
 go_wp2_with fail
 refine(parse_ok ⟨#[70,82,69,81,61,83,69,67,79,78,68,76,89]⟩ _ (TT.out.on B2) exS 0 0 exS_parse).mono ?_
 rintro e w3 ⟨⟨qa6,qn6,qc6,qa7,qn7,qc7,qa8,qn8,qc8,qa9,qn9,qc9,qa10,qn10,qc10,qa11,qn11,qc11,qa12,qn12,qc12,qa13,qn13,qc13,qa14,qn14,qc14⟩,he,hS,b3⟩
 replace he:e= .returned (.tuple #[.agg #[.int .i64 7,.int .i64 1,.int .i64 0,.int .i64 0,.int .i64 0,.bool false,.slice qa6 qn6 qc6,.slice qa7 qn7 qc7,.slice qa8 qn8 qc8,.slice qa9 qn9 qc9,.slice qa10 qn10 qc10,.slice qa11 qn11 qc11,.slice qa12 qn12 qc12,.slice qa13 qn13 qc13,.slice qa14 qn14 qc14],.int .i64 0,.int .i64 0]):=he
 subst he
 have B3:=B2.trans (b3.mono B2.size)
 have Xp3:=Xp2.below b3
 have Rp3:=Rp2.below b3
 clear B2 Xp2 Rp2
 clear b3
 go_upto_region 3 with fail
 obtain⟨b4,Xq4⟩:=box_new w3 #[.int .i64 7,.int .i64 1,.int .i64 0,.int .i64 0,.int .i64 0,.bool false,.slice qa6 qn6 qc6,.slice qa7 qn7 qc7,.slice qa8 qn8 qc8,.slice qa9 qn9 qc9,.slice qa10 qn10 qc10,.slice qa11 qn11 qc11,.slice qa12 qn12 qc12,.slice qa13 qn13 qc13,.slice qa14 qn14 qc14] 25
 have Rq4:=hS.below b4
 clear hS
 generalize w3.alloc (.cells #[.int .i64 7,.int .i64 1,.int .i64 0,.int .i64 0,.int .i64 0,.bool false,.slice qa6 qn6 qc6,.slice qa7 qn7 qc7,.slice qa8 qn8 qc8,.slice qa9 qn9 qc9,.slice qa10 qn10 qc10,.slice qa11 qn11 qc11,.slice qa12 qn12 qc12,.slice qa13 qn13 qc13,.slice qa14 qn14 qc14] 25)=w4 at *
 have B4:=B3.trans (b4.mono B3.size)
 have Xp4:=Xp3.below b4
 have Rp4:=Rp3.below b4
 clear B3 Xp3 Rp3
 clear b4
 go_wp2_with fail
 refine(sparse_take ⟨#[50,48,50,54,48,49,48,49,84,48,48,48,48,48,48]⟩ 1767225600 0 ex8_a (by decide) _ (TT.out.on B4)).mono ?_
 rintro e w5 ⟨rfl,b5⟩
 have B5:=B4.trans (b5.mono B4.size)
 have Xp5:=Xp4.below b5
 have Xq5:=Xq4.below b5
 have Rp5:=Rp4.below b5
 have Rq5:=Rq4.below b5
 clear B4 Xp4 Xq4 Rp4 Rq4
 clear b5
 go_wp2_with fail
 refine(sparse_take ⟨#[50,48,50,55,48,49,48,49,84,48,48,48,48,48,48]⟩ 1798761600 0 ex8_b (by decide) _ (TT.out.on B5)).mono ?_
 rintro e w6 ⟨rfl,b6⟩
 have B6:=B5.trans (b6.mono B5.size)
 have Xp6:=Xp5.below b6
 have Xq6:=Xq5.below b6
 have Rp6:=Rp5.below b6
 have Rq6:=Rq5.below b6
 clear B5 Xp5 Xq5 Rp5 Rq5
 clear b6
 obtain⟨pz0,pz1,pz2,pz3,pz4,pz5,pz6,pz7,pz8,pz9,pz10,pz11,pz12,pz13,pz14⟩:=cells15 Xp6
 go_wp2_with fail
 refine(list_is _ ⟨pa6,pn6,pc6,pa7,pn7,pc7,pa8,pn8,pc8,pa9,pn9,pc9,pa10,pn10,pc10,pa11,pn11,pc11,pa12,pn12,pc12,pa13,pn13,pc13,pa14,pn14,pc14⟩ exD 1767225600 1798761600 10 _ Rp6 exD_list).mono ?_
 rintro e w7 ⟨A1,c1,he,i7,b7⟩
 replace he:e= .returned (.tuple #[.slice A1 3 c1,.int .i64 0]):=he
 subst he
 clear pz0 pz1 pz2 pz3 pz4 pz5 pz6 pz7 pz8 pz9 pz10 pz11 pz12 pz13 pz14
 have B7:=B6.trans (b7.mono B6.size)
 have Xp7:=Xp6.below b7
 have Xq7:=Xq6.below b7
 have Rp7:=Rp6.below b7
 have Rq7:=Rq6.below b7
 clear B6 Xp6 Xq6 Rp6 Rq6
 clear b7
 have I1:=Lib.hid i7
 clear i7
 obtain⟨qz0,qz1,qz2,qz3,qz4,qz5,qz6,qz7,qz8,qz9,qz10,qz11,qz12,qz13,qz14⟩:=cells15 Xq7
 go_wp2_with fail
 refine(list_is _ ⟨qa6,qn6,qc6,qa7,qn7,qc7,qa8,qn8,qc8,qa9,qn9,qc9,qa10,qn10,qc10,qa11,qn11,qc11,qa12,qn12,qc12,qa13,qn13,qc13,qa14,qn14,qc14⟩ exS 1767225600 1798761600 10 _ Rq7 exS_list).mono ?_
 rintro e w8 ⟨A2,c2,he,i8,b8⟩
 replace he:e= .returned (.tuple #[.slice A2 0 c2,.int .i64 10]):=he
 subst he
 clear qz0 qz1 qz2 qz3 qz4 qz5 qz6 qz7 qz8 qz9 qz10 qz11 qz12 qz13 qz14
 have B8:=B7.trans (b8.mono B7.size)
 have Xp8:=Xp7.below b8
 have Xq8:=Xq7.below b8
 have Rp8:=Rp7.below b8
 have Rq8:=Rq7.below b8
 clear B7 Xp7 Xq7 Rp7 Rq7
 have I1:=Lib.hid (I1.out.below b8)
 clear b8
 clear i8
 go_wp2_with fail
 refine(ints_any _ A1 _ 3 c1 3 3 [1767225600,1767312000,1767398400] [1767225600,1767312000,1767398400] (I1.out.below (alloc_below _ _)) (threeI w8 _ _ _) (by decide) (by decide)).mono ?_
 rintro e w9 ⟨he,b9⟩
 have he:e= .returned (.bool true):=by rw[he];simp
 subst he
 have B9:=(B8.trans ((alloc_below w8 (.cells #[.int .i64 1767225600,.int .i64 1767312000,.int .i64 1767398400] 3)).mono B8.size)).trans (b9.mono (Nat.le_trans B8.size (alloc_below w8 (.cells #[.int .i64 1767225600,.int .i64 1767312000,.int .i64 1767398400] 3)).size))
 go_wp2
 go_ret
 exact⟨rfl,B9⟩
end Go.Proofs.YtchpjhjjakckbaaGreatDoor.Ex
