/- The walks of vokref6.Cost, voklaw8.Light and expand.Count. What chapter 8's examples fix. voklaw8.first answers true. -/
import Derived.Test.YtddnnljfgfcplaaGreatDoorMbG
import Derived.Test.YtddnnljfgfcplaaGreatDoorRuCopyO
import Derived.Test.YtddnnljfgfcplaaGreatDoorExH
set_option linter.unusedVariables false
namespace Go.Proofs.YtddnnljfgfcplaaGreatDoor.Ex
open Go.RowKit Cv St Ru Dd Mb
set_option maxRecDepth 100000 in
set_option maxHeartbeats 16000000 in
theorem cost8_is (w:World) (S:RS) (r:Ru) (start days:Int) (h:RuAt w S r) (hm:mayR r=true):
  Calls Tryz.prog 46 #[S.val r,.int .i64 start,.int .i64 days] w fun e w'=>(∃n,e= .returned (.int .i64 n))/\Below w.heap.size w w':=by
 have RA:=Lib.hid h
 have HM:=Lib.hid hm
 clear h hm
 obtain⟨ra6,rn6,rc6,ra7,rn7,rc7,ra8,rn8,rc8,ra9,rn9,rc9,ra10,rn10,rc10,ra11,rn11,rc11,ra12,rn12,rc12,ra13,rn13,rc13,ra14,rn14,rc14⟩:=S
 obtain⟨rfreq,ritv,rcnt,rtil,rwkst,rends,rmon,rweek,ryday,rmday,rday,rhour,rminu,rsec,rpos⟩:=r
 show Calls Tryz.prog 46 #[.agg #[.int .i64 rfreq,.int .i64 ritv,.int .i64 rcnt,.int .i64 rtil,.int .i64 rwkst,.bool rends,.slice ra6 rn6 rc6,.slice ra7 rn7 rc7,.slice ra8 rn8 rc8,.slice ra9 rn9 rc9,.slice ra10 rn10 rc10,.slice ra11 rn11 rc11,.slice ra12 rn12 rc12,.slice ra13 rn13 rc13,.slice ra14 rn14 rc14],.int .i64 start,.int .i64 days] w _
 go_enter Tryz.func46,Tryz.ntmps46
 go_upto_region 1 with fail
 obtain⟨B0,Xr0⟩:=box_new w #[.int .i64 rfreq,.int .i64 ritv,.int .i64 rcnt,.int .i64 rtil,.int .i64 rwkst,.bool rends,.slice ra6 rn6 rc6,.slice ra7 rn7 rc7,.slice ra8 rn8 rc8,.slice ra9 rn9 rc9,.slice ra10 rn10 rc10,.slice ra11 rn11 rc11,.slice ra12 rn12 rc12,.slice ra13 rn13 rc13,.slice ra14 rn14 rc14] 25
 generalize w.alloc _=w0 at *
 obtain⟨rz0,rz1,rz2,rz3,rz4,rz5,rz6,rz7,rz8,rz9,rz10,rz11,rz12,rz13,rz14⟩:=cells15 Xr0
 go_wp2_with fail
 refine(times7_is _ ⟨ra6,rn6,rc6,ra7,rn7,rc7,ra8,rn8,rc8,ra9,rn9,rc9,ra10,rn10,rc10,ra11,rn11,rc11,ra12,rn12,rc12,ra13,rn13,rc13,ra14,rn14,rc14⟩ ⟨rfreq,ritv,rcnt,rtil,rwkst,rends,rmon,rweek,ryday,rmday,rday,rhour,rminu,rsec,rpos⟩ start (RA.out.below B0) HM.out).mono ?_
 rintro e w1 ⟨A1,n1,p1,A2,n2,p2,A3,n3,p3,rfl,o1,o2,o3,b1⟩
 clear rz0 rz1 rz2 rz3 rz4 rz5 rz6 rz7 rz8 rz9 rz10 rz11 rz12 rz13 rz14
 have B1:=B0.trans (b1.mono B0.size)
 have Xr1:=Xr0.below b1
 clear B0 Xr0
 clear b1
 obtain⟨rz0,rz1,rz2,rz3,rz4,rz5,rz6,rz7,rz8,rz9,rz10,rz11,rz12,rz13,rz14⟩:=cells15 Xr1
 go_wp2
 all_goals
  go_ret;exact⟨⟨_,rfl⟩,B1⟩
end Go.Proofs.YtddnnljfgfcplaaGreatDoor.Ex
namespace Go.Proofs.YtddnnljfgfcplaaGreatDoor.Ex
open Cv St Ru Dd Mb
end Go.Proofs.YtddnnljfgfcplaaGreatDoor.Ex
namespace Go.Proofs.YtddnnljfgfcplaaGreatDoor.Ex
open Go.RowKit Cv St Ru Dd Mb
end Go.Proofs.YtddnnljfgfcplaaGreatDoor.Ex
