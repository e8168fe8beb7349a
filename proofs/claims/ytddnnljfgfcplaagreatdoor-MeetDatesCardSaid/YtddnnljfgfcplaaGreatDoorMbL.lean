/- The walks of vokref6's right, upTo, times, Times and Cost, and of voklaw7's Light: that it answers, and of what it says yes to. -/
import Derived.Test.YtddnnljfgfcplaaGreatDoorRpZ
import Derived.Test.YtddnnljfgfcplaaGreatDoorRuMay
import Derived.Test.YtddnnljfgfcplaaGreatDoorMbX1
set_option maxRecDepth 100000
set_option maxHeartbeats 8000000
set_option linter.unusedVariables false
namespace Go.Proofs.YtddnnljfgfcplaaGreatDoor.Mb
open Lib (hid)
open Go.RowKit Cv St Ru Dd
def ShortIs (w:World) (e:Ending) (w':World):Prop:=∃A n c,e= .returned (.slice A n c)/\n<=60/\Below w.heap.size w w'
theorem right7_is (w:World) (S:RS) (r:Ru) (t:Int) (m q:Bool) (h:RuAt w S r) (hm:mayR r=m) (hq:St.may t=q):
  Calls Tryz.prog 121 #[S.val r,.int .i64 t] w fun e w'=>e= .returned (.bool (m&&q))/\Below w.heap.size w w':=by
 have RA:=hid h
 have HM:=hid hm
 have HQ:=hid hq
 clear h hm hq
 obtain⟨ra6,rn6,rc6,ra7,rn7,rc7,ra8,rn8,rc8,ra9,rn9,rc9,ra10,rn10,rc10,ra11,rn11,rc11,ra12,rn12,rc12,ra13,rn13,rc13,ra14,rn14,rc14⟩:=S
 obtain⟨rfreq,ritv,rcnt,rtil,rwkst,rends,rmon,rweek,ryday,rmday,rday,rhour,rminu,rsec,rpos⟩:=r
 show Calls Tryz.prog 121 #[.agg #[.int .i64 rfreq,.int .i64 ritv,.int .i64 rcnt,.int .i64 rtil,.int .i64 rwkst,.bool rends,.slice ra6 rn6 rc6,.slice ra7 rn7 rc7,.slice ra8 rn8 rc8,.slice ra9 rn9 rc9,.slice ra10 rn10 rc10,.slice ra11 rn11 rc11,.slice ra12 rn12 rc12,.slice ra13 rn13 rc13,.slice ra14 rn14 rc14],.int .i64 t] w _
 go_enter Tryz.func121,Tryz.ntmps121
 go_upto_region 1 with fail
 obtain⟨B0,Xr0⟩:=box_new w #[.int .i64 rfreq,.int .i64 ritv,.int .i64 rcnt,.int .i64 rtil,.int .i64 rwkst,.bool rends,.slice ra6 rn6 rc6,.slice ra7 rn7 rc7,.slice ra8 rn8 rc8,.slice ra9 rn9 rc9,.slice ra10 rn10 rc10,.slice ra11 rn11 rc11,.slice ra12 rn12 rc12,.slice ra13 rn13 rc13,.slice ra14 rn14 rc14] 25
 generalize w.alloc _=w0 at *
 obtain⟨rz0,rz1,rz2,rz3,rz4,rz5,rz6,rz7,rz8,rz9,rz10,rz11,rz12,rz13,rz14⟩:=cells15 Xr0
 go_wp2_with fail
 refine(rmayR_is _ ⟨ra6,rn6,rc6,ra7,rn7,rc7,ra8,rn8,rc8,ra9,rn9,rc9,ra10,rn10,rc10,ra11,rn11,rc11,ra12,rn12,rc12,ra13,rn13,rc13,ra14,rn14,rc14⟩ ⟨rfreq,ritv,rcnt,rtil,rwkst,rends,rmon,rweek,ryday,rmday,rday,rhour,rminu,rsec,rpos⟩ m (RA.out.below B0) HM.out).mono ?_
 rintro e w1 ⟨rfl,b1⟩
 clear rz0 rz1 rz2 rz3 rz4 rz5 rz6 rz7 rz8 rz9 rz10 rz11 rz12 rz13 rz14
 have B1:=B0.trans (b1.mono B0.size)
 have Xr1:=Xr0.below b1
 clear B0 Xr0
 clear b1
 cases m
 ·go_wp2
  go_ret;exact⟨rfl,B1⟩
 ·go_wp2_with fail
  refine(rmay_any t _).mono ?_;rintro e w' ⟨rfl,rfl⟩;rw[HQ.out];go_wp2;go_ret;exact⟨by simp,B1⟩
theorem upTo_is (w:World) (m:Nat) (hm:m<=60):Calls Tryz.prog 172 #[.int .i64 m] w (ShortIs w):=by
 go_enter Tryz.func172,Tryz.ntmps172
 go_wp2
 go_loopw [3,4] (fun ov i wr=>∃(v:Value) (t:Nat) (acc:List Int),t<=m/\v=ov/\i= .int .i64 t/\OwnI w wr v acc/\acc.length=t/\Below w.heap.size w wr) (fun _ i _=>m-(intOf i).toNat)
 case atStart=>exact⟨_,0,[],Nat.zero_le _,rfl,rfl,OwnI.nil _ _,rfl,Below.refl _ _⟩
 case round=>
  obtain⟨v0,t,acc,ht,rfl,rfl,ov,hl,hB⟩:=hrel;have OV:=hid ov;clear ov
  by_cases hlt:t<m
  ·have SZ:acc.length<=1000000:=by omega
   go_wp2_with (at_builtin;refine append_num rfl _ _ rfl _ acc rfl OV.out hB _ _ _ rfl SZ ?_)
   intro v4 w4 ow4 hb4;have OW:=hid ow4;clear ow4;go_wp2
   go_roundw
   case rel=>exact⟨v4,t+1,_,by omega,rfl,by go_num,OW.out,by simp;omega,hb4⟩
   case measure=>simp[intOf];omega
  ·obtain rfl:m=t:=by omega
   go_wp2;go_ret;obtain⟨A,c,rfl,ia,-,-⟩:=OV.out.at_;exact⟨A,_,c,rfl,by omega,hB⟩
theorem times6_is (w:World) (A:Option Addr) (n c:Nat) (l:List Int) (own:Bool) (mine:Int) (all:Nat) (hl:IsAt w A n l) (hn:n<=60) (ha:all<=60):
  Calls Tryz.prog 123 #[.slice A n c,.bool own,.int .i64 mine,.int .i64 all] w (ShortIs w):=by
 have HL:=hid hl
 clear hl
 go_enter Tryz.func123,Tryz.ntmps123
 by_cases h0:0<n
 ·go_wp2_with fail
  refine(copyI_is _ A n c l HL.out (by omega) (fun e=>by
   obtain⟨b,o,q,-⟩:=HL.out.2 h0
   rw[e] at q;cases q)).mono ?_
  rintro e w1 ⟨v,rfl,ov,hB⟩;have LN:=HL.out.1;obtain⟨A',c',rfl,-,-,-⟩:=ov.at_;clear ov;go_wp2;go_ret;exact⟨A',_,c',rfl,by omega,hB⟩
 ·cases own
  ·go_wp2_with fail
   refine(upTo_is _ all ha).mono ?_;rintro e w1 ⟨A',n',c',rfl,hn',hB⟩;go_wp2;go_ret;exact⟨A',n',c',rfl,hn',hB⟩
  ·go_wp2
   go_ret;exact⟨_,1,1,rfl,by omega,alloc_below _ _⟩
def ThreeIs (w:World) (e:Ending) (w':World):Prop:=∃A n a B m b C k c,e= .returned (.tuple #[.slice A n a,.slice B m b,.slice C k c])/\n<=60/\m<=60/\k<=60/\Below w.heap.size w w'
theorem times7_is (w:World) (S:RS) (r:Ru) (start:Int) (h:RuAt w S r) (hm:mayR r=true):
  Calls Tryz.prog 84 #[S.val r,.int .i64 start] w (ThreeIs w):=by
 have RA:=hid h
 have H11:=hid h.h11
 have H12:=hid h.h12
 have H13:=hid h.h13
 obtain⟨u11,u12,u13⟩:=lens_of (mayR_of hm).2.2.1
 have e11:=h.h11.1
 have e12:=h.h12.1
 have e13:=h.h13.1
 have q11:S.n11<=60:=by omega
 have q12:S.n12<=60:=by omega
 have q13:S.n13<=60:=by omega
 have HM:=hid hm
 obtain⟨q,hq⟩:∃q,St.may start=q:=⟨_,rfl⟩
 have HQ:=hid hq
 have SB:=hid (fun (e:q=true)=>show -62135596800<=start/\start<=253402300799 from of_decide_eq_true (hq.trans e))
 clear h hm hq u11 u12 u13 e11 e12 e13
 obtain⟨ra6,rn6,rc6,ra7,rn7,rc7,ra8,rn8,rc8,ra9,rn9,rc9,ra10,rn10,rc10,ra11,rn11,rc11,ra12,rn12,rc12,ra13,rn13,rc13,ra14,rn14,rc14⟩:=S
 obtain⟨rfreq,ritv,rcnt,rtil,rwkst,rends,rmon,rweek,ryday,rmday,rday,rhour,rminu,rsec,rpos⟩:=r
 replace q11:rn11<=60:=q11
 replace q12:rn12<=60:=q12
 replace q13:rn13<=60:=q13
 show Calls Tryz.prog 84 #[.agg #[.int .i64 rfreq,.int .i64 ritv,.int .i64 rcnt,.int .i64 rtil,.int .i64 rwkst,.bool rends,.slice ra6 rn6 rc6,.slice ra7 rn7 rc7,.slice ra8 rn8 rc8,.slice ra9 rn9 rc9,.slice ra10 rn10 rc10,.slice ra11 rn11 rc11,.slice ra12 rn12 rc12,.slice ra13 rn13 rc13,.slice ra14 rn14 rc14],.int .i64 start] w _
 go_enter Tryz.func84,Tryz.ntmps84
 go_upto_region 1 with fail
 obtain⟨B0,Xr0⟩:=box_new w #[.int .i64 rfreq,.int .i64 ritv,.int .i64 rcnt,.int .i64 rtil,.int .i64 rwkst,.bool rends,.slice ra6 rn6 rc6,.slice ra7 rn7 rc7,.slice ra8 rn8 rc8,.slice ra9 rn9 rc9,.slice ra10 rn10 rc10,.slice ra11 rn11 rc11,.slice ra12 rn12 rc12,.slice ra13 rn13 rc13,.slice ra14 rn14 rc14] 25
 generalize w.alloc _=w0 at *
 obtain⟨rz0,rz1,rz2,rz3,rz4,rz5,rz6,rz7,rz8,rz9,rz10,rz11,rz12,rz13,rz14⟩:=cells15 Xr0
 go_wp2_with fail
 refine(right7_is _ ⟨ra6,rn6,rc6,ra7,rn7,rc7,ra8,rn8,rc8,ra9,rn9,rc9,ra10,rn10,rc10,ra11,rn11,rc11,ra12,rn12,rc12,ra13,rn13,rc13,ra14,rn14,rc14⟩ ⟨rfreq,ritv,rcnt,rtil,rwkst,rends,rmon,rweek,ryday,rmday,rday,rhour,rminu,rsec,rpos⟩ start true q (RA.out.below B0) HM.out HQ.out).mono ?_
 rintro e w1 ⟨rfl,b1⟩
 clear rz0 rz1 rz2 rz3 rz4 rz5 rz6 rz7 rz8 rz9 rz10 rz11 rz12 rz13 rz14
 have B1:=B0.trans (b1.mono B0.size)
 have Xr1:=Xr0.below b1
 clear B0 Xr0
 clear b1
 cases q
 ·go_wp2
  go_ret3
  exact⟨none,0,0,none,0,0,none,0,0,rfl,by omega,by omega,by omega,B1⟩
 ·obtain⟨sl,sh⟩:=SB.out rfl
  go_wp2_with fail;refine(rday_any start _ (by omega) (by omega)).mono ?_;rintro e w' ⟨rfl,rfl⟩;obtain⟨s,hs⟩:∃s,start % 86400=s:=⟨_,rfl⟩;have g1:0<=s/\s<86400:=by omega
  rw[hs];clear sl sh hs SB;have d1:IntKind.i64.wrap (s.tdiv 3600)=s / 3600:=by rw[Int.tdiv_eq_ediv_of_nonneg g1.1];exact IntWalk.i64_in _ (by omega)
  have d2:IntKind.i64.wrap (s.tdiv 60)=s / 60:=by rw[Int.tdiv_eq_ediv_of_nonneg g1.1];exact IntWalk.i64_in _ (by omega)
  have d3:(s / 60).tmod 60=s / 60 % 60:=Int.tmod_eq_emod_of_nonneg (by omega)
  have d4:s.tmod 60=s % 60:=Int.tmod_eq_emod_of_nonneg g1.1
  go_upto_region 4 with fail
  refine wp_region_late (fun _=>false) (fun w'=>w'.cell? ⟨w.heap.size,0,none⟩=some (.int .i64 rfreq)/\w'.cell? ⟨w.heap.size,11,none⟩=some (.slice ra11 rn11 rc11)/\w'.cell? ⟨w.heap.size,12,none⟩=some (.slice ra12 rn12 rc12)/\w'.cell? ⟨w.heap.size,13,none⟩=some (.slice ra13 rn13 rc13)) (by kernel_rfl) ?_;have hS:w1.drew.cell? ⟨w.heap.size,0,none⟩=some (.int .i64 rfreq)/\w1.drew.cell? ⟨w.heap.size,11,none⟩=some (.slice ra11 rn11 rc11)/\w1.drew.cell? ⟨w.heap.size,12,none⟩=some (.slice ra12 rn12 rc12)/\w1.drew.cell? ⟨w.heap.size,13,none⟩=some (.slice ra13 rn13 rc13):=⟨Xr1.at_ 0 _ rfl,Xr1.at_ 11 _ rfl,Xr1.at_ 12 _ rfl,Xr1.at_ 13 _ rfl⟩
  refine Late.take 0 (.pointer (some ⟨w.heap.size,11,none⟩)) rfl (by kernel_rfl) (by kernel_rfl) (by kernel_rfl) (by kernel_rfl) (fun _ _ _ h=>h) (.inl ⟨rfl,fun w' hs => ?_⟩) hS ?_
  ·go_simp
  refine Late.take 1 (.slice ra11 rn11 rc11) rfl (by kernel_rfl) (by kernel_rfl) (by kernel_rfl) (by kernel_rfl) (fun _ _ _ h=>h) (.inl ⟨rfl,fun w' hs => ?_⟩) hS ?_
  ·obtain⟨s0,s1,s2,s3⟩:=hs
   go_simp
  refine Late.take 2 (.pointer (some ⟨w.heap.size,0,none⟩)) rfl (by kernel_rfl) (by kernel_rfl) (by kernel_rfl) (by kernel_rfl) (fun _ _ _ h=>h) (.inl ⟨rfl,fun w' hs => ?_⟩) hS ?_
  ·go_simp
  refine Late.take 3 (.int .i64 rfreq) rfl (by kernel_rfl) (by kernel_rfl) (by kernel_rfl) (by kernel_rfl) (fun _ _ _ h=>h) (.inl ⟨rfl,fun w' hs => ?_⟩) hS ?_
  ·obtain⟨s0,s1,s2,s3⟩:=hs
   go_simp
  refine Late.take 4 (.bool (decide (rfreq<=4))) rfl (by kernel_rfl) (by kernel_rfl) (by kernel_rfl) (by kernel_rfl) (fun _ _ _ h=>h) (.inl ⟨rfl,fun w' hs => ?_⟩) hS ?_
  ·go_simp
  refine Late.take 5 (.int .i64 s) rfl (by kernel_rfl) (by kernel_rfl) (by kernel_rfl) (by kernel_rfl) (fun _ _ _ h=>h) (.inl ⟨rfl,fun w' hs => ?_⟩) hS ?_
  ·go_simp
  refine Late.take 6 (.int .i64 (s / 3600)) rfl (by kernel_rfl) (by kernel_rfl) (by kernel_rfl) (by kernel_rfl) (fun _ _ _ h=>h) (.inl ⟨rfl,fun w' hs => ?_⟩) hS ?_
  ·go_simp
  refine Late.take 8 (.pointer (some ⟨w.heap.size,12,none⟩)) rfl (by kernel_rfl) (by kernel_rfl) (by kernel_rfl) (by kernel_rfl) (fun _ _ _ h=>h) (.inl ⟨rfl,fun w' hs => ?_⟩) hS ?_
  ·go_simp
  refine Late.take 9 (.slice ra12 rn12 rc12) rfl (by kernel_rfl) (by kernel_rfl) (by kernel_rfl) (by kernel_rfl) (fun _ _ _ h=>h) (.inl ⟨rfl,fun w' hs => ?_⟩) hS ?_
  ·obtain⟨s0,s1,s2,s3⟩:=hs
   go_simp
  refine Late.take 10 (.pointer (some ⟨w.heap.size,0,none⟩)) rfl (by kernel_rfl) (by kernel_rfl) (by kernel_rfl) (by kernel_rfl) (fun _ _ _ h=>h) (.inl ⟨rfl,fun w' hs => ?_⟩) hS ?_
  ·go_simp
  refine Late.take 11 (.int .i64 rfreq) rfl (by kernel_rfl) (by kernel_rfl) (by kernel_rfl) (by kernel_rfl) (fun _ _ _ h=>h) (.inl ⟨rfl,fun w' hs => ?_⟩) hS ?_
  ·obtain⟨s0,s1,s2,s3⟩:=hs
   go_simp
  refine Late.take 12 (.bool (decide (rfreq<=5))) rfl (by kernel_rfl) (by kernel_rfl) (by kernel_rfl) (by kernel_rfl) (fun _ _ _ h=>h) (.inl ⟨rfl,fun w' hs => ?_⟩) hS ?_
  ·go_simp
  refine Late.take 13 (.int .i64 s) rfl (by kernel_rfl) (by kernel_rfl) (by kernel_rfl) (by kernel_rfl) (fun _ _ _ h=>h) (.inl ⟨rfl,fun w' hs => ?_⟩) hS ?_
  ·go_simp
  refine Late.take 14 (.int .i64 (s / 60)) rfl (by kernel_rfl) (by kernel_rfl) (by kernel_rfl) (by kernel_rfl) (fun _ _ _ h=>h) (.inl ⟨rfl,fun w' hs => ?_⟩) hS ?_
  ·go_simp
  refine Late.take 15 (.int .i64 (s / 60 % 60)) rfl (by kernel_rfl) (by kernel_rfl) (by kernel_rfl) (by kernel_rfl) (fun _ _ _ h=>h) (.inl ⟨rfl,fun w' hs => ?_⟩) hS ?_
  ·go_simp
  refine Late.take 17 (.pointer (some ⟨w.heap.size,13,none⟩)) rfl (by kernel_rfl) (by kernel_rfl) (by kernel_rfl) (by kernel_rfl) (fun _ _ _ h=>h) (.inl ⟨rfl,fun w' hs => ?_⟩) hS ?_
  ·go_simp
  refine Late.take 18 (.slice ra13 rn13 rc13) rfl (by kernel_rfl) (by kernel_rfl) (by kernel_rfl) (by kernel_rfl) (fun _ _ _ h=>h) (.inl ⟨rfl,fun w' hs => ?_⟩) hS ?_
  ·obtain⟨s0,s1,s2,s3⟩:=hs
   go_simp
  refine Late.take 19 (.pointer (some ⟨w.heap.size,0,none⟩)) rfl (by kernel_rfl) (by kernel_rfl) (by kernel_rfl) (by kernel_rfl) (fun _ _ _ h=>h) (.inl ⟨rfl,fun w' hs => ?_⟩) hS ?_
  ·go_simp
  refine Late.take 20 (.int .i64 rfreq) rfl (by kernel_rfl) (by kernel_rfl) (by kernel_rfl) (by kernel_rfl) (fun _ _ _ h=>h) (.inl ⟨rfl,fun w' hs => ?_⟩) hS ?_
  ·obtain⟨s0,s1,s2,s3⟩:=hs
   go_simp
  refine Late.take 21 (.bool (decide (rfreq<=6))) rfl (by kernel_rfl) (by kernel_rfl) (by kernel_rfl) (by kernel_rfl) (fun _ _ _ h=>h) (.inl ⟨rfl,fun w' hs => ?_⟩) hS ?_
  ·go_simp
  refine Late.take 22 (.int .i64 s) rfl (by kernel_rfl) (by kernel_rfl) (by kernel_rfl) (by kernel_rfl) (fun _ _ _ h=>h) (.inl ⟨rfl,fun w' hs => ?_⟩) hS ?_
  ·go_simp
  refine Late.take 23 (.int .i64 (s % 60)) rfl (by kernel_rfl) (by kernel_rfl) (by kernel_rfl) (by kernel_rfl) (fun _ _ _ h=>h) (.inl ⟨rfl,fun w' hs => ?_⟩) hS ?_
  ·go_simp
  have D0:Below w1.heap.size w1 w1.drew:=(Below.refl _ _).drew
  have C0:=B1.trans (D0.mono B1.size);refine Late.one 7 rfl (by kernel_rfl) rfl ?_
  go_simp
  refine(times6_is _ ra11 rn11 rc11 rhour (decide (rfreq<=4)) (s / 3600) 24 (H11.out.below C0) q11 (by omega)).mono ?_;rintro e x1 ⟨P1,n1,p1,rfl,o1,b1⟩;have D1:=D0.trans (b1.mono D0.size);have C1:=B1.trans (D1.mono B1.size);have hS1:x1.cell? ⟨w.heap.size,0,none⟩=some (.int .i64 rfreq)/\x1.cell? ⟨w.heap.size,11,none⟩=some (.slice ra11 rn11 rc11)/\x1.cell? ⟨w.heap.size,12,none⟩=some (.slice ra12 rn12 rc12)/\x1.cell? ⟨w.heap.size,13,none⟩=some (.slice ra13 rn13 rc13):=⟨(Xr1.below D1).at_ 0 _ rfl,(Xr1.below D1).at_ 11 _ rfl,(Xr1.below D1).at_ 12 _ rfl,(Xr1.below D1).at_ 13 _ rfl⟩
  refine⟨hS1,?_⟩;refine Late.one 16 rfl (by kernel_rfl) rfl ?_
  go_simp
  refine(times6_is _ ra12 rn12 rc12 rminu (decide (rfreq<=5)) (s / 60 % 60) 60 (H12.out.below C1) q12 (by omega)).mono ?_;rintro e x2 ⟨P2,n2,p2,rfl,o2,b2⟩;have D2:=D1.trans (b2.mono D1.size);have C2:=B1.trans (D2.mono B1.size);have hS2:x2.cell? ⟨w.heap.size,0,none⟩=some (.int .i64 rfreq)/\x2.cell? ⟨w.heap.size,11,none⟩=some (.slice ra11 rn11 rc11)/\x2.cell? ⟨w.heap.size,12,none⟩=some (.slice ra12 rn12 rc12)/\x2.cell? ⟨w.heap.size,13,none⟩=some (.slice ra13 rn13 rc13):=⟨(Xr1.below D2).at_ 0 _ rfl,(Xr1.below D2).at_ 11 _ rfl,(Xr1.below D2).at_ 12 _ rfl,(Xr1.below D2).at_ 13 _ rfl⟩
  refine⟨hS2,?_⟩;refine Late.one 24 rfl (by kernel_rfl) rfl ?_
  go_simp
  refine(times6_is _ ra13 rn13 rc13 rsec (decide (rfreq<=6)) (s % 60) 60 (H13.out.below C2) q13 (by omega)).mono ?_;rintro e x3 ⟨P3,n3,p3,rfl,o3,b3⟩;have D3:=D2.trans (b3.mono D2.size);have C3:=B1.trans (D3.mono B1.size);have hS3:x3.cell? ⟨w.heap.size,0,none⟩=some (.int .i64 rfreq)/\x3.cell? ⟨w.heap.size,11,none⟩=some (.slice ra11 rn11 rc11)/\x3.cell? ⟨w.heap.size,12,none⟩=some (.slice ra12 rn12 rc12)/\x3.cell? ⟨w.heap.size,13,none⟩=some (.slice ra13 rn13 rc13):=⟨(Xr1.below D3).at_ 0 _ rfl,(Xr1.below D3).at_ 11 _ rfl,(Xr1.below D3).at_ 12 _ rfl,(Xr1.below D3).at_ 13 _ rfl⟩
  refine⟨hS3,?_⟩;refine Late.take 25 (.slice P1 n1 p1) rfl (by kernel_rfl) (by kernel_rfl) (by kernel_rfl) (by kernel_rfl) (fun _ _ _ h=>h) (.inl ⟨rfl,fun w' hs => ?_⟩) hS3 ?_
  ·go_simp
  refine Late.take 26 (.slice P2 n2 p2) rfl (by kernel_rfl) (by kernel_rfl) (by kernel_rfl) (by kernel_rfl) (fun _ _ _ h=>h) (.inl ⟨rfl,fun w' hs => ?_⟩) hS3 ?_
  ·go_simp
  refine Late.take 27 (.slice P3 n3 p3) rfl (by kernel_rfl) (by kernel_rfl) (by kernel_rfl) (by kernel_rfl) (fun _ _ _ h=>h) (.inl ⟨rfl,fun w' hs => ?_⟩) hS3 ?_
  ·go_simp
  refine Late.done (by kernel_rfl) ?_;go_wp2
  go_ret3
  exact⟨P1,n1,p1,P2,n2,p2,P3,n3,p3,rfl,o1,o2,o3,C3⟩
end Go.Proofs.YtddnnljfgfcplaaGreatDoor.Mb
