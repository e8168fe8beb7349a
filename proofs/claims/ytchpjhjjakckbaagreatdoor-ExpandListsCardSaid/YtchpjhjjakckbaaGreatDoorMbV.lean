/- The walk of package member's Set. The walks of package member's hasPlace and Has. -/
import Derived.Test.YtchpjhjjakckbaaGreatDoorRuBx
import Derived.Test.YtchpjhjjakckbaaGreatDoorMbW
import Derived.Test.YtchpjhjjakckbaaGreatDoorRuB
set_option linter.unusedVariables false
namespace Go.Proofs.YtchpjhjjakckbaaGreatDoor.Mb
open Go.RowKit Cv St Ru Dd
def dayL (n:Int) (T:List Int):List Int:=T.map fun s=>n*86400+s
theorem all_take {D T:List Int} {t:Nat} (ht:t<D.length):allL (D.take (t+1)) T=allL (D.take t) T++dayL (iat D t) T:=by
 unfold allL;rw[take_iat ht,List.flatMap_append];simp[dayL]
theorem day_take {n:Int} {T:List Int} {k:Nat} (hk:k<T.length):dayL n (T.take (k+1))=dayL n (T.take k)++[n*86400+iat T k]:=by
 unfold dayL;rw[take_iat hk,List.map_append];rfl
theorem dayL_len (n:Int) (T:List Int):(dayL n T).length=T.length:=by simp[dayL]
theorem room2 {D T:List Int} {t k:Nat} {n:Int} (h:D.length*T.length≤100000) (ht:t<D.length):(allL (D.take t) T++dayL n (T.take k)).length≤1000000:=by
 rw[List.length_append,all_len,dayL_len,List.length_take,List.length_take]
 have a:min t D.length*T.length≤D.length*T.length:=Nat.mul_le_mul (by omega) (Nat.le_refl _)
 have b:T.length≤D.length*T.length:=by
  have:=Nat.mul_le_mul (show 1≤D.length by omega) (Nat.le_refl T.length)
  omega
 omega
def SetIs (w:World) (p:List Int×Int) (e:Ending) (w':World):Prop:=∃A c,e= .returned (.tuple #[.slice A p.1.length c,.int .i64 p.2])∧IsAt w' A p.1.length p.1∧Below w.heap.size w w'
theorem set_nil {w w':World} {p:List Int×Int} {x:Int} (h:([],x)=p) (hb:Below w.heap.size w w'):SetIs w p (.returned (.tuple #[.slice none 0 0,.int .i64 x])) w':=by
 subst h
 exact⟨none,0,rfl,IsAt.nil _ _,hb⟩
set_option maxRecDepth 100000 in
set_option maxHeartbeats 8000000 in
theorem set_no (w:World) (S:RS) (r:Ru) (start t most:Int) (p:List Int×Int) (h:RuAt w S r) (hn:setOk r start t most=false) (hx:setR r start t most=p):
  Calls Tryz.prog 260 #[S.val r,.int .i64 start,.int .i64 t,.int .i64 most] w (SetIs w p):=by
 have RA:=Lib.hid h
 obtain⟨m,hm⟩:∃m,mayR r=m:=⟨_,rfl⟩
 have HM:=Lib.hid hm
 have HX:=Lib.hid (show ([],1)=p by rw[←hx,setR_0 hn])
 have HN:=Lib.hid (show (m&&St.may start&&St.may t&&decide (1≤most∧most≤100000))=false by rw[←hm];exact hn)
 clear hm hn
 clear h hx
 obtain⟨ra6,rn6,rc6,ra7,rn7,rc7,ra8,rn8,rc8,ra9,rn9,rc9,ra10,rn10,rc10,ra11,rn11,rc11,ra12,rn12,rc12,ra13,rn13,rc13,ra14,rn14,rc14⟩:=S
 obtain⟨rfreq,ritv,rcnt,rtil,rwkst,rends,rmon,rweek,ryday,rmday,rday,rhour,rminu,rsec,rpos⟩:=r
 show Calls Tryz.prog 260 #[.agg #[.int .i64 rfreq,.int .i64 ritv,.int .i64 rcnt,.int .i64 rtil,.int .i64 rwkst,.bool rends,.slice ra6 rn6 rc6,.slice ra7 rn7 rc7,.slice ra8 rn8 rc8,.slice ra9 rn9 rc9,.slice ra10 rn10 rc10,.slice ra11 rn11 rc11,.slice ra12 rn12 rc12,.slice ra13 rn13 rc13,.slice ra14 rn14 rc14],.int .i64 start,.int .i64 t,.int .i64 most] w _
 go_enter Tryz.func260,Tryz.ntmps260
 go_upto_region 1 with fail
 obtain⟨B0,Xr0⟩:=box_new w #[.int .i64 rfreq,.int .i64 ritv,.int .i64 rcnt,.int .i64 rtil,.int .i64 rwkst,.bool rends,.slice ra6 rn6 rc6,.slice ra7 rn7 rc7,.slice ra8 rn8 rc8,.slice ra9 rn9 rc9,.slice ra10 rn10 rc10,.slice ra11 rn11 rc11,.slice ra12 rn12 rc12,.slice ra13 rn13 rc13,.slice ra14 rn14 rc14] 25
 generalize w.alloc _=w0 at *
 obtain⟨rz0,rz1,rz2,rz3,rz4,rz5,rz6,rz7,rz8,rz9,rz10,rz11,rz12,rz13,rz14⟩:=cells15 Xr0
 go_wp2_with fail
 refine(may_r _ ⟨ra6,rn6,rc6,ra7,rn7,rc7,ra8,rn8,rc8,ra9,rn9,rc9,ra10,rn10,rc10,ra11,rn11,rc11,ra12,rn12,rc12,ra13,rn13,rc13,ra14,rn14,rc14⟩ ⟨rfreq,ritv,rcnt,rtil,rwkst,rends,rmon,rweek,ryday,rmday,rday,rhour,rminu,rsec,rpos⟩ m (RA.out.below B0) HM.out).mono ?_
 rintro e w1 ⟨rfl,b1⟩
 clear rz0 rz1 rz2 rz3 rz4 rz5 rz6 rz7 rz8 rz9 rz10 rz11 rz12 rz13 rz14
 have B1:=B0.trans (b1.mono B0.size)
 have Xr1:=Xr0.below b1
 clear B0 Xr0
 clear b1
 cases m
 ·go_wp2
  go_ret2
  exact set_nil HX.out B1
 ·cases hp:St.may start
  ·go_wp2_with fail
   refine(may_no start _ hp).mono ?_
   rintro e w' ⟨rfl,rfl⟩
   go_wp2
   go_ret2
   exact set_nil HX.out B1
  ·go_wp2_with fail
   refine(may_yes start _ hp).mono ?_
   rintro e w' ⟨rfl,rfl⟩
   cases hq:St.may t
   ·go_wp2_with fail
    refine(may_no t _ hq).mono ?_
    rintro e w' ⟨rfl,rfl⟩
    go_wp2
    go_ret2
    exact set_nil HX.out B1
   ·go_wp2_with fail
    refine(may_yes t _ hq).mono ?_
    rintro e w' ⟨rfl,rfl⟩
    have NB:¬(1≤most∧most≤100000):=by
     have:=HN.out
     rw[hp,hq] at this
     simpa using this
    by_cases c1:most<1
    ·have t0:decide (most<1)=true:=decide_eq_true c1
     go_wp2
     go_ret2
     exact set_nil HX.out B1
    ·have t0:decide (most<1)=false:=decide_eq_false c1
     have t1:decide ((100000:Int)<most)=true:=decide_eq_true (by omega)
     go_wp2
     go_ret2
     exact set_nil HX.out B1
set_option maxRecDepth 100000 in
set_option maxHeartbeats 8000000 in
theorem set_off (w:World) (S:RS) (r:Ru) (start t most:Int) (p:List Int×Int) (h:RuAt w S r) (hn:setOk r start t most=true) (hi:inPer r start t=false) (hx:setR r start t most=p):
  Calls Tryz.prog 260 #[S.val r,.int .i64 start,.int .i64 t,.int .i64 most] w (SetIs w p):=by
 have RA:=Lib.hid h
 have HK:=hn
 unfold setOk at HK
 simp only[Bool.and_eq_true,decide_eq_true_eq] at HK
 obtain⟨⟨⟨m1,m2⟩,m3⟩,o1,o2⟩:=HK
 have M1:=Lib.hid m1
 have M2:=Lib.hid m2
 have M3:=Lib.hid m3
 have HI:=Lib.hid hi
 have HX:=Lib.hid (show ([],0)=p by rw[←hx,setR_1 hn hi])
 clear hi
 clear hn m1 m2 m3
 clear h hx
 obtain⟨ra6,rn6,rc6,ra7,rn7,rc7,ra8,rn8,rc8,ra9,rn9,rc9,ra10,rn10,rc10,ra11,rn11,rc11,ra12,rn12,rc12,ra13,rn13,rc13,ra14,rn14,rc14⟩:=S
 obtain⟨rfreq,ritv,rcnt,rtil,rwkst,rends,rmon,rweek,ryday,rmday,rday,rhour,rminu,rsec,rpos⟩:=r
 show Calls Tryz.prog 260 #[.agg #[.int .i64 rfreq,.int .i64 ritv,.int .i64 rcnt,.int .i64 rtil,.int .i64 rwkst,.bool rends,.slice ra6 rn6 rc6,.slice ra7 rn7 rc7,.slice ra8 rn8 rc8,.slice ra9 rn9 rc9,.slice ra10 rn10 rc10,.slice ra11 rn11 rc11,.slice ra12 rn12 rc12,.slice ra13 rn13 rc13,.slice ra14 rn14 rc14],.int .i64 start,.int .i64 t,.int .i64 most] w _
 go_enter Tryz.func260,Tryz.ntmps260
 go_upto_region 1 with fail
 obtain⟨B0,Xr0⟩:=box_new w #[.int .i64 rfreq,.int .i64 ritv,.int .i64 rcnt,.int .i64 rtil,.int .i64 rwkst,.bool rends,.slice ra6 rn6 rc6,.slice ra7 rn7 rc7,.slice ra8 rn8 rc8,.slice ra9 rn9 rc9,.slice ra10 rn10 rc10,.slice ra11 rn11 rc11,.slice ra12 rn12 rc12,.slice ra13 rn13 rc13,.slice ra14 rn14 rc14] 25
 generalize w.alloc _=w0 at *
 obtain⟨rz0,rz1,rz2,rz3,rz4,rz5,rz6,rz7,rz8,rz9,rz10,rz11,rz12,rz13,rz14⟩:=cells15 Xr0
 go_wp2_with fail
 refine(may_r _ ⟨ra6,rn6,rc6,ra7,rn7,rc7,ra8,rn8,rc8,ra9,rn9,rc9,ra10,rn10,rc10,ra11,rn11,rc11,ra12,rn12,rc12,ra13,rn13,rc13,ra14,rn14,rc14⟩ ⟨rfreq,ritv,rcnt,rtil,rwkst,rends,rmon,rweek,ryday,rmday,rday,rhour,rminu,rsec,rpos⟩ true (RA.out.below B0) M1.out).mono ?_
 rintro e w1 ⟨rfl,b1⟩
 clear rz0 rz1 rz2 rz3 rz4 rz5 rz6 rz7 rz8 rz9 rz10 rz11 rz12 rz13 rz14
 have B1:=B0.trans (b1.mono B0.size)
 have Xr1:=Xr0.below b1
 clear B0 Xr0
 clear b1
 go_wp2_with fail
 refine(may_yes start _ M2.out).mono ?_
 rintro e w' ⟨rfl,rfl⟩
 go_wp2_with fail
 refine(may_yes t _ M3.out).mono ?_
 rintro e w' ⟨rfl,rfl⟩
 have t0:decide (most<1)=false:=decide_eq_false (by omega)
 have t1:decide ((100000:Int)<most)=false:=decide_eq_false (by omega)
 obtain⟨rz0,rz1,rz2,rz3,rz4,rz5,rz6,rz7,rz8,rz9,rz10,rz11,rz12,rz13,rz14⟩:=cells15 Xr1
 go_wp2_with fail
 refine(inPer_is _ ⟨ra6,rn6,rc6,ra7,rn7,rc7,ra8,rn8,rc8,ra9,rn9,rc9,ra10,rn10,rc10,ra11,rn11,rc11,ra12,rn12,rc12,ra13,rn13,rc13,ra14,rn14,rc14⟩ ⟨rfreq,ritv,rcnt,rtil,rwkst,rends,rmon,rweek,ryday,rmday,rday,rhour,rminu,rsec,rpos⟩ start t false (RA.out.below B1) HI.out).mono ?_
 rintro e w2 ⟨rfl,b2⟩
 clear rz0 rz1 rz2 rz3 rz4 rz5 rz6 rz7 rz8 rz9 rz10 rz11 rz12 rz13 rz14
 have B2:=B1.trans (b2.mono B1.size)
 have Xr2:=Xr1.below b2
 clear B1 Xr1
 clear b2
 go_wp2
 go_ret2
 exact set_nil HX.out B2
set_option maxRecDepth 100000 in
set_option maxHeartbeats 8000000 in
theorem set_on (w:World) (S:RS) (r:Ru) (start t most:Int) (p:List Int×Int) (h:RuAt w S r) (hn:setOk r start t most=true) (hi:inPer r start t=true) (hx:setR r start t most=p):
  Calls Tryz.prog 260 #[S.val r,.int .i64 start,.int .i64 t,.int .i64 most] w (SetIs w p):=by
 have RA:=Lib.hid h
 have HK:=hn
 unfold setOk at HK
 simp only[Bool.and_eq_true,decide_eq_true_eq] at HK
 obtain⟨⟨⟨m1,m2⟩,m3⟩,o1,o2⟩:=HK
 have M1:=Lib.hid m1
 have M2:=Lib.hid m2
 have M3:=Lib.hid m3
 have HI:=Lib.hid hi
 obtain⟨D,hD⟩:∃l,dysR r start t=l:=⟨_,rfl⟩
 obtain⟨T,hT⟩:∃l,tmsR r start t=l:=⟨_,rfl⟩
 have LD:D.length≤401:=by rw[←hD];exact dys_len r start t
 have LT:T.length≤216000:=by rw[←hT];exact tms_len start t m1
 have X1:=Lib.hid (fun (q:most<(D.length:Int)*(T.length:Int))=>show ([],10)=p by rw[←hx,setR_2 hn hi (by rw[hD,hT];exact q)])
 have X2:=Lib.hid (fun (q:(D.length:Int)*(T.length:Int)≤most)=>show (allL D T,0)=p by rw[←hx,setR_3 hn hi (by rw[hD,hT];exact Int.not_lt.2 q)];unfold allR;rw[hD,hT])
 have HD:=Lib.hid hD
 have HT:=Lib.hid hT
 clear hi hD hT
 clear hn m1 m2 m3
 clear h hx
 obtain⟨ra6,rn6,rc6,ra7,rn7,rc7,ra8,rn8,rc8,ra9,rn9,rc9,ra10,rn10,rc10,ra11,rn11,rc11,ra12,rn12,rc12,ra13,rn13,rc13,ra14,rn14,rc14⟩:=S
 obtain⟨rfreq,ritv,rcnt,rtil,rwkst,rends,rmon,rweek,ryday,rmday,rday,rhour,rminu,rsec,rpos⟩:=r
 show Calls Tryz.prog 260 #[.agg #[.int .i64 rfreq,.int .i64 ritv,.int .i64 rcnt,.int .i64 rtil,.int .i64 rwkst,.bool rends,.slice ra6 rn6 rc6,.slice ra7 rn7 rc7,.slice ra8 rn8 rc8,.slice ra9 rn9 rc9,.slice ra10 rn10 rc10,.slice ra11 rn11 rc11,.slice ra12 rn12 rc12,.slice ra13 rn13 rc13,.slice ra14 rn14 rc14],.int .i64 start,.int .i64 t,.int .i64 most] w _
 go_enter Tryz.func260,Tryz.ntmps260
 go_upto_region 1 with fail
 obtain⟨B0,Xr0⟩:=box_new w #[.int .i64 rfreq,.int .i64 ritv,.int .i64 rcnt,.int .i64 rtil,.int .i64 rwkst,.bool rends,.slice ra6 rn6 rc6,.slice ra7 rn7 rc7,.slice ra8 rn8 rc8,.slice ra9 rn9 rc9,.slice ra10 rn10 rc10,.slice ra11 rn11 rc11,.slice ra12 rn12 rc12,.slice ra13 rn13 rc13,.slice ra14 rn14 rc14] 25
 generalize w.alloc _=w0 at *
 obtain⟨rz0,rz1,rz2,rz3,rz4,rz5,rz6,rz7,rz8,rz9,rz10,rz11,rz12,rz13,rz14⟩:=cells15 Xr0
 go_wp2_with fail
 refine(may_r _ ⟨ra6,rn6,rc6,ra7,rn7,rc7,ra8,rn8,rc8,ra9,rn9,rc9,ra10,rn10,rc10,ra11,rn11,rc11,ra12,rn12,rc12,ra13,rn13,rc13,ra14,rn14,rc14⟩ ⟨rfreq,ritv,rcnt,rtil,rwkst,rends,rmon,rweek,ryday,rmday,rday,rhour,rminu,rsec,rpos⟩ true (RA.out.below B0) M1.out).mono ?_
 rintro e w1 ⟨rfl,b1⟩
 clear rz0 rz1 rz2 rz3 rz4 rz5 rz6 rz7 rz8 rz9 rz10 rz11 rz12 rz13 rz14
 have B1:=B0.trans (b1.mono B0.size)
 have Xr1:=Xr0.below b1
 clear B0 Xr0
 clear b1
 go_wp2_with fail
 refine(may_yes start _ M2.out).mono ?_
 rintro e w' ⟨rfl,rfl⟩
 go_wp2_with fail
 refine(may_yes t _ M3.out).mono ?_
 rintro e w' ⟨rfl,rfl⟩
 have t0:decide (most<1)=false:=decide_eq_false (by omega)
 have t1:decide ((100000:Int)<most)=false:=decide_eq_false (by omega)
 obtain⟨rz0,rz1,rz2,rz3,rz4,rz5,rz6,rz7,rz8,rz9,rz10,rz11,rz12,rz13,rz14⟩:=cells15 Xr1
 go_wp2_with fail
 refine(inPer_is _ ⟨ra6,rn6,rc6,ra7,rn7,rc7,ra8,rn8,rc8,ra9,rn9,rc9,ra10,rn10,rc10,ra11,rn11,rc11,ra12,rn12,rc12,ra13,rn13,rc13,ra14,rn14,rc14⟩ ⟨rfreq,ritv,rcnt,rtil,rwkst,rends,rmon,rweek,ryday,rmday,rday,rhour,rminu,rsec,rpos⟩ start t true (RA.out.below B1) HI.out).mono ?_
 rintro e w2 ⟨rfl,b2⟩
 clear rz0 rz1 rz2 rz3 rz4 rz5 rz6 rz7 rz8 rz9 rz10 rz11 rz12 rz13 rz14
 have B2:=B1.trans (b2.mono B1.size)
 have Xr2:=Xr1.below b2
 clear B1 Xr1
 clear b2
 go_upto_region 5 with fail
 refine wp_region_late (fun _=>false) (fun v=>Below w2.heap.size w2 v) (by kernel_rfl) ?_
 have D0:Below w2.heap.size w2 w2.drew:=(Below.refl _ _).drew
 refine Late.take 0 (.agg #[.int .i64 rfreq,.int .i64 ritv,.int .i64 rcnt,.int .i64 rtil,.int .i64 rwkst,.bool rends,.slice ra6 rn6 rc6,.slice ra7 rn7 rc7,.slice ra8 rn8 rc8,.slice ra9 rn9 rc9,.slice ra10 rn10 rc10,.slice ra11 rn11 rc11,.slice ra12 rn12 rc12,.slice ra13 rn13 rc13,.slice ra14 rn14 rc14]) rfl (by kernel_rfl) (by kernel_rfl) (by kernel_rfl) (by kernel_rfl) (fun _ _ _ h=>h) (.inl ⟨rfl,fun w' hs => ?_⟩) D0 ?_
 ·have XQ:=Xr2.below hs
  obtain⟨z0,z1,z2,z3,z4,z5,z6,z7,z8,z9,z10,z11,z12,z13,z14⟩:=cells15 XQ
  clear XQ
  go_simp
 refine Late.take 1 (.int .i64 start) rfl (by kernel_rfl) (by kernel_rfl) (by kernel_rfl) (by kernel_rfl) (fun _ _ _ h=>h) (.inl ⟨rfl,fun w' hs => ?_⟩) D0 ?_
 ·go_simp
 refine Late.take 2 (.int .i64 t) rfl (by kernel_rfl) (by kernel_rfl) (by kernel_rfl) (by kernel_rfl) (fun _ _ _ h=>h) (.inl ⟨rfl,fun w' hs => ?_⟩) D0 ?_
 ·go_simp
 refine Late.take 4 (.agg #[.int .i64 rfreq,.int .i64 ritv,.int .i64 rcnt,.int .i64 rtil,.int .i64 rwkst,.bool rends,.slice ra6 rn6 rc6,.slice ra7 rn7 rc7,.slice ra8 rn8 rc8,.slice ra9 rn9 rc9,.slice ra10 rn10 rc10,.slice ra11 rn11 rc11,.slice ra12 rn12 rc12,.slice ra13 rn13 rc13,.slice ra14 rn14 rc14]) rfl (by kernel_rfl) (by kernel_rfl) (by kernel_rfl) (by kernel_rfl) (fun _ _ _ h=>h) (.inl ⟨rfl,fun w' hs => ?_⟩) D0 ?_
 ·have XQ:=Xr2.below hs
  obtain⟨z0,z1,z2,z3,z4,z5,z6,z7,z8,z9,z10,z11,z12,z13,z14⟩:=cells15 XQ
  clear XQ
  go_simp
 refine Late.take 5 (.int .i64 start) rfl (by kernel_rfl) (by kernel_rfl) (by kernel_rfl) (by kernel_rfl) (fun _ _ _ h=>h) (.inl ⟨rfl,fun w' hs => ?_⟩) D0 ?_
 ·go_simp
 refine Late.take 6 (.int .i64 t) rfl (by kernel_rfl) (by kernel_rfl) (by kernel_rfl) (by kernel_rfl) (fun _ _ _ h=>h) (.inl ⟨rfl,fun w' hs => ?_⟩) D0 ?_
 ·go_simp
 have C0:=B2.trans (D0.mono B2.size)
 refine Late.one 3 rfl (by kernel_rfl) rfl ?_
 go_simp
 refine(daysOf_is _ ⟨ra6,rn6,rc6,ra7,rn7,rc7,ra8,rn8,rc8,ra9,rn9,rc9,ra10,rn10,rc10,ra11,rn11,rc11,ra12,rn12,rc12,ra13,rn13,rc13,ra14,rn14,rc14⟩ ⟨rfreq,ritv,rcnt,rtil,rwkst,rends,rmon,rweek,ryday,rmday,rday,rhour,rminu,rsec,rpos⟩ start t D (RA.out.below C0) HD.out).mono ?_
 rintro e x1 ⟨A1,p1,rfl,o1',y1⟩
 have D1:=D0.trans (y1.mono D0.size)
 have C1:=B2.trans (D1.mono B2.size)
 refine⟨D1,?_⟩
 refine Late.one 7 rfl (by kernel_rfl) rfl ?_
 go_simp
 refine(timesOf_is _ ⟨ra6,rn6,rc6,ra7,rn7,rc7,ra8,rn8,rc8,ra9,rn9,rc9,ra10,rn10,rc10,ra11,rn11,rc11,ra12,rn12,rc12,ra13,rn13,rc13,ra14,rn14,rc14⟩ ⟨rfreq,ritv,rcnt,rtil,rwkst,rends,rmon,rweek,ryday,rmday,rday,rhour,rminu,rsec,rpos⟩ start t T (RA.out.below C1) M1.out M2.out M3.out HT.out).mono ?_
 rintro e x2 ⟨A2,p2,rfl,o2',y2⟩
 have D2:=D1.trans (y2.mono D1.size)
 refine⟨D2,?_⟩
 refine Late.take 8 (.slice A1 D.length p1) rfl (by kernel_rfl) (by kernel_rfl) (by kernel_rfl) (by kernel_rfl) (fun _ _ _ h=>h) (.inl ⟨rfl,fun w' hs => ?_⟩) D2 ?_
 ·go_simp
 refine Late.take 9 (.slice A2 T.length p2) rfl (by kernel_rfl) (by kernel_rfl) (by kernel_rfl) (by kernel_rfl) (fun _ _ _ h=>h) (.inl ⟨rfl,fun w' hs => ?_⟩) D2 ?_
 ·go_simp
 refine Late.done (by kernel_rfl) ?_
 have C2:=B2.trans (D2.mono B2.size)
 have K1:=Lib.hid (o1'.below y2)
 have K2:=Lib.hid o2'
 clear o1' o2' y1 y2 D0 D1 D2 C0 C1 B2 Xr2
 obtain⟨m1,hm1⟩:∃m,D.length=m:=⟨_,rfl⟩
 obtain⟨m2,hm2⟩:∃m,T.length=m:=⟨_,rfl⟩
 have LN1:=Lib.hid hm1
 have LN2:=Lib.hid hm2
 rw[hm1] at LD K1 X1 X2
 rw[hm2] at LT K2 X1 X2
 rw[hm1,hm2]
 clear hm1 hm2
 have pr:(m1:Int)*(m2:Int)≤401*216000:=Int.mul_le_mul (by omega) (by omega) (by omega) (by omega)
 have p0:0≤(m1:Int)*(m2:Int):=Int.mul_nonneg (by omega) (by omega)
 have PE:=Lib.hid (show (m1:Int)*(m2:Int)=((m1*m2:Nat):Int) by simp)
 have IW:IntKind.i64.wrap ((m1:Int)*(m2:Int))=(m1:Int)*(m2:Int):=IntWalk.i64_in _ (by omega)
 by_cases hc:most<(m1:Int)*(m2:Int)
 ·have E:=Lib.hid (X1.out hc)
  have t2:decide (most<(m1:Int)*(m2:Int))=true:=decide_eq_true hc
  clear X1 X2
  go_wp2
  go_ret2
  exact set_nil E.out C2
 ·have E:=Lib.hid (X2.out (Int.not_lt.1 hc))
  have t2:decide (most<(m1:Int)*(m2:Int))=false:=decide_eq_false hc
  clear X1 X2
  have PN:m1*m2≤100000:=by have:=PE.out;omega
  obtain⟨i0,hi,hz0,hz1,hz2⟩:=info_parts info_int
  go_wp2_with (at_make;refine wpList_make_own _ rfl _ _ 22 rfl x2.heap.size 3 i0 (.int .i64 0) 1 Tryz.underlying22 hi hz0 hz1 .i64 .i64 _ (m1*m2) rfl rfl (by rw[←PE.out]) (by rw[hz2];omega) (by unfold maxLen;omega) (Nat.le_refl _) ?_)
  intro wm hown hg
  have OW0:=Lib.hid (show OwnI x2 wm (.slice (some ⟨x2.heap.size,0,none⟩) 0 (m1*m2)) [] from hown)
  have BW:=Lib.hid (show Below x2.heap.size x2 wm from (Below.refl _ _).grown hg (Nat.le_refl _) (fun k hk=>by cases hk))
  clear hown hg hi hz0 hz1 hz2 i0 t0 t1 t2 IW
  go_wp2
  go_loopw [12,66] (fun ov i wr=>∃(v:Value) (t1:Nat) (acc:List Int),t1≤m1∧v=ov∧i= .int .i64 t1∧OwnI x2 wr v acc∧Hid (allL (D.take t1) T=acc)∧Below x2.heap.size x2 wr) (fun _ i _=>m1-(intOf i).toNat)
  case atStart=>exact⟨_,0,[],Nat.zero_le _,rfl,rfl,OW0.out,Lib.hid rfl,BW.out⟩
  case round=>
   obtain⟨wo,rfl⟩:∃wo:World,wo=wr:=⟨_,rfl⟩
   obtain⟨v0,t1,acc1,ht1,rfl,rfl,ov1,D1,hB1⟩:=hrel
   have OV1:=Lib.hid ov1
   clear ov1
   by_cases hlt1:t1<m1
   ·obtain⟨bl1,of1,ea1,hl1,hc1⟩:=K1.out.2 (show 0<m1 by omega)
    subst ea1
    have c1:=(hB1.cell (p:=⟨bl1,_,none⟩) hl1).trans (hc1 t1 hlt1)
    have e1:-719162≤iat D t1∧iat D t1≤2932896:=by
     have q:iat D t1∈D:=by rw[iat_lt (by rw[LN1.out];exact hlt1)];exact List.getElem_mem _
     have q2:fitsB ⟨rfreq,ritv,rcnt,rtil,rwkst,rends,rmon,rweek,ryday,rmday,rday,rhour,rminu,rsec,rpos⟩ start (iat D t1)=true:=((mem_dys M1.out M3.out).1 (by rw[HD.out];exact q)).2
     exact of_decide_eq_true (fits_day q2)
    have N1:=Lib.hid (all_take (D:=D) (T:=T) (t:=t1) (by rw[LN1.out];exact hlt1))
    have RM:=Lib.hid (fun k=>room2 (D:=D) (T:=T) (t:=t1) (k:=k) (n:=iat D t1) (by rw[LN1.out,LN2.out];exact PN) (by rw[LN1.out];exact hlt1))
    clear hc1
    generalize iat D t1=g1 at *
    go_wp2
    go_loopw [12,72] (fun ov i wr=>∃(v:Value) (t2:Nat) (acc:List Int),t2≤m2∧v=ov∧i= .int .i64 t2∧OwnI x2 wr v acc∧Hid (acc1++dayL g1 (T.take t2)=acc)∧Below x2.heap.size x2 wr) (fun _ i _=>m2-(intOf i).toNat)
    case atStart=>exact⟨_,0,acc1,Nat.zero_le _,rfl,rfl,OV1.out,Lib.hid (by simp[dayL]),hB1⟩
    case round=>
     obtain⟨v1,t2,acc2,ht2,rfl,rfl,ov2,D2,hB2⟩:=hrel
     have OV2:=Lib.hid ov2
     clear ov2
     by_cases hlt2:t2<m2
     ·obtain⟨bl2,of2,ea2,hl2,hc2⟩:=K2.out.2 (show 0<m2 by omega)
      subst ea2
      have c2:=(hB2.cell (p:=⟨bl2,_,none⟩) hl2).trans (hc2 t2 hlt2)
      have e2:0≤iat T t2∧iat T t2≤86399:=by
       have q:iat T t2∈T:=by rw[iat_lt (by rw[LN2.out];exact hlt2)];exact List.getElem_mem _
       exact tms_bd M1.out _ (by rw[HT.out];exact q)
      have N2:=Lib.hid (day_take (n:=g1) (T:=T) (k:=t2) (by rw[LN2.out];exact hlt2))
      have R:=RM.out t2
      rw[D1.out,D2.out] at R
      clear hc2
      generalize iat T t2=g2 at *
      go_wp2_with (at_builtin;refine append_num rfl _ _ rfl _ acc2 rfl OV2.out hB2 _ _ _ rfl R ?_)
      intro v4 w4 ow4 hb4
      have OW:=Lib.hid ow4
      clear ow4
      go_wp2
      go_roundw
      case rel=>exact⟨v4,t2+1,_,by omega,rfl,by go_num,OW.out,Lib.hid (by rw[N2.out,←List.append_assoc,D2.out]),hb4⟩
      case measure=>simp[intOf];omega
     ·obtain rfl:m2=t2:=by omega
      have E2:=Lib.hid (show acc1++dayL g1 T=acc2 by rw[←D2.out,List.take_of_length_le (by rw[LN2.out];exact Nat.le_refl _)])
      go_wp2
      go_roundw
      case rel=>exact⟨v1,t1+1,acc2,by omega,rfl,by go_num,OV2.out,Lib.hid (by rw[N1.out,D1.out,E2.out]),hB2⟩
      case measure=>simp[intOf];omega
   ·obtain rfl:m1=t1:=by omega
    have E1:=Lib.hid (show (acc1,0)=p by rw[←E.out,←D1.out,List.take_of_length_le (by rw[LN1.out];exact Nat.le_refl _)])
    go_wp2
    go_ret2
    obtain⟨A,c,rfl,ia,-,-⟩:=OV1.out.at_
    have e:=E1.out
    subst e
    exact⟨A,c,rfl,ia,C2.trans (hB1.mono C2.size)⟩
end Go.Proofs.YtchpjhjjakckbaaGreatDoor.Mb
namespace Go.Proofs.YtchpjhjjakckbaaGreatDoor.Mb
open Go.RowKit Cv St Ru Dd
theorem setP_is (w:World) (S:RS) (r:Ru) (start t most:Int) (p:List Int×Int) (h:RuAt w S r) (hx:setR r start t most=p):
  Calls Tryz.prog 260 #[S.val r,.int .i64 start,.int .i64 t,.int .i64 most] w (SetIs w p):=by
 cases hn:setOk r start t most
 ·exact set_no w S r start t most p h hn hx
 ·cases hi:inPer r start t
  ·exact set_off w S r start t most p h hn hi hx
  ·exact set_on w S r start t most p h hn hi hx
end Go.Proofs.YtchpjhjjakckbaaGreatDoor.Mb
