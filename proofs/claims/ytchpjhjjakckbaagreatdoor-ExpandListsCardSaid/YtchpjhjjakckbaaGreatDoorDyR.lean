/- DaysRise answers true. The walks of vokref6's down, right, yearOf, number, Period and Days. -/
import Derived.Test.YtchpjhjjakckbaaGreatDoorRuBx
import Derived.Test.YtchpjhjjakckbaaGreatDoorDyP
import Derived.Test.YtchpjhjjakckbaaGreatDoorRuMay
import Derived.Test.YtchpjhjjakckbaaGreatDoorCvW
set_option linter.unusedVariables false
namespace Go.Proofs.YtchpjhjjakckbaaGreatDoor.Dd
open Go.RowKit Cv St Ru
theorem rise_days {r:Ru} {t:Int} (ht:St.may t=true):
  max (pfirst r (t / 86400)) (-719162)≤t / 86400∧t / 86400≤min (plast r (t / 86400)) 2932896∧-719162≤max (pfirst r (t / 86400)) (-719162)∧min (plast r (t / 86400)) 2932896≤2932896:=by
 have h:=of_decide_eq_true ht
 have d:=may_day h.1 h.2
 have i:=p_in r (t / 86400)
 omega
theorem rise_late {r:Ru} {t:Int} (hf:4<r.freq) (ht:St.may t=true):max (pfirst r (t / 86400)) (-719162)=min (plast r (t / 86400)) 2932896:=by
 have h:=of_decide_eq_true ht
 have d:=may_day h.1 h.2
 unfold pfirst plast
 rw[if_neg (by omega),if_neg (by omega),if_neg (by omega),if_neg (by omega),if_neg (by omega),if_neg (by omega)]
 omega
theorem per_day {r:Ru} (hf:r.freq≤4) (t:Int):per r t=perD r (t / 86400):=by
 unfold per
 rw[if_neg (by omega),if_neg (by omega),if_neg (by omega)]
end Go.Proofs.YtchpjhjjakckbaaGreatDoor.Dd
namespace Go.Proofs.YtchpjhjjakckbaaGreatDoor.Dd
open Go.RowKit Cv St Ru
theorem down6_any (n b:Int) (w:World) (h1:-1000000000000000≤n) (h2:n≤1000000000000000) (h3:1≤b) (h4:b≤1000000):
  Calls Tryz.prog 216 #[.int .i64 n,.int .i64 b] w fun e w'=>e= .returned (.int .i64 (n / b))∧w=w':=by
 by_cases hn:0≤n
 ·have g:=Int.emod_nonneg n (b:=b) (by omega)
  have g':¬n % b<0:=by omega
  obtain⟨q1,q2⟩:=div_bd n b hn h3
  clear g
  go_enter Tryz.func216,Tryz.ntmps216
  go_wp2
  go_ret
  exact⟨rfl,rfl⟩
 ·obtain⟨q1,q2⟩:=tdiv_bd n b (by omega) h3
  by_cases hz:n.tmod b<0
  ·have H:=Lib.hid (down_1 n b (by omega) h3 hz)
   go_enter Tryz.func216,Tryz.ntmps216
   go_wp2
   go_ret
   exact⟨ret_int H.out.symm,rfl⟩
  ·have H:=Lib.hid (down_2 n b (by omega) h3 hz)
   go_enter Tryz.func216,Tryz.ntmps216
   go_wp2
   go_ret
   exact⟨ret_int H.out.symm,rfl⟩
set_option maxRecDepth 100000 in
set_option maxHeartbeats 2000000 in
theorem right_is (w:World) (S:RS) (r:Ru) (t:Int) (m q:Bool) (h:RuAt w S r) (hm:mayR r=m) (hq:St.may t=q):
  Calls Tryz.prog 88 #[S.val r,.int .i64 t] w fun e w'=>e= .returned (.bool (m&&q))∧Below w.heap.size w w':=by
 have RA:=Lib.hid h
 have HM:=Lib.hid hm
 have HQ:=Lib.hid hq
 clear h hm hq
 obtain⟨a6,n6,c6,a7,n7,c7,a8,n8,c8,a9,n9,c9,a10,n10,c10,a11,n11,c11,a12,n12,c12,a13,n13,c13,a14,n14,c14⟩:=S
 obtain⟨freq,itv,cnt,til,wkst,ends,mon,week,yday,mday,day,hour,minu,sec,pos⟩:=r
 show Calls Tryz.prog 88 #[.agg #[.int .i64 freq,.int .i64 itv,.int .i64 cnt,.int .i64 til,.int .i64 wkst,.bool ends,.slice a6 n6 c6,.slice a7 n7 c7,.slice a8 n8 c8,.slice a9 n9 c9,.slice a10 n10 c10,.slice a11 n11 c11,.slice a12 n12 c12,.slice a13 n13 c13,.slice a14 n14 c14],.int .i64 t] w _
 go_enter Tryz.func88,Tryz.ntmps88
 go_upto_region 1 with fail
 obtain⟨B0,XR0⟩:=box_new w #[.int .i64 freq,.int .i64 itv,.int .i64 cnt,.int .i64 til,.int .i64 wkst,.bool ends,.slice a6 n6 c6,.slice a7 n7 c7,.slice a8 n8 c8,.slice a9 n9 c9,.slice a10 n10 c10,.slice a11 n11 c11,.slice a12 n12 c12,.slice a13 n13 c13,.slice a14 n14 c14] 25
 have SR0:w.heap.size<(w.alloc (.cells #[.int .i64 freq,.int .i64 itv,.int .i64 cnt,.int .i64 til,.int .i64 wkst,.bool ends,.slice a6 n6 c6,.slice a7 n7 c7,.slice a8 n8 c8,.slice a9 n9 c9,.slice a10 n10 c10,.slice a11 n11 c11,.slice a12 n12 c12,.slice a13 n13 c13,.slice a14 n14 c14] 25)).heap.size:=by simp
 generalize w.alloc (.cells #[.int .i64 freq,.int .i64 itv,.int .i64 cnt,.int .i64 til,.int .i64 wkst,.bool ends,.slice a6 n6 c6,.slice a7 n7 c7,.slice a8 n8 c8,.slice a9 n9 c9,.slice a10 n10 c10,.slice a11 n11 c11,.slice a12 n12 c12,.slice a13 n13 c13,.slice a14 n14 c14] 25)=w0 at *
 obtain⟨z0,z1,z2,z3,z4,z5,z6,z7,z8,z9,z10,z11,z12,z13,z14⟩:=cells15 XR0
 go_wp2_with fail
 refine(rmayR_is _ ⟨a6,n6,c6,a7,n7,c7,a8,n8,c8,a9,n9,c9,a10,n10,c10,a11,n11,c11,a12,n12,c12,a13,n13,c13,a14,n14,c14⟩ ⟨freq,itv,cnt,til,wkst,ends,mon,week,yday,mday,day,hour,minu,sec,pos⟩ m (RA.out.below B0) HM.out).mono ?_
 rintro e w1 ⟨rfl,b1⟩
 have B1:=B0.trans (b1.mono B0.size)
 clear z0 z1 z2 z3 z4 z5 z6 z7 z8 z9 z10 z11 z12 z13 z14
 cases m
 ·go_wp2
  go_ret
  exact⟨rfl,B1⟩
 ·go_wp2_with fail
  refine(rmay_any t _).mono ?_
  rintro e w' ⟨rfl,rfl⟩
  rw[HQ.out]
  go_wp2
  go_ret
  exact⟨by simp,B1⟩
set_option maxRecDepth 100000 in
set_option maxHeartbeats 2000000 in
theorem yearOf6_is (w:World) (S:RS) (r:Ru) (n x:Int) (h:RuAt w S r) (h1:-719162≤n) (h2:n≤2932896) (k1:0≤r.wkst) (k2:r.wkst≤6) (hx:yro r n=x):
  Calls Tryz.prog 214 #[S.val r,.int .i64 n] w fun e w'=>e= .returned (.int .i64 x)∧Below w.heap.size w w':=by
 have E7:=Lib.hid h.h7.1
 have HX:=Lib.hid hx
 clear h hx
 obtain⟨a6,n6,c6,a7,n7,c7,a8,n8,c8,a9,n9,c9,a10,n10,c10,a11,n11,c11,a12,n12,c12,a13,n13,c13,a14,n14,c14⟩:=S
 obtain⟨freq,itv,cnt,til,wkst,ends,mon,week,yday,mday,day,hour,minu,sec,pos⟩:=r
 replace k1:0≤wkst:=k1
 replace k2:wkst≤6:=k2
 have HX2:=Lib.hid (show (if week=[] then yr n else wky n wkst)=x from HX.out)
 clear HX
 show Calls Tryz.prog 214 #[.agg #[.int .i64 freq,.int .i64 itv,.int .i64 cnt,.int .i64 til,.int .i64 wkst,.bool ends,.slice a6 n6 c6,.slice a7 n7 c7,.slice a8 n8 c8,.slice a9 n9 c9,.slice a10 n10 c10,.slice a11 n11 c11,.slice a12 n12 c12,.slice a13 n13 c13,.slice a14 n14 c14],.int .i64 n] w _
 by_cases c:0<n7
 ·have G:=Lib.hid (show wky n wkst=x by rw[←HX2.out,if_neg (fun e=>by have:=E7.out;rw[show week=[] from e] at this;simp at this;omega)])
  clear HX2
  go_enter Tryz.func214,Tryz.ntmps214
  go_upto_region 1 with fail
  obtain⟨B0,XR0⟩:=box_new w #[.int .i64 freq,.int .i64 itv,.int .i64 cnt,.int .i64 til,.int .i64 wkst,.bool ends,.slice a6 n6 c6,.slice a7 n7 c7,.slice a8 n8 c8,.slice a9 n9 c9,.slice a10 n10 c10,.slice a11 n11 c11,.slice a12 n12 c12,.slice a13 n13 c13,.slice a14 n14 c14] 25
  have SR0:w.heap.size<(w.alloc (.cells #[.int .i64 freq,.int .i64 itv,.int .i64 cnt,.int .i64 til,.int .i64 wkst,.bool ends,.slice a6 n6 c6,.slice a7 n7 c7,.slice a8 n8 c8,.slice a9 n9 c9,.slice a10 n10 c10,.slice a11 n11 c11,.slice a12 n12 c12,.slice a13 n13 c13,.slice a14 n14 c14] 25)).heap.size:=by simp
  generalize w.alloc (.cells #[.int .i64 freq,.int .i64 itv,.int .i64 cnt,.int .i64 til,.int .i64 wkst,.bool ends,.slice a6 n6 c6,.slice a7 n7 c7,.slice a8 n8 c8,.slice a9 n9 c9,.slice a10 n10 c10,.slice a11 n11 c11,.slice a12 n12 c12,.slice a13 n13 c13,.slice a14 n14 c14] 25)=w0 at *
  have z4:w0.cell? ⟨w.heap.size,4,none⟩=some (.int .i64 wkst):=XR0.at_ 4 _ rfl
  have z7:w0.cell? ⟨w.heap.size,7,none⟩=some (.slice a7 n7 c7):=XR0.at_ 7 _ rfl
  clear XR0
  go_wp2_with fail
  refine(rweek_yes n wkst _ h1 h2 k1 k2).mono ?_
  rintro e w' ⟨rfl,rfl⟩
  go_wp2
  go_ret
  exact⟨ret_int G.out,B0⟩
 ·have G:=Lib.hid (show yr n=x by rw[←HX2.out,if_pos (List.length_eq_zero_iff.1 (by have:=E7.out;simp at this;omega))])
  clear HX2
  go_enter Tryz.func214,Tryz.ntmps214
  go_upto_region 1 with fail
  obtain⟨B0,XR0⟩:=box_new w #[.int .i64 freq,.int .i64 itv,.int .i64 cnt,.int .i64 til,.int .i64 wkst,.bool ends,.slice a6 n6 c6,.slice a7 n7 c7,.slice a8 n8 c8,.slice a9 n9 c9,.slice a10 n10 c10,.slice a11 n11 c11,.slice a12 n12 c12,.slice a13 n13 c13,.slice a14 n14 c14] 25
  have SR0:w.heap.size<(w.alloc (.cells #[.int .i64 freq,.int .i64 itv,.int .i64 cnt,.int .i64 til,.int .i64 wkst,.bool ends,.slice a6 n6 c6,.slice a7 n7 c7,.slice a8 n8 c8,.slice a9 n9 c9,.slice a10 n10 c10,.slice a11 n11 c11,.slice a12 n12 c12,.slice a13 n13 c13,.slice a14 n14 c14] 25)).heap.size:=by simp
  generalize w.alloc (.cells #[.int .i64 freq,.int .i64 itv,.int .i64 cnt,.int .i64 til,.int .i64 wkst,.bool ends,.slice a6 n6 c6,.slice a7 n7 c7,.slice a8 n8 c8,.slice a9 n9 c9,.slice a10 n10 c10,.slice a11 n11 c11,.slice a12 n12 c12,.slice a13 n13 c13,.slice a14 n14 c14] 25)=w0 at *
  have z4:w0.cell? ⟨w.heap.size,4,none⟩=some (.int .i64 wkst):=XR0.at_ 4 _ rfl
  have z7:w0.cell? ⟨w.heap.size,7,none⟩=some (.slice a7 n7 c7):=XR0.at_ 7 _ rfl
  clear XR0
  go_wp2_with fail
  refine(rdate_yes n _ h1 h2).mono ?_
  rintro e w' ⟨rfl,rfl⟩
  go_wp2
  go_ret
  exact⟨ret_int G.out,B0⟩
set_option maxRecDepth 100000 in
set_option maxHeartbeats 8000000 in
theorem number_is (w:World) (S:RS) (r:Ru) (t x:Int) (h:RuAt w S r) (hm:mayR r=true) (ht:St.may t=true) (hx:per r t=x):
  Calls Tryz.prog 147 #[S.val r,.int .i64 t] w fun e w'=>e= .returned (.int .i64 x)∧Below w.heap.size w w':=by
 have RA:=Lib.hid h
 have hk:=wk_of hm
 have hf:=freq_of hm
 have ht1:=of_decide_eq_true ht
 have td:=may_day ht1.1 ht1.2
 have tl:-9223372036854775808≤t:=by omega
 have th:t≤9223372036854775807:=by omega
 have HX:=Lib.hid hx
 clear h hx hm ht
 obtain⟨a6,n6,c6,a7,n7,c7,a8,n8,c8,a9,n9,c9,a10,n10,c10,a11,n11,c11,a12,n12,c12,a13,n13,c13,a14,n14,c14⟩:=S
 obtain⟨freq,itv,cnt,til,wkst,ends,mon,week,yday,mday,day,hour,minu,sec,pos⟩:=r
 obtain⟨k1,k2⟩:=show 0≤wkst∧wkst≤6 from hk
 obtain⟨f1,f2⟩:=show 1≤freq∧freq≤7 from hf
 clear hk hf
 obtain⟨d1,d2⟩:=td
 have HX2:=Lib.hid (show (if freq=5 then t / 3600 else if freq=6 then t / 60 else if freq=7 then t else if freq=1 then yro ⟨freq,itv,cnt,til,wkst,ends,mon,week,yday,mday,day,hour,minu,sec,pos⟩ (t / 86400) else if freq=2 then yr (t / 86400)*12+Cv.mon (t / 86400) else if freq=3 then (t / 86400+3-wkst) / 7 else t / 86400)=x from HX.out)
 clear HX
 show Calls Tryz.prog 147 #[.agg #[.int .i64 freq,.int .i64 itv,.int .i64 cnt,.int .i64 til,.int .i64 wkst,.bool ends,.slice a6 n6 c6,.slice a7 n7 c7,.slice a8 n8 c8,.slice a9 n9 c9,.slice a10 n10 c10,.slice a11 n11 c11,.slice a12 n12 c12,.slice a13 n13 c13,.slice a14 n14 c14],.int .i64 t] w _
 by_cases c1:freq=1
 ·have G:=Lib.hid (show yro ⟨freq,itv,cnt,til,wkst,ends,mon,week,yday,mday,day,hour,minu,sec,pos⟩ (t / 86400)=x by rw[←HX2.out,if_neg (show ¬freq=5 by omega),if_neg (show ¬freq=6 by omega),if_neg (show ¬freq=7 by omega),if_pos c1])
  clear HX2
  have C1:=Lib.hid c1
  clear c1 f1 f2
  go_enter Tryz.func147,Tryz.ntmps147
  go_upto_region 1 with fail
  obtain⟨B0,XR0⟩:=box_new w #[.int .i64 freq,.int .i64 itv,.int .i64 cnt,.int .i64 til,.int .i64 wkst,.bool ends,.slice a6 n6 c6,.slice a7 n7 c7,.slice a8 n8 c8,.slice a9 n9 c9,.slice a10 n10 c10,.slice a11 n11 c11,.slice a12 n12 c12,.slice a13 n13 c13,.slice a14 n14 c14] 25
  have SR0:w.heap.size<(w.alloc (.cells #[.int .i64 freq,.int .i64 itv,.int .i64 cnt,.int .i64 til,.int .i64 wkst,.bool ends,.slice a6 n6 c6,.slice a7 n7 c7,.slice a8 n8 c8,.slice a9 n9 c9,.slice a10 n10 c10,.slice a11 n11 c11,.slice a12 n12 c12,.slice a13 n13 c13,.slice a14 n14 c14] 25)).heap.size:=by simp
  generalize w.alloc (.cells #[.int .i64 freq,.int .i64 itv,.int .i64 cnt,.int .i64 til,.int .i64 wkst,.bool ends,.slice a6 n6 c6,.slice a7 n7 c7,.slice a8 n8 c8,.slice a9 n9 c9,.slice a10 n10 c10,.slice a11 n11 c11,.slice a12 n12 c12,.slice a13 n13 c13,.slice a14 n14 c14] 25)=w0 at *
  go_wp2_with fail
  refine(rday_any t _ tl th).mono ?_
  rintro e w' ⟨rfl,rfl⟩
  have z0:w0.cell? ⟨w.heap.size,0,none⟩=some (.int .i64 freq):=XR0.at_ 0 _ rfl
  have e1:((freq:Int)==1)=true:=by rw[beq_iff_eq];exact C1.out
  have z1:w0.cell? ⟨w.heap.size,1,none⟩=some (.int .i64 itv):=XR0.at_ 1 _ rfl
  have z2:w0.cell? ⟨w.heap.size,2,none⟩=some (.int .i64 cnt):=XR0.at_ 2 _ rfl
  have z3:w0.cell? ⟨w.heap.size,3,none⟩=some (.int .i64 til):=XR0.at_ 3 _ rfl
  have z4:w0.cell? ⟨w.heap.size,4,none⟩=some (.int .i64 wkst):=XR0.at_ 4 _ rfl
  have z5:w0.cell? ⟨w.heap.size,5,none⟩=some (.bool ends):=XR0.at_ 5 _ rfl
  have z6:w0.cell? ⟨w.heap.size,6,none⟩=some (.slice a6 n6 c6):=XR0.at_ 6 _ rfl
  have z7:w0.cell? ⟨w.heap.size,7,none⟩=some (.slice a7 n7 c7):=XR0.at_ 7 _ rfl
  have z8:w0.cell? ⟨w.heap.size,8,none⟩=some (.slice a8 n8 c8):=XR0.at_ 8 _ rfl
  have z9:w0.cell? ⟨w.heap.size,9,none⟩=some (.slice a9 n9 c9):=XR0.at_ 9 _ rfl
  have z10:w0.cell? ⟨w.heap.size,10,none⟩=some (.slice a10 n10 c10):=XR0.at_ 10 _ rfl
  have z11:w0.cell? ⟨w.heap.size,11,none⟩=some (.slice a11 n11 c11):=XR0.at_ 11 _ rfl
  have z12:w0.cell? ⟨w.heap.size,12,none⟩=some (.slice a12 n12 c12):=XR0.at_ 12 _ rfl
  have z13:w0.cell? ⟨w.heap.size,13,none⟩=some (.slice a13 n13 c13):=XR0.at_ 13 _ rfl
  have z14:w0.cell? ⟨w.heap.size,14,none⟩=some (.slice a14 n14 c14):=XR0.at_ 14 _ rfl
  go_wp2_with fail
  refine(yearOf6_is _ ⟨a6,n6,c6,a7,n7,c7,a8,n8,c8,a9,n9,c9,a10,n10,c10,a11,n11,c11,a12,n12,c12,a13,n13,c13,a14,n14,c14⟩ ⟨freq,itv,cnt,til,wkst,ends,mon,week,yday,mday,day,hour,minu,sec,pos⟩ (t / 86400) x (RA.out.below B0) d1 d2 k1 k2 G.out).mono ?_
  rintro e w1 ⟨rfl,b1⟩
  go_wp2
  go_ret
  exact⟨rfl,B0.trans (b1.mono B0.size)⟩
 by_cases c2:freq=2
 ·have G:=Lib.hid (show yr (t / 86400)*12+Cv.mon (t / 86400)=x by rw[←HX2.out,if_neg (show ¬freq=5 by omega),if_neg (show ¬freq=6 by omega),if_neg (show ¬freq=7 by omega),if_neg (show ¬freq=1 by omega),if_pos c2])
  clear HX2
  have C1:=Lib.hid c1
  have C2:=Lib.hid c2
  clear c1 c2 f1 f2
  go_enter Tryz.func147,Tryz.ntmps147
  go_upto_region 1 with fail
  obtain⟨B0,XR0⟩:=box_new w #[.int .i64 freq,.int .i64 itv,.int .i64 cnt,.int .i64 til,.int .i64 wkst,.bool ends,.slice a6 n6 c6,.slice a7 n7 c7,.slice a8 n8 c8,.slice a9 n9 c9,.slice a10 n10 c10,.slice a11 n11 c11,.slice a12 n12 c12,.slice a13 n13 c13,.slice a14 n14 c14] 25
  have SR0:w.heap.size<(w.alloc (.cells #[.int .i64 freq,.int .i64 itv,.int .i64 cnt,.int .i64 til,.int .i64 wkst,.bool ends,.slice a6 n6 c6,.slice a7 n7 c7,.slice a8 n8 c8,.slice a9 n9 c9,.slice a10 n10 c10,.slice a11 n11 c11,.slice a12 n12 c12,.slice a13 n13 c13,.slice a14 n14 c14] 25)).heap.size:=by simp
  generalize w.alloc (.cells #[.int .i64 freq,.int .i64 itv,.int .i64 cnt,.int .i64 til,.int .i64 wkst,.bool ends,.slice a6 n6 c6,.slice a7 n7 c7,.slice a8 n8 c8,.slice a9 n9 c9,.slice a10 n10 c10,.slice a11 n11 c11,.slice a12 n12 c12,.slice a13 n13 c13,.slice a14 n14 c14] 25)=w0 at *
  go_wp2_with fail
  refine(rday_any t _ tl th).mono ?_
  rintro e w' ⟨rfl,rfl⟩
  have z0:w0.cell? ⟨w.heap.size,0,none⟩=some (.int .i64 freq):=XR0.at_ 0 _ rfl
  have e1:((freq:Int)==1)=false:=by rw[beq_eq_false_iff_ne];exact C1.out
  have e2:((freq:Int)==2)=true:=by rw[beq_iff_eq];exact C2.out
  obtain⟨y1,y2⟩:=yr_day (t / 86400) d1 d2
  obtain⟨m1,m2,_,_⟩:=mon_bd (t / 86400)
  go_wp2_with fail
  refine(rdate_yes (t / 86400) _ d1 d2).mono ?_
  rintro e w' ⟨rfl,rfl⟩
  go_wp2
  go_ret
  exact⟨ret_int (by rw[←G.out];omega),B0⟩
 by_cases c3:freq=3
 ·have G:=Lib.hid (show (t / 86400+3-wkst) / 7=x by rw[←HX2.out,if_neg (show ¬freq=5 by omega),if_neg (show ¬freq=6 by omega),if_neg (show ¬freq=7 by omega),if_neg (show ¬freq=1 by omega),if_neg (show ¬freq=2 by omega),if_pos c3])
  clear HX2
  have C1:=Lib.hid c1
  have C2:=Lib.hid c2
  have C3:=Lib.hid c3
  clear c1 c2 c3 f1 f2
  go_enter Tryz.func147,Tryz.ntmps147
  go_upto_region 1 with fail
  obtain⟨B0,XR0⟩:=box_new w #[.int .i64 freq,.int .i64 itv,.int .i64 cnt,.int .i64 til,.int .i64 wkst,.bool ends,.slice a6 n6 c6,.slice a7 n7 c7,.slice a8 n8 c8,.slice a9 n9 c9,.slice a10 n10 c10,.slice a11 n11 c11,.slice a12 n12 c12,.slice a13 n13 c13,.slice a14 n14 c14] 25
  have SR0:w.heap.size<(w.alloc (.cells #[.int .i64 freq,.int .i64 itv,.int .i64 cnt,.int .i64 til,.int .i64 wkst,.bool ends,.slice a6 n6 c6,.slice a7 n7 c7,.slice a8 n8 c8,.slice a9 n9 c9,.slice a10 n10 c10,.slice a11 n11 c11,.slice a12 n12 c12,.slice a13 n13 c13,.slice a14 n14 c14] 25)).heap.size:=by simp
  generalize w.alloc (.cells #[.int .i64 freq,.int .i64 itv,.int .i64 cnt,.int .i64 til,.int .i64 wkst,.bool ends,.slice a6 n6 c6,.slice a7 n7 c7,.slice a8 n8 c8,.slice a9 n9 c9,.slice a10 n10 c10,.slice a11 n11 c11,.slice a12 n12 c12,.slice a13 n13 c13,.slice a14 n14 c14] 25)=w0 at *
  go_wp2_with fail
  refine(rday_any t _ tl th).mono ?_
  rintro e w' ⟨rfl,rfl⟩
  have z0:w0.cell? ⟨w.heap.size,0,none⟩=some (.int .i64 freq):=XR0.at_ 0 _ rfl
  have e1:((freq:Int)==1)=false:=by rw[beq_eq_false_iff_ne];exact C1.out
  have e2:((freq:Int)==2)=false:=by rw[beq_eq_false_iff_ne];exact C2.out
  have e3:((freq:Int)==3)=true:=by rw[beq_iff_eq];exact C3.out
  have z4:w0.cell? ⟨w.heap.size,4,none⟩=some (.int .i64 wkst):=XR0.at_ 4 _ rfl
  go_wp2_with fail
  refine(down6_any (t / 86400+3-wkst) 7 _ (by omega) (by omega) (by omega) (by omega)).mono ?_
  rintro e w' ⟨rfl,rfl⟩
  go_wp2
  go_ret
  exact⟨ret_int G.out,B0⟩
 by_cases c4:freq=4
 ·have G:=Lib.hid (show t / 86400=x by rw[←HX2.out,if_neg (show ¬freq=5 by omega),if_neg (show ¬freq=6 by omega),if_neg (show ¬freq=7 by omega),if_neg (show ¬freq=1 by omega),if_neg (show ¬freq=2 by omega),if_neg (show ¬freq=3 by omega)])
  clear HX2
  have C1:=Lib.hid c1
  have C2:=Lib.hid c2
  have C3:=Lib.hid c3
  have C4:=Lib.hid c4
  clear c1 c2 c3 c4 f1 f2
  go_enter Tryz.func147,Tryz.ntmps147
  go_upto_region 1 with fail
  obtain⟨B0,XR0⟩:=box_new w #[.int .i64 freq,.int .i64 itv,.int .i64 cnt,.int .i64 til,.int .i64 wkst,.bool ends,.slice a6 n6 c6,.slice a7 n7 c7,.slice a8 n8 c8,.slice a9 n9 c9,.slice a10 n10 c10,.slice a11 n11 c11,.slice a12 n12 c12,.slice a13 n13 c13,.slice a14 n14 c14] 25
  have SR0:w.heap.size<(w.alloc (.cells #[.int .i64 freq,.int .i64 itv,.int .i64 cnt,.int .i64 til,.int .i64 wkst,.bool ends,.slice a6 n6 c6,.slice a7 n7 c7,.slice a8 n8 c8,.slice a9 n9 c9,.slice a10 n10 c10,.slice a11 n11 c11,.slice a12 n12 c12,.slice a13 n13 c13,.slice a14 n14 c14] 25)).heap.size:=by simp
  generalize w.alloc (.cells #[.int .i64 freq,.int .i64 itv,.int .i64 cnt,.int .i64 til,.int .i64 wkst,.bool ends,.slice a6 n6 c6,.slice a7 n7 c7,.slice a8 n8 c8,.slice a9 n9 c9,.slice a10 n10 c10,.slice a11 n11 c11,.slice a12 n12 c12,.slice a13 n13 c13,.slice a14 n14 c14] 25)=w0 at *
  go_wp2_with fail
  refine(rday_any t _ tl th).mono ?_
  rintro e w' ⟨rfl,rfl⟩
  have z0:w0.cell? ⟨w.heap.size,0,none⟩=some (.int .i64 freq):=XR0.at_ 0 _ rfl
  have e1:((freq:Int)==1)=false:=by rw[beq_eq_false_iff_ne];exact C1.out
  have e2:((freq:Int)==2)=false:=by rw[beq_eq_false_iff_ne];exact C2.out
  have e3:((freq:Int)==3)=false:=by rw[beq_eq_false_iff_ne];exact C3.out
  have e4:((freq:Int)==4)=true:=by rw[beq_iff_eq];exact C4.out
  go_wp2
  go_ret
  exact⟨ret_int G.out,B0⟩
 by_cases c5:freq=5
 ·have G:=Lib.hid (show t / 3600=x by rw[←HX2.out,if_pos c5])
  clear HX2
  have C1:=Lib.hid c1
  have C2:=Lib.hid c2
  have C3:=Lib.hid c3
  have C4:=Lib.hid c4
  have C5:=Lib.hid c5
  clear c1 c2 c3 c4 c5 f1 f2
  go_enter Tryz.func147,Tryz.ntmps147
  go_upto_region 1 with fail
  obtain⟨B0,XR0⟩:=box_new w #[.int .i64 freq,.int .i64 itv,.int .i64 cnt,.int .i64 til,.int .i64 wkst,.bool ends,.slice a6 n6 c6,.slice a7 n7 c7,.slice a8 n8 c8,.slice a9 n9 c9,.slice a10 n10 c10,.slice a11 n11 c11,.slice a12 n12 c12,.slice a13 n13 c13,.slice a14 n14 c14] 25
  have SR0:w.heap.size<(w.alloc (.cells #[.int .i64 freq,.int .i64 itv,.int .i64 cnt,.int .i64 til,.int .i64 wkst,.bool ends,.slice a6 n6 c6,.slice a7 n7 c7,.slice a8 n8 c8,.slice a9 n9 c9,.slice a10 n10 c10,.slice a11 n11 c11,.slice a12 n12 c12,.slice a13 n13 c13,.slice a14 n14 c14] 25)).heap.size:=by simp
  generalize w.alloc (.cells #[.int .i64 freq,.int .i64 itv,.int .i64 cnt,.int .i64 til,.int .i64 wkst,.bool ends,.slice a6 n6 c6,.slice a7 n7 c7,.slice a8 n8 c8,.slice a9 n9 c9,.slice a10 n10 c10,.slice a11 n11 c11,.slice a12 n12 c12,.slice a13 n13 c13,.slice a14 n14 c14] 25)=w0 at *
  go_wp2_with fail
  refine(rday_any t _ tl th).mono ?_
  rintro e w' ⟨rfl,rfl⟩
  have z0:w0.cell? ⟨w.heap.size,0,none⟩=some (.int .i64 freq):=XR0.at_ 0 _ rfl
  have e1:((freq:Int)==1)=false:=by rw[beq_eq_false_iff_ne];exact C1.out
  have e2:((freq:Int)==2)=false:=by rw[beq_eq_false_iff_ne];exact C2.out
  have e3:((freq:Int)==3)=false:=by rw[beq_eq_false_iff_ne];exact C3.out
  have e4:((freq:Int)==4)=false:=by rw[beq_eq_false_iff_ne];exact C4.out
  have e5:((freq:Int)==5)=true:=by rw[beq_iff_eq];exact C5.out
  go_wp2_with fail
  refine(down6_any t 3600 _ (by omega) (by omega) (by omega) (by omega)).mono ?_
  rintro e w' ⟨rfl,rfl⟩
  go_wp2
  go_ret
  exact⟨ret_int G.out,B0⟩
 by_cases c6:freq=6
 ·have G:=Lib.hid (show t / 60=x by rw[←HX2.out,if_neg (show ¬freq=5 by omega),if_pos c6])
  clear HX2
  have C1:=Lib.hid c1
  have C2:=Lib.hid c2
  have C3:=Lib.hid c3
  have C4:=Lib.hid c4
  have C5:=Lib.hid c5
  have C6:=Lib.hid c6
  clear c1 c2 c3 c4 c5 c6 f1 f2
  go_enter Tryz.func147,Tryz.ntmps147
  go_upto_region 1 with fail
  obtain⟨B0,XR0⟩:=box_new w #[.int .i64 freq,.int .i64 itv,.int .i64 cnt,.int .i64 til,.int .i64 wkst,.bool ends,.slice a6 n6 c6,.slice a7 n7 c7,.slice a8 n8 c8,.slice a9 n9 c9,.slice a10 n10 c10,.slice a11 n11 c11,.slice a12 n12 c12,.slice a13 n13 c13,.slice a14 n14 c14] 25
  have SR0:w.heap.size<(w.alloc (.cells #[.int .i64 freq,.int .i64 itv,.int .i64 cnt,.int .i64 til,.int .i64 wkst,.bool ends,.slice a6 n6 c6,.slice a7 n7 c7,.slice a8 n8 c8,.slice a9 n9 c9,.slice a10 n10 c10,.slice a11 n11 c11,.slice a12 n12 c12,.slice a13 n13 c13,.slice a14 n14 c14] 25)).heap.size:=by simp
  generalize w.alloc (.cells #[.int .i64 freq,.int .i64 itv,.int .i64 cnt,.int .i64 til,.int .i64 wkst,.bool ends,.slice a6 n6 c6,.slice a7 n7 c7,.slice a8 n8 c8,.slice a9 n9 c9,.slice a10 n10 c10,.slice a11 n11 c11,.slice a12 n12 c12,.slice a13 n13 c13,.slice a14 n14 c14] 25)=w0 at *
  go_wp2_with fail
  refine(rday_any t _ tl th).mono ?_
  rintro e w' ⟨rfl,rfl⟩
  have z0:w0.cell? ⟨w.heap.size,0,none⟩=some (.int .i64 freq):=XR0.at_ 0 _ rfl
  have e1:((freq:Int)==1)=false:=by rw[beq_eq_false_iff_ne];exact C1.out
  have e2:((freq:Int)==2)=false:=by rw[beq_eq_false_iff_ne];exact C2.out
  have e3:((freq:Int)==3)=false:=by rw[beq_eq_false_iff_ne];exact C3.out
  have e4:((freq:Int)==4)=false:=by rw[beq_eq_false_iff_ne];exact C4.out
  have e5:((freq:Int)==5)=false:=by rw[beq_eq_false_iff_ne];exact C5.out
  have e6:((freq:Int)==6)=true:=by rw[beq_iff_eq];exact C6.out
  go_wp2_with fail
  refine(down6_any t 60 _ (by omega) (by omega) (by omega) (by omega)).mono ?_
  rintro e w' ⟨rfl,rfl⟩
  go_wp2
  go_ret
  exact⟨ret_int G.out,B0⟩
 by_cases c7:freq=7
 ·have G:=Lib.hid (show t=x by rw[←HX2.out,if_neg (show ¬freq=5 by omega),if_neg (show ¬freq=6 by omega),if_pos c7])
  clear HX2
  have C1:=Lib.hid c1
  have C2:=Lib.hid c2
  have C3:=Lib.hid c3
  have C4:=Lib.hid c4
  have C5:=Lib.hid c5
  have C6:=Lib.hid c6
  have C7:=Lib.hid c7
  clear c1 c2 c3 c4 c5 c6 c7 f1 f2
  go_enter Tryz.func147,Tryz.ntmps147
  go_upto_region 1 with fail
  obtain⟨B0,XR0⟩:=box_new w #[.int .i64 freq,.int .i64 itv,.int .i64 cnt,.int .i64 til,.int .i64 wkst,.bool ends,.slice a6 n6 c6,.slice a7 n7 c7,.slice a8 n8 c8,.slice a9 n9 c9,.slice a10 n10 c10,.slice a11 n11 c11,.slice a12 n12 c12,.slice a13 n13 c13,.slice a14 n14 c14] 25
  have SR0:w.heap.size<(w.alloc (.cells #[.int .i64 freq,.int .i64 itv,.int .i64 cnt,.int .i64 til,.int .i64 wkst,.bool ends,.slice a6 n6 c6,.slice a7 n7 c7,.slice a8 n8 c8,.slice a9 n9 c9,.slice a10 n10 c10,.slice a11 n11 c11,.slice a12 n12 c12,.slice a13 n13 c13,.slice a14 n14 c14] 25)).heap.size:=by simp
  generalize w.alloc (.cells #[.int .i64 freq,.int .i64 itv,.int .i64 cnt,.int .i64 til,.int .i64 wkst,.bool ends,.slice a6 n6 c6,.slice a7 n7 c7,.slice a8 n8 c8,.slice a9 n9 c9,.slice a10 n10 c10,.slice a11 n11 c11,.slice a12 n12 c12,.slice a13 n13 c13,.slice a14 n14 c14] 25)=w0 at *
  go_wp2_with fail
  refine(rday_any t _ tl th).mono ?_
  rintro e w' ⟨rfl,rfl⟩
  have z0:w0.cell? ⟨w.heap.size,0,none⟩=some (.int .i64 freq):=XR0.at_ 0 _ rfl
  have e1:((freq:Int)==1)=false:=by rw[beq_eq_false_iff_ne];exact C1.out
  have e2:((freq:Int)==2)=false:=by rw[beq_eq_false_iff_ne];exact C2.out
  have e3:((freq:Int)==3)=false:=by rw[beq_eq_false_iff_ne];exact C3.out
  have e4:((freq:Int)==4)=false:=by rw[beq_eq_false_iff_ne];exact C4.out
  have e5:((freq:Int)==5)=false:=by rw[beq_eq_false_iff_ne];exact C5.out
  have e6:((freq:Int)==6)=false:=by rw[beq_eq_false_iff_ne];exact C6.out
  go_wp2
  go_ret
  exact⟨ret_int G.out,B0⟩
 omega
theorem days_down {r:Ru} {t lo:Int} (hf:r.freq≤4) (hl:max (pfirst r (t / 86400)) (-719162)=lo):
  (∀a,lo<a→a≤t / 86400→per r ((a-1)*86400)=per r t)∧(-719162<lo→per r ((lo-1)*86400)≠per r t):=by
 have i:=p_in r (t / 86400)
 refine⟨fun a h1 h2 => ?_,fun h e => ?_⟩
 ·rw[per_day hf,per_day hf,show (a-1)*86400 / 86400=a-1 from by omega]
  exact p_same ⟨by omega,by omega⟩
 ·rw[per_day hf,per_day hf,show (lo-1)*86400 / 86400=lo-1 from by omega] at e
  have:=(p_iff.1 e).1
  omega
theorem days_up {r:Ru} {t hi:Int} (hf:r.freq≤4) (hh:min (plast r (t / 86400)) 2932896=hi):
  (∀a,a<hi→t / 86400≤a→per r ((a+1)*86400)=per r t)∧(hi<2932896→per r ((hi+1)*86400)≠per r t):=by
 have i:=p_in r (t / 86400)
 refine⟨fun a h1 h2 => ?_,fun h e => ?_⟩
 ·rw[per_day hf,per_day hf,show (a+1)*86400 / 86400=a+1 from by omega]
  exact p_same ⟨by omega,by omega⟩
 ·rw[per_day hf,per_day hf,show (hi+1)*86400 / 86400=hi+1 from by omega] at e
  have:=(p_iff.1 e).2
  omega
theorem may_mul {a:Int}:St.may (a*86400)=decide (-719162≤a∧a≤2932896):=decide_eq_decide.2 (by omega)
set_option maxRecDepth 100000 in
set_option maxHeartbeats 16000000 in
theorem days6_is (w:World) (S:RS) (r:Ru) (t a b:Int) (h:RuAt w S r) (hx:daysR r t=(a,b)):
  Calls Tryz.prog 217 #[S.val r,.int .i64 t] w fun e w'=>e= .returned (.tuple #[.int .i64 a,.int .i64 b])∧Below w.heap.size w w':=by
 have RA:=Lib.hid h
 have HX:=Lib.hid hx
 clear h hx
 obtain⟨a6,n6,c6,a7,n7,c7,a8,n8,c8,a9,n9,c9,a10,n10,c10,a11,n11,c11,a12,n12,c12,a13,n13,c13,a14,n14,c14⟩:=S
 obtain⟨freq,itv,cnt,til,wkst,ends,mon,week,yday,mday,day,hour,minu,sec,pos⟩:=r
 obtain⟨m,hm⟩:∃m,mayR ⟨freq,itv,cnt,til,wkst,ends,mon,week,yday,mday,day,hour,minu,sec,pos⟩=m:=⟨_,rfl⟩
 obtain⟨q,hq⟩:∃q,St.may t=q:=⟨_,rfl⟩
 have HM:=Lib.hid hm
 have HQ:=Lib.hid hq
 clear hm hq
 have NO:=Lib.hid (fun (h:(m&&q)=false)=>show ((0:Int),(0:Int))=(a,b) from (daysR_no (r:=⟨freq,itv,cnt,til,wkst,ends,mon,week,yday,mday,day,hour,minu,sec,pos⟩) (t:=t) (by rw[HM.out,HQ.out];exact h)).symm.trans HX.out)
 show Calls Tryz.prog 217 #[.agg #[.int .i64 freq,.int .i64 itv,.int .i64 cnt,.int .i64 til,.int .i64 wkst,.bool ends,.slice a6 n6 c6,.slice a7 n7 c7,.slice a8 n8 c8,.slice a9 n9 c9,.slice a10 n10 c10,.slice a11 n11 c11,.slice a12 n12 c12,.slice a13 n13 c13,.slice a14 n14 c14],.int .i64 t] w _
 go_enter Tryz.func217,Tryz.ntmps217
 go_upto_region 1 with fail
 obtain⟨B0,XR0⟩:=box_new w #[.int .i64 freq,.int .i64 itv,.int .i64 cnt,.int .i64 til,.int .i64 wkst,.bool ends,.slice a6 n6 c6,.slice a7 n7 c7,.slice a8 n8 c8,.slice a9 n9 c9,.slice a10 n10 c10,.slice a11 n11 c11,.slice a12 n12 c12,.slice a13 n13 c13,.slice a14 n14 c14] 25
 have SR0:w.heap.size<(w.alloc (.cells #[.int .i64 freq,.int .i64 itv,.int .i64 cnt,.int .i64 til,.int .i64 wkst,.bool ends,.slice a6 n6 c6,.slice a7 n7 c7,.slice a8 n8 c8,.slice a9 n9 c9,.slice a10 n10 c10,.slice a11 n11 c11,.slice a12 n12 c12,.slice a13 n13 c13,.slice a14 n14 c14] 25)).heap.size:=by simp
 generalize w.alloc (.cells #[.int .i64 freq,.int .i64 itv,.int .i64 cnt,.int .i64 til,.int .i64 wkst,.bool ends,.slice a6 n6 c6,.slice a7 n7 c7,.slice a8 n8 c8,.slice a9 n9 c9,.slice a10 n10 c10,.slice a11 n11 c11,.slice a12 n12 c12,.slice a13 n13 c13,.slice a14 n14 c14] 25)=w0 at *
 obtain⟨z0,z1,z2,z3,z4,z5,z6,z7,z8,z9,z10,z11,z12,z13,z14⟩:=cells15 XR0
 go_wp2_with fail
 refine(right_is _ ⟨a6,n6,c6,a7,n7,c7,a8,n8,c8,a9,n9,c9,a10,n10,c10,a11,n11,c11,a12,n12,c12,a13,n13,c13,a14,n14,c14⟩ ⟨freq,itv,cnt,til,wkst,ends,mon,week,yday,mday,day,hour,minu,sec,pos⟩ t m q (RA.out.below B0) HM.out HQ.out).mono ?_
 rintro e w1 ⟨rfl,b1⟩
 clear z0 z1 z2 z3 z4 z5 z6 z7 z8 z9 z10 z11 z12 z13 z14
 have B1:=B0.trans (b1.mono B0.size)
 have XR1:=XR0.below b1
 clear B0 XR0 b1 SR0
 cases m
 ·have e:=NO.out (by simp)
  obtain⟨rfl,rfl⟩:=Prod.mk.inj e
  go_wp2
  go_ret2
  exact⟨rfl,B1⟩
 ·cases q
  ·have e:=NO.out (by simp)
   obtain⟨rfl,rfl⟩:=Prod.mk.inj e
   go_wp2
   go_ret2
   exact⟨rfl,B1⟩
  ·clear NO
   have ht1:=of_decide_eq_true HQ.out
   have td:=may_day ht1.1 ht1.2
   have tl:-9223372036854775808≤t:=by omega
   have th:t≤9223372036854775807:=by omega
   have e:=(daysR_yes HM.out HQ.out).symm.trans HX.out
   obtain⟨ea,eb⟩:=Prod.mk.inj e
   have dn:=rise_days (r:=⟨freq,itv,cnt,til,wkst,ends,mon,week,yday,mday,day,hour,minu,sec,pos⟩) HQ.out
   rw[ea,eb] at dn
   clear e ht1
   go_wp2_with fail
   refine(rday_any t _ tl th).mono ?_
   rintro e w' ⟨rfl,rfl⟩
   by_cases hf:4<freq
   ·have el:=rise_late (r:=⟨freq,itv,cnt,til,wkst,ends,mon,week,yday,mday,day,hour,minu,sec,pos⟩) (t:=t) hf HQ.out
    rw[ea,eb] at el
    have e1:t / 86400=a:=by omega
    have e2:t / 86400=b:=by omega
    have E1:=Lib.hid e1
    have E2:=Lib.hid e2
    have c:decide (4<freq)=true:=decide_eq_true hf
    clear e1 e2 el ea eb dn
    have z0:w1.cell? ⟨w.heap.size,0,none⟩=some (.int .i64 freq):=XR1.at_ 0 _ rfl
    go_wp2
    go_ret2
    exact⟨ret_two E1.out E2.out,B1⟩
   ·have c:decide (4<freq)=false:=decide_eq_false hf
    have DD:=Lib.hid (days_down (r:=⟨freq,itv,cnt,til,wkst,ends,mon,week,yday,mday,day,hour,minu,sec,pos⟩) (t:=t) (by show freq≤4;omega) ea)
    have DU:=Lib.hid (days_up (r:=⟨freq,itv,cnt,til,wkst,ends,mon,week,yday,mday,day,hour,minu,sec,pos⟩) (t:=t) (by show freq≤4;omega) eb)
    obtain⟨k,hk⟩:∃k,per ⟨freq,itv,cnt,til,wkst,ends,mon,week,yday,mday,day,hour,minu,sec,pos⟩ t=k:=⟨_,rfl⟩
    have HK:=Lib.hid hk
    clear hk ea eb
    obtain⟨z0,z1,z2,z3,z4,z5,z6,z7,z8,z9,z10,z11,z12,z13,z14⟩:=cells15 XR1
    go_wp2_with fail
    refine(number_is _ ⟨a6,n6,c6,a7,n7,c7,a8,n8,c8,a9,n9,c9,a10,n10,c10,a11,n11,c11,a12,n12,c12,a13,n13,c13,a14,n14,c14⟩ ⟨freq,itv,cnt,til,wkst,ends,mon,week,yday,mday,day,hour,minu,sec,pos⟩ t k (RA.out.below B1) HM.out HQ.out HK.out).mono ?_
    rintro e w2 ⟨rfl,b2⟩
    have B2:=B1.trans (b2.mono B1.size)
    have XR2:=XR1.below b2
    clear B1 XR1 b2
    clear z0 z1 z2 z3 z4 z5 z6 z7 z8 z9 z10 z11 z12 z13 z14
    have DN:=Lib.hid dn
    generalize t / 86400=n at *
    have DD2:=Lib.hid (show (∀z,a<z→z≤n→per ⟨freq,itv,cnt,til,wkst,ends,mon,week,yday,mday,day,hour,minu,sec,pos⟩ ((z-1)*86400)=k)∧(-719162<a→per ⟨freq,itv,cnt,til,wkst,ends,mon,week,yday,mday,day,hour,minu,sec,pos⟩ ((a-1)*86400)≠k) from by rw[←HK.out];exact DD.out)
    have DU2:=Lib.hid (show (∀z,z<b→n≤z→per ⟨freq,itv,cnt,til,wkst,ends,mon,week,yday,mday,day,hour,minu,sec,pos⟩ ((z+1)*86400)=k)∧(b<2932896→per ⟨freq,itv,cnt,til,wkst,ends,mon,week,yday,mday,day,hour,minu,sec,pos⟩ ((b+1)*86400)≠k) from by rw[←HK.out];exact DU.out)
    clear DD DU c
    obtain⟨dn1,dn2,dn3,dn4⟩:=dn
    go_wp2
    go_loopw [8] (fun i wr=>∃z:Int,i= .int .i64 z∧(a≤z∧z≤n)∧Below w2.heap.size w2 wr) (fun i _=>(intOf i-a).toNat)
    case atStart=>exact⟨n,rfl,⟨by omega,Int.le_refl _⟩,Below.refl _ _⟩
    case round=>
     obtain⟨zd,rfl,hzd,brd⟩:=hrel
     have XRr:Box wr w.heap.size #[.int .i64 freq,.int .i64 itv,.int .i64 cnt,.int .i64 til,.int .i64 wkst,.bool ends,.slice a6 n6 c6,.slice a7 n7 c7,.slice a8 n8 c8,.slice a9 n9 c9,.slice a10 n10 c10,.slice a11 n11 c11,.slice a12 n12 c12,.slice a13 n13 c13,.slice a14 n14 c14]:=XR2.below brd
     have BRd:Below w.heap.size w wr:=B2.trans (brd.mono B2.size)
     obtain⟨hz1d,hz2d⟩:=hzd
     by_cases hlt:a<zd
     ·have M:=Lib.hid (show St.may ((zd-1)*86400)=true by rw[may_mul];exact decide_eq_true (by omega))
      have P:=Lib.hid (DD2.out.1 zd hlt hz2d)
      obtain⟨z0,z1,z2,z3,z4,z5,z6,z7,z8,z9,z10,z11,z12,z13,z14⟩:=cells15 XRr
      go_wp2_with fail
      refine(rmay_any ((zd-1)*86400) _).mono ?_
      rintro e w' ⟨rfl,rfl⟩
      rw[M.out]
      go_wp2_with fail
      refine(number_is _ ⟨a6,n6,c6,a7,n7,c7,a8,n8,c8,a9,n9,c9,a10,n10,c10,a11,n11,c11,a12,n12,c12,a13,n13,c13,a14,n14,c14⟩ ⟨freq,itv,cnt,til,wkst,ends,mon,week,yday,mday,day,hour,minu,sec,pos⟩ ((zd-1)*86400) k (RA.out.below BRd) HM.out M.out P.out).mono ?_
      rintro e w5 ⟨rfl,b5⟩
      clear z0 z1 z2 z3 z4 z5 z6 z7 z8 z9 z10 z11 z12 z13 z14
      have q:((k:Int)==k)=true:=by rw[beq_iff_eq]
      go_wp2
      go_roundw
      case rel=>exact⟨(zd-1),by go_num,⟨by omega,by omega⟩,brd.trans (b5.mono brd.size)⟩
      case measure=>simp[intOf];omega
     ·obtain rfl:zd=a:=by omega
      by_cases hb:-719162<zd
      ·have M:=Lib.hid (show St.may ((zd-1)*86400)=true by rw[may_mul];exact decide_eq_true (by omega))
       obtain⟨y,hy⟩:∃y,per ⟨freq,itv,cnt,til,wkst,ends,mon,week,yday,mday,day,hour,minu,sec,pos⟩ ((zd-1)*86400)=y:=⟨_,rfl⟩
       have HY:=Lib.hid hy
       have P:=Lib.hid (show ¬y=k by rw[←hy];exact DD2.out.2 hb)
       clear hy
       obtain⟨z0,z1,z2,z3,z4,z5,z6,z7,z8,z9,z10,z11,z12,z13,z14⟩:=cells15 XRr
       go_wp2_with fail
       refine(rmay_any ((zd-1)*86400) _).mono ?_
       rintro e w' ⟨rfl,rfl⟩
       rw[M.out]
       go_wp2_with fail
       refine(number_is _ ⟨a6,n6,c6,a7,n7,c7,a8,n8,c8,a9,n9,c9,a10,n10,c10,a11,n11,c11,a12,n12,c12,a13,n13,c13,a14,n14,c14⟩ ⟨freq,itv,cnt,til,wkst,ends,mon,week,yday,mday,day,hour,minu,sec,pos⟩ ((zd-1)*86400) y (RA.out.below BRd) HM.out M.out HY.out).mono ?_
       rintro e w5 ⟨rfl,b5⟩
       clear z0 z1 z2 z3 z4 z5 z6 z7 z8 z9 z10 z11 z12 z13 z14
       have q:((y:Int)==k)=false:=by rw[beq_eq_false_iff_ne];exact P.out
       skip
       have B3:=BRd.trans (b5.mono BRd.size)
       have XR3:=XRr.below b5
       go_wp2
       generalize hw3:w5=w3 at *
       clear hw3
       go_loopw [9] (fun i wr=>∃z:Int,i= .int .i64 z∧(n≤z∧z≤b)∧Below w3.heap.size w3 wr) (fun i _=>(b-intOf i).toNat)
       case atStart=>exact⟨n,rfl,⟨Int.le_refl _,by omega⟩,Below.refl _ _⟩
       case round=>
        obtain⟨zu,rfl,hzu,bru⟩:=hrel
        have XRr:Box wr w.heap.size #[.int .i64 freq,.int .i64 itv,.int .i64 cnt,.int .i64 til,.int .i64 wkst,.bool ends,.slice a6 n6 c6,.slice a7 n7 c7,.slice a8 n8 c8,.slice a9 n9 c9,.slice a10 n10 c10,.slice a11 n11 c11,.slice a12 n12 c12,.slice a13 n13 c13,.slice a14 n14 c14]:=XR3.below bru
        have BRu:Below w.heap.size w wr:=B3.trans (bru.mono B3.size)
        obtain⟨hz1u,hz2u⟩:=hzu
        by_cases hlt:zu<b
        ·have M:=Lib.hid (show St.may ((zu+1)*86400)=true by rw[may_mul];exact decide_eq_true (by omega))
         have P:=Lib.hid (DU2.out.1 zu hlt hz1u)
         obtain⟨z0,z1,z2,z3,z4,z5,z6,z7,z8,z9,z10,z11,z12,z13,z14⟩:=cells15 XRr
         go_wp2_with fail
         refine(rmay_any ((zu+1)*86400) _).mono ?_
         rintro e w' ⟨rfl,rfl⟩
         rw[M.out]
         go_wp2_with fail
         refine(number_is _ ⟨a6,n6,c6,a7,n7,c7,a8,n8,c8,a9,n9,c9,a10,n10,c10,a11,n11,c11,a12,n12,c12,a13,n13,c13,a14,n14,c14⟩ ⟨freq,itv,cnt,til,wkst,ends,mon,week,yday,mday,day,hour,minu,sec,pos⟩ ((zu+1)*86400) k (RA.out.below BRu) HM.out M.out P.out).mono ?_
         rintro e w5 ⟨rfl,b5⟩
         clear z0 z1 z2 z3 z4 z5 z6 z7 z8 z9 z10 z11 z12 z13 z14
         have q:((k:Int)==k)=true:=by rw[beq_iff_eq]
         go_wp2
         go_roundw
         case rel=>exact⟨(zu+1),by go_num,⟨by omega,by omega⟩,bru.trans (b5.mono bru.size)⟩
         case measure=>simp[intOf];omega
        ·obtain rfl:zu=b:=by omega
         by_cases hb:zu<2932896
         ·have M:=Lib.hid (show St.may ((zu+1)*86400)=true by rw[may_mul];exact decide_eq_true (by omega))
          obtain⟨y,hy⟩:∃y,per ⟨freq,itv,cnt,til,wkst,ends,mon,week,yday,mday,day,hour,minu,sec,pos⟩ ((zu+1)*86400)=y:=⟨_,rfl⟩
          have HY:=Lib.hid hy
          have P:=Lib.hid (show ¬y=k by rw[←hy];exact DU2.out.2 hb)
          clear hy
          obtain⟨z0,z1,z2,z3,z4,z5,z6,z7,z8,z9,z10,z11,z12,z13,z14⟩:=cells15 XRr
          go_wp2_with fail
          refine(rmay_any ((zu+1)*86400) _).mono ?_
          rintro e w' ⟨rfl,rfl⟩
          rw[M.out]
          go_wp2_with fail
          refine(number_is _ ⟨a6,n6,c6,a7,n7,c7,a8,n8,c8,a9,n9,c9,a10,n10,c10,a11,n11,c11,a12,n12,c12,a13,n13,c13,a14,n14,c14⟩ ⟨freq,itv,cnt,til,wkst,ends,mon,week,yday,mday,day,hour,minu,sec,pos⟩ ((zu+1)*86400) y (RA.out.below BRu) HM.out M.out HY.out).mono ?_
          rintro e w5 ⟨rfl,b5⟩
          clear z0 z1 z2 z3 z4 z5 z6 z7 z8 z9 z10 z11 z12 z13 z14
          have q:((y:Int)==k)=false:=by rw[beq_eq_false_iff_ne];exact P.out
          go_wp2
          go_ret2
          exact⟨rfl,BRu.trans (b5.mono BRu.size)⟩
         ·have M:=Lib.hid (show St.may ((zu+1)*86400)=false by rw[may_mul];exact decide_eq_false (by omega))
          go_wp2_with fail
          refine(rmay_any ((zu+1)*86400) _).mono ?_
          rintro e w' ⟨rfl,rfl⟩
          rw[M.out]
          go_wp2
          go_ret2
          exact⟨rfl,BRu⟩
      ·have M:=Lib.hid (show St.may ((zd-1)*86400)=false by rw[may_mul];exact decide_eq_false (by omega))
       go_wp2_with fail
       refine(rmay_any ((zd-1)*86400) _).mono ?_
       rintro e w' ⟨rfl,rfl⟩
       rw[M.out]
       skip
       have B3:=BRd
       have XR3:=XRr
       go_wp2
       generalize hw3:wr=w3 at *
       clear hw3
       go_loopw [9] (fun i wr=>∃z:Int,i= .int .i64 z∧(n≤z∧z≤b)∧Below w3.heap.size w3 wr) (fun i _=>(b-intOf i).toNat)
       case atStart=>exact⟨n,rfl,⟨Int.le_refl _,by omega⟩,Below.refl _ _⟩
       case round=>
        obtain⟨zu,rfl,hzu,bru⟩:=hrel
        have XRr:Box wr w.heap.size #[.int .i64 freq,.int .i64 itv,.int .i64 cnt,.int .i64 til,.int .i64 wkst,.bool ends,.slice a6 n6 c6,.slice a7 n7 c7,.slice a8 n8 c8,.slice a9 n9 c9,.slice a10 n10 c10,.slice a11 n11 c11,.slice a12 n12 c12,.slice a13 n13 c13,.slice a14 n14 c14]:=XR3.below bru
        have BRu:Below w.heap.size w wr:=B3.trans (bru.mono B3.size)
        obtain⟨hz1u,hz2u⟩:=hzu
        by_cases hlt:zu<b
        ·have M:=Lib.hid (show St.may ((zu+1)*86400)=true by rw[may_mul];exact decide_eq_true (by omega))
         have P:=Lib.hid (DU2.out.1 zu hlt hz1u)
         obtain⟨z0,z1,z2,z3,z4,z5,z6,z7,z8,z9,z10,z11,z12,z13,z14⟩:=cells15 XRr
         go_wp2_with fail
         refine(rmay_any ((zu+1)*86400) _).mono ?_
         rintro e w' ⟨rfl,rfl⟩
         rw[M.out]
         go_wp2_with fail
         refine(number_is _ ⟨a6,n6,c6,a7,n7,c7,a8,n8,c8,a9,n9,c9,a10,n10,c10,a11,n11,c11,a12,n12,c12,a13,n13,c13,a14,n14,c14⟩ ⟨freq,itv,cnt,til,wkst,ends,mon,week,yday,mday,day,hour,minu,sec,pos⟩ ((zu+1)*86400) k (RA.out.below BRu) HM.out M.out P.out).mono ?_
         rintro e w5 ⟨rfl,b5⟩
         clear z0 z1 z2 z3 z4 z5 z6 z7 z8 z9 z10 z11 z12 z13 z14
         have q:((k:Int)==k)=true:=by rw[beq_iff_eq]
         go_wp2
         go_roundw
         case rel=>exact⟨(zu+1),by go_num,⟨by omega,by omega⟩,bru.trans (b5.mono bru.size)⟩
         case measure=>simp[intOf];omega
        ·obtain rfl:zu=b:=by omega
         by_cases hb:zu<2932896
         ·have M:=Lib.hid (show St.may ((zu+1)*86400)=true by rw[may_mul];exact decide_eq_true (by omega))
          obtain⟨y,hy⟩:∃y,per ⟨freq,itv,cnt,til,wkst,ends,mon,week,yday,mday,day,hour,minu,sec,pos⟩ ((zu+1)*86400)=y:=⟨_,rfl⟩
          have HY:=Lib.hid hy
          have P:=Lib.hid (show ¬y=k by rw[←hy];exact DU2.out.2 hb)
          clear hy
          obtain⟨z0,z1,z2,z3,z4,z5,z6,z7,z8,z9,z10,z11,z12,z13,z14⟩:=cells15 XRr
          go_wp2_with fail
          refine(rmay_any ((zu+1)*86400) _).mono ?_
          rintro e w' ⟨rfl,rfl⟩
          rw[M.out]
          go_wp2_with fail
          refine(number_is _ ⟨a6,n6,c6,a7,n7,c7,a8,n8,c8,a9,n9,c9,a10,n10,c10,a11,n11,c11,a12,n12,c12,a13,n13,c13,a14,n14,c14⟩ ⟨freq,itv,cnt,til,wkst,ends,mon,week,yday,mday,day,hour,minu,sec,pos⟩ ((zu+1)*86400) y (RA.out.below BRu) HM.out M.out HY.out).mono ?_
          rintro e w5 ⟨rfl,b5⟩
          clear z0 z1 z2 z3 z4 z5 z6 z7 z8 z9 z10 z11 z12 z13 z14
          have q:((y:Int)==k)=false:=by rw[beq_eq_false_iff_ne];exact P.out
          go_wp2
          go_ret2
          exact⟨rfl,BRu.trans (b5.mono BRu.size)⟩
         ·have M:=Lib.hid (show St.may ((zu+1)*86400)=false by rw[may_mul];exact decide_eq_false (by omega))
          go_wp2_with fail
          refine(rmay_any ((zu+1)*86400) _).mono ?_
          rintro e w' ⟨rfl,rfl⟩
          rw[M.out]
          go_wp2
          go_ret2
          exact⟨rfl,BRu⟩
end Go.Proofs.YtchpjhjjakckbaaGreatDoor.Dd
