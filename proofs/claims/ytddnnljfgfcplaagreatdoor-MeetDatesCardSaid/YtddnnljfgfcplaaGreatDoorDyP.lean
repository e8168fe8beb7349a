/- The walks of package days' yearOf, year, period and Period. The walks of package days' year and Days. -/
import Derived.Test.YtddnnljfgfcplaaGreatDoorDyW
set_option maxRecDepth 100000
set_option maxHeartbeats 8000000
set_option linter.unusedVariables false
namespace Go.Proofs.YtddnnljfgfcplaaGreatDoor.Dd
open Lib (hid)
open Go.RowKit Cv St Ru
theorem yearOf_is (w:World) (S:RS) (r:Ru) (n x:Int) (h:RuAt w S r) (h1:-719162<=n) (h2:n<=2932896) (k1:0<=r.wkst) (k2:r.wkst<=6) (hx:yro r n=x):
  Calls Tryz.prog 276 #[S.val r,.int .i64 n] w fun e w'=>e= .returned (.int .i64 x)/\Below w.heap.size w w':=by
 have E7:=hid h.h7.1
 have HX:=hid hx
 clear h hx
 obtain⟨a6,n6,c6,a7,n7,c7,a8,n8,c8,a9,n9,c9,a10,n10,c10,a11,n11,c11,a12,n12,c12,a13,n13,c13,a14,n14,c14⟩:=S
 obtain⟨freq,itv,cnt,til,wkst,ends,mon,week,yday,mday,day,hour,minu,sec,pos⟩:=r
 replace k1:0<=wkst:=k1
 replace k2:wkst<=6:=k2
 have HX2:=hid (show (if week=[] then yr n else wky n wkst)=x from HX.out)
 clear HX
 show Calls Tryz.prog 276 #[.agg #[.int .i64 freq,.int .i64 itv,.int .i64 cnt,.int .i64 til,.int .i64 wkst,.bool ends,.slice a6 n6 c6,.slice a7 n7 c7,.slice a8 n8 c8,.slice a9 n9 c9,.slice a10 n10 c10,.slice a11 n11 c11,.slice a12 n12 c12,.slice a13 n13 c13,.slice a14 n14 c14],.int .i64 n] w _
 by_cases c:0<n7
 ·have G:=hid (show wky n wkst=x by rw[<-HX2.out,if_neg (fun e=>by have:=E7.out;rw[show week=[] from e] at this;simp at this;omega)])
  clear HX2
  go_enter Tryz.func276,Tryz.ntmps276
  go_upto_region 1 with fail
  obtain⟨B0,XR0⟩:=box_new w #[.int .i64 freq,.int .i64 itv,.int .i64 cnt,.int .i64 til,.int .i64 wkst,.bool ends,.slice a6 n6 c6,.slice a7 n7 c7,.slice a8 n8 c8,.slice a9 n9 c9,.slice a10 n10 c10,.slice a11 n11 c11,.slice a12 n12 c12,.slice a13 n13 c13,.slice a14 n14 c14] 25;have SR0:w.heap.size<(w.alloc (.cells #[.int .i64 freq,.int .i64 itv,.int .i64 cnt,.int .i64 til,.int .i64 wkst,.bool ends,.slice a6 n6 c6,.slice a7 n7 c7,.slice a8 n8 c8,.slice a9 n9 c9,.slice a10 n10 c10,.slice a11 n11 c11,.slice a12 n12 c12,.slice a13 n13 c13,.slice a14 n14 c14] 25)).heap.size:=by simp
  generalize w.alloc (.cells #[.int .i64 freq,.int .i64 itv,.int .i64 cnt,.int .i64 til,.int .i64 wkst,.bool ends,.slice a6 n6 c6,.slice a7 n7 c7,.slice a8 n8 c8,.slice a9 n9 c9,.slice a10 n10 c10,.slice a11 n11 c11,.slice a12 n12 c12,.slice a13 n13 c13,.slice a14 n14 c14] 25)=w0 at *;have z4:w0.cell? ⟨w.heap.size,4,none⟩=some (.int .i64 wkst):=XR0.at_ 4 _ rfl
  have z7:w0.cell? ⟨w.heap.size,7,none⟩=some (.slice a7 n7 c7):=XR0.at_ 7 _ rfl
  clear XR0;go_wp2_with fail;refine(week_yes n wkst _ h1 h2 k1 k2).mono ?_;rintro e w' ⟨rfl,rfl⟩;go_wp2;go_ret;exact⟨ret_int G.out,B0⟩
 ·have G:=hid (show yr n=x by rw[<-HX2.out,if_pos (List.length_eq_zero_iff.1 (by have:=E7.out;simp at this;omega))])
  clear HX2
  go_enter Tryz.func276,Tryz.ntmps276
  go_upto_region 1 with fail
  obtain⟨B0,XR0⟩:=box_new w #[.int .i64 freq,.int .i64 itv,.int .i64 cnt,.int .i64 til,.int .i64 wkst,.bool ends,.slice a6 n6 c6,.slice a7 n7 c7,.slice a8 n8 c8,.slice a9 n9 c9,.slice a10 n10 c10,.slice a11 n11 c11,.slice a12 n12 c12,.slice a13 n13 c13,.slice a14 n14 c14] 25;have SR0:w.heap.size<(w.alloc (.cells #[.int .i64 freq,.int .i64 itv,.int .i64 cnt,.int .i64 til,.int .i64 wkst,.bool ends,.slice a6 n6 c6,.slice a7 n7 c7,.slice a8 n8 c8,.slice a9 n9 c9,.slice a10 n10 c10,.slice a11 n11 c11,.slice a12 n12 c12,.slice a13 n13 c13,.slice a14 n14 c14] 25)).heap.size:=by simp
  generalize w.alloc (.cells #[.int .i64 freq,.int .i64 itv,.int .i64 cnt,.int .i64 til,.int .i64 wkst,.bool ends,.slice a6 n6 c6,.slice a7 n7 c7,.slice a8 n8 c8,.slice a9 n9 c9,.slice a10 n10 c10,.slice a11 n11 c11,.slice a12 n12 c12,.slice a13 n13 c13,.slice a14 n14 c14] 25)=w0 at *;have z4:w0.cell? ⟨w.heap.size,4,none⟩=some (.int .i64 wkst):=XR0.at_ 4 _ rfl
  have z7:w0.cell? ⟨w.heap.size,7,none⟩=some (.slice a7 n7 c7):=XR0.at_ 7 _ rfl
  clear XR0;go_wp2_with fail;refine(yearDay_yes n _ h1 h2).mono ?_;rintro e w' ⟨rfl,rfl⟩;go_wp2;go_ret;exact⟨ret_int G.out,B0⟩
theorem per5 (t:Int):t / 86400*24+t % 86400 / 3600=t / 3600:=by omega
theorem per6 (t:Int):t / 86400*24*60+t % 86400 / 60=t / 60:=by omega
theorem per3 (n k:Int):(wst n k+3-k).tdiv 7=(n+3-k) / 7:=by
 rw[wst_eq,show 7*((n+3-k) / 7)+k-3+3-k=7*((n+3-k) / 7) from by omega]
 exact Int.mul_tdiv_cancel_left _ (by decide)
theorem period_is (w:World) (S:RS) (r:Ru) (t x:Int) (h:RuAt w S r) (hm:mayR r=true) (ht:St.may t=true) (hx:per r t=x):
  Calls Tryz.prog 262 #[S.val r,.int .i64 t] w fun e w'=>e= .returned (.int .i64 x)/\Below w.heap.size w w':=by
 have RA:=hid h
 have hk:=wk_of hm
 have hf:=freq_of hm
 have ht1:=of_decide_eq_true ht
 have td:=may_day ht1.1 ht1.2
 have tl:-9223372036854775808<=t:=by omega
 have th:t<=9223372036854775807:=by omega
 have HX:=hid hx
 clear h hx hm ht
 obtain⟨a6,n6,c6,a7,n7,c7,a8,n8,c8,a9,n9,c9,a10,n10,c10,a11,n11,c11,a12,n12,c12,a13,n13,c13,a14,n14,c14⟩:=S
 obtain⟨freq,itv,cnt,til,wkst,ends,mon,week,yday,mday,day,hour,minu,sec,pos⟩:=r
 obtain⟨k1,k2⟩:=show 0<=wkst/\wkst<=6 from hk
 obtain⟨f1,f2⟩:=show 1<=freq/\freq<=7 from hf
 clear hk hf
 obtain⟨d1,d2⟩:=td
 have HX2:=hid (show (if freq=5 then t / 3600 else if freq=6 then t / 60 else if freq=7 then t else if freq=1 then yro ⟨freq,itv,cnt,til,wkst,ends,mon,week,yday,mday,day,hour,minu,sec,pos⟩ (t / 86400) else if freq=2 then yr (t / 86400)*12+Cv.mon (t / 86400) else if freq=3 then (t / 86400+3-wkst) / 7 else t / 86400)=x from HX.out)
 clear HX
 show Calls Tryz.prog 262 #[.agg #[.int .i64 freq,.int .i64 itv,.int .i64 cnt,.int .i64 til,.int .i64 wkst,.bool ends,.slice a6 n6 c6,.slice a7 n7 c7,.slice a8 n8 c8,.slice a9 n9 c9,.slice a10 n10 c10,.slice a11 n11 c11,.slice a12 n12 c12,.slice a13 n13 c13,.slice a14 n14 c14],.int .i64 t] w _
 by_cases c1:freq=1
 ·have G:=hid (show yro ⟨freq,itv,cnt,til,wkst,ends,mon,week,yday,mday,day,hour,minu,sec,pos⟩ (t / 86400)=x by rw[<-HX2.out,if_neg (show ¬freq=5 by omega),if_neg (show ¬freq=6 by omega),if_neg (show ¬freq=7 by omega),if_pos c1])
  clear HX2;have C1:=hid c1;clear c1 f1 f2
  go_enter Tryz.func262,Tryz.ntmps262
  go_upto_region 1 with fail
  obtain⟨B0,XR0⟩:=box_new w #[.int .i64 freq,.int .i64 itv,.int .i64 cnt,.int .i64 til,.int .i64 wkst,.bool ends,.slice a6 n6 c6,.slice a7 n7 c7,.slice a8 n8 c8,.slice a9 n9 c9,.slice a10 n10 c10,.slice a11 n11 c11,.slice a12 n12 c12,.slice a13 n13 c13,.slice a14 n14 c14] 25;have SR0:w.heap.size<(w.alloc (.cells #[.int .i64 freq,.int .i64 itv,.int .i64 cnt,.int .i64 til,.int .i64 wkst,.bool ends,.slice a6 n6 c6,.slice a7 n7 c7,.slice a8 n8 c8,.slice a9 n9 c9,.slice a10 n10 c10,.slice a11 n11 c11,.slice a12 n12 c12,.slice a13 n13 c13,.slice a14 n14 c14] 25)).heap.size:=by simp
  generalize w.alloc (.cells #[.int .i64 freq,.int .i64 itv,.int .i64 cnt,.int .i64 til,.int .i64 wkst,.bool ends,.slice a6 n6 c6,.slice a7 n7 c7,.slice a8 n8 c8,.slice a9 n9 c9,.slice a10 n10 c10,.slice a11 n11 c11,.slice a12 n12 c12,.slice a13 n13 c13,.slice a14 n14 c14] 25)=w0 at *;go_wp2_with fail;refine(day_any t _ tl th).mono ?_;rintro e w' ⟨rfl,rfl⟩;have z0:w0.cell? ⟨w.heap.size,0,none⟩=some (.int .i64 freq):=XR0.at_ 0 _ rfl
  have e1:((freq:Int)==1)=true:=by rw[beq_iff_eq];exact C1.out
  have z1:w0.cell? ⟨w.heap.size,1,none⟩=some (.int .i64 itv):=XR0.at_ 1 _ rfl
  have z2:w0.cell? ⟨w.heap.size,2,none⟩=some (.int .i64 cnt):=XR0.at_ 2 _ rfl
  have z3:w0.cell? ⟨w.heap.size,3,none⟩=some (.int .i64 til):=XR0.at_ 3 _ rfl
  have z4:w0.cell? ⟨w.heap.size,4,none⟩=some (.int .i64 wkst):=XR0.at_ 4 _ rfl
  have z5:w0.cell? ⟨w.heap.size,5,none⟩=some (.bool ends):=XR0.at_ 5 _ rfl
  have z6:w0.cell? ⟨w.heap.size,6,none⟩=some (.slice a6 n6 c6):=XR0.at_ 6 _ rfl
  have z7:w0.cell? ⟨w.heap.size,7,none⟩=some (.slice a7 n7 c7):=XR0.at_ 7 _ rfl
  have z8:w0.cell? ⟨w.heap.size,8,none⟩=some (.slice a8 n8 c8):=XR0.at_ 8 _ rfl
  have z9:w0.cell? ⟨w.heap.size,9,none⟩=some (.slice a9 n9 c9):=XR0.at_ 9 _ rfl
  have z10:w0.cell? ⟨w.heap.size,10,none⟩=some (.slice a10 n10 c10):=XR0.at_ 10 _ rfl
  have z11:w0.cell? ⟨w.heap.size,11,none⟩=some (.slice a11 n11 c11):=XR0.at_ 11 _ rfl
  have z12:w0.cell? ⟨w.heap.size,12,none⟩=some (.slice a12 n12 c12):=XR0.at_ 12 _ rfl
  have z13:w0.cell? ⟨w.heap.size,13,none⟩=some (.slice a13 n13 c13):=XR0.at_ 13 _ rfl
  have z14:w0.cell? ⟨w.heap.size,14,none⟩=some (.slice a14 n14 c14):=XR0.at_ 14 _ rfl
  go_wp2_with fail;refine(yearOf_is _ ⟨a6,n6,c6,a7,n7,c7,a8,n8,c8,a9,n9,c9,a10,n10,c10,a11,n11,c11,a12,n12,c12,a13,n13,c13,a14,n14,c14⟩ ⟨freq,itv,cnt,til,wkst,ends,mon,week,yday,mday,day,hour,minu,sec,pos⟩ (t / 86400) x (RA.out.below B0) d1 d2 k1 k2 G.out).mono ?_;rintro e w1 ⟨rfl,b1⟩;go_wp2;go_ret;exact⟨rfl,B0.trans (b1.mono B0.size)⟩
 by_cases c2:freq=2
 ·have G:=hid (show yr (t / 86400)*12+Cv.mon (t / 86400)=x by rw[<-HX2.out,if_neg (show ¬freq=5 by omega),if_neg (show ¬freq=6 by omega),if_neg (show ¬freq=7 by omega),if_neg (show ¬freq=1 by omega),if_pos c2])
  clear HX2;have C1:=hid c1;have C2:=hid c2;clear c1 c2 f1 f2
  go_enter Tryz.func262,Tryz.ntmps262
  go_upto_region 1 with fail
  obtain⟨B0,XR0⟩:=box_new w #[.int .i64 freq,.int .i64 itv,.int .i64 cnt,.int .i64 til,.int .i64 wkst,.bool ends,.slice a6 n6 c6,.slice a7 n7 c7,.slice a8 n8 c8,.slice a9 n9 c9,.slice a10 n10 c10,.slice a11 n11 c11,.slice a12 n12 c12,.slice a13 n13 c13,.slice a14 n14 c14] 25;have SR0:w.heap.size<(w.alloc (.cells #[.int .i64 freq,.int .i64 itv,.int .i64 cnt,.int .i64 til,.int .i64 wkst,.bool ends,.slice a6 n6 c6,.slice a7 n7 c7,.slice a8 n8 c8,.slice a9 n9 c9,.slice a10 n10 c10,.slice a11 n11 c11,.slice a12 n12 c12,.slice a13 n13 c13,.slice a14 n14 c14] 25)).heap.size:=by simp
  generalize w.alloc (.cells #[.int .i64 freq,.int .i64 itv,.int .i64 cnt,.int .i64 til,.int .i64 wkst,.bool ends,.slice a6 n6 c6,.slice a7 n7 c7,.slice a8 n8 c8,.slice a9 n9 c9,.slice a10 n10 c10,.slice a11 n11 c11,.slice a12 n12 c12,.slice a13 n13 c13,.slice a14 n14 c14] 25)=w0 at *;go_wp2_with fail;refine(day_any t _ tl th).mono ?_;rintro e w' ⟨rfl,rfl⟩;have z0:w0.cell? ⟨w.heap.size,0,none⟩=some (.int .i64 freq):=XR0.at_ 0 _ rfl
  have e1:((freq:Int)==1)=false:=by rw[beq_eq_false_iff_ne];exact C1.out
  have e2:((freq:Int)==2)=true:=by rw[beq_iff_eq];exact C2.out
  obtain⟨y1,y2⟩:=yr_day (t / 86400) d1 d2;obtain⟨m1,m2,_,_⟩:=mon_bd (t / 86400);go_wp2_with fail;refine(dateOf_yes (t / 86400) _ d1 d2).mono ?_;rintro e w1 ⟨he,b1⟩
  replace he:e= .returned (.tuple #[.agg #[.int .i64 (yr (t / 86400)),.int .i64 (Cv.mon (t / 86400)),.int .i64 (dom (t / 86400)),.int .i64 (yd (t / 86400)),.int .i64 (wd (t / 86400))],.bool true]):=he
  subst he;have B1:=B0.trans (b1.mono B0.size);go_wp2;go_ret;exact⟨ret_int G.out,B1.trans ((alloc_below _ _).mono B1.size)⟩
 by_cases c3:freq=3
 ·have G:=hid (show (t / 86400+3-wkst) / 7=x by rw[<-HX2.out,if_neg (show ¬freq=5 by omega),if_neg (show ¬freq=6 by omega),if_neg (show ¬freq=7 by omega),if_neg (show ¬freq=1 by omega),if_neg (show ¬freq=2 by omega),if_pos c3])
  clear HX2;have C1:=hid c1;have C2:=hid c2;have C3:=hid c3;clear c1 c2 c3 f1 f2
  go_enter Tryz.func262,Tryz.ntmps262
  go_upto_region 1 with fail
  obtain⟨B0,XR0⟩:=box_new w #[.int .i64 freq,.int .i64 itv,.int .i64 cnt,.int .i64 til,.int .i64 wkst,.bool ends,.slice a6 n6 c6,.slice a7 n7 c7,.slice a8 n8 c8,.slice a9 n9 c9,.slice a10 n10 c10,.slice a11 n11 c11,.slice a12 n12 c12,.slice a13 n13 c13,.slice a14 n14 c14] 25;have SR0:w.heap.size<(w.alloc (.cells #[.int .i64 freq,.int .i64 itv,.int .i64 cnt,.int .i64 til,.int .i64 wkst,.bool ends,.slice a6 n6 c6,.slice a7 n7 c7,.slice a8 n8 c8,.slice a9 n9 c9,.slice a10 n10 c10,.slice a11 n11 c11,.slice a12 n12 c12,.slice a13 n13 c13,.slice a14 n14 c14] 25)).heap.size:=by simp
  generalize w.alloc (.cells #[.int .i64 freq,.int .i64 itv,.int .i64 cnt,.int .i64 til,.int .i64 wkst,.bool ends,.slice a6 n6 c6,.slice a7 n7 c7,.slice a8 n8 c8,.slice a9 n9 c9,.slice a10 n10 c10,.slice a11 n11 c11,.slice a12 n12 c12,.slice a13 n13 c13,.slice a14 n14 c14] 25)=w0 at *;go_wp2_with fail;refine(day_any t _ tl th).mono ?_;rintro e w' ⟨rfl,rfl⟩;have z0:w0.cell? ⟨w.heap.size,0,none⟩=some (.int .i64 freq):=XR0.at_ 0 _ rfl
  have e1:((freq:Int)==1)=false:=by rw[beq_eq_false_iff_ne];exact C1.out
  have e2:((freq:Int)==2)=false:=by rw[beq_eq_false_iff_ne];exact C2.out
  have e3:((freq:Int)==3)=true:=by rw[beq_iff_eq];exact C3.out
  have bw:-719168<=wst (t / 86400) wkst/\wst (t / 86400) wkst<=2932896:=by unfold wst;omega
  have q3:=per3 (t / 86400) wkst
  go_upto_region 9 with fail
  have q4:=Past.at_ (W:=w0) SR0 (show w0.cell? ⟨w.heap.size,4,none⟩=some (.int .i64 wkst) from XR0.at_ 4 _ rfl);clear XR0;have p9:Past w0 w0:=Below.refl _ _
  have hne:Nonempty (In (Past w0)):=⟨⟨_,p9⟩⟩
  refine wp_region_class (Past w0) (by kernel_rfl) (by kernel_rfl) (Past.drew' p9) ?_
  try simp only [List.append]
  repeat (any_goals (first|go_big_quiet_step ((first|(with_reducible refine quiet_eq (wst_any (t / 86400) wkst _ d1 d2 k1 k2))))|quiet_step ((first|(with_reducible refine quiet_eq (wst_any (t / 86400) wkst _ d1 d2 k1 k2))))))
  refine wpQuiet_nil ?_;rintro w1 ⟨n9,hq⟩;have hb:Below w0.heap.size w0 w1:=by rw[hq];exact n9.h
  clear hne p9 hq n9;go_wp2;go_ret;exact⟨ret_int (by rw[<-G.out,<-q3]),B0.trans (hb.mono B0.size)⟩
 by_cases c4:freq=4
 ·have G:=hid (show t / 86400=x by rw[<-HX2.out,if_neg (show ¬freq=5 by omega),if_neg (show ¬freq=6 by omega),if_neg (show ¬freq=7 by omega),if_neg (show ¬freq=1 by omega),if_neg (show ¬freq=2 by omega),if_neg (show ¬freq=3 by omega)])
  clear HX2;have C1:=hid c1;have C2:=hid c2;have C3:=hid c3;have C4:=hid c4;clear c1 c2 c3 c4 f1 f2
  go_enter Tryz.func262,Tryz.ntmps262
  go_upto_region 1 with fail
  obtain⟨B0,XR0⟩:=box_new w #[.int .i64 freq,.int .i64 itv,.int .i64 cnt,.int .i64 til,.int .i64 wkst,.bool ends,.slice a6 n6 c6,.slice a7 n7 c7,.slice a8 n8 c8,.slice a9 n9 c9,.slice a10 n10 c10,.slice a11 n11 c11,.slice a12 n12 c12,.slice a13 n13 c13,.slice a14 n14 c14] 25;have SR0:w.heap.size<(w.alloc (.cells #[.int .i64 freq,.int .i64 itv,.int .i64 cnt,.int .i64 til,.int .i64 wkst,.bool ends,.slice a6 n6 c6,.slice a7 n7 c7,.slice a8 n8 c8,.slice a9 n9 c9,.slice a10 n10 c10,.slice a11 n11 c11,.slice a12 n12 c12,.slice a13 n13 c13,.slice a14 n14 c14] 25)).heap.size:=by simp
  generalize w.alloc (.cells #[.int .i64 freq,.int .i64 itv,.int .i64 cnt,.int .i64 til,.int .i64 wkst,.bool ends,.slice a6 n6 c6,.slice a7 n7 c7,.slice a8 n8 c8,.slice a9 n9 c9,.slice a10 n10 c10,.slice a11 n11 c11,.slice a12 n12 c12,.slice a13 n13 c13,.slice a14 n14 c14] 25)=w0 at *;go_wp2_with fail;refine(day_any t _ tl th).mono ?_;rintro e w' ⟨rfl,rfl⟩;have z0:w0.cell? ⟨w.heap.size,0,none⟩=some (.int .i64 freq):=XR0.at_ 0 _ rfl
  have e1:((freq:Int)==1)=false:=by rw[beq_eq_false_iff_ne];exact C1.out
  have e2:((freq:Int)==2)=false:=by rw[beq_eq_false_iff_ne];exact C2.out
  have e3:((freq:Int)==3)=false:=by rw[beq_eq_false_iff_ne];exact C3.out
  have e4:((freq:Int)==4)=true:=by rw[beq_iff_eq];exact C4.out
  go_wp2;go_ret;exact⟨ret_int G.out,B0⟩
 by_cases c5:freq=5
 ·have G:=hid (show t / 3600=x by rw[<-HX2.out,if_pos c5])
  clear HX2;have C1:=hid c1;have C2:=hid c2;have C3:=hid c3;have C4:=hid c4;have C5:=hid c5;clear c1 c2 c3 c4 c5 f1 f2
  go_enter Tryz.func262,Tryz.ntmps262
  go_upto_region 1 with fail
  obtain⟨B0,XR0⟩:=box_new w #[.int .i64 freq,.int .i64 itv,.int .i64 cnt,.int .i64 til,.int .i64 wkst,.bool ends,.slice a6 n6 c6,.slice a7 n7 c7,.slice a8 n8 c8,.slice a9 n9 c9,.slice a10 n10 c10,.slice a11 n11 c11,.slice a12 n12 c12,.slice a13 n13 c13,.slice a14 n14 c14] 25;have SR0:w.heap.size<(w.alloc (.cells #[.int .i64 freq,.int .i64 itv,.int .i64 cnt,.int .i64 til,.int .i64 wkst,.bool ends,.slice a6 n6 c6,.slice a7 n7 c7,.slice a8 n8 c8,.slice a9 n9 c9,.slice a10 n10 c10,.slice a11 n11 c11,.slice a12 n12 c12,.slice a13 n13 c13,.slice a14 n14 c14] 25)).heap.size:=by simp
  generalize w.alloc (.cells #[.int .i64 freq,.int .i64 itv,.int .i64 cnt,.int .i64 til,.int .i64 wkst,.bool ends,.slice a6 n6 c6,.slice a7 n7 c7,.slice a8 n8 c8,.slice a9 n9 c9,.slice a10 n10 c10,.slice a11 n11 c11,.slice a12 n12 c12,.slice a13 n13 c13,.slice a14 n14 c14] 25)=w0 at *;go_wp2_with fail;refine(day_any t _ tl th).mono ?_;rintro e w' ⟨rfl,rfl⟩;have z0:w0.cell? ⟨w.heap.size,0,none⟩=some (.int .i64 freq):=XR0.at_ 0 _ rfl
  have e1:((freq:Int)==1)=false:=by rw[beq_eq_false_iff_ne];exact C1.out
  have e2:((freq:Int)==2)=false:=by rw[beq_eq_false_iff_ne];exact C2.out
  have e3:((freq:Int)==3)=false:=by rw[beq_eq_false_iff_ne];exact C3.out
  have e4:((freq:Int)==4)=false:=by rw[beq_eq_false_iff_ne];exact C4.out
  have e5:((freq:Int)==5)=true:=by rw[beq_iff_eq];exact C5.out
  have q5:=hid (per5 t);go_wp2;go_ret;exact⟨ret_int (q5.out.trans G.out),B0⟩
 by_cases c6:freq=6
 ·have G:=hid (show t / 60=x by rw[<-HX2.out,if_neg (show ¬freq=5 by omega),if_pos c6])
  clear HX2;have C1:=hid c1;have C2:=hid c2;have C3:=hid c3;have C4:=hid c4;have C5:=hid c5;have C6:=hid c6;clear c1 c2 c3 c4 c5 c6 f1 f2
  go_enter Tryz.func262,Tryz.ntmps262
  go_upto_region 1 with fail
  obtain⟨B0,XR0⟩:=box_new w #[.int .i64 freq,.int .i64 itv,.int .i64 cnt,.int .i64 til,.int .i64 wkst,.bool ends,.slice a6 n6 c6,.slice a7 n7 c7,.slice a8 n8 c8,.slice a9 n9 c9,.slice a10 n10 c10,.slice a11 n11 c11,.slice a12 n12 c12,.slice a13 n13 c13,.slice a14 n14 c14] 25;have SR0:w.heap.size<(w.alloc (.cells #[.int .i64 freq,.int .i64 itv,.int .i64 cnt,.int .i64 til,.int .i64 wkst,.bool ends,.slice a6 n6 c6,.slice a7 n7 c7,.slice a8 n8 c8,.slice a9 n9 c9,.slice a10 n10 c10,.slice a11 n11 c11,.slice a12 n12 c12,.slice a13 n13 c13,.slice a14 n14 c14] 25)).heap.size:=by simp
  generalize w.alloc (.cells #[.int .i64 freq,.int .i64 itv,.int .i64 cnt,.int .i64 til,.int .i64 wkst,.bool ends,.slice a6 n6 c6,.slice a7 n7 c7,.slice a8 n8 c8,.slice a9 n9 c9,.slice a10 n10 c10,.slice a11 n11 c11,.slice a12 n12 c12,.slice a13 n13 c13,.slice a14 n14 c14] 25)=w0 at *;go_wp2_with fail;refine(day_any t _ tl th).mono ?_;rintro e w' ⟨rfl,rfl⟩;have z0:w0.cell? ⟨w.heap.size,0,none⟩=some (.int .i64 freq):=XR0.at_ 0 _ rfl
  have e1:((freq:Int)==1)=false:=by rw[beq_eq_false_iff_ne];exact C1.out
  have e2:((freq:Int)==2)=false:=by rw[beq_eq_false_iff_ne];exact C2.out
  have e3:((freq:Int)==3)=false:=by rw[beq_eq_false_iff_ne];exact C3.out
  have e4:((freq:Int)==4)=false:=by rw[beq_eq_false_iff_ne];exact C4.out
  have e5:((freq:Int)==5)=false:=by rw[beq_eq_false_iff_ne];exact C5.out
  have e6:((freq:Int)==6)=true:=by rw[beq_iff_eq];exact C6.out
  have q5:=hid (per6 t);go_wp2;go_ret;exact⟨ret_int (q5.out.trans G.out),B0⟩
 by_cases c7:freq=7
 ·have G:=hid (show t=x by rw[<-HX2.out,if_neg (show ¬freq=5 by omega),if_neg (show ¬freq=6 by omega),if_pos c7])
  clear HX2;have C1:=hid c1;have C2:=hid c2;have C3:=hid c3;have C4:=hid c4;have C5:=hid c5;have C6:=hid c6;have C7:=hid c7;clear c1 c2 c3 c4 c5 c6 c7 f1 f2
  go_enter Tryz.func262,Tryz.ntmps262
  go_upto_region 1 with fail
  obtain⟨B0,XR0⟩:=box_new w #[.int .i64 freq,.int .i64 itv,.int .i64 cnt,.int .i64 til,.int .i64 wkst,.bool ends,.slice a6 n6 c6,.slice a7 n7 c7,.slice a8 n8 c8,.slice a9 n9 c9,.slice a10 n10 c10,.slice a11 n11 c11,.slice a12 n12 c12,.slice a13 n13 c13,.slice a14 n14 c14] 25;have SR0:w.heap.size<(w.alloc (.cells #[.int .i64 freq,.int .i64 itv,.int .i64 cnt,.int .i64 til,.int .i64 wkst,.bool ends,.slice a6 n6 c6,.slice a7 n7 c7,.slice a8 n8 c8,.slice a9 n9 c9,.slice a10 n10 c10,.slice a11 n11 c11,.slice a12 n12 c12,.slice a13 n13 c13,.slice a14 n14 c14] 25)).heap.size:=by simp
  generalize w.alloc (.cells #[.int .i64 freq,.int .i64 itv,.int .i64 cnt,.int .i64 til,.int .i64 wkst,.bool ends,.slice a6 n6 c6,.slice a7 n7 c7,.slice a8 n8 c8,.slice a9 n9 c9,.slice a10 n10 c10,.slice a11 n11 c11,.slice a12 n12 c12,.slice a13 n13 c13,.slice a14 n14 c14] 25)=w0 at *;go_wp2_with fail;refine(day_any t _ tl th).mono ?_;rintro e w' ⟨rfl,rfl⟩;have z0:w0.cell? ⟨w.heap.size,0,none⟩=some (.int .i64 freq):=XR0.at_ 0 _ rfl
  have e1:((freq:Int)==1)=false:=by rw[beq_eq_false_iff_ne];exact C1.out
  have e2:((freq:Int)==2)=false:=by rw[beq_eq_false_iff_ne];exact C2.out
  have e3:((freq:Int)==3)=false:=by rw[beq_eq_false_iff_ne];exact C3.out
  have e4:((freq:Int)==4)=false:=by rw[beq_eq_false_iff_ne];exact C4.out
  have e5:((freq:Int)==5)=false:=by rw[beq_eq_false_iff_ne];exact C5.out
  have e6:((freq:Int)==6)=false:=by rw[beq_eq_false_iff_ne];exact C6.out
  go_wp2;go_ret;exact⟨ret_int G.out,B0⟩
 omega
theorem per_bd {r:Ru} {t:Int} (hm:mayR r=true) (ht:St.may t=true):-1000000000000<=per r t/\per r t<=1000000000000:=by
 have ht1:=of_decide_eq_true ht
 have td:=may_day ht1.1 ht1.2
 have hk:=wk_of hm
 have y:=yr_day (t / 86400) td.1 td.2
 have m:=mon_bd (t / 86400)
 have wy:0<=wky (t / 86400) r.wkst/\wky (t / 86400) r.wkst<=10000:=by
  have f:=fo_bd (t / 86400) r.wkst;exact yr_bd _ (by omega) (by omega)
 unfold per perD yro
 repeat (first|split|omega)
theorem perR_no {r:Ru} {start t:Int} (h:(mayR r&&St.may start&&St.may t)=false):perR r start t=(0,false):=by unfold perR;rw[if_neg (by rw[h];decide)]
theorem perR_yes {r:Ru} {start t:Int} (h1:mayR r=true) (h2:St.may start=true) (h3:St.may t=true):perR r start t=(per r t-per r start,true):=by unfold perR;rw[if_pos (by rw[h1,h2,h3];decide)]
theorem periodP_is (w:World) (S:RS) (r:Ru) (start t a:Int) (b:Bool) (h:RuAt w S r) (hx:perR r start t=(a,b)):
  Calls Tryz.prog 222 #[S.val r,.int .i64 start,.int .i64 t] w fun e w'=>e= .returned (.tuple #[.int .i64 a,.bool b])/\Below w.heap.size w w':=by
 have RA:=hid h
 have HX:=hid hx
 clear h hx
 obtain⟨a6,n6,c6,a7,n7,c7,a8,n8,c8,a9,n9,c9,a10,n10,c10,a11,n11,c11,a12,n12,c12,a13,n13,c13,a14,n14,c14⟩:=S
 obtain⟨freq,itv,cnt,til,wkst,ends,mon,week,yday,mday,day,hour,minu,sec,pos⟩:=r
 obtain⟨m,hm⟩:∃m,mayR ⟨freq,itv,cnt,til,wkst,ends,mon,week,yday,mday,day,hour,minu,sec,pos⟩=m:=⟨_,rfl⟩
 obtain⟨p,hp⟩:∃p,St.may start=p:=⟨_,rfl⟩
 obtain⟨q,hq⟩:∃q,St.may t=q:=⟨_,rfl⟩
 have HM:=hid hm
 have HP:=hid hp
 have HQ:=hid hq
 clear hm hp hq
 have NO:=hid (fun (h:(m&&p&&q)=false)=>show ((0:Int),false)=(a,b) from (perR_no (r:=⟨freq,itv,cnt,til,wkst,ends,mon,week,yday,mday,day,hour,minu,sec,pos⟩) (start:=start) (t:=t) (by rw[HM.out,HP.out,HQ.out];exact h)).symm.trans HX.out)
 show Calls Tryz.prog 222 #[.agg #[.int .i64 freq,.int .i64 itv,.int .i64 cnt,.int .i64 til,.int .i64 wkst,.bool ends,.slice a6 n6 c6,.slice a7 n7 c7,.slice a8 n8 c8,.slice a9 n9 c9,.slice a10 n10 c10,.slice a11 n11 c11,.slice a12 n12 c12,.slice a13 n13 c13,.slice a14 n14 c14],.int .i64 start,.int .i64 t] w _
 go_enter Tryz.func222,Tryz.ntmps222
 go_upto_region 1 with fail
 obtain⟨B0,XR0⟩:=box_new w #[.int .i64 freq,.int .i64 itv,.int .i64 cnt,.int .i64 til,.int .i64 wkst,.bool ends,.slice a6 n6 c6,.slice a7 n7 c7,.slice a8 n8 c8,.slice a9 n9 c9,.slice a10 n10 c10,.slice a11 n11 c11,.slice a12 n12 c12,.slice a13 n13 c13,.slice a14 n14 c14] 25
 have SR0:w.heap.size<(w.alloc (.cells #[.int .i64 freq,.int .i64 itv,.int .i64 cnt,.int .i64 til,.int .i64 wkst,.bool ends,.slice a6 n6 c6,.slice a7 n7 c7,.slice a8 n8 c8,.slice a9 n9 c9,.slice a10 n10 c10,.slice a11 n11 c11,.slice a12 n12 c12,.slice a13 n13 c13,.slice a14 n14 c14] 25)).heap.size:=by simp
 generalize w.alloc (.cells #[.int .i64 freq,.int .i64 itv,.int .i64 cnt,.int .i64 til,.int .i64 wkst,.bool ends,.slice a6 n6 c6,.slice a7 n7 c7,.slice a8 n8 c8,.slice a9 n9 c9,.slice a10 n10 c10,.slice a11 n11 c11,.slice a12 n12 c12,.slice a13 n13 c13,.slice a14 n14 c14] 25)=w0 at *
 obtain⟨z0,z1,z2,z3,z4,z5,z6,z7,z8,z9,z10,z11,z12,z13,z14⟩:=cells15 XR0
 go_wp2_with fail
 refine(may_r _ ⟨a6,n6,c6,a7,n7,c7,a8,n8,c8,a9,n9,c9,a10,n10,c10,a11,n11,c11,a12,n12,c12,a13,n13,c13,a14,n14,c14⟩ ⟨freq,itv,cnt,til,wkst,ends,mon,week,yday,mday,day,hour,minu,sec,pos⟩ m (RA.out.below B0) HM.out).mono ?_
 rintro e w1 ⟨rfl,b1⟩
 clear z0 z1 z2 z3 z4 z5 z6 z7 z8 z9 z10 z11 z12 z13 z14
 have B1:=B0.trans (b1.mono B0.size)
 have XR1:=XR0.below b1
 have SR1:w.heap.size<w1.heap.size:=by have:=b1.size;omega
 clear B0 XR0 b1 SR0
 cases m
 ·have e:=NO.out (by simp)
  obtain⟨rfl,rfl⟩:=Prod.mk.inj e;go_wp2
  go_ret2
  exact⟨rfl,B1⟩
 ·cases p
  ·go_wp2_with fail
   refine(may_no start _ HP.out).mono ?_;rintro e w' ⟨rfl,rfl⟩;have e:=NO.out (by simp);obtain⟨rfl,rfl⟩:=Prod.mk.inj e;go_wp2
   go_ret2
   exact⟨rfl,B1⟩
  ·go_wp2_with fail
   refine(may_yes start _ HP.out).mono ?_;rintro e w' ⟨rfl,rfl⟩;cases q
   ·go_wp2_with fail
    refine(may_no t _ HQ.out).mono ?_;rintro e w' ⟨rfl,rfl⟩;have e:=NO.out (by simp);obtain⟨rfl,rfl⟩:=Prod.mk.inj e;go_wp2
    go_ret2
    exact⟨rfl,B1⟩
   ·go_wp2_with fail
    refine(may_yes t _ HQ.out).mono ?_;rintro e w' ⟨rfl,rfl⟩;clear NO;have pb:=per_bd HM.out HQ.out;have pc:=per_bd HM.out HP.out;have e:=(perR_yes HM.out HP.out HQ.out).symm.trans HX.out;obtain⟨e1,rfl⟩:=Prod.mk.inj e;obtain⟨u,hu⟩:∃u,per ⟨freq,itv,cnt,til,wkst,ends,mon,week,yday,mday,day,hour,minu,sec,pos⟩ t=u:=⟨_,rfl⟩;obtain⟨v,hv⟩:∃v,per ⟨freq,itv,cnt,til,wkst,ends,mon,week,yday,mday,day,hour,minu,sec,pos⟩ start=v:=⟨_,rfl⟩;rw[hu] at pb e1;rw[hv] at pc e1;have HU:=hid hu;have HV:=hid hv;subst e1;clear hu hv e
    go_upto_region 3 with fail
    clear SR1;refine wp_region_late (fun _=>false) (fun v=>Below w1.heap.size w1 v) (by kernel_rfl) ?_;have D0:Below w1.heap.size w1 w1.drew:=(Below.refl _ _).drew
    refine Late.take 0 (.agg #[.int .i64 freq,.int .i64 itv,.int .i64 cnt,.int .i64 til,.int .i64 wkst,.bool ends,.slice a6 n6 c6,.slice a7 n7 c7,.slice a8 n8 c8,.slice a9 n9 c9,.slice a10 n10 c10,.slice a11 n11 c11,.slice a12 n12 c12,.slice a13 n13 c13,.slice a14 n14 c14]) rfl (by kernel_rfl) (by kernel_rfl) (by kernel_rfl) (by kernel_rfl) (fun _ _ _ h=>h) (.inl ⟨rfl,fun w' hs => ?_⟩) D0 ?_
    ·have XQ:=XR1.below hs
     obtain⟨z0,z1,z2,z3,z4,z5,z6,z7,z8,z9,z10,z11,z12,z13,z14⟩:=cells15 XQ;clear XQ
     go_simp
    refine Late.take 1 (.int .i64 t) rfl (by kernel_rfl) (by kernel_rfl) (by kernel_rfl) (by kernel_rfl) (fun _ _ _ h=>h) (.inl ⟨rfl,fun w' hs => ?_⟩) D0 ?_
    ·go_simp
    refine Late.take 3 (.agg #[.int .i64 freq,.int .i64 itv,.int .i64 cnt,.int .i64 til,.int .i64 wkst,.bool ends,.slice a6 n6 c6,.slice a7 n7 c7,.slice a8 n8 c8,.slice a9 n9 c9,.slice a10 n10 c10,.slice a11 n11 c11,.slice a12 n12 c12,.slice a13 n13 c13,.slice a14 n14 c14]) rfl (by kernel_rfl) (by kernel_rfl) (by kernel_rfl) (by kernel_rfl) (fun _ _ _ h=>h) (.inl ⟨rfl,fun w' hs => ?_⟩) D0 ?_
    ·have XQ:=XR1.below hs
     obtain⟨z0,z1,z2,z3,z4,z5,z6,z7,z8,z9,z10,z11,z12,z13,z14⟩:=cells15 XQ;clear XQ
     go_simp
    refine Late.take 4 (.int .i64 start) rfl (by kernel_rfl) (by kernel_rfl) (by kernel_rfl) (by kernel_rfl) (fun _ _ _ h=>h) (.inl ⟨rfl,fun w' hs => ?_⟩) D0 ?_
    ·go_simp
    refine Late.one 2 rfl (by kernel_rfl) rfl ?_
    go_simp
    refine(period_is _ ⟨a6,n6,c6,a7,n7,c7,a8,n8,c8,a9,n9,c9,a10,n10,c10,a11,n11,c11,a12,n12,c12,a13,n13,c13,a14,n14,c14⟩ ⟨freq,itv,cnt,til,wkst,ends,mon,week,yday,mday,day,hour,minu,sec,pos⟩ t u (RA.out.below (B1.trans (D0.mono B1.size))) HM.out HQ.out HU.out).mono ?_;rintro e x1 ⟨rfl,b1⟩;have D1:=D0.trans (b1.mono D0.size);refine⟨D1,?_⟩;refine Late.one 5 rfl (by kernel_rfl) rfl ?_
    go_simp
    refine(period_is _ ⟨a6,n6,c6,a7,n7,c7,a8,n8,c8,a9,n9,c9,a10,n10,c10,a11,n11,c11,a12,n12,c12,a13,n13,c13,a14,n14,c14⟩ ⟨freq,itv,cnt,til,wkst,ends,mon,week,yday,mday,day,hour,minu,sec,pos⟩ start v (RA.out.below (B1.trans (D1.mono B1.size))) HM.out HP.out HV.out).mono ?_;rintro e x2 ⟨rfl,b2⟩;have D2:=D1.trans (b2.mono D1.size);refine⟨D2,?_⟩;refine Late.take 6 (.int .i64 (u-v)) rfl (by kernel_rfl) (by kernel_rfl) (by kernel_rfl) (by kernel_rfl) (fun _ _ _ h=>h) (.inl ⟨rfl,fun w' hs => ?_⟩) D2 ?_
    ·go_simp
     exact IntWalk.i64_in _ (by omega)
    refine Late.take 7 (.int .i64 (u-v)) rfl (by kernel_rfl) (by kernel_rfl) (by kernel_rfl) (by kernel_rfl) (fun _ _ _ h=>h) (.inl ⟨rfl,fun w' hs => ?_⟩) D2 ?_
    ·go_simp
    refine Late.take 8 (.bool true) rfl (by kernel_rfl) (by kernel_rfl) (by kernel_rfl) (by kernel_rfl) (fun _ _ _ h=>h) (.inl ⟨rfl,fun w' hs => ?_⟩) D2 ?_
    ·go_simp
    refine Late.done (by kernel_rfl) ?_;go_wp2
    go_ret2
    exact⟨rfl,B1.trans (D2.mono B1.size)⟩
end Go.Proofs.YtddnnljfgfcplaaGreatDoor.Dd
namespace Go.Proofs.YtddnnljfgfcplaaGreatDoor.Dd
open Lib (hid)
open Go.RowKit Cv St Ru
def ylast (r:Ru) (n:Int):Int:=if r.week=[] then ny (yr n+1)-1 else on (wky n r.wkst) r.wkst+7*(if 1<=wky n r.wkst/\wky n r.wkst<=9999 then wks (wky n r.wkst) r.wkst else wkn n r.wkst)-1
theorem ylast_min {r:Ru} {n:Int} (hf:r.freq=1) (h1:-719162<=n) (h2:n<=2932896) (k1:0<=r.wkst) (k2:r.wkst<=6):min (ylast r n) 2932896=min (plast r n) 2932896:=by
 unfold ylast plast
 rw[if_pos hf]
 split
 ·rfl
 ·have ol:=on_len (wky n r.wkst) r.wkst
  split
  ·rw[ol]
  ·rename_i _ c
   have wi:=(wky_iff (m:=n) (k:=r.wkst)).1 rfl;have fb:=fo_bd n r.wkst;have yb:=yr_bd (fo n r.wkst) (by omega) (by omega);have ws:=wst_on (n:=n) k1 k2;have f1:=fo_wst n r.wkst;have wl:wst n r.wkst<=n/\n<=wst n r.wkst+6:=by unfold wst;omega
   have yb2:0<=wky n r.wkst/\wky n r.wkst<=10000:=yb
   have y0:wky n r.wkst=0\/wky n r.wkst=10000:=by omega
   rcases y0 with y|y
   ·
    have s:=yr_spec (fo n r.wkst);rw[show yr (fo n r.wkst)=0 from y] at s;have o1:=on_bd 1 r.wkst;have n1:ny 1 = -719162:=ny_1
    have s2:fo n r.wkst<ny 1:=s.2
    rw[y] at ws wi ol ⊢;rw[show (0:Int)+1=1 from rfl] at wi ol ⊢;have d:=on_div 0 r.wkst;rw[show (0:Int)+1=1 from rfl] at d;omega
   ·have s:=yr_spec (fo n r.wkst)
    rw[show yr (fo n r.wkst)=10000 from y] at s;have n1:ny 10000=2932897:=ny_10000
    have d:=on_lt 10000 r.wkst;have dd:=on_div 10000 r.wkst;have o1:=on_bd 10000 r.wkst;have wk:=wkn_bd n r.wkst;rw[y] at ws wi ol ⊢;omega
theorem year_is (w:World) (S:RS) (r:Ru) (n a b:Int) (h:RuAt w S r) (h1:-719162<=n) (h2:n<=2932896) (k1:0<=r.wkst) (k2:r.wkst<=6) (ha:(if r.week=[] then ny (yr n) else on (wky n r.wkst) r.wkst)=a) (hb:ylast r n=b):
  Calls Tryz.prog 251 #[S.val r,.int .i64 n] w fun e w'=>e= .returned (.tuple #[.int .i64 a,.int .i64 b])/\Below w.heap.size w w':=by
 have E7:=hid h.h7.1
 unfold ylast at hb
 have HA:=hid ha
 have HB:=hid hb
 clear h ha hb
 obtain⟨a6,n6,c6,a7,n7,c7,a8,n8,c8,a9,n9,c9,a10,n10,c10,a11,n11,c11,a12,n12,c12,a13,n13,c13,a14,n14,c14⟩:=S
 obtain⟨freq,itv,cnt,til,wkst,ends,mon,week,yday,mday,day,hour,minu,sec,pos⟩:=r
 replace k1:0<=wkst:=k1
 replace k2:wkst<=6:=k2
 have HA2:=hid (show (if week=[] then ny (yr n) else on (wky n wkst) wkst)=a from HA.out)
 have HB2:=hid (show (if week=[] then ny (yr n+1)-1 else on (wky n wkst) wkst+7*(if 1<=wky n wkst/\wky n wkst<=9999 then wks (wky n wkst) wkst else wkn n wkst)-1)=b from HB.out)
 clear HA HB
 show Calls Tryz.prog 251 #[.agg #[.int .i64 freq,.int .i64 itv,.int .i64 cnt,.int .i64 til,.int .i64 wkst,.bool ends,.slice a6 n6 c6,.slice a7 n7 c7,.slice a8 n8 c8,.slice a9 n9 c9,.slice a10 n10 c10,.slice a11 n11 c11,.slice a12 n12 c12,.slice a13 n13 c13,.slice a14 n14 c14],.int .i64 n] w _
 by_cases c:n7=0
 ·have we:week=[]:=List.length_eq_zero_iff.1 (by have:=E7.out;simp at this;omega)
  have yb:=yr_day n h1 h2;have nb:=in_year n;have ns:=ny_succ (yr n);have lb:=lp_01 (yr n);have yl:ylen (yr n)=365+lp (yr n):=rfl
  have GA:=hid (show n-(n-ny (yr n)+1)+1=a by rw[<-HA2.out,if_pos we];omega);have GB:=hid (show n-(n-ny (yr n)+1)+1+ylen (yr n)-1=b by rw[<-HB2.out,if_pos we];omega);have C:=hid c;clear HA2 HB2 we c
  go_enter Tryz.func251,Tryz.ntmps251
  go_upto_region 1 with fail
  obtain⟨B0,XR0⟩:=box_new w #[.int .i64 freq,.int .i64 itv,.int .i64 cnt,.int .i64 til,.int .i64 wkst,.bool ends,.slice a6 n6 c6,.slice a7 n7 c7,.slice a8 n8 c8,.slice a9 n9 c9,.slice a10 n10 c10,.slice a11 n11 c11,.slice a12 n12 c12,.slice a13 n13 c13,.slice a14 n14 c14] 25;have SR0:w.heap.size<(w.alloc (.cells #[.int .i64 freq,.int .i64 itv,.int .i64 cnt,.int .i64 til,.int .i64 wkst,.bool ends,.slice a6 n6 c6,.slice a7 n7 c7,.slice a8 n8 c8,.slice a9 n9 c9,.slice a10 n10 c10,.slice a11 n11 c11,.slice a12 n12 c12,.slice a13 n13 c13,.slice a14 n14 c14] 25)).heap.size:=by simp
  generalize w.alloc (.cells #[.int .i64 freq,.int .i64 itv,.int .i64 cnt,.int .i64 til,.int .i64 wkst,.bool ends,.slice a6 n6 c6,.slice a7 n7 c7,.slice a8 n8 c8,.slice a9 n9 c9,.slice a10 n10 c10,.slice a11 n11 c11,.slice a12 n12 c12,.slice a13 n13 c13,.slice a14 n14 c14] 25)=w0 at *;have c:((n7:Int)==0)=true:=by rw[beq_iff_eq];have:=C.out;omega
  have z4:w0.cell? ⟨w.heap.size,4,none⟩=some (.int .i64 wkst):=XR0.at_ 4 _ rfl
  have z7:w0.cell? ⟨w.heap.size,7,none⟩=some (.slice a7 n7 c7):=XR0.at_ 7 _ rfl
  clear XR0 ns;go_wp2_with fail;refine(yearDay_yes n _ h1 h2).mono ?_;rintro e w' ⟨rfl,rfl⟩;go_wp2_with fail;refine(ylen_any (yr n) _).mono ?_;rintro e w' ⟨rfl,rfl⟩;have lb2:=ylen_bd (yr n);clear yl;generalize ylen (yr n)=L at *;generalize ny (yr n)=N at *;go_wp2
  go_ret2
  exact⟨ret_two GA.out GB.out,B0⟩
 ·have we:week≠[]:=fun e=>c (by have:=E7.out;rw[show week=[] from e] at this;simpa using this)
  have ws:=wst_on (n:=n) k1 k2;have wb:=wkn_bd n wkst;have sb:n-6<=wst n wkst/\wst n wkst<=n:=by unfold wst;omega
  have ww:=wks_bd (wky n wkst) wkst k1 k2;have C:=hid c;clear c
  by_cases y:1<=wky n wkst/\wky n wkst<=9999
  ·have GA:=hid (show wst n wkst-7*(wkn n wkst-1)=a by rw[<-HA2.out,if_neg we,ws])
   have GB:=hid (show wst n wkst-7*(wkn n wkst-1)+7*wks (wky n wkst) wkst-1=b by rw[<-HB2.out,if_neg we,if_pos y,ws]);clear HA2 HB2 we ws;obtain⟨y1,y2⟩:=y
   go_enter Tryz.func251,Tryz.ntmps251
   go_upto_region 1 with fail
   obtain⟨B0,XR0⟩:=box_new w #[.int .i64 freq,.int .i64 itv,.int .i64 cnt,.int .i64 til,.int .i64 wkst,.bool ends,.slice a6 n6 c6,.slice a7 n7 c7,.slice a8 n8 c8,.slice a9 n9 c9,.slice a10 n10 c10,.slice a11 n11 c11,.slice a12 n12 c12,.slice a13 n13 c13,.slice a14 n14 c14] 25;have SR0:w.heap.size<(w.alloc (.cells #[.int .i64 freq,.int .i64 itv,.int .i64 cnt,.int .i64 til,.int .i64 wkst,.bool ends,.slice a6 n6 c6,.slice a7 n7 c7,.slice a8 n8 c8,.slice a9 n9 c9,.slice a10 n10 c10,.slice a11 n11 c11,.slice a12 n12 c12,.slice a13 n13 c13,.slice a14 n14 c14] 25)).heap.size:=by simp
   generalize w.alloc (.cells #[.int .i64 freq,.int .i64 itv,.int .i64 cnt,.int .i64 til,.int .i64 wkst,.bool ends,.slice a6 n6 c6,.slice a7 n7 c7,.slice a8 n8 c8,.slice a9 n9 c9,.slice a10 n10 c10,.slice a11 n11 c11,.slice a12 n12 c12,.slice a13 n13 c13,.slice a14 n14 c14] 25)=w0 at *;have c:((n7:Int)==0)=false:=by rw[beq_eq_false_iff_ne];have:=C.out;omega
   have z4:w0.cell? ⟨w.heap.size,4,none⟩=some (.int .i64 wkst):=XR0.at_ 4 _ rfl
   have z7:w0.cell? ⟨w.heap.size,7,none⟩=some (.slice a7 n7 c7):=XR0.at_ 7 _ rfl
   clear XR0;go_wp2_with fail;refine(week_yes n wkst _ h1 h2 k1 k2).mono ?_;rintro e w' ⟨rfl,rfl⟩;go_wp2_with fail;refine(weeks_yes (wky n wkst) wkst _ y1 y2 k1 k2).mono ?_;rintro e w' ⟨rfl,rfl⟩;go_wp2_with fail;refine(wst_any n wkst _ h1 h2 k1 k2).mono ?_;rintro e w' ⟨rfl,rfl⟩;generalize wst n wkst=s at *;generalize wkn n wkst=u at *;generalize wks (wky n wkst) wkst=v at *;go_wp2
   go_ret2
   exact⟨ret_two GA.out GB.out,B0⟩
  ·have GA:=hid (show wst n wkst-7*(wkn n wkst-1)=a by rw[<-HA2.out,if_neg we,ws])
   have GB:=hid (show wst n wkst-7*(wkn n wkst-1)+7*wkn n wkst-1=b by rw[<-HB2.out,if_neg we,if_neg y,ws]);clear HA2 HB2 we ws;have Y:=hid (show ¬(1<=wky n wkst/\wky n wkst<=9999/\0<=wkst/\wkst<=6) from fun g=>y ⟨g.1,g.2.1⟩);clear y
   go_enter Tryz.func251,Tryz.ntmps251
   go_upto_region 1 with fail
   obtain⟨B0,XR0⟩:=box_new w #[.int .i64 freq,.int .i64 itv,.int .i64 cnt,.int .i64 til,.int .i64 wkst,.bool ends,.slice a6 n6 c6,.slice a7 n7 c7,.slice a8 n8 c8,.slice a9 n9 c9,.slice a10 n10 c10,.slice a11 n11 c11,.slice a12 n12 c12,.slice a13 n13 c13,.slice a14 n14 c14] 25;have SR0:w.heap.size<(w.alloc (.cells #[.int .i64 freq,.int .i64 itv,.int .i64 cnt,.int .i64 til,.int .i64 wkst,.bool ends,.slice a6 n6 c6,.slice a7 n7 c7,.slice a8 n8 c8,.slice a9 n9 c9,.slice a10 n10 c10,.slice a11 n11 c11,.slice a12 n12 c12,.slice a13 n13 c13,.slice a14 n14 c14] 25)).heap.size:=by simp
   generalize w.alloc (.cells #[.int .i64 freq,.int .i64 itv,.int .i64 cnt,.int .i64 til,.int .i64 wkst,.bool ends,.slice a6 n6 c6,.slice a7 n7 c7,.slice a8 n8 c8,.slice a9 n9 c9,.slice a10 n10 c10,.slice a11 n11 c11,.slice a12 n12 c12,.slice a13 n13 c13,.slice a14 n14 c14] 25)=w0 at *;have c:((n7:Int)==0)=false:=by rw[beq_eq_false_iff_ne];have:=C.out;omega
   have z4:w0.cell? ⟨w.heap.size,4,none⟩=some (.int .i64 wkst):=XR0.at_ 4 _ rfl
   have z7:w0.cell? ⟨w.heap.size,7,none⟩=some (.slice a7 n7 c7):=XR0.at_ 7 _ rfl
   clear XR0;go_wp2_with fail;refine(week_yes n wkst _ h1 h2 k1 k2).mono ?_;rintro e w' ⟨rfl,rfl⟩;go_wp2_with fail;refine(weeks_no (wky n wkst) wkst _ Y.out).mono ?_;rintro e w' ⟨rfl,rfl⟩;go_wp2_with fail;refine(wst_any n wkst _ h1 h2 k1 k2).mono ?_;rintro e w' ⟨rfl,rfl⟩;generalize wst n wkst=s at *;generalize wkn n wkst=u at *;generalize wks (wky n wkst) wkst=v at *;go_wp2
   go_ret2
   exact⟨ret_two GA.out GB.out,B0⟩
theorem daysR_no {r:Ru} {t:Int} (h:(mayR r&&St.may t)=false):daysR r t=(0,0):=by unfold daysR;rw[if_neg (by rw[h];decide)]
theorem daysR_yes {r:Ru} {t:Int} (h1:mayR r=true) (h3:St.may t=true):daysR r t=(max (pfirst r (t / 86400)) (-719162),min (plast r (t / 86400)) 2932896):=by unfold daysR;rw[if_pos (by rw[h1,h3];decide)]
theorem daysP_is (w:World) (S:RS) (r:Ru) (t a b:Int) (h:RuAt w S r) (hx:daysR r t=(a,b)):
  Calls Tryz.prog 217 #[S.val r,.int .i64 t] w fun e w'=>e= .returned (.tuple #[.int .i64 a,.int .i64 b])/\Below w.heap.size w w':=by
 have RA:=hid h
 have HX:=hid hx
 clear h hx
 obtain⟨a6,n6,c6,a7,n7,c7,a8,n8,c8,a9,n9,c9,a10,n10,c10,a11,n11,c11,a12,n12,c12,a13,n13,c13,a14,n14,c14⟩:=S
 obtain⟨freq,itv,cnt,til,wkst,ends,mon,week,yday,mday,day,hour,minu,sec,pos⟩:=r
 obtain⟨m,hm⟩:∃m,mayR ⟨freq,itv,cnt,til,wkst,ends,mon,week,yday,mday,day,hour,minu,sec,pos⟩=m:=⟨_,rfl⟩
 obtain⟨q,hq⟩:∃q,St.may t=q:=⟨_,rfl⟩
 have HM:=hid hm
 have HQ:=hid hq
 clear hm hq
 have NO:=hid (fun (h:(m&&q)=false)=>show ((0:Int),(0:Int))=(a,b) from (daysR_no (r:=⟨freq,itv,cnt,til,wkst,ends,mon,week,yday,mday,day,hour,minu,sec,pos⟩) (t:=t) (by rw[HM.out,HQ.out];exact h)).symm.trans HX.out)
 show Calls Tryz.prog 217 #[.agg #[.int .i64 freq,.int .i64 itv,.int .i64 cnt,.int .i64 til,.int .i64 wkst,.bool ends,.slice a6 n6 c6,.slice a7 n7 c7,.slice a8 n8 c8,.slice a9 n9 c9,.slice a10 n10 c10,.slice a11 n11 c11,.slice a12 n12 c12,.slice a13 n13 c13,.slice a14 n14 c14],.int .i64 t] w _
 go_enter Tryz.func217,Tryz.ntmps217
 go_upto_region 1 with fail
 obtain⟨B0,XR0⟩:=box_new w #[.int .i64 freq,.int .i64 itv,.int .i64 cnt,.int .i64 til,.int .i64 wkst,.bool ends,.slice a6 n6 c6,.slice a7 n7 c7,.slice a8 n8 c8,.slice a9 n9 c9,.slice a10 n10 c10,.slice a11 n11 c11,.slice a12 n12 c12,.slice a13 n13 c13,.slice a14 n14 c14] 25
 have SR0:w.heap.size<(w.alloc (.cells #[.int .i64 freq,.int .i64 itv,.int .i64 cnt,.int .i64 til,.int .i64 wkst,.bool ends,.slice a6 n6 c6,.slice a7 n7 c7,.slice a8 n8 c8,.slice a9 n9 c9,.slice a10 n10 c10,.slice a11 n11 c11,.slice a12 n12 c12,.slice a13 n13 c13,.slice a14 n14 c14] 25)).heap.size:=by simp
 generalize w.alloc (.cells #[.int .i64 freq,.int .i64 itv,.int .i64 cnt,.int .i64 til,.int .i64 wkst,.bool ends,.slice a6 n6 c6,.slice a7 n7 c7,.slice a8 n8 c8,.slice a9 n9 c9,.slice a10 n10 c10,.slice a11 n11 c11,.slice a12 n12 c12,.slice a13 n13 c13,.slice a14 n14 c14] 25)=w0 at *
 obtain⟨z0,z1,z2,z3,z4,z5,z6,z7,z8,z9,z10,z11,z12,z13,z14⟩:=cells15 XR0
 go_wp2_with fail
 refine(may_r _ ⟨a6,n6,c6,a7,n7,c7,a8,n8,c8,a9,n9,c9,a10,n10,c10,a11,n11,c11,a12,n12,c12,a13,n13,c13,a14,n14,c14⟩ ⟨freq,itv,cnt,til,wkst,ends,mon,week,yday,mday,day,hour,minu,sec,pos⟩ m (RA.out.below B0) HM.out).mono ?_
 rintro e w1 ⟨rfl,b1⟩
 clear z0 z1 z2 z3 z4 z5 z6 z7 z8 z9 z10 z11 z12 z13 z14
 have B1:=B0.trans (b1.mono B0.size)
 have XR1:=XR0.below b1
 clear B0 XR0 b1 SR0
 cases m
 ·have e:=NO.out (by simp)
  obtain⟨rfl,rfl⟩:=Prod.mk.inj e;go_wp2
  go_ret2
  exact⟨rfl,B1⟩
 ·cases q
  ·go_wp2_with fail
   refine(may_no t _ HQ.out).mono ?_;rintro e w' ⟨rfl,rfl⟩;have e:=NO.out (by simp);obtain⟨rfl,rfl⟩:=Prod.mk.inj e;go_wp2
   go_ret2
   exact⟨rfl,B1⟩
  ·go_wp2_with fail
   refine(may_yes t _ HQ.out).mono ?_;rintro e w' ⟨rfl,rfl⟩;clear NO;have ht1:=of_decide_eq_true HQ.out;have td:=may_day ht1.1 ht1.2;have tl:-9223372036854775808<=t:=by omega
   have th:t<=9223372036854775807:=by omega
   obtain⟨k1,k2⟩:=show 0<=wkst/\wkst<=6 from wk_of HM.out
   obtain⟨f1,f2⟩:=show 1<=freq/\freq<=7 from freq_of HM.out
   have e:=(daysR_yes HM.out HQ.out).symm.trans HX.out;obtain⟨ea,eb⟩:=Prod.mk.inj e;clear e ht1;go_wp2_with fail;refine(day_any t _ tl th).mono ?_;rintro e w' ⟨rfl,rfl⟩;generalize t / 86400=n at *;obtain⟨h1,h2⟩:=td;have EA:=hid ea;have EB:=hid eb;clear ea eb
   go_upto_region 5 with fail
   by_cases c1:freq=1
   ·have C1:=hid c1
    clear c1;have e1:((freq:Int)==1)=true:=by rw[beq_iff_eq];exact C1.out
    obtain⟨x,hx⟩:∃x,(if week=[] then ny (yr n) else on (wky n wkst) wkst)=x:=⟨_,rfl⟩;obtain⟨y,hy⟩:∃y,ylast (⟨freq,itv,cnt,til,wkst,ends,mon,week,yday,mday,day,hour,minu,sec,pos⟩:Ru) n=y:=⟨_,rfl⟩;have GA:=hid (show max x (-719162)=a by rw[<-EA.out,<-hx];unfold pfirst;rw[if_pos (show freq=1 from C1.out)]);have GB:=hid (show min y 2932896=b by rw[<-EB.out,<-ylast_min (r:=⟨freq,itv,cnt,til,wkst,ends,mon,week,yday,mday,day,hour,minu,sec,pos⟩) C1.out h1 h2 k1 k2,hy]);have HX2:=hid hx;have HY:=hid hy;clear hx hy EA EB;obtain⟨z0,z1,z2,z3,z4,z5,z6,z7,z8,z9,z10,z11,z12,z13,z14⟩:=cells15 XR1;go_wp2_with fail;refine(year_is _ ⟨a6,n6,c6,a7,n7,c7,a8,n8,c8,a9,n9,c9,a10,n10,c10,a11,n11,c11,a12,n12,c12,a13,n13,c13,a14,n14,c14⟩ ⟨freq,itv,cnt,til,wkst,ends,mon,week,yday,mday,day,hour,minu,sec,pos⟩ n x y (RA.out.below B1) h1 h2 k1 k2 HX2.out HY.out).mono ?_;rintro e w2 ⟨rfl,b2⟩;have B2:=B1.trans (b2.mono B1.size);clear z0 z1 z2 z3 z4 z5 z6 z7 z8 z9 z10 z11 z12 z13 z14;go_wp2
    all_goals (go_ret2;exact⟨ret_two (by have:=GA.out;omega) (by have:=GB.out;omega),B2⟩)
   by_cases c2:freq=2
   ·have C1:=hid c1
    have C2:=hid c2;clear c1 c2;have e1:((freq:Int)==1)=false:=by rw[beq_eq_false_iff_ne];exact C1.out
    have e2:((freq:Int)==2)=true:=by rw[beq_iff_eq];exact C2.out
    obtain⟨yr1,yr2⟩:=yr_day n h1 h2;have mb:=mon_bd n;have lb:=len_bd (yr n) (Cv.mon n);have de:dom n=n-ny (yr n)-ah (yr n) (Cv.mon n)+1:=rfl
    have GA:=hid (show max (n-dom n+1) (-719162)=a by rw[<-EA.out];unfold pfirst;rw[if_neg (show ¬freq=1 from C1.out),if_pos (show freq=2 from C2.out)];omega);have GB:=hid (show min (n-dom n+1+len (yr n) (Cv.mon n)-1) 2932896=b by rw[<-EB.out];unfold plast;rw[if_neg (show ¬freq=1 from C1.out),if_pos (show freq=2 from C2.out)];omega);have db:=dom_len n;clear EA EB de mb;have z0:w1.cell? ⟨w.heap.size,0,none⟩=some (.int .i64 freq):=XR1.at_ 0 _ rfl
    go_wp2_with fail;refine(dateOf_yes n _ h1 h2).mono ?_;rintro e w2 ⟨he,b2⟩
    replace he:e= .returned (.tuple #[.agg #[.int .i64 (yr n),.int .i64 (Cv.mon n),.int .i64 (dom n),.int .i64 (yd n),.int .i64 (wd n)],.bool true]):=he
    subst he;have B2:=B1.trans (b2.mono B1.size);clear z0;go_wp2_with fail;refine(length_any (yr n) (Cv.mon n) _).mono ?_;rintro e w' ⟨rfl,rfl⟩;generalize dom n=dd at *;generalize len (yr n) (Cv.mon n)=ll at *;go_wp2
    all_goals (go_ret2;exact⟨ret_two (by have:=GA.out;omega) (by have:=GB.out;omega),B2.trans ((alloc_below _ _).mono B2.size)⟩)
   by_cases c3:freq=3
   ·have C1:=hid c1
    have C2:=hid c2;have C3:=hid c3;clear c1 c2 c3;have e1:((freq:Int)==1)=false:=by rw[beq_eq_false_iff_ne];exact C1.out
    have e2:((freq:Int)==2)=false:=by rw[beq_eq_false_iff_ne];exact C2.out
    have e3:((freq:Int)==3)=true:=by rw[beq_iff_eq];exact C3.out
    have GA:=hid (show max (wst n wkst) (-719162)=a by rw[<-EA.out];unfold pfirst;rw[if_neg (show ¬freq=1 from C1.out),if_neg (show ¬freq=2 from C2.out),if_pos (show freq=3 from C3.out)]);have GB:=hid (show min (wst n wkst+6) 2932896=b by rw[<-EB.out];unfold plast;rw[if_neg (show ¬freq=1 from C1.out),if_neg (show ¬freq=2 from C2.out),if_pos (show freq=3 from C3.out)]);have sb:n-6<=wst n wkst/\wst n wkst<=n:=by unfold wst;omega
    clear EA EB;have z0:w1.cell? ⟨w.heap.size,0,none⟩=some (.int .i64 freq):=XR1.at_ 0 _ rfl
    have z4:w1.cell? ⟨w.heap.size,4,none⟩=some (.int .i64 wkst):=XR1.at_ 4 _ rfl
    go_wp2_with fail;refine(wst_any n wkst _ h1 h2 k1 k2).mono ?_;rintro e w' ⟨rfl,rfl⟩;generalize wst n wkst=s at *;go_wp2
    all_goals (go_ret2;exact⟨ret_two (by have:=GA.out;omega) (by have:=GB.out;omega),B1⟩)
   have C1:=hid c1;have C2:=hid c2;have C3:=hid c3;clear c1 c2 c3;have e1:((freq:Int)==1)=false:=by rw[beq_eq_false_iff_ne];exact C1.out
   have e2:((freq:Int)==2)=false:=by rw[beq_eq_false_iff_ne];exact C2.out
   have e3:((freq:Int)==3)=false:=by rw[beq_eq_false_iff_ne];exact C3.out
   have GA:=hid (show max n (-719162)=a by rw[<-EA.out];unfold pfirst;rw[if_neg (show ¬freq=1 from C1.out),if_neg (show ¬freq=2 from C2.out),if_neg (show ¬freq=3 from C3.out)]);have GB:=hid (show min n 2932896=b by rw[<-EB.out];unfold plast;rw[if_neg (show ¬freq=1 from C1.out),if_neg (show ¬freq=2 from C2.out),if_neg (show ¬freq=3 from C3.out)]);clear EA EB;have z0:w1.cell? ⟨w.heap.size,0,none⟩=some (.int .i64 freq):=XR1.at_ 0 _ rfl
   go_wp2
   all_goals (go_ret2;exact⟨ret_two (by have:=GA.out;omega) (by have:=GB.out;omega),B1⟩)
end Go.Proofs.YtddnnljfgfcplaaGreatDoor.Dd
