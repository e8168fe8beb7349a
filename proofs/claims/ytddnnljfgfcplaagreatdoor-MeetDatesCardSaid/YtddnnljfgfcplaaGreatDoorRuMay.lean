/- The walk of vokref4.May. -/
import Derived.Test.YtddnnljfgfcplaaGreatDoorRuB
set_option linter.unusedVariables false
namespace Go.Proofs.YtddnnljfgfcplaaGreatDoor.Ru
open Lib (hid)
open Go.RowKit Cv St
theorem pair_bd {a b:Nat} (h1:a<=60) (h2:b<=60):0<=(a:Int)*(b:Int)/\(a:Int)*(b:Int)<=3600:=by
 have:=Nat.mul_le_mul h1 h2
 exact⟨Int.mul_nonneg (by omega) (by omega),by rw[<-Int.natCast_mul];omega⟩
theorem trip_bd {a b c:Nat} (h1:a<=60) (h2:b<=60) (h3:c<=60):0<=(a:Int)*(b:Int)*(c:Int)/\(a:Int)*(b:Int)*(c:Int)<=216000:=by
 have:=Nat.mul_le_mul (Nat.mul_le_mul h1 h2) h3
 exact⟨Int.mul_nonneg (Int.mul_nonneg (by omega) (by omega)) (by omega),by rw[<-Int.natCast_mul,<-Int.natCast_mul];omega⟩
theorem often_len (r:Ru):oftenB r=decide (4<r.freq\/((max r.hour.length 1:Nat):Int)*((max r.minu.length 1:Nat):Int)*((max r.sec.length 1:Nat):Int)<=1000):=by
 unfold oftenB
 refine decide_eq_decide.2 ?_
 rw[<-Int.natCast_mul,<-Int.natCast_mul]
 omega
set_option maxRecDepth 100000 in
set_option maxHeartbeats 16000000 in
theorem rmayR_is (w:World) (S:RS) (r:Ru) (x:Bool) (h:RuAt w S r) (hx:mayR r=x):
  Calls Tryz.prog 44 #[S.val r] w fun e w'=>e= .returned (.bool x)/\Below w.heap.size w w':=by
 obtain⟨x1,e1⟩:∃p,scalB r=p:=⟨_,rfl⟩
 obtain⟨x2,e2⟩:∃p,endB r=p:=⟨_,rfl⟩
 obtain⟨x3,e3⟩:∃p,listB r=p:=⟨_,rfl⟩
 obtain⟨x4,e4⟩:∃p,besideB r=p:=⟨_,rfl⟩
 obtain⟨x5,e5⟩:∃p,nthB r=p:=⟨_,rfl⟩
 obtain⟨x6,e6⟩:∃p,posB r=p:=⟨_,rfl⟩
 obtain⟨x7,e7⟩:∃p,oftenB r=p:=⟨_,rfl⟩
 have HX:=hid (show (x1&&x2&&x3&&x4&&x5&&x6&&x7)=x by rw[<-hx,<-e1,<-e2,<-e3,<-e4,<-e5,<-e6,<-e7];rfl)
 have L60:=hid (fun (g:listB r=true)=>by
  unfold listB at g;simp only[Bool.and_eq_true] at g;obtain⟨⟨⟨⟨⟨⟨⟨⟨_,_⟩,_⟩,_⟩,_⟩,a⟩,b⟩,c⟩,_⟩:=g;unfold inB at a b c;simp only[Bool.and_eq_true] at a b c
  exact(⟨of_decide_eq_true a.1.2,of_decide_eq_true b.1.2,of_decide_eq_true c.1.2⟩:r.hour.length<=60/\r.minu.length<=60/\r.sec.length<=60))
 unfold besideB at e4
 unfold nthB at e5
 unfold posB at e6
 rw[often_len] at e7
 rw[<-h.h7.1,<-h.h8.1,<-h.h9.1] at e4
 rw[<-h.h7.1] at e5
 rw[<-h.h6.1,<-h.h7.1,<-h.h8.1,<-h.h9.1,<-h.h10.1,<-h.h11.1,<-h.h12.1,<-h.h13.1,<-h.h14.1] at e6
 rw[<-h.h11.1,<-h.h12.1,<-h.h13.1] at e7
 rw[<-h.h11.1,<-h.h12.1,<-h.h13.1] at L60
 have E1:=hid e1;have E2:=hid e2;have E3:=hid e3;have E4:=hid e4;have E5:=hid e5;have E6:=hid e6;have E7:=hid e7
 have H6:=hid h.h6;have H7:=hid h.h7;have H8:=hid h.h8;have H9:=hid h.h9;have H10:=hid h.h10;have H11:=hid h.h11;have H12:=hid h.h12;have H13:=hid h.h13;have H14:=hid h.h14
 have l6:=h.l6;have l7:=h.l7;have l8:=h.l8;have l9:=h.l9;have l10:=h.l10;have l11:=h.l11;have l12:=h.l12;have l13:=h.l13;have l14:=h.l14
 clear h hx e1 e2 e3 e4 e5 e6 e7
 obtain⟨a6,n6,c6,a7,n7,c7,a8,n8,c8,a9,n9,c9,a10,n10,c10,a11,n11,c11,a12,n12,c12,a13,n13,c13,a14,n14,c14⟩:=S
 obtain⟨freq,itv,cnt,til,wkst,ends,mon,week,yday,mday,day,hour,minu,sec,pos⟩:=r
 replace l6:n6<=140737488355328:=l6
 replace l7:n7<=140737488355328:=l7
 replace l8:n8<=140737488355328:=l8
 replace l9:n9<=140737488355328:=l9
 replace l10:n10<=140737488355328:=l10
 replace l11:n11<=140737488355328:=l11
 replace l12:n12<=140737488355328:=l12
 replace l13:n13<=140737488355328:=l13
 replace l14:n14<=140737488355328:=l14
 have E1:=hid (show decide (1<=freq/\freq<=7/\1<=itv/\itv<=1000/\0<=cnt/\cnt<=4096/\0<=wkst/\wkst<=6)=x1 from E1.out)
 have E2:=hid (show (if ends then decide (cnt<=0)&&mayT til else decide (til=0))=x2 from E2.out)
 have E3:=hid (show (inB mon 1 12 true&&inB week (-53) 53 false&&inB yday (-366) 366 false&&inB mday (-31) 31 false&&inB pos (-366) 366 false&&inB hour 0 23 true&&inB minu 0 59 true&&inB sec 0 59 true&&dayB day)=x3 from E3.out)
 have E4:=hid (show decide (¬((0<n7/\freq≠1)\/(0<n8/\2<=freq/\freq<=4)\/(0<n9/\freq=3)))=x4 from E4.out)
 have E5:=hid (show decide (¬(numbB day=true/\freq≠2/\(freq≠1\/0<n7)))=x5 from E5.out)
 have E6:=hid (show decide (¬(0<n14/\n6+n7+n8+n9+n10+n11+n12+n13=0))=x6 from E6.out)
 have E7:=hid (show decide (4<freq\/((max n11 1:Nat):Int)*((max n12 1:Nat):Int)*((max n13 1:Nat):Int)<=1000)=x7 from E7.out)
 have L60:=hid (fun (g:x3=true)=>show n11<=60/\n12<=60/\n13<=60 from L60.out (E3.out.trans g))
 show Calls Tryz.prog 44 #[.agg #[.int .i64 freq,.int .i64 itv,.int .i64 cnt,.int .i64 til,.int .i64 wkst,.bool ends,.slice a6 n6 c6,.slice a7 n7 c7,.slice a8 n8 c8,.slice a9 n9 c9,.slice a10 n10 c10,.slice a11 n11 c11,.slice a12 n12 c12,.slice a13 n13 c13,.slice a14 n14 c14]] w _
 go_enter Tryz.func44,Tryz.ntmps44
 go_upto_region 1 with fail
 obtain⟨B0,X0⟩:=box_new w #[.int .i64 freq,.int .i64 itv,.int .i64 cnt,.int .i64 til,.int .i64 wkst,.bool ends,.slice a6 n6 c6,.slice a7 n7 c7,.slice a8 n8 c8,.slice a9 n9 c9,.slice a10 n10 c10,.slice a11 n11 c11,.slice a12 n12 c12,.slice a13 n13 c13,.slice a14 n14 c14] 25
 generalize w.alloc _=w0 at *
 go_cut [41] (fun s wx=>s= .bool (!x1)/\Below w0.heap.size w0 wx)
 case first=>
  as_aux_lemma=>
   have z0:w0.cell? ⟨w.heap.size,0,none⟩=some (.int .i64 freq):=X0.at_ 0 _ rfl
   have z1:w0.cell? ⟨w.heap.size,1,none⟩=some (.int .i64 itv):=X0.at_ 1 _ rfl
   have z2:w0.cell? ⟨w.heap.size,2,none⟩=some (.int .i64 cnt):=X0.at_ 2 _ rfl
   have z4:w0.cell? ⟨w.heap.size,4,none⟩=some (.int .i64 wkst):=X0.at_ 4 _ rfl
   by_cases c0:freq<1
   ·have t0:decide (freq<1)=true:=decide_eq_true c0
    have G:=hid (show false=x1 by rw[<-E1.out];exact(decide_eq_false (by omega)).symm);clear c0;go_wp2
    go_meet
    exact⟨by rw[<-G.out];rfl,Below.refl _ _⟩
   by_cases c1:7<freq
   ·have t0:decide (freq<1)=false:=decide_eq_false c0
    have t1:decide (7<freq)=true:=decide_eq_true c1
    have G:=hid (show false=x1 by rw[<-E1.out];exact(decide_eq_false (by omega)).symm);clear c0 c1;go_wp2
    go_meet
    exact⟨by rw[<-G.out];rfl,Below.refl _ _⟩
   by_cases c2:itv<1
   ·have t0:decide (freq<1)=false:=decide_eq_false c0
    have t1:decide (7<freq)=false:=decide_eq_false c1
    have t2:decide (itv<1)=true:=decide_eq_true c2
    have G:=hid (show false=x1 by rw[<-E1.out];exact(decide_eq_false (by omega)).symm);clear c0 c1 c2;go_wp2
    go_meet
    exact⟨by rw[<-G.out];rfl,Below.refl _ _⟩
   by_cases c3:1000<itv
   ·have t0:decide (freq<1)=false:=decide_eq_false c0
    have t1:decide (7<freq)=false:=decide_eq_false c1
    have t2:decide (itv<1)=false:=decide_eq_false c2
    have t3:decide (1000<itv)=true:=decide_eq_true c3
    have G:=hid (show false=x1 by rw[<-E1.out];exact(decide_eq_false (by omega)).symm);clear c0 c1 c2 c3;go_wp2
    go_meet
    exact⟨by rw[<-G.out];rfl,Below.refl _ _⟩
   by_cases c4:cnt<0
   ·have t0:decide (freq<1)=false:=decide_eq_false c0
    have t1:decide (7<freq)=false:=decide_eq_false c1
    have t2:decide (itv<1)=false:=decide_eq_false c2
    have t3:decide (1000<itv)=false:=decide_eq_false c3
    have t4:decide (cnt<0)=true:=decide_eq_true c4
    have G:=hid (show false=x1 by rw[<-E1.out];exact(decide_eq_false (by omega)).symm);clear c0 c1 c2 c3 c4;go_wp2
    go_meet
    exact⟨by rw[<-G.out];rfl,Below.refl _ _⟩
   by_cases c5:4096<cnt
   ·have t0:decide (freq<1)=false:=decide_eq_false c0
    have t1:decide (7<freq)=false:=decide_eq_false c1
    have t2:decide (itv<1)=false:=decide_eq_false c2
    have t3:decide (1000<itv)=false:=decide_eq_false c3
    have t4:decide (cnt<0)=false:=decide_eq_false c4
    have t5:decide (4096<cnt)=true:=decide_eq_true c5
    have G:=hid (show false=x1 by rw[<-E1.out];exact(decide_eq_false (by omega)).symm);clear c0 c1 c2 c3 c4 c5;go_wp2
    go_meet
    exact⟨by rw[<-G.out];rfl,Below.refl _ _⟩
   by_cases c6:wkst<0
   ·have t0:decide (freq<1)=false:=decide_eq_false c0
    have t1:decide (7<freq)=false:=decide_eq_false c1
    have t2:decide (itv<1)=false:=decide_eq_false c2
    have t3:decide (1000<itv)=false:=decide_eq_false c3
    have t4:decide (cnt<0)=false:=decide_eq_false c4
    have t5:decide (4096<cnt)=false:=decide_eq_false c5
    have t6:decide (wkst<0)=true:=decide_eq_true c6
    have G:=hid (show false=x1 by rw[<-E1.out];exact(decide_eq_false (by omega)).symm);clear c0 c1 c2 c3 c4 c5 c6;go_wp2
    go_meet
    exact⟨by rw[<-G.out];rfl,Below.refl _ _⟩
   by_cases c7:6<wkst
   ·have t0:decide (freq<1)=false:=decide_eq_false c0
    have t1:decide (7<freq)=false:=decide_eq_false c1
    have t2:decide (itv<1)=false:=decide_eq_false c2
    have t3:decide (1000<itv)=false:=decide_eq_false c3
    have t4:decide (cnt<0)=false:=decide_eq_false c4
    have t5:decide (4096<cnt)=false:=decide_eq_false c5
    have t6:decide (wkst<0)=false:=decide_eq_false c6
    have t7:decide (6<wkst)=true:=decide_eq_true c7
    have G:=hid (show false=x1 by rw[<-E1.out];exact(decide_eq_false (by omega)).symm);clear c0 c1 c2 c3 c4 c5 c6 c7;go_wp2
    go_meet
    exact⟨by rw[<-G.out];rfl,Below.refl _ _⟩
   have t0:decide (freq<1)=false:=decide_eq_false c0
   have t1:decide (7<freq)=false:=decide_eq_false c1
   have t2:decide (itv<1)=false:=decide_eq_false c2
   have t3:decide (1000<itv)=false:=decide_eq_false c3
   have t4:decide (cnt<0)=false:=decide_eq_false c4
   have t5:decide (4096<cnt)=false:=decide_eq_false c5
   have t6:decide (wkst<0)=false:=decide_eq_false c6
   have t7:decide (6<wkst)=false:=decide_eq_false c7
   have G:=hid (show true=x1 by rw[<-E1.out];exact(decide_eq_true (by omega)).symm);clear c0 c1 c2 c3 c4 c5 c6 c7;go_wp2
   go_meet
   exact⟨by rw[<-G.out];rfl,Below.refl _ _⟩
 case rest=>
  obtain⟨rfl,bc⟩:=hcut;generalize wc=w1 at *;have B1:=B0.trans (bc.mono B0.size);have X1:=X0.below bc;clear bc B0 X0 E1;cases x1
  ·have G:=hid (show false=x by rw[<-HX.out];simp)
   go_wp2;go_ret;exact⟨ret_bool G.out,B1⟩
  ·go_upto_region 3 with fail
   go_cut [64] (fun s wx=>s= .bool (!x2)/\Below w1.heap.size w1 wx)
   case first=>
    as_aux_lemma=>
     have z2:w1.cell? ⟨w.heap.size,2,none⟩=some (.int .i64 cnt):=X1.at_ 2 _ rfl
     have z3:w1.cell? ⟨w.heap.size,3,none⟩=some (.int .i64 til):=X1.at_ 3 _ rfl
     have z5:w1.cell? ⟨w.heap.size,5,none⟩=some (.bool ends):=X1.at_ 5 _ rfl
     cases ends
     ·by_cases c:til=0
      ·have C:=hid c
       clear c;have t:((til:Int) != 0)=false:=by rw[bne_eq_false_iff_eq];exact C.out
       have G:=hid (show true=x2 by rw[<-E2.out];exact(decide_eq_true C.out).symm);go_wp2
       go_meet
       exact⟨by rw[<-G.out];rfl,Below.refl _ _⟩
      ·have C:=hid c
       clear c;have t:((til:Int) != 0)=true:=by rw[bne_iff_ne];exact C.out
       have G:=hid (show false=x2 by rw[<-E2.out];exact(decide_eq_false C.out).symm);go_wp2
       go_meet
       exact⟨by rw[<-G.out];rfl,Below.refl _ _⟩
     ·by_cases c:0<cnt
      ·have t:decide (0<cnt)=true:=decide_eq_true c
       have G:=hid (show false=x2 by rw[<-E2.out,show decide (cnt<=0)=false from decide_eq_false (by omega)];rfl);go_wp2
       go_meet
       exact⟨by rw[<-G.out];rfl,Below.refl _ _⟩
      ·have t:decide (0<cnt)=false:=decide_eq_false c
       have G:=hid (show St.may til=x2 by rw[<-E2.out,show decide (cnt<=0)=true from decide_eq_true (by omega)];rfl);obtain⟨m,hm⟩:∃m,St.may til=m:=⟨_,rfl⟩;have G2:=hid (show m=x2 by rw[<-hm];exact G.out);have HM:=hid hm;clear hm c;go_wp2_with fail;refine(rmay_any til _).mono ?_;rintro e w' ⟨rfl,rfl⟩;rw[HM.out];cases m
       ·go_wp2
        go_meet
        exact⟨by rw[<-G2.out];rfl,Below.refl _ _⟩
       ·go_wp2
        go_meet
        exact⟨by rw[<-G2.out];rfl,Below.refl _ _⟩
   case rest=>
    obtain⟨rfl,bc⟩:=hcut;generalize wc=w2 at *;have B2:=B1.trans (bc.mono B1.size);have X2:=X1.below bc;clear bc B1 X1 E2;cases x2
    ·have G:=hid (show false=x by rw[<-HX.out];simp)
     go_wp2;go_ret;exact⟨ret_bool G.out,B2⟩
    ·go_upto_region 5 with fail
     go_cut [116] (fun s wx=>s= .bool (!x3)/\Below w2.heap.size w2 wx)
     case first=>
      as_aux_lemma=>
       obtain⟨p0,f0⟩:∃p,inB mon 1 12 true=p:=⟨_,rfl⟩;obtain⟨p1,f1⟩:∃p,inB week (-53) 53 false=p:=⟨_,rfl⟩;obtain⟨p2,f2⟩:∃p,inB yday (-366) 366 false=p:=⟨_,rfl⟩;obtain⟨p3,f3⟩:∃p,inB mday (-31) 31 false=p:=⟨_,rfl⟩;obtain⟨p4,f4⟩:∃p,inB pos (-366) 366 false=p:=⟨_,rfl⟩;obtain⟨p5,f5⟩:∃p,inB hour 0 23 true=p:=⟨_,rfl⟩;obtain⟨p6,f6⟩:∃p,inB minu 0 59 true=p:=⟨_,rfl⟩;obtain⟨p7,f7⟩:∃p,inB sec 0 59 true=p:=⟨_,rfl⟩;obtain⟨p8,f8⟩:∃p,dayB day=p:=⟨_,rfl⟩;have E:=hid (show (p0&&p1&&p2&&p3&&p4&&p5&&p6&&p7&&p8)=x3 by rw[<-E3.out,f0,f1,f2,f3,f4,f5,f6,f7,f8]);have F0:=hid f0;have F1:=hid f1;have F2:=hid f2;have F3:=hid f3;have F4:=hid f4;have F5:=hid f5;have F6:=hid f6;have F7:=hid f7;have F8:=hid f8;clear f0 f1 f2 f3 f4 f5 f6 f7 f8;have D0:Below w2.heap.size w2 w2:=Below.refl _ _
       have Y0:=X2;obtain⟨v0,hv⟩:∃v,w2=v:=⟨_,rfl⟩;have D0:Below w2.heap.size w2 v0:=hv ▸ D0
       have Y0:Box v0 w.heap.size #[.int .i64 freq,.int .i64 itv,.int .i64 cnt,.int .i64 til,.int .i64 wkst,.bool ends,.slice a6 n6 c6,.slice a7 n7 c7,.slice a8 n8 c8,.slice a9 n9 c9,.slice a10 n10 c10,.slice a11 n11 c11,.slice a12 n12 c12,.slice a13 n13 c13,.slice a14 n14 c14]:=hv ▸ Y0
       have BV:Below w.heap.size w v0:=hv ▸ B2
       rw[hv];clear hv;have z:v0.cell? ⟨w.heap.size,6,none⟩=some (.slice a6 n6 c6):=Y0.at_ 6 _ rfl
       go_wp2_with fail;refine(within_any _ a6 n6 c6 mon 1 12 true (H6.out.below BV) (by omega)).mono ?_;rintro e v1 ⟨rfl,b⟩;rw[F0.out];have D1:=D0.trans (b.mono D0.size);have Y1:=Y0.below b;have BV:=BV.trans (b.mono BV.size);clear b z D0 Y0;cases p0
       ·have G:=hid (show false=x3 by rw[<-E.out];simp)
        go_wp2
        go_meet
        exact⟨by rw[<-G.out];rfl,D1⟩
       ·have z:v1.cell? ⟨w.heap.size,7,none⟩=some (.slice a7 n7 c7):=Y1.at_ 7 _ rfl
        go_wp2_with fail;refine(within_any _ a7 n7 c7 week (-53) 53 false (H7.out.below BV) (by omega)).mono ?_;rintro e v2 ⟨rfl,b⟩;rw[F1.out];have D2:=D1.trans (b.mono D1.size);have Y2:=Y1.below b;have BV:=BV.trans (b.mono BV.size);clear b z D1 Y1;cases p1
        ·have G:=hid (show false=x3 by rw[<-E.out];simp)
         go_wp2
         go_meet
         exact⟨by rw[<-G.out];rfl,D2⟩
        ·have z:v2.cell? ⟨w.heap.size,8,none⟩=some (.slice a8 n8 c8):=Y2.at_ 8 _ rfl
         go_wp2_with fail;refine(within_any _ a8 n8 c8 yday (-366) 366 false (H8.out.below BV) (by omega)).mono ?_;rintro e v3 ⟨rfl,b⟩;rw[F2.out];have D3:=D2.trans (b.mono D2.size);have Y3:=Y2.below b;have BV:=BV.trans (b.mono BV.size);clear b z D2 Y2;cases p2
         ·have G:=hid (show false=x3 by rw[<-E.out];simp)
          go_wp2
          go_meet
          exact⟨by rw[<-G.out];rfl,D3⟩
         ·have z:v3.cell? ⟨w.heap.size,9,none⟩=some (.slice a9 n9 c9):=Y3.at_ 9 _ rfl
          go_wp2_with fail;refine(within_any _ a9 n9 c9 mday (-31) 31 false (H9.out.below BV) (by omega)).mono ?_;rintro e v4 ⟨rfl,b⟩;rw[F3.out];have D4:=D3.trans (b.mono D3.size);have Y4:=Y3.below b;have BV:=BV.trans (b.mono BV.size);clear b z D3 Y3;cases p3
          ·have G:=hid (show false=x3 by rw[<-E.out];simp)
           go_wp2
           go_meet
           exact⟨by rw[<-G.out];rfl,D4⟩
          ·have z:v4.cell? ⟨w.heap.size,14,none⟩=some (.slice a14 n14 c14):=Y4.at_ 14 _ rfl
           go_wp2_with fail;refine(within_any _ a14 n14 c14 pos (-366) 366 false (H14.out.below BV) (by omega)).mono ?_;rintro e v5 ⟨rfl,b⟩;rw[F4.out];have D5:=D4.trans (b.mono D4.size);have Y5:=Y4.below b;have BV:=BV.trans (b.mono BV.size);clear b z D4 Y4;cases p4
           ·have G:=hid (show false=x3 by rw[<-E.out];simp)
            go_wp2
            go_meet
            exact⟨by rw[<-G.out];rfl,D5⟩
           ·have z:v5.cell? ⟨w.heap.size,11,none⟩=some (.slice a11 n11 c11):=Y5.at_ 11 _ rfl
            go_wp2_with fail;refine(within_any _ a11 n11 c11 hour 0 23 true (H11.out.below BV) (by omega)).mono ?_;rintro e v6 ⟨rfl,b⟩;rw[F5.out];have D6:=D5.trans (b.mono D5.size);have Y6:=Y5.below b;have BV:=BV.trans (b.mono BV.size);clear b z D5 Y5;cases p5
            ·have G:=hid (show false=x3 by rw[<-E.out];simp)
             go_wp2
             go_meet
             exact⟨by rw[<-G.out];rfl,D6⟩
            ·have z:v6.cell? ⟨w.heap.size,12,none⟩=some (.slice a12 n12 c12):=Y6.at_ 12 _ rfl
             go_wp2_with fail;refine(within_any _ a12 n12 c12 minu 0 59 true (H12.out.below BV) (by omega)).mono ?_;rintro e v7 ⟨rfl,b⟩;rw[F6.out];have D7:=D6.trans (b.mono D6.size);have Y7:=Y6.below b;have BV:=BV.trans (b.mono BV.size);clear b z D6 Y6;cases p6
             ·have G:=hid (show false=x3 by rw[<-E.out];simp)
              go_wp2
              go_meet
              exact⟨by rw[<-G.out];rfl,D7⟩
             ·have z:v7.cell? ⟨w.heap.size,13,none⟩=some (.slice a13 n13 c13):=Y7.at_ 13 _ rfl
              go_wp2_with fail;refine(within_any _ a13 n13 c13 sec 0 59 true (H13.out.below BV) (by omega)).mono ?_;rintro e v8 ⟨rfl,b⟩;rw[F7.out];have D8:=D7.trans (b.mono D7.size);have Y8:=Y7.below b;have BV:=BV.trans (b.mono BV.size);clear b z D7 Y7;cases p7
              ·have G:=hid (show false=x3 by rw[<-E.out];simp)
               go_wp2
               go_meet
               exact⟨by rw[<-G.out];rfl,D8⟩
              ·have z:v8.cell? ⟨w.heap.size,10,none⟩=some (.slice a10 n10 c10):=Y8.at_ 10 _ rfl
               go_wp2_with fail;refine(dayList_any _ a10 n10 c10 day (H10.out.below BV) (by omega)).mono ?_;rintro e v9 ⟨rfl,b⟩;rw[F8.out];have D9:=D8.trans (b.mono D8.size);have Y9:=Y8.below b;have BV:=BV.trans (b.mono BV.size);clear b z D8 Y8;cases p8
               ·have G:=hid (show false=x3 by rw[<-E.out];simp)
                go_wp2
                go_meet
                exact⟨by rw[<-G.out];rfl,D9⟩
               ·have G:=hid (show true=x3 by rw[<-E.out];rfl)
                go_wp2
                go_meet
                exact⟨by rw[<-G.out];rfl,D9⟩
     case rest=>
      obtain⟨rfl,bc⟩:=hcut;generalize wc=w3 at *;have B3:=B2.trans (bc.mono B2.size);have X3:=X2.below bc;clear bc B2 X2 E3;cases x3
      ·have G:=hid (show false=x by rw[<-HX.out];simp)
       go_wp2;go_ret;exact⟨ret_bool G.out,B3⟩
      ·go_upto_region 7 with fail
       obtain⟨q11,q12,q13⟩:=L60.out rfl;clear L60
       go_cut [152] (fun s wx=>s= .bool (!x4)/\Below w3.heap.size w3 wx)
       case first=>
        as_aux_lemma=>
         have z0:w3.cell? ⟨w.heap.size,0,none⟩=some (.int .i64 freq):=X3.at_ 0 _ rfl
         have z7:w3.cell? ⟨w.heap.size,7,none⟩=some (.slice a7 n7 c7):=X3.at_ 7 _ rfl
         have z8:w3.cell? ⟨w.heap.size,8,none⟩=some (.slice a8 n8 c8):=X3.at_ 8 _ rfl
         have z9:w3.cell? ⟨w.heap.size,9,none⟩=some (.slice a9 n9 c9):=X3.at_ 9 _ rfl
         by_cases a1:0<n7
         ·by_cases f1:freq=1
          ·have g1:((freq:Int) != 1)=false:=by rw[bne_eq_false_iff_eq];exact f1
           by_cases a2:0<n8
           ·have g2:decide (2<=freq)=false:=decide_eq_false (by omega)
            by_cases a3:0<n9
            ·have g3:((freq:Int)==3)=false:=by rw[beq_eq_false_iff_ne];omega
             have G:=hid (show true=x4 by rw[<-E4.out];exact(decide_eq_true (by omega)).symm);clear f1;go_wp2
             go_meet
             exact⟨by rw[<-G.out];rfl,Below.refl _ _⟩
            ·have G:=hid (show true=x4 by rw[<-E4.out];exact(decide_eq_true (by omega)).symm)
             clear f1;go_wp2
             go_meet
             exact⟨by rw[<-G.out];rfl,Below.refl _ _⟩
           ·by_cases a3:0<n9
            ·have g3:((freq:Int)==3)=false:=by rw[beq_eq_false_iff_ne];omega
             have G:=hid (show true=x4 by rw[<-E4.out];exact(decide_eq_true (by omega)).symm);clear f1;go_wp2
             go_meet
             exact⟨by rw[<-G.out];rfl,Below.refl _ _⟩
            ·have G:=hid (show true=x4 by rw[<-E4.out];exact(decide_eq_true (by omega)).symm)
             clear f1;go_wp2
             go_meet
             exact⟨by rw[<-G.out];rfl,Below.refl _ _⟩
          ·have g1:((freq:Int) != 1)=true:=by rw[bne_iff_ne];exact f1
           have G:=hid (show false=x4 by rw[<-E4.out];exact(decide_eq_false (by omega)).symm);go_wp2
           go_meet
           exact⟨by rw[<-G.out];rfl,Below.refl _ _⟩
         ·by_cases a2:0<n8
          ·by_cases f2:2<=freq
           ·have g2:decide (2<=freq)=true:=decide_eq_true f2
            by_cases f4:freq<=4
            ·have g4:decide (freq<=4)=true:=decide_eq_true f4
             have G:=hid (show false=x4 by rw[<-E4.out];exact(decide_eq_false (by omega)).symm);go_wp2
             go_meet
             exact⟨by rw[<-G.out];rfl,Below.refl _ _⟩
            ·have g4:decide (freq<=4)=false:=decide_eq_false f4
             by_cases a3:0<n9
             ·have g3:((freq:Int)==3)=false:=by rw[beq_eq_false_iff_ne];omega
              have G:=hid (show true=x4 by rw[<-E4.out];exact(decide_eq_true (by omega)).symm);go_wp2
              go_meet
              exact⟨by rw[<-G.out];rfl,Below.refl _ _⟩
             ·have G:=hid (show true=x4 by rw[<-E4.out];exact(decide_eq_true (by omega)).symm)
              go_wp2
              go_meet
              exact⟨by rw[<-G.out];rfl,Below.refl _ _⟩
           ·have g2:decide (2<=freq)=false:=decide_eq_false f2
            by_cases a3:0<n9
            ·have g3:((freq:Int)==3)=false:=by rw[beq_eq_false_iff_ne];omega
             have G:=hid (show true=x4 by rw[<-E4.out];exact(decide_eq_true (by omega)).symm);go_wp2
             go_meet
             exact⟨by rw[<-G.out];rfl,Below.refl _ _⟩
            ·have G:=hid (show true=x4 by rw[<-E4.out];exact(decide_eq_true (by omega)).symm)
             go_wp2
             go_meet
             exact⟨by rw[<-G.out];rfl,Below.refl _ _⟩
          ·by_cases a3:0<n9
           ·by_cases f3:freq=3
            ·have g3:((freq:Int)==3)=true:=by rw[beq_iff_eq];omega
             have G:=hid (show false=x4 by rw[<-E4.out];exact(decide_eq_false (by omega)).symm);clear f3;go_wp2
             go_meet
             exact⟨by rw[<-G.out];rfl,Below.refl _ _⟩
            ·have g3:((freq:Int)==3)=false:=by rw[beq_eq_false_iff_ne];omega
             have G:=hid (show true=x4 by rw[<-E4.out];exact(decide_eq_true (by omega)).symm);go_wp2
             go_meet
             exact⟨by rw[<-G.out];rfl,Below.refl _ _⟩
           ·have G:=hid (show true=x4 by rw[<-E4.out];exact(decide_eq_true (by omega)).symm)
            go_wp2
            go_meet
            exact⟨by rw[<-G.out];rfl,Below.refl _ _⟩
       case rest=>
        obtain⟨rfl,bc⟩:=hcut;generalize wc=w4 at *;have B4:=B3.trans (bc.mono B3.size);have X4:=X3.below bc;clear bc B3 X3 E4;cases x4
        ·have G:=hid (show false=x by rw[<-HX.out];simp)
         go_wp2;go_ret;exact⟨ret_bool G.out,B4⟩
        ·go_upto_region 9 with fail
         go_cut [171] (fun s wx=>s= .bool (!x5)/\Below w4.heap.size w4 wx)
         case first=>
          as_aux_lemma=>
           have z0:w4.cell? ⟨w.heap.size,0,none⟩=some (.int .i64 freq):=X4.at_ 0 _ rfl
           have z7:w4.cell? ⟨w.heap.size,7,none⟩=some (.slice a7 n7 c7):=X4.at_ 7 _ rfl
           have z10:w4.cell? ⟨w.heap.size,10,none⟩=some (.slice a10 n10 c10):=X4.at_ 10 _ rfl
           obtain⟨p,hp⟩:∃p,numbB day=p:=⟨_,rfl⟩;have HP:=hid hp;have E:=hid (show decide (¬(p=true/\freq≠2/\(freq≠1\/0<n7)))=x5 by rw[<-E5.out,hp]);clear hp;go_wp2_with fail;refine(numbered_any _ a10 n10 c10 day (H10.out.below B4) (by omega)).mono ?_;rintro e v1 ⟨rfl,b⟩;rw[HP.out];have Y:=X4.below b;clear z0 z7 z10;have z0:v1.cell? ⟨w.heap.size,0,none⟩=some (.int .i64 freq):=Y.at_ 0 _ rfl
           have z7:v1.cell? ⟨w.heap.size,7,none⟩=some (.slice a7 n7 c7):=Y.at_ 7 _ rfl
           cases p
           ·have G:=hid (show true=x5 by rw[<-E.out];exact(decide_eq_true (by simp;try omega)).symm)
            go_wp2
            go_meet
            exact⟨by rw[<-G.out];rfl,b⟩
           ·by_cases f2:freq=2
            ·have g2:((freq:Int) != 2)=false:=by rw[bne_eq_false_iff_eq];exact f2
             have G:=hid (show true=x5 by rw[<-E.out];exact(decide_eq_true (by simp;try omega)).symm);clear f2;go_wp2
             go_meet
             exact⟨by rw[<-G.out];rfl,b⟩
            ·have g2:((freq:Int) != 2)=true:=by rw[bne_iff_ne];exact f2
             by_cases f1:freq=1
             ·have g1:((freq:Int) != 1)=false:=by rw[bne_eq_false_iff_eq];exact f1
              by_cases a:0<n7
              ·have G:=hid (show false=x5 by rw[<-E.out];exact(decide_eq_false (by simp;try omega)).symm)
               clear f1;go_wp2
               go_meet
               exact⟨by rw[<-G.out];rfl,b⟩
              ·have G:=hid (show true=x5 by rw[<-E.out];exact(decide_eq_true (by simp;try omega)).symm)
               clear f1;go_wp2
               go_meet
               exact⟨by rw[<-G.out];rfl,b⟩
             ·have g1:((freq:Int) != 1)=true:=by rw[bne_iff_ne];exact f1
              have G:=hid (show false=x5 by rw[<-E.out];exact(decide_eq_false (by simp;try omega)).symm);go_wp2
              go_meet
              exact⟨by rw[<-G.out];rfl,b⟩
         case rest=>
          obtain⟨rfl,bc⟩:=hcut;generalize wc=w5 at *;have B5:=B4.trans (bc.mono B4.size);have X5:=X4.below bc;clear bc B4 X4 E5;cases x5
          ·have G:=hid (show false=x by rw[<-HX.out];simp)
           go_wp2;go_ret;exact⟨ret_bool G.out,B5⟩
          ·go_upto_region 11 with fail
           have z6:w5.cell? ⟨w.heap.size,6,none⟩=some (.slice a6 n6 c6):=X5.at_ 6 _ rfl
           have z7:w5.cell? ⟨w.heap.size,7,none⟩=some (.slice a7 n7 c7):=X5.at_ 7 _ rfl
           have z8:w5.cell? ⟨w.heap.size,8,none⟩=some (.slice a8 n8 c8):=X5.at_ 8 _ rfl
           have z9:w5.cell? ⟨w.heap.size,9,none⟩=some (.slice a9 n9 c9):=X5.at_ 9 _ rfl
           have z10:w5.cell? ⟨w.heap.size,10,none⟩=some (.slice a10 n10 c10):=X5.at_ 10 _ rfl
           have z11:w5.cell? ⟨w.heap.size,11,none⟩=some (.slice a11 n11 c11):=X5.at_ 11 _ rfl
           have z12:w5.cell? ⟨w.heap.size,12,none⟩=some (.slice a12 n12 c12):=X5.at_ 12 _ rfl
           have z13:w5.cell? ⟨w.heap.size,13,none⟩=some (.slice a13 n13 c13):=X5.at_ 13 _ rfl
           go_upto_region 12 with fail
           clear z6 z7 z8 z9 z10 z11 z12 z13
           go_cut [210] (fun s wx=>s= .bool (!x6)/\Below w5.heap.size w5 wx)
           case first=>
            as_aux_lemma=>
             have z14:w5.cell? ⟨w.heap.size,14,none⟩=some (.slice a14 n14 c14):=X5.at_ 14 _ rfl
             by_cases a:0<n14
             ·by_cases c:n6+n7+n8+n9+n10+n11+n12+n13=0
              ·have t:(((n6:Int)+(n7:Int)+(n8:Int)+(n9:Int)+(n10:Int)+(n11:Int)+(n12:Int)+(n13:Int))==0)=true:=by rw[beq_iff_eq];omega
               have G:=hid (show false=x6 by rw[<-E6.out];exact(decide_eq_false (by omega)).symm);have C:=hid c;clear c;go_wp2
               go_meet
               exact⟨by rw[<-G.out];rfl,Below.refl _ _⟩
              ·have t:(((n6:Int)+(n7:Int)+(n8:Int)+(n9:Int)+(n10:Int)+(n11:Int)+(n12:Int)+(n13:Int))==0)=false:=by rw[beq_eq_false_iff_ne];omega
               have G:=hid (show true=x6 by rw[<-E6.out];exact(decide_eq_true (by omega)).symm);have C:=hid c;clear c;go_wp2
               go_meet
               exact⟨by rw[<-G.out];rfl,Below.refl _ _⟩
             ·have G:=hid (show true=x6 by rw[<-E6.out];exact(decide_eq_true (by omega)).symm)
              go_wp2
              go_meet
              exact⟨by rw[<-G.out];rfl,Below.refl _ _⟩
           case rest=>
            obtain⟨rfl,bc⟩:=hcut;generalize wc=w6 at *;have B6:=B5.trans (bc.mono B5.size);have X6:=X5.below bc;clear bc B5 X5 E6;cases x6
            ·have G:=hid (show false=x by rw[<-HX.out];simp)
             go_wp2;go_ret;exact⟨ret_bool G.out,B6⟩
            ·go_upto_region 14 with fail
             as_aux_lemma=>
              have HX2:=hid (show x7=x by rw[<-HX.out];simp);clear HX;have z0:w6.cell? ⟨w.heap.size,0,none⟩=some (.int .i64 freq):=X6.at_ 0 _ rfl
              have z11:w6.cell? ⟨w.heap.size,11,none⟩=some (.slice a11 n11 c11):=X6.at_ 11 _ rfl
              have z12:w6.cell? ⟨w.heap.size,12,none⟩=some (.slice a12 n12 c12):=X6.at_ 12 _ rfl
              have z13:w6.cell? ⟨w.heap.size,13,none⟩=some (.slice a13 n13 c13):=X6.at_ 13 _ rfl
              by_cases f:4<freq
              ·have t:decide (4<freq)=true:=decide_eq_true f
               have G:=hid (show true=x by rw[<-HX2.out,<-E7.out];exact(decide_eq_true (.inl f)).symm);go_wp2;go_ret;exact⟨ret_bool G.out,B6⟩
              ·have t:decide (4<freq)=false:=decide_eq_false f
               have G:=hid (show decide (((max n11 1:Nat):Int)*((max n12 1:Nat):Int)*((max n13 1:Nat):Int)<=1000)=x by rw[<-HX2.out,<-E7.out];exact decide_eq_decide.2 ⟨.inr,fun g=>g.resolve_left f⟩);clear HX2 E7 f;obtain⟨m1,hm1⟩:∃m:Nat,max n11 1=m:=⟨_,rfl⟩;obtain⟨m2,hm2⟩:∃m:Nat,max n12 1=m:=⟨_,rfl⟩;obtain⟨m3,hm3⟩:∃m:Nat,max n13 1=m:=⟨_,rfl⟩;have G2:=hid (show decide ((m1:Int)*(m2:Int)*(m3:Int)<=1000)=x by rw[<-hm1,<-hm2,<-hm3];exact G.out);have M1:=hid (show (n11<=0/\m1=1)\/(1<=n11/\m1=n11) from by omega);have M2:=hid (show (n12<=0/\m2=1)\/(1<=n12/\m2=n12) from by omega);have M3:=hid (show (n13<=0/\m3=1)\/(1<=n13/\m3=n13) from by omega);clear hm1 hm2 hm3 G H6 H7 H8 H9 H10 H11 H12 H13 H14 l6 l7 l8 l9 l10 l11 l12 l13 l14;go_wp2
               all_goals
                go_ret;have i1:=M1.out;have i2:=M2.out;have i3:=M3.out;refine⟨ret_bool ?_,B6⟩;have g:=G2.out;obtain⟨p1a,p1b⟩:=pair_bd q11 q12;obtain⟨p2a,p2b⟩:=pair_bd q11 q13;obtain⟨p3a,p3b⟩:=pair_bd q12 q13;obtain⟨p4a,p4b⟩:=trip_bd q11 q12 q13;clear M1 M2 M3 G2;have w1:max (n11:Int) 1=(m1:Int):=by omega
                have w2:max (n12:Int) 1=(m2:Int):=by omega
                have w3:max (n13:Int) 1=(m3:Int):=by omega
                have k1:m1<=60:=by omega
                have k2:m2<=60:=by omega
                have k3:m3<=60:=by omega
                obtain⟨p5a,p5b⟩:=pair_bd k1 k2;obtain⟨p6a,p6b⟩:=trip_bd k1 k2 k3
                first
                | (rw[w1,w2,w3,IntWalk.wrap64_in ((m1:Int)*(m2:Int)) (by omega),IntWalk.wrap64_in ((m1:Int)*(m2:Int)*(m3:Int)) (by omega)];exact g)
                |skip
                all_goals (clear w1 w2 w3 k1 k2 k3 p5a p5b p6a p6b)
                all_goals rcases i1 with ⟨j1,rfl⟩|⟨j1,rfl⟩<;>rcases i2 with ⟨j2,rfl⟩|⟨j2,rfl⟩<;>rcases i3 with ⟨j3,rfl⟩|⟨j3,rfl⟩
                all_goals
                 first
                  | (exfalso;omega)
                  | (try simp only [Int.natCast_one,Int.one_mul,Int.mul_one] at g
                     rw[<-g]
                     (repeat first|rw [IntWalk.wrap64_in (1:Int) (by omega)] | rw [Int.one_mul] | rw [IntWalk.wrap64_in ((m1:Int)*(m2:Int)) (by omega)] | rw [IntWalk.wrap64_in ((m1:Int)*(m3:Int)) (by omega)] | rw [IntWalk.wrap64_in ((m2:Int)*(m3:Int)) (by omega)] | rw [IntWalk.wrap64_in ((m1:Int)*(m2:Int)*(m3:Int)) (by omega)] | rw [IntWalk.wrap64_in (m1:Int) (by omega)] | rw [IntWalk.wrap64_in (m2:Int) (by omega)] | rw [IntWalk.wrap64_in (m3:Int) (by omega)])
                     try rfl)
end Go.Proofs.YtddnnljfgfcplaaGreatDoor.Ru
