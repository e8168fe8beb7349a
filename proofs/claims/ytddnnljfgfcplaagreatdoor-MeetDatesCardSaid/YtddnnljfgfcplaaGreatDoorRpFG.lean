/- The walks of package rule's picks, timesOfDay, mayNumbers, mayLists. The walks of package rule's mayTogether and May. -/
import Derived.Test.YtddnnljfgfcplaaGreatDoorRpE
set_option maxRecDepth 100000
set_option maxHeartbeats 4000000
set_option linter.unusedVariables false
namespace Go.Proofs.YtddnnljfgfcplaaGreatDoor.Ru
open Lib (hid)
open Go.RowKit Cv St
theorem mul60 {a b:Nat} (h1:a<=60) (h2:b<=60):0<=(a:Int)*(b:Int)/\(a:Int)*(b:Int)<=3600:=by
 have:a*b<=60*60:=Nat.mul_le_mul h1 h2
 rw[<-Int.natCast_mul];omega
theorem mul603 {a b c:Nat} (h1:a<=60) (h2:b<=60) (h3:c<=60):0<=(a:Int)*(b:Int)*(c:Int)/\(a:Int)*(b:Int)*(c:Int)<=216000:=by
 have:a*b*c<=60*60*60:=Nat.mul_le_mul (Nat.mul_le_mul h1 h2) h3
 rw[<-Int.natCast_mul,<-Int.natCast_mul];omega
def picksB (r:Ru):Bool:=decide (0<r.mon.length+r.week.length+r.yday.length+r.mday.length+r.day.length+r.hour.length+r.minu.length+r.sec.length)
def timesI (r:Ru):Int:=((max r.hour.length 1*max r.minu.length 1*max r.sec.length 1:Nat):Int)
theorem picks_any (w:World) (S:RS) (r:Ru) (x:Bool) (h:RuAt w S r) (hx:picksB r=x):
  Calls Tryz.prog 160 #[S.val r] w fun e w'=>e= .returned (.bool x)/\Below w.heap.size w w':=by
 obtain⟨a6,n6,c6,a7,n7,c7,a8,n8,c8,a9,n9,c9,a10,n10,c10,a11,n11,c11,a12,n12,c12,a13,n13,c13,a14,n14,c14⟩:=S
 obtain⟨freq,itv,cnt,til,wkst,ends,mon,week,yday,mday,day,hour,minu,sec,pos⟩:=r
 obtain⟨h6,h7,h8,h9,h10,h11,h12,h13,h14,l6,l7,l8,l9,l10,l11,l12,l13,l14⟩:=h
 simp only at h6 h7 h8 h9 h10 h11 h12 h13 h14 l6 l7 l8 l9 l10 l11 l12 l13 l14
 have e6:=h6.1;have e7:=h7.1;have e8:=h8.1;have e9:=h9.1;have e10:=h10.1;have e11:=h11.1;have e12:=h12.1;have e13:=h13.1
 have G:=hid (show decide ((0:Int)<(n6:Int)+(n7:Int)+(n8:Int)+(n9:Int)+(n10:Int)+(n11:Int)+(n12:Int)+(n13:Int))=x by
  rw[<-hx];unfold picksB;simp only;rw[<-e6,<-e7,<-e8,<-e9,<-e10,<-e11,<-e12,<-e13]
  by_cases g:0<n6+n7+n8+n9+n10+n11+n12+n13
  ·rw[decide_eq_true g,decide_eq_true (by omega)]
  ·rw[decide_eq_false g,decide_eq_false (by omega)])
 clear hx e6 e7 e8 e9 e10 e11 e12 e13 h6 h7 h8 h9 h10 h11 h12 h13 h14
 show Calls Tryz.prog 160 #[.agg #[.int .i64 freq,.int .i64 itv,.int .i64 cnt,.int .i64 til,.int .i64 wkst,.bool ends,.slice a6 n6 c6,.slice a7 n7 c7,.slice a8 n8 c8,.slice a9 n9 c9,.slice a10 n10 c10,.slice a11 n11 c11,.slice a12 n12 c12,.slice a13 n13 c13,.slice a14 n14 c14]] w _
 go_enter Tryz.func160,Tryz.ntmps160
 go_wp2
 go_ret
 exact⟨ret_bool G.out,alloc_below _ _⟩
theorem times_any (w:World) (S:RS) (r:Ru) (x:Int) (h:RuAt w S r) (h1:r.hour.length<=60) (h2:r.minu.length<=60) (h3:r.sec.length<=60) (hx:timesI r=x):
  Calls Tryz.prog 161 #[S.val r] w fun e w'=>e= .returned (.int .i64 x)/\Below w.heap.size w w':=by
 obtain⟨a6,n6,c6,a7,n7,c7,a8,n8,c8,a9,n9,c9,a10,n10,c10,a11,n11,c11,a12,n12,c12,a13,n13,c13,a14,n14,c14⟩:=S
 obtain⟨freq,itv,cnt,til,wkst,ends,mon,week,yday,mday,day,hour,minu,sec,pos⟩:=r
 obtain⟨h6,h7,h8,h9,h10,h11,h12,h13,h14,l6,l7,l8,l9,l10,l11,l12,l13,l14⟩:=h
 simp only at h6 h7 h8 h9 h10 h11 h12 h13 h14 l6 l7 l8 l9 l10 l11 l12 l13 l14
 simp only at h1 h2 h3
 have e11:=h11.1;have e12:=h12.1;have e13:=h13.1
 obtain⟨m1,hm1⟩:∃m:Nat,max n11 1=m:=⟨_,rfl⟩
 obtain⟨m2,hm2⟩:∃m:Nat,max n12 1=m:=⟨_,rfl⟩
 obtain⟨m3,hm3⟩:∃m:Nat,max n13 1=m:=⟨_,rfl⟩
 have k1:n11<=60:=by omega
 have k2:n12<=60:=by omega
 have k3:n13<=60:=by omega
 have G:=hid (show (m1:Int)*(m2:Int)*(m3:Int)=x by
  rw[<-hx];unfold timesI;simp only;rw[<-e11,<-e12,<-e13,hm1,hm2,hm3,Int.natCast_mul,Int.natCast_mul])
 have M1:=hid (show (n11<=1/\m1=1)\/(1<n11/\m1=n11) from by omega)
 have M2:=hid (show (n12<=1/\m2=1)\/(1<n12/\m2=n12) from by omega)
 have M3:=hid (show (n13<=1/\m3=1)\/(1<n13/\m3=n13) from by omega)
 clear hx e11 e12 e13 h6 h7 h8 h9 h10 h11 h12 h13 h14 hm1 hm2 hm3 h1 h2 h3
 show Calls Tryz.prog 161 #[.agg #[.int .i64 freq,.int .i64 itv,.int .i64 cnt,.int .i64 til,.int .i64 wkst,.bool ends,.slice a6 n6 c6,.slice a7 n7 c7,.slice a8 n8 c8,.slice a9 n9 c9,.slice a10 n10 c10,.slice a11 n11 c11,.slice a12 n12 c12,.slice a13 n13 c13,.slice a14 n14 c14]] w _
 go_enter Tryz.func161,Tryz.ntmps161
 go_wp2
 all_goals
  go_ret;have i1:=M1.out;have i2:=M2.out;have i3:=M3.out;refine⟨ret_int ?_,alloc_below _ _⟩;have g:=G.out;have y1:m1<=60:=by omega
  have y2:m2<=60:=by omega
  have y3:m3<=60:=by omega
  have z1:=mul60 y1 y2;have z2:=mul603 y1 y2 y3;have X1:max (1:Int) (n11:Int)=(m1:Int):=by omega
  have X2:max (1:Int) (n12:Int)=(m2:Int):=by omega
  have X3:max (1:Int) (n13:Int)=(m3:Int):=by omega
  first
   | (rw[X1,X2,X3,IntWalk.wrap64_in ((m1:Int)*(m2:Int)) (by omega),IntWalk.wrap64_in ((m1:Int)*(m2:Int)*(m3:Int)) (by omega)]
      exact g)
   |skip
  all_goals
   clear y1 y2 y3 z1 z2 X1 X2 X3;have p1:=mul60 k1 k2;have p2:=mul60 k1 k3;have p3:=mul60 k2 k3;have p4:=mul603 k1 k2 k3;clear M1 M2 M3 G
   rcases i1 with ⟨j1,rfl⟩|⟨j1,rfl⟩<;>rcases i2 with ⟨j2,rfl⟩|⟨j2,rfl⟩<;>rcases i3 with ⟨j3,rfl⟩|⟨j3,rfl⟩
   all_goals
    first
     | (exfalso;omega)
     | (try simp only [Int.natCast_one,Int.one_mul,Int.mul_one] at g
        rw[<-g]
        (repeat first|rw [IntWalk.wrap64_in (1:Int) (by omega)] | rw [Int.one_mul] | rw [IntWalk.wrap64_in ((m1:Int)*(m2:Int)) (by omega)] | rw [IntWalk.wrap64_in ((m1:Int)*(m3:Int)) (by omega)] | rw [IntWalk.wrap64_in ((m2:Int)*(m3:Int)) (by omega)] | rw [IntWalk.wrap64_in ((m1:Int)*(m2:Int)*(m3:Int)) (by omega)] | rw [IntWalk.wrap64_in (m1:Int) (by omega)] | rw [IntWalk.wrap64_in (m2:Int) (by omega)] | rw [IntWalk.wrap64_in (m3:Int) (by omega)])
        try rfl)
def numsB (r:Ru):Bool:=scalB r&&endB r
theorem numsB_eq (r:Ru):numsB r=(scalB r&&endB r):=rfl
theorem scalB_eq (r:Ru):scalB r=(inI r.freq 1 7&&inI r.itv 1 1000&&inI r.cnt 0 4096&&inI r.wkst 0 6):=by
 unfold scalB inI
 rw[<-Bool.decide_and,<-Bool.decide_and,<-Bool.decide_and]
 exact decide_eq_decide.2 (by constructor<;>intro h<;>omega)
theorem mayNums_any (w:World) (S:RS) (r:Ru) (x:Bool) (hx:numsB r=x):
  Calls Tryz.prog 108 #[S.val r] w fun e w'=>e= .returned (.bool x)/\Below w.heap.size w w':=by
 obtain⟨a6,n6,c6,a7,n7,c7,a8,n8,c8,a9,n9,c9,a10,n10,c10,a11,n11,c11,a12,n12,c12,a13,n13,c13,a14,n14,c14⟩:=S
 obtain⟨freq,itv,cnt,til,wkst,ends,mon,week,yday,mday,day,hour,minu,sec,pos⟩:=r
 rw[numsB_eq,scalB_eq] at hx
 unfold endB at hx
 simp only at hx
 cases ends
 ·rw[if_neg (by decide)] at hx
  by_cases ht:til=0
  ·subst ht
   have E:(inI freq 1 7&&inI itv 1 1000&&inI cnt 0 4096&&inI wkst 0 6)=x:=by rw[<-hx];simp
   clear hx;obtain⟨p1,hp1⟩:∃p,inI freq 1 7=p:=⟨_,rfl⟩;obtain⟨p2,hp2⟩:∃p,inI itv 1 1000=p:=⟨_,rfl⟩;obtain⟨p3,hp3⟩:∃p,inI cnt 0 4096=p:=⟨_,rfl⟩;obtain⟨p4,hp4⟩:∃p,inI wkst 0 6=p:=⟨_,rfl⟩;rw[hp1,hp2,hp3,hp4] at E;have HP1:=hid hp1;have HP2:=hid hp2;have HP3:=hid hp3;have HP4:=hid hp4;clear hp1 hp2 hp3 hp4;cases p1
   ·have G:=hid (show false=x by rw[<-E];rfl)
    clear E
    show Calls Tryz.prog 108 #[.agg #[.int .i64 freq,.int .i64 itv,.int .i64 cnt,.int .i64 0,.int .i64 wkst,.bool false,.slice a6 n6 c6,.slice a7 n7 c7,.slice a8 n8 c8,.slice a9 n9 c9,.slice a10 n10 c10,.slice a11 n11 c11,.slice a12 n12 c12,.slice a13 n13 c13,.slice a14 n14 c14]] w _
    go_enter Tryz.func108,Tryz.ntmps108
    go_wp2_with fail;refine(pin_is freq 1 7 _ _ HP1.out).mono ?_;rintro e w1 ⟨rfl,rfl⟩;go_wp2;go_ret;exact⟨ret_bool G.out,alloc_below _ _⟩
   ·
    cases p2
    ·have G:=hid (show false=x by rw[<-E];rfl)
     clear E
     show Calls Tryz.prog 108 #[.agg #[.int .i64 freq,.int .i64 itv,.int .i64 cnt,.int .i64 0,.int .i64 wkst,.bool false,.slice a6 n6 c6,.slice a7 n7 c7,.slice a8 n8 c8,.slice a9 n9 c9,.slice a10 n10 c10,.slice a11 n11 c11,.slice a12 n12 c12,.slice a13 n13 c13,.slice a14 n14 c14]] w _
     go_enter Tryz.func108,Tryz.ntmps108
     go_wp2_with fail;refine(pin_is freq 1 7 _ _ HP1.out).mono ?_;rintro e w1 ⟨rfl,rfl⟩;go_wp2_with fail;refine(pin_is itv 1 1000 _ _ HP2.out).mono ?_;rintro e w1 ⟨rfl,rfl⟩;go_wp2;go_ret;exact⟨ret_bool G.out,alloc_below _ _⟩
    ·
     cases p3
     ·have G:=hid (show false=x by rw[<-E];rfl)
      clear E
      show Calls Tryz.prog 108 #[.agg #[.int .i64 freq,.int .i64 itv,.int .i64 cnt,.int .i64 0,.int .i64 wkst,.bool false,.slice a6 n6 c6,.slice a7 n7 c7,.slice a8 n8 c8,.slice a9 n9 c9,.slice a10 n10 c10,.slice a11 n11 c11,.slice a12 n12 c12,.slice a13 n13 c13,.slice a14 n14 c14]] w _
      go_enter Tryz.func108,Tryz.ntmps108
      go_wp2_with fail;refine(pin_is freq 1 7 _ _ HP1.out).mono ?_;rintro e w1 ⟨rfl,rfl⟩;go_wp2_with fail;refine(pin_is itv 1 1000 _ _ HP2.out).mono ?_;rintro e w1 ⟨rfl,rfl⟩;go_wp2_with fail;refine(pin_is cnt 0 4096 _ _ HP3.out).mono ?_;rintro e w1 ⟨rfl,rfl⟩;go_wp2;go_ret;exact⟨ret_bool G.out,alloc_below _ _⟩
     ·
      cases p4
      ·have G:=hid (show false=x by rw[<-E];rfl)
       clear E
       show Calls Tryz.prog 108 #[.agg #[.int .i64 freq,.int .i64 itv,.int .i64 cnt,.int .i64 0,.int .i64 wkst,.bool false,.slice a6 n6 c6,.slice a7 n7 c7,.slice a8 n8 c8,.slice a9 n9 c9,.slice a10 n10 c10,.slice a11 n11 c11,.slice a12 n12 c12,.slice a13 n13 c13,.slice a14 n14 c14]] w _
       go_enter Tryz.func108,Tryz.ntmps108
       go_wp2_with fail;refine(pin_is freq 1 7 _ _ HP1.out).mono ?_;rintro e w1 ⟨rfl,rfl⟩;go_wp2_with fail;refine(pin_is itv 1 1000 _ _ HP2.out).mono ?_;rintro e w1 ⟨rfl,rfl⟩;go_wp2_with fail;refine(pin_is cnt 0 4096 _ _ HP3.out).mono ?_;rintro e w1 ⟨rfl,rfl⟩;go_wp2_with fail;refine(pin_is wkst 0 6 _ _ HP4.out).mono ?_;rintro e w1 ⟨rfl,rfl⟩;go_wp2;go_ret;exact⟨ret_bool G.out,alloc_below _ _⟩
      ·have G:=hid (show true=x by rw[<-E];rfl)
       clear E
       show Calls Tryz.prog 108 #[.agg #[.int .i64 freq,.int .i64 itv,.int .i64 cnt,.int .i64 0,.int .i64 wkst,.bool false,.slice a6 n6 c6,.slice a7 n7 c7,.slice a8 n8 c8,.slice a9 n9 c9,.slice a10 n10 c10,.slice a11 n11 c11,.slice a12 n12 c12,.slice a13 n13 c13,.slice a14 n14 c14]] w _
       go_enter Tryz.func108,Tryz.ntmps108
       go_wp2_with fail;refine(pin_is freq 1 7 _ _ HP1.out).mono ?_;rintro e w1 ⟨rfl,rfl⟩;go_wp2_with fail;refine(pin_is itv 1 1000 _ _ HP2.out).mono ?_;rintro e w1 ⟨rfl,rfl⟩;go_wp2_with fail;refine(pin_is cnt 0 4096 _ _ HP3.out).mono ?_;rintro e w1 ⟨rfl,rfl⟩;go_wp2_with fail;refine(pin_is wkst 0 6 _ _ HP4.out).mono ?_;rintro e w1 ⟨rfl,rfl⟩;go_wp2;go_ret;exact⟨ret_bool G.out,alloc_below _ _⟩
  ·have G:=hid (show false=x by rw[<-hx,decide_eq_false ht];simp)
   have t1:((til:Int) != 0)=true:=by rw[bne_iff_ne];exact ht
   clear hx ht
   show Calls Tryz.prog 108 #[.agg #[.int .i64 freq,.int .i64 itv,.int .i64 cnt,.int .i64 til,.int .i64 wkst,.bool false,.slice a6 n6 c6,.slice a7 n7 c7,.slice a8 n8 c8,.slice a9 n9 c9,.slice a10 n10 c10,.slice a11 n11 c11,.slice a12 n12 c12,.slice a13 n13 c13,.slice a14 n14 c14]] w _
   go_enter Tryz.func108,Tryz.ntmps108
   go_wp2;go_ret;exact⟨ret_bool G.out,alloc_below _ _⟩
 ·rw[if_pos rfl] at hx
  by_cases hc:cnt=0
  ·subst hc
   obtain⟨y,hy⟩:∃y,mayT til=y:=⟨_,rfl⟩;have HY:=hid (show St.may til=y from hy);rw[hy] at hx;clear hy;cases y
   ·have G:=hid (show false=x by rw[<-hx];simp)
    clear hx
    show Calls Tryz.prog 108 #[.agg #[.int .i64 freq,.int .i64 itv,.int .i64 0,.int .i64 til,.int .i64 wkst,.bool true,.slice a6 n6 c6,.slice a7 n7 c7,.slice a8 n8 c8,.slice a9 n9 c9,.slice a10 n10 c10,.slice a11 n11 c11,.slice a12 n12 c12,.slice a13 n13 c13,.slice a14 n14 c14]] w _
    go_enter Tryz.func108,Tryz.ntmps108
    go_wp2_with fail;refine(may_no til _ HY.out).mono ?_;rintro e w1 ⟨rfl,rfl⟩;go_wp2;go_ret;exact⟨ret_bool G.out,alloc_below _ _⟩
   ·have E:(inI freq 1 7&&inI itv 1 1000&&inI 0 0 4096&&inI wkst 0 6)=x:=by rw[<-hx];simp
    clear hx;obtain⟨p1,hp1⟩:∃p,inI freq 1 7=p:=⟨_,rfl⟩;obtain⟨p2,hp2⟩:∃p,inI itv 1 1000=p:=⟨_,rfl⟩;obtain⟨p3,hp3⟩:∃p,inI 0 0 4096=p:=⟨_,rfl⟩;obtain⟨p4,hp4⟩:∃p,inI wkst 0 6=p:=⟨_,rfl⟩;rw[hp1,hp2,hp3,hp4] at E;have HP1:=hid hp1;have HP2:=hid hp2;have HP3:=hid hp3;have HP4:=hid hp4;clear hp1 hp2 hp3 hp4;cases p1
    ·have G:=hid (show false=x by rw[<-E];rfl)
     clear E
     show Calls Tryz.prog 108 #[.agg #[.int .i64 freq,.int .i64 itv,.int .i64 0,.int .i64 til,.int .i64 wkst,.bool true,.slice a6 n6 c6,.slice a7 n7 c7,.slice a8 n8 c8,.slice a9 n9 c9,.slice a10 n10 c10,.slice a11 n11 c11,.slice a12 n12 c12,.slice a13 n13 c13,.slice a14 n14 c14]] w _
     go_enter Tryz.func108,Tryz.ntmps108
     go_wp2_with fail;refine(may_yes til _ HY.out).mono ?_;rintro e w1 ⟨rfl,rfl⟩;go_wp2_with fail;refine(pin_is freq 1 7 _ _ HP1.out).mono ?_;rintro e w1 ⟨rfl,rfl⟩;go_wp2;go_ret;exact⟨ret_bool G.out,alloc_below _ _⟩
    ·
     cases p2
     ·have G:=hid (show false=x by rw[<-E];rfl)
      clear E
      show Calls Tryz.prog 108 #[.agg #[.int .i64 freq,.int .i64 itv,.int .i64 0,.int .i64 til,.int .i64 wkst,.bool true,.slice a6 n6 c6,.slice a7 n7 c7,.slice a8 n8 c8,.slice a9 n9 c9,.slice a10 n10 c10,.slice a11 n11 c11,.slice a12 n12 c12,.slice a13 n13 c13,.slice a14 n14 c14]] w _
      go_enter Tryz.func108,Tryz.ntmps108
      go_wp2_with fail;refine(may_yes til _ HY.out).mono ?_;rintro e w1 ⟨rfl,rfl⟩;go_wp2_with fail;refine(pin_is freq 1 7 _ _ HP1.out).mono ?_;rintro e w1 ⟨rfl,rfl⟩;go_wp2_with fail;refine(pin_is itv 1 1000 _ _ HP2.out).mono ?_;rintro e w1 ⟨rfl,rfl⟩;go_wp2;go_ret;exact⟨ret_bool G.out,alloc_below _ _⟩
     ·
      cases p3
      ·have G:=hid (show false=x by rw[<-E];rfl)
       clear E
       show Calls Tryz.prog 108 #[.agg #[.int .i64 freq,.int .i64 itv,.int .i64 0,.int .i64 til,.int .i64 wkst,.bool true,.slice a6 n6 c6,.slice a7 n7 c7,.slice a8 n8 c8,.slice a9 n9 c9,.slice a10 n10 c10,.slice a11 n11 c11,.slice a12 n12 c12,.slice a13 n13 c13,.slice a14 n14 c14]] w _
       go_enter Tryz.func108,Tryz.ntmps108
       go_wp2_with fail;refine(may_yes til _ HY.out).mono ?_;rintro e w1 ⟨rfl,rfl⟩;go_wp2_with fail;refine(pin_is freq 1 7 _ _ HP1.out).mono ?_;rintro e w1 ⟨rfl,rfl⟩;go_wp2_with fail;refine(pin_is itv 1 1000 _ _ HP2.out).mono ?_;rintro e w1 ⟨rfl,rfl⟩;go_wp2_with fail;refine(pin_is 0 0 4096 _ _ HP3.out).mono ?_;rintro e w1 ⟨rfl,rfl⟩;go_wp2;go_ret;exact⟨ret_bool G.out,alloc_below _ _⟩
      ·
       cases p4
       ·have G:=hid (show false=x by rw[<-E];rfl)
        clear E
        show Calls Tryz.prog 108 #[.agg #[.int .i64 freq,.int .i64 itv,.int .i64 0,.int .i64 til,.int .i64 wkst,.bool true,.slice a6 n6 c6,.slice a7 n7 c7,.slice a8 n8 c8,.slice a9 n9 c9,.slice a10 n10 c10,.slice a11 n11 c11,.slice a12 n12 c12,.slice a13 n13 c13,.slice a14 n14 c14]] w _
        go_enter Tryz.func108,Tryz.ntmps108
        go_wp2_with fail;refine(may_yes til _ HY.out).mono ?_;rintro e w1 ⟨rfl,rfl⟩;go_wp2_with fail;refine(pin_is freq 1 7 _ _ HP1.out).mono ?_;rintro e w1 ⟨rfl,rfl⟩;go_wp2_with fail;refine(pin_is itv 1 1000 _ _ HP2.out).mono ?_;rintro e w1 ⟨rfl,rfl⟩;go_wp2_with fail;refine(pin_is 0 0 4096 _ _ HP3.out).mono ?_;rintro e w1 ⟨rfl,rfl⟩;go_wp2_with fail;refine(pin_is wkst 0 6 _ _ HP4.out).mono ?_;rintro e w1 ⟨rfl,rfl⟩;go_wp2;go_ret;exact⟨ret_bool G.out,alloc_below _ _⟩
       ·have G:=hid (show true=x by rw[<-E];rfl)
        clear E
        show Calls Tryz.prog 108 #[.agg #[.int .i64 freq,.int .i64 itv,.int .i64 0,.int .i64 til,.int .i64 wkst,.bool true,.slice a6 n6 c6,.slice a7 n7 c7,.slice a8 n8 c8,.slice a9 n9 c9,.slice a10 n10 c10,.slice a11 n11 c11,.slice a12 n12 c12,.slice a13 n13 c13,.slice a14 n14 c14]] w _
        go_enter Tryz.func108,Tryz.ntmps108
        go_wp2_with fail;refine(may_yes til _ HY.out).mono ?_;rintro e w1 ⟨rfl,rfl⟩;go_wp2_with fail;refine(pin_is freq 1 7 _ _ HP1.out).mono ?_;rintro e w1 ⟨rfl,rfl⟩;go_wp2_with fail;refine(pin_is itv 1 1000 _ _ HP2.out).mono ?_;rintro e w1 ⟨rfl,rfl⟩;go_wp2_with fail;refine(pin_is 0 0 4096 _ _ HP3.out).mono ?_;rintro e w1 ⟨rfl,rfl⟩;go_wp2_with fail;refine(pin_is wkst 0 6 _ _ HP4.out).mono ?_;rintro e w1 ⟨rfl,rfl⟩;go_wp2;go_ret;exact⟨ret_bool G.out,alloc_below _ _⟩
  ·have G:=hid (show false=x by
    rw[<-hx]
    by_cases g:0<cnt
    ·rw[decide_eq_false (show ¬cnt<=0 by omega)];simp
    ·rw[inI_no (n:=cnt) (lo:=0) (hi:=4096) (by omega)];simp)
   have t1:((cnt:Int) != 0)=true:=by rw[bne_iff_ne];exact hc
   clear hx hc
   show Calls Tryz.prog 108 #[.agg #[.int .i64 freq,.int .i64 itv,.int .i64 cnt,.int .i64 til,.int .i64 wkst,.bool true,.slice a6 n6 c6,.slice a7 n7 c7,.slice a8 n8 c8,.slice a9 n9 c9,.slice a10 n10 c10,.slice a11 n11 c11,.slice a12 n12 c12,.slice a13 n13 c13,.slice a14 n14 c14]] w _
   go_enter Tryz.func108,Tryz.ntmps108
   go_wp2;go_ret;exact⟨ret_bool G.out,alloc_below _ _⟩
theorem listB_eq (r:Ru):listB r=(inB r.mon 1 12 true&&inB r.week (-53) 53 false&&inB r.yday (-366) 366 false&&inB r.mday (-31) 31 false&&dayB r.day&&inB r.hour 0 23 true&&inB r.minu 0 59 true&&inB r.sec 0 59 true&&inB r.pos (-366) 366 false):=by
 unfold listB
 cases inB r.mon 1 12 true<;>cases inB r.week (-53) 53 false<;>cases inB r.yday (-366) 366 false<;>cases inB r.mday (-31) 31 false<;>cases dayB r.day<;>cases inB r.pos (-366) 366 false<;>simp
theorem mayLists_any (w:World) (S:RS) (r:Ru) (x:Bool) (h:RuAt w S r) (hx:listB r=x):
  Calls Tryz.prog 109 #[S.val r] w fun e w'=>e= .returned (.bool x)/\Below w.heap.size w w':=by
 obtain⟨a6,n6,c6,a7,n7,c7,a8,n8,c8,a9,n9,c9,a10,n10,c10,a11,n11,c11,a12,n12,c12,a13,n13,c13,a14,n14,c14⟩:=S
 obtain⟨freq,itv,cnt,til,wkst,ends,mon,week,yday,mday,day,hour,minu,sec,pos⟩:=r
 obtain⟨h6,h7,h8,h9,h10,h11,h12,h13,h14,l6,l7,l8,l9,l10,l11,l12,l13,l14⟩:=h
 simp only at h6 h7 h8 h9 h10 h11 h12 h13 h14 l6 l7 l8 l9 l10 l11 l12 l13 l14
 rw[listB_eq] at hx
 simp only at hx
 obtain⟨p0,hp0⟩:∃p,inB mon 1 12 true=p:=⟨_,rfl⟩
 obtain⟨p1,hp1⟩:∃p,inB week (-53) 53 false=p:=⟨_,rfl⟩
 obtain⟨p2,hp2⟩:∃p,inB yday (-366) 366 false=p:=⟨_,rfl⟩
 obtain⟨p3,hp3⟩:∃p,inB mday (-31) 31 false=p:=⟨_,rfl⟩
 obtain⟨p4,hp4⟩:∃p,dayB day=p:=⟨_,rfl⟩
 obtain⟨p5,hp5⟩:∃p,inB hour 0 23 true=p:=⟨_,rfl⟩
 obtain⟨p6,hp6⟩:∃p,inB minu 0 59 true=p:=⟨_,rfl⟩
 obtain⟨p7,hp7⟩:∃p,inB sec 0 59 true=p:=⟨_,rfl⟩
 obtain⟨p8,hp8⟩:∃p,inB pos (-366) 366 false=p:=⟨_,rfl⟩
 rw[hp0,hp1,hp2,hp3,hp4,hp5,hp6,hp7,hp8] at hx
 have HP0:=hid hp0
 have HP1:=hid hp1
 have HP2:=hid hp2
 have HP3:=hid hp3
 have HP4:=hid hp4
 have HP5:=hid hp5
 have HP6:=hid hp6
 have HP7:=hid hp7
 have HP8:=hid hp8
 clear hp0 hp1 hp2 hp3 hp4 hp5 hp6 hp7 hp8
 have H6:=hid (h6.below (alloc_below w (.cells #[.int .i64 freq,.int .i64 itv,.int .i64 cnt,.int .i64 til,.int .i64 wkst,.bool ends,.slice a6 n6 c6,.slice a7 n7 c7,.slice a8 n8 c8,.slice a9 n9 c9,.slice a10 n10 c10,.slice a11 n11 c11,.slice a12 n12 c12,.slice a13 n13 c13,.slice a14 n14 c14] 25)))
 have H7:=hid (h7.below (alloc_below w (.cells #[.int .i64 freq,.int .i64 itv,.int .i64 cnt,.int .i64 til,.int .i64 wkst,.bool ends,.slice a6 n6 c6,.slice a7 n7 c7,.slice a8 n8 c8,.slice a9 n9 c9,.slice a10 n10 c10,.slice a11 n11 c11,.slice a12 n12 c12,.slice a13 n13 c13,.slice a14 n14 c14] 25)))
 have H8:=hid (h8.below (alloc_below w (.cells #[.int .i64 freq,.int .i64 itv,.int .i64 cnt,.int .i64 til,.int .i64 wkst,.bool ends,.slice a6 n6 c6,.slice a7 n7 c7,.slice a8 n8 c8,.slice a9 n9 c9,.slice a10 n10 c10,.slice a11 n11 c11,.slice a12 n12 c12,.slice a13 n13 c13,.slice a14 n14 c14] 25)))
 have H9:=hid (h9.below (alloc_below w (.cells #[.int .i64 freq,.int .i64 itv,.int .i64 cnt,.int .i64 til,.int .i64 wkst,.bool ends,.slice a6 n6 c6,.slice a7 n7 c7,.slice a8 n8 c8,.slice a9 n9 c9,.slice a10 n10 c10,.slice a11 n11 c11,.slice a12 n12 c12,.slice a13 n13 c13,.slice a14 n14 c14] 25)))
 have H10:=hid (h10.below (alloc_below w (.cells #[.int .i64 freq,.int .i64 itv,.int .i64 cnt,.int .i64 til,.int .i64 wkst,.bool ends,.slice a6 n6 c6,.slice a7 n7 c7,.slice a8 n8 c8,.slice a9 n9 c9,.slice a10 n10 c10,.slice a11 n11 c11,.slice a12 n12 c12,.slice a13 n13 c13,.slice a14 n14 c14] 25)))
 have H11:=hid (h11.below (alloc_below w (.cells #[.int .i64 freq,.int .i64 itv,.int .i64 cnt,.int .i64 til,.int .i64 wkst,.bool ends,.slice a6 n6 c6,.slice a7 n7 c7,.slice a8 n8 c8,.slice a9 n9 c9,.slice a10 n10 c10,.slice a11 n11 c11,.slice a12 n12 c12,.slice a13 n13 c13,.slice a14 n14 c14] 25)))
 have H12:=hid (h12.below (alloc_below w (.cells #[.int .i64 freq,.int .i64 itv,.int .i64 cnt,.int .i64 til,.int .i64 wkst,.bool ends,.slice a6 n6 c6,.slice a7 n7 c7,.slice a8 n8 c8,.slice a9 n9 c9,.slice a10 n10 c10,.slice a11 n11 c11,.slice a12 n12 c12,.slice a13 n13 c13,.slice a14 n14 c14] 25)))
 have H13:=hid (h13.below (alloc_below w (.cells #[.int .i64 freq,.int .i64 itv,.int .i64 cnt,.int .i64 til,.int .i64 wkst,.bool ends,.slice a6 n6 c6,.slice a7 n7 c7,.slice a8 n8 c8,.slice a9 n9 c9,.slice a10 n10 c10,.slice a11 n11 c11,.slice a12 n12 c12,.slice a13 n13 c13,.slice a14 n14 c14] 25)))
 have H14:=hid (h14.below (alloc_below w (.cells #[.int .i64 freq,.int .i64 itv,.int .i64 cnt,.int .i64 til,.int .i64 wkst,.bool ends,.slice a6 n6 c6,.slice a7 n7 c7,.slice a8 n8 c8,.slice a9 n9 c9,.slice a10 n10 c10,.slice a11 n11 c11,.slice a12 n12 c12,.slice a13 n13 c13,.slice a14 n14 c14] 25)))
 clear h6 h7 h8 h9 h10 h11 h12 h13 h14
 cases p0
 ·have G:=hid (show false=x by rw[<-hx];rfl)
  clear hx
  show Calls Tryz.prog 109 #[.agg #[.int .i64 freq,.int .i64 itv,.int .i64 cnt,.int .i64 til,.int .i64 wkst,.bool ends,.slice a6 n6 c6,.slice a7 n7 c7,.slice a8 n8 c8,.slice a9 n9 c9,.slice a10 n10 c10,.slice a11 n11 c11,.slice a12 n12 c12,.slice a13 n13 c13,.slice a14 n14 c14]] w _
  go_enter Tryz.func109,Tryz.ntmps109
  go_wp2_with fail;refine(mayList_is _ a6 n6 c6 mon 1 12 _ H6.out (by omega) HP0.out).mono ?_;rintro e w1 ⟨rfl,rfl⟩;go_wp2;go_ret;exact⟨ret_bool G.out,alloc_below _ _⟩
 ·
  cases p1
  ·have G:=hid (show false=x by rw[<-hx];rfl)
   clear hx
   show Calls Tryz.prog 109 #[.agg #[.int .i64 freq,.int .i64 itv,.int .i64 cnt,.int .i64 til,.int .i64 wkst,.bool ends,.slice a6 n6 c6,.slice a7 n7 c7,.slice a8 n8 c8,.slice a9 n9 c9,.slice a10 n10 c10,.slice a11 n11 c11,.slice a12 n12 c12,.slice a13 n13 c13,.slice a14 n14 c14]] w _
   go_enter Tryz.func109,Tryz.ntmps109
   go_wp2_with fail;refine(mayList_is _ a6 n6 c6 mon 1 12 _ H6.out (by omega) HP0.out).mono ?_;rintro e w1 ⟨rfl,rfl⟩;go_wp2_with fail;refine(mayPlaces_is _ a7 n7 c7 week 53 (-53) _ H7.out (by omega) (by omega) (by omega) (by omega) HP1.out).mono ?_;rintro e w1 ⟨rfl,rfl⟩;go_wp2;go_ret;exact⟨ret_bool G.out,alloc_below _ _⟩
  ·
   cases p2
   ·have G:=hid (show false=x by rw[<-hx];rfl)
    clear hx
    show Calls Tryz.prog 109 #[.agg #[.int .i64 freq,.int .i64 itv,.int .i64 cnt,.int .i64 til,.int .i64 wkst,.bool ends,.slice a6 n6 c6,.slice a7 n7 c7,.slice a8 n8 c8,.slice a9 n9 c9,.slice a10 n10 c10,.slice a11 n11 c11,.slice a12 n12 c12,.slice a13 n13 c13,.slice a14 n14 c14]] w _
    go_enter Tryz.func109,Tryz.ntmps109
    go_wp2_with fail;refine(mayList_is _ a6 n6 c6 mon 1 12 _ H6.out (by omega) HP0.out).mono ?_;rintro e w1 ⟨rfl,rfl⟩;go_wp2_with fail;refine(mayPlaces_is _ a7 n7 c7 week 53 (-53) _ H7.out (by omega) (by omega) (by omega) (by omega) HP1.out).mono ?_;rintro e w1 ⟨rfl,rfl⟩;go_wp2_with fail;refine(mayPlaces_is _ a8 n8 c8 yday 366 (-366) _ H8.out (by omega) (by omega) (by omega) (by omega) HP2.out).mono ?_;rintro e w1 ⟨rfl,rfl⟩;go_wp2;go_ret;exact⟨ret_bool G.out,alloc_below _ _⟩
   ·
    cases p3
    ·have G:=hid (show false=x by rw[<-hx];rfl)
     clear hx
     show Calls Tryz.prog 109 #[.agg #[.int .i64 freq,.int .i64 itv,.int .i64 cnt,.int .i64 til,.int .i64 wkst,.bool ends,.slice a6 n6 c6,.slice a7 n7 c7,.slice a8 n8 c8,.slice a9 n9 c9,.slice a10 n10 c10,.slice a11 n11 c11,.slice a12 n12 c12,.slice a13 n13 c13,.slice a14 n14 c14]] w _
     go_enter Tryz.func109,Tryz.ntmps109
     go_wp2_with fail;refine(mayList_is _ a6 n6 c6 mon 1 12 _ H6.out (by omega) HP0.out).mono ?_;rintro e w1 ⟨rfl,rfl⟩;go_wp2_with fail;refine(mayPlaces_is _ a7 n7 c7 week 53 (-53) _ H7.out (by omega) (by omega) (by omega) (by omega) HP1.out).mono ?_;rintro e w1 ⟨rfl,rfl⟩;go_wp2_with fail;refine(mayPlaces_is _ a8 n8 c8 yday 366 (-366) _ H8.out (by omega) (by omega) (by omega) (by omega) HP2.out).mono ?_;rintro e w1 ⟨rfl,rfl⟩;go_wp2_with fail;refine(mayPlaces_is _ a9 n9 c9 mday 31 (-31) _ H9.out (by omega) (by omega) (by omega) (by omega) HP3.out).mono ?_;rintro e w1 ⟨rfl,rfl⟩;go_wp2;go_ret;exact⟨ret_bool G.out,alloc_below _ _⟩
    ·
     cases p4
     ·have G:=hid (show false=x by rw[<-hx];rfl)
      clear hx
      show Calls Tryz.prog 109 #[.agg #[.int .i64 freq,.int .i64 itv,.int .i64 cnt,.int .i64 til,.int .i64 wkst,.bool ends,.slice a6 n6 c6,.slice a7 n7 c7,.slice a8 n8 c8,.slice a9 n9 c9,.slice a10 n10 c10,.slice a11 n11 c11,.slice a12 n12 c12,.slice a13 n13 c13,.slice a14 n14 c14]] w _
      go_enter Tryz.func109,Tryz.ntmps109
      go_wp2_with fail;refine(mayList_is _ a6 n6 c6 mon 1 12 _ H6.out (by omega) HP0.out).mono ?_;rintro e w1 ⟨rfl,rfl⟩;go_wp2_with fail;refine(mayPlaces_is _ a7 n7 c7 week 53 (-53) _ H7.out (by omega) (by omega) (by omega) (by omega) HP1.out).mono ?_;rintro e w1 ⟨rfl,rfl⟩;go_wp2_with fail;refine(mayPlaces_is _ a8 n8 c8 yday 366 (-366) _ H8.out (by omega) (by omega) (by omega) (by omega) HP2.out).mono ?_;rintro e w1 ⟨rfl,rfl⟩;go_wp2_with fail;refine(mayPlaces_is _ a9 n9 c9 mday 31 (-31) _ H9.out (by omega) (by omega) (by omega) (by omega) HP3.out).mono ?_;rintro e w1 ⟨rfl,rfl⟩;go_wp2_with fail;refine(mayDays_is _ a10 n10 c10 day _ H10.out (by omega) HP4.out).mono ?_;rintro e w5 ⟨rfl,b5⟩;have bx:=(Box.new w _ _).below b5;have z11:=bx.at_ 11 _ rfl;have z12:=bx.at_ 12 _ rfl;have z13:=bx.at_ 13 _ rfl;have z14:=bx.at_ 14 _ rfl;have b6:=(alloc_below w _).trans (b5.mono (by simp));clear bx;go_wp2;go_ret;exact⟨ret_bool G.out,b6⟩
     ·
      cases p5
      ·have G:=hid (show false=x by rw[<-hx];rfl)
       clear hx
       show Calls Tryz.prog 109 #[.agg #[.int .i64 freq,.int .i64 itv,.int .i64 cnt,.int .i64 til,.int .i64 wkst,.bool ends,.slice a6 n6 c6,.slice a7 n7 c7,.slice a8 n8 c8,.slice a9 n9 c9,.slice a10 n10 c10,.slice a11 n11 c11,.slice a12 n12 c12,.slice a13 n13 c13,.slice a14 n14 c14]] w _
       go_enter Tryz.func109,Tryz.ntmps109
       go_wp2_with fail;refine(mayList_is _ a6 n6 c6 mon 1 12 _ H6.out (by omega) HP0.out).mono ?_;rintro e w1 ⟨rfl,rfl⟩;go_wp2_with fail;refine(mayPlaces_is _ a7 n7 c7 week 53 (-53) _ H7.out (by omega) (by omega) (by omega) (by omega) HP1.out).mono ?_;rintro e w1 ⟨rfl,rfl⟩;go_wp2_with fail;refine(mayPlaces_is _ a8 n8 c8 yday 366 (-366) _ H8.out (by omega) (by omega) (by omega) (by omega) HP2.out).mono ?_;rintro e w1 ⟨rfl,rfl⟩;go_wp2_with fail;refine(mayPlaces_is _ a9 n9 c9 mday 31 (-31) _ H9.out (by omega) (by omega) (by omega) (by omega) HP3.out).mono ?_;rintro e w1 ⟨rfl,rfl⟩;go_wp2_with fail;refine(mayDays_is _ a10 n10 c10 day _ H10.out (by omega) HP4.out).mono ?_;rintro e w5 ⟨rfl,b5⟩;have bx:=(Box.new w _ _).below b5;have z11:=bx.at_ 11 _ rfl;have z12:=bx.at_ 12 _ rfl;have z13:=bx.at_ 13 _ rfl;have z14:=bx.at_ 14 _ rfl;have b6:=(alloc_below w _).trans (b5.mono (by simp));clear bx;go_wp2_with fail;refine(mayList_is _ a11 n11 c11 hour 0 23 _ (H11.out.below b5) (by omega) HP5.out).mono ?_;rintro e w1 ⟨rfl,rfl⟩;go_wp2;go_ret;exact⟨ret_bool G.out,b6⟩
      ·
       cases p6
       ·have G:=hid (show false=x by rw[<-hx];rfl)
        clear hx
        show Calls Tryz.prog 109 #[.agg #[.int .i64 freq,.int .i64 itv,.int .i64 cnt,.int .i64 til,.int .i64 wkst,.bool ends,.slice a6 n6 c6,.slice a7 n7 c7,.slice a8 n8 c8,.slice a9 n9 c9,.slice a10 n10 c10,.slice a11 n11 c11,.slice a12 n12 c12,.slice a13 n13 c13,.slice a14 n14 c14]] w _
        go_enter Tryz.func109,Tryz.ntmps109
        go_wp2_with fail;refine(mayList_is _ a6 n6 c6 mon 1 12 _ H6.out (by omega) HP0.out).mono ?_;rintro e w1 ⟨rfl,rfl⟩;go_wp2_with fail;refine(mayPlaces_is _ a7 n7 c7 week 53 (-53) _ H7.out (by omega) (by omega) (by omega) (by omega) HP1.out).mono ?_;rintro e w1 ⟨rfl,rfl⟩;go_wp2_with fail;refine(mayPlaces_is _ a8 n8 c8 yday 366 (-366) _ H8.out (by omega) (by omega) (by omega) (by omega) HP2.out).mono ?_;rintro e w1 ⟨rfl,rfl⟩;go_wp2_with fail;refine(mayPlaces_is _ a9 n9 c9 mday 31 (-31) _ H9.out (by omega) (by omega) (by omega) (by omega) HP3.out).mono ?_;rintro e w1 ⟨rfl,rfl⟩;go_wp2_with fail;refine(mayDays_is _ a10 n10 c10 day _ H10.out (by omega) HP4.out).mono ?_;rintro e w5 ⟨rfl,b5⟩;have bx:=(Box.new w _ _).below b5;have z11:=bx.at_ 11 _ rfl;have z12:=bx.at_ 12 _ rfl;have z13:=bx.at_ 13 _ rfl;have z14:=bx.at_ 14 _ rfl;have b6:=(alloc_below w _).trans (b5.mono (by simp));clear bx;go_wp2_with fail;refine(mayList_is _ a11 n11 c11 hour 0 23 _ (H11.out.below b5) (by omega) HP5.out).mono ?_;rintro e w1 ⟨rfl,rfl⟩;go_wp2_with fail;refine(mayList_is _ a12 n12 c12 minu 0 59 _ (H12.out.below b5) (by omega) HP6.out).mono ?_;rintro e w1 ⟨rfl,rfl⟩;go_wp2;go_ret;exact⟨ret_bool G.out,b6⟩
       ·
        cases p7
        ·have G:=hid (show false=x by rw[<-hx];rfl)
         clear hx
         show Calls Tryz.prog 109 #[.agg #[.int .i64 freq,.int .i64 itv,.int .i64 cnt,.int .i64 til,.int .i64 wkst,.bool ends,.slice a6 n6 c6,.slice a7 n7 c7,.slice a8 n8 c8,.slice a9 n9 c9,.slice a10 n10 c10,.slice a11 n11 c11,.slice a12 n12 c12,.slice a13 n13 c13,.slice a14 n14 c14]] w _
         go_enter Tryz.func109,Tryz.ntmps109
         go_wp2_with fail;refine(mayList_is _ a6 n6 c6 mon 1 12 _ H6.out (by omega) HP0.out).mono ?_;rintro e w1 ⟨rfl,rfl⟩;go_wp2_with fail;refine(mayPlaces_is _ a7 n7 c7 week 53 (-53) _ H7.out (by omega) (by omega) (by omega) (by omega) HP1.out).mono ?_;rintro e w1 ⟨rfl,rfl⟩;go_wp2_with fail;refine(mayPlaces_is _ a8 n8 c8 yday 366 (-366) _ H8.out (by omega) (by omega) (by omega) (by omega) HP2.out).mono ?_;rintro e w1 ⟨rfl,rfl⟩;go_wp2_with fail;refine(mayPlaces_is _ a9 n9 c9 mday 31 (-31) _ H9.out (by omega) (by omega) (by omega) (by omega) HP3.out).mono ?_;rintro e w1 ⟨rfl,rfl⟩;go_wp2_with fail;refine(mayDays_is _ a10 n10 c10 day _ H10.out (by omega) HP4.out).mono ?_;rintro e w5 ⟨rfl,b5⟩;have bx:=(Box.new w _ _).below b5;have z11:=bx.at_ 11 _ rfl;have z12:=bx.at_ 12 _ rfl;have z13:=bx.at_ 13 _ rfl;have z14:=bx.at_ 14 _ rfl;have b6:=(alloc_below w _).trans (b5.mono (by simp));clear bx;go_wp2_with fail;refine(mayList_is _ a11 n11 c11 hour 0 23 _ (H11.out.below b5) (by omega) HP5.out).mono ?_;rintro e w1 ⟨rfl,rfl⟩;go_wp2_with fail;refine(mayList_is _ a12 n12 c12 minu 0 59 _ (H12.out.below b5) (by omega) HP6.out).mono ?_;rintro e w1 ⟨rfl,rfl⟩;go_wp2_with fail;refine(mayList_is _ a13 n13 c13 sec 0 59 _ (H13.out.below b5) (by omega) HP7.out).mono ?_;rintro e w1 ⟨rfl,rfl⟩;go_wp2;go_ret;exact⟨ret_bool G.out,b6⟩
        ·
         cases p8
         ·have G:=hid (show false=x by rw[<-hx];rfl)
          clear hx
          show Calls Tryz.prog 109 #[.agg #[.int .i64 freq,.int .i64 itv,.int .i64 cnt,.int .i64 til,.int .i64 wkst,.bool ends,.slice a6 n6 c6,.slice a7 n7 c7,.slice a8 n8 c8,.slice a9 n9 c9,.slice a10 n10 c10,.slice a11 n11 c11,.slice a12 n12 c12,.slice a13 n13 c13,.slice a14 n14 c14]] w _
          go_enter Tryz.func109,Tryz.ntmps109
          go_wp2_with fail;refine(mayList_is _ a6 n6 c6 mon 1 12 _ H6.out (by omega) HP0.out).mono ?_;rintro e w1 ⟨rfl,rfl⟩;go_wp2_with fail;refine(mayPlaces_is _ a7 n7 c7 week 53 (-53) _ H7.out (by omega) (by omega) (by omega) (by omega) HP1.out).mono ?_;rintro e w1 ⟨rfl,rfl⟩;go_wp2_with fail;refine(mayPlaces_is _ a8 n8 c8 yday 366 (-366) _ H8.out (by omega) (by omega) (by omega) (by omega) HP2.out).mono ?_;rintro e w1 ⟨rfl,rfl⟩;go_wp2_with fail;refine(mayPlaces_is _ a9 n9 c9 mday 31 (-31) _ H9.out (by omega) (by omega) (by omega) (by omega) HP3.out).mono ?_;rintro e w1 ⟨rfl,rfl⟩;go_wp2_with fail;refine(mayDays_is _ a10 n10 c10 day _ H10.out (by omega) HP4.out).mono ?_;rintro e w5 ⟨rfl,b5⟩;have bx:=(Box.new w _ _).below b5;have z11:=bx.at_ 11 _ rfl;have z12:=bx.at_ 12 _ rfl;have z13:=bx.at_ 13 _ rfl;have z14:=bx.at_ 14 _ rfl;have b6:=(alloc_below w _).trans (b5.mono (by simp));clear bx;go_wp2_with fail;refine(mayList_is _ a11 n11 c11 hour 0 23 _ (H11.out.below b5) (by omega) HP5.out).mono ?_;rintro e w1 ⟨rfl,rfl⟩;go_wp2_with fail;refine(mayList_is _ a12 n12 c12 minu 0 59 _ (H12.out.below b5) (by omega) HP6.out).mono ?_;rintro e w1 ⟨rfl,rfl⟩;go_wp2_with fail;refine(mayList_is _ a13 n13 c13 sec 0 59 _ (H13.out.below b5) (by omega) HP7.out).mono ?_;rintro e w1 ⟨rfl,rfl⟩;go_wp2_with fail;refine(mayPlaces_is _ a14 n14 c14 pos 366 (-366) _ (H14.out.below b5) (by omega) (by omega) (by omega) (by omega) HP8.out).mono ?_;rintro e w1 ⟨rfl,rfl⟩;go_wp2;go_ret;exact⟨ret_bool G.out,b6⟩
         ·have G:=hid (show true=x by rw[<-hx];rfl)
          clear hx
          show Calls Tryz.prog 109 #[.agg #[.int .i64 freq,.int .i64 itv,.int .i64 cnt,.int .i64 til,.int .i64 wkst,.bool ends,.slice a6 n6 c6,.slice a7 n7 c7,.slice a8 n8 c8,.slice a9 n9 c9,.slice a10 n10 c10,.slice a11 n11 c11,.slice a12 n12 c12,.slice a13 n13 c13,.slice a14 n14 c14]] w _
          go_enter Tryz.func109,Tryz.ntmps109
          go_wp2_with fail;refine(mayList_is _ a6 n6 c6 mon 1 12 _ H6.out (by omega) HP0.out).mono ?_;rintro e w1 ⟨rfl,rfl⟩;go_wp2_with fail;refine(mayPlaces_is _ a7 n7 c7 week 53 (-53) _ H7.out (by omega) (by omega) (by omega) (by omega) HP1.out).mono ?_;rintro e w1 ⟨rfl,rfl⟩;go_wp2_with fail;refine(mayPlaces_is _ a8 n8 c8 yday 366 (-366) _ H8.out (by omega) (by omega) (by omega) (by omega) HP2.out).mono ?_;rintro e w1 ⟨rfl,rfl⟩;go_wp2_with fail;refine(mayPlaces_is _ a9 n9 c9 mday 31 (-31) _ H9.out (by omega) (by omega) (by omega) (by omega) HP3.out).mono ?_;rintro e w1 ⟨rfl,rfl⟩;go_wp2_with fail;refine(mayDays_is _ a10 n10 c10 day _ H10.out (by omega) HP4.out).mono ?_;rintro e w5 ⟨rfl,b5⟩;have bx:=(Box.new w _ _).below b5;have z11:=bx.at_ 11 _ rfl;have z12:=bx.at_ 12 _ rfl;have z13:=bx.at_ 13 _ rfl;have z14:=bx.at_ 14 _ rfl;have b6:=(alloc_below w _).trans (b5.mono (by simp));clear bx;go_wp2_with fail;refine(mayList_is _ a11 n11 c11 hour 0 23 _ (H11.out.below b5) (by omega) HP5.out).mono ?_;rintro e w1 ⟨rfl,rfl⟩;go_wp2_with fail;refine(mayList_is _ a12 n12 c12 minu 0 59 _ (H12.out.below b5) (by omega) HP6.out).mono ?_;rintro e w1 ⟨rfl,rfl⟩;go_wp2_with fail;refine(mayList_is _ a13 n13 c13 sec 0 59 _ (H13.out.below b5) (by omega) HP7.out).mono ?_;rintro e w1 ⟨rfl,rfl⟩;go_wp2_with fail;refine(mayPlaces_is _ a14 n14 c14 pos 366 (-366) _ (H14.out.below b5) (by omega) (by omega) (by omega) (by omega) HP8.out).mono ?_;rintro e w1 ⟨rfl,rfl⟩;go_wp2;go_ret;exact⟨ret_bool G.out,b6⟩
end Go.Proofs.YtddnnljfgfcplaaGreatDoor.Ru
namespace Go.Proofs.YtddnnljfgfcplaaGreatDoor.Ru
open Lib (hid)
open Go.RowKit Cv St
def tB1 (freq:Int) (n7:Nat):Bool:=decide (0<n7/\freq≠1)
def tB2 (freq:Int) (n8:Nat):Bool:=decide (0<n8/\2<=freq/\freq<=4)
def tB3 (freq:Int) (n9:Nat):Bool:=decide (0<n9/\freq=3)
def tB4 (freq:Int) (n7:Nat):Bool:=decide (freq=2\/(freq=1/\n7=0))
def togB (r:Ru):Bool:=besideB r&&nthB r&&posB r&&oftenB r
theorem togB_eq (r:Ru):togB r=(!tB1 r.freq r.week.length && !tB2 r.freq r.yday.length && !tB3 r.freq r.mday.length && !(!tB4 r.freq r.week.length&&numbB r.day) && !(decide (0<r.pos.length) && !picksB r)&&(decide (4<r.freq)||decide (timesI r<=1000))):=by
 have e1:besideB r=(!tB1 r.freq r.week.length && !tB2 r.freq r.yday.length && !tB3 r.freq r.mday.length):=by
  unfold besideB tB1 tB2 tB3;rw[<-decide_not,<-decide_not,<-decide_not,<-Bool.decide_and,<-Bool.decide_and];exact decide_eq_decide.2 (by constructor<;>intro h<;>omega)
 have e2:nthB r = !(!tB4 r.freq r.week.length&&numbB r.day):=by
  unfold nthB tB4;cases numbB r.day
  ·simp
  ·rw[Bool.and_true,Bool.not_not]
   exact decide_eq_decide.2 (by constructor<;>intro h<;>simp only[true_and] at *<;>omega)
 have e3:posB r = !(decide (0<r.pos.length) && !picksB r):=by
  unfold posB picksB
  by_cases g1:0<r.pos.length
  ·by_cases g2:0<r.mon.length+r.week.length+r.yday.length+r.mday.length+r.day.length+r.hour.length+r.minu.length+r.sec.length
   ·rw[decide_eq_true g1,decide_eq_true g2,decide_eq_true (by omega)];rfl
   ·rw[decide_eq_true g1,decide_eq_false g2,decide_eq_false (by omega)];rfl
  ·rw[decide_eq_false g1,decide_eq_true (by omega)];rfl
 have e4:oftenB r=(decide (4<r.freq)||decide (timesI r<=1000)):=by
  unfold oftenB timesI;rw[<-Bool.decide_or];exact decide_eq_decide.2 (by constructor<;>intro h<;>omega)
 unfold togB
 rw[e1,e2,e3,e4]
theorem mayTog_any (w:World) (S:RS) (r:Ru) (x:Bool) (h:RuAt w S r) (u1:r.hour.length<=60) (u2:r.minu.length<=60) (u3:r.sec.length<=60) (hx:togB r=x):
  Calls Tryz.prog 110 #[S.val r] w fun e w'=>e= .returned (.bool x)/\Below w.heap.size w w':=by
 have RA:=hid h
 have U1:=u1;have U2:=u2;have U3:=u3
 obtain⟨a6,n6,c6,a7,n7,c7,a8,n8,c8,a9,n9,c9,a10,n10,c10,a11,n11,c11,a12,n12,c12,a13,n13,c13,a14,n14,c14⟩:=S
 obtain⟨freq,itv,cnt,til,wkst,ends,mon,week,yday,mday,day,hour,minu,sec,pos⟩:=r
 obtain⟨h6,h7,h8,h9,h10,h11,h12,h13,h14,l6,l7,l8,l9,l10,l11,l12,l13,l14⟩:=h
 simp only at h6 h7 h8 h9 h10 h11 h12 h13 h14 l6 l7 l8 l9 l10 l11 l12 l13 l14
 rw[togB_eq] at hx
 simp only at hx
 rw[<-h7.1,<-h8.1,<-h9.1,<-h14.1] at hx
 obtain⟨x1,e1⟩:∃p,tB1 freq n7=p:=⟨_,rfl⟩
 obtain⟨x2,e2⟩:∃p,tB2 freq n8=p:=⟨_,rfl⟩
 obtain⟨x3,e3⟩:∃p,tB3 freq n9=p:=⟨_,rfl⟩
 obtain⟨x4,e4⟩:∃p,tB4 freq n7=p:=⟨_,rfl⟩
 obtain⟨x5,e5⟩:∃p,numbB day=p:=⟨_,rfl⟩
 obtain⟨x6,e6⟩:∃p,decide (0<n14)=p:=⟨_,rfl⟩
 obtain⟨x7,e7⟩:∃p,picksB ⟨freq,itv,cnt,til,wkst,ends,mon,week,yday,mday,day,hour,minu,sec,pos⟩=p:=⟨_,rfl⟩
 obtain⟨x8,e8⟩:∃p,decide (4<freq)=p:=⟨_,rfl⟩
 obtain⟨ti,e9⟩:∃p,timesI ⟨freq,itv,cnt,til,wkst,ends,mon,week,yday,mday,day,hour,minu,sec,pos⟩=p:=⟨_,rfl⟩
 rw[e1,e2,e3,e4,e5,e6,e7,e8,e9] at hx
 have E1:=hid e1;have E2:=hid e2;have E3:=hid e3;have E4:=hid e4;have E5:=hid e5;have E6:=hid e6;have E7:=hid e7;have E8:=hid e8;have E9:=hid e9
 have HX:=hid hx
 have H10:=hid h10
 clear e1 e2 e3 e4 e5 e6 e7 e8 e9 hx h6 h7 h8 h9 h10 h11 h12 h13 h14
 show Calls Tryz.prog 110 #[.agg #[.int .i64 freq,.int .i64 itv,.int .i64 cnt,.int .i64 til,.int .i64 wkst,.bool ends,.slice a6 n6 c6,.slice a7 n7 c7,.slice a8 n8 c8,.slice a9 n9 c9,.slice a10 n10 c10,.slice a11 n11 c11,.slice a12 n12 c12,.slice a13 n13 c13,.slice a14 n14 c14]] w _
 go_enter Tryz.func110,Tryz.ntmps110
 go_upto_region 1 with fail
 go_cut [12] (fun s wx=>s= .bool x1/\wx=w.alloc (.cells #[.int .i64 freq,.int .i64 itv,.int .i64 cnt,.int .i64 til,.int .i64 wkst,.bool ends,.slice a6 n6 c6,.slice a7 n7 c7,.slice a8 n8 c8,.slice a9 n9 c9,.slice a10 n10 c10,.slice a11 n11 c11,.slice a12 n12 c12,.slice a13 n13 c13,.slice a14 n14 c14] 25))
 case first=>
  by_cases a1:0<n7
  ·by_cases a2:freq=1
   ·have t1:((freq:Int) != 1)=false:=by rw[bne_eq_false_iff_eq];exact a2
    have G:=hid (show false=x1 by rw[<-E1.out];exact(decide_eq_false (fun g=>g.2 a2)).symm);clear a2;go_wp2
    go_meet
    exact⟨by rw[<-G.out],rfl⟩
   ·have t1:((freq:Int) != 1)=true:=by rw[bne_iff_ne];exact a2
    have G:=hid (show true=x1 by rw[<-E1.out];exact(decide_eq_true ⟨a1,a2⟩).symm);clear a2;go_wp2
    go_meet
    exact⟨by rw[<-G.out],rfl⟩
  ·have G:=hid (show false=x1 by rw[<-E1.out];exact(decide_eq_false (fun g=>a1 g.1)).symm)
   go_wp2
   go_meet
   exact⟨by rw[<-G.out],rfl⟩
 case rest=>
  obtain⟨rfl,rfl⟩:=hcut;cases x1
  case true=>
   have G:=hid (show false=x by rw[<-HX.out];rfl);go_wp2;go_ret;exact⟨ret_bool G.out,alloc_below _ _⟩
  go_upto_region 3 with fail
  go_cut [21] (fun s wx=>s= .bool x2/\wx=w.alloc (.cells #[.int .i64 freq,.int .i64 itv,.int .i64 cnt,.int .i64 til,.int .i64 wkst,.bool ends,.slice a6 n6 c6,.slice a7 n7 c7,.slice a8 n8 c8,.slice a9 n9 c9,.slice a10 n10 c10,.slice a11 n11 c11,.slice a12 n12 c12,.slice a13 n13 c13,.slice a14 n14 c14] 25))
  case first=>
   by_cases a1:0<n8
   ·obtain⟨y,hy⟩:∃y,inI freq 2 4=y:=⟨_,rfl⟩
    have HY:=hid hy
    have G:=hid (show y=x2 by
     rw[<-E2.out,<-hy];unfold tB2 inI
     exact decide_eq_decide.2 (by constructor<;>intro h<;>omega))
    clear hy;go_wp2_with fail;refine(pin_is freq 2 4 _ _ HY.out).mono ?_;rintro e w1 ⟨rfl,rfl⟩;go_wp2
    go_meet
    exact⟨by rw[<-G.out],rfl⟩
   ·have G:=hid (show false=x2 by rw[<-E2.out];exact(decide_eq_false (fun g=>a1 g.1)).symm)
    go_wp2
    go_meet
    exact⟨by rw[<-G.out],rfl⟩
  case rest=>
   obtain⟨rfl,rfl⟩:=hcut;cases x2
   case true=>
    have G:=hid (show false=x by rw[<-HX.out];rfl);go_wp2;go_ret;exact⟨ret_bool G.out,alloc_below _ _⟩
   go_upto_region 5 with fail
   go_cut [30] (fun s wx=>s= .bool x3/\wx=w.alloc (.cells #[.int .i64 freq,.int .i64 itv,.int .i64 cnt,.int .i64 til,.int .i64 wkst,.bool ends,.slice a6 n6 c6,.slice a7 n7 c7,.slice a8 n8 c8,.slice a9 n9 c9,.slice a10 n10 c10,.slice a11 n11 c11,.slice a12 n12 c12,.slice a13 n13 c13,.slice a14 n14 c14] 25))
   case first=>
    by_cases a1:0<n9
    ·by_cases a2:freq=3
     ·have t1:((freq:Int)==3)=true:=by rw[beq_iff_eq];exact a2
      have G:=hid (show true=x3 by rw[<-E3.out];exact(decide_eq_true ⟨a1,a2⟩).symm);clear a2;go_wp2
      go_meet
      exact⟨by rw[<-G.out],rfl⟩
     ·have t1:((freq:Int)==3)=false:=by rw[beq_eq_false_iff_ne];exact a2
      have G:=hid (show false=x3 by rw[<-E3.out];exact(decide_eq_false (fun g=>a2 g.2)).symm);clear a2;go_wp2
      go_meet
      exact⟨by rw[<-G.out],rfl⟩
    ·have G:=hid (show false=x3 by rw[<-E3.out];exact(decide_eq_false (fun g=>a1 g.1)).symm)
     go_wp2
     go_meet
     exact⟨by rw[<-G.out],rfl⟩
   case rest=>
    obtain⟨rfl,rfl⟩:=hcut;cases x3
    case true=>
     have G:=hid (show false=x by rw[<-HX.out];rfl);go_wp2;go_ret;exact⟨ret_bool G.out,alloc_below _ _⟩
    go_upto_region 7 with fail
    go_cut [3] (fun s wx=>s= .bool x4/\wx=w.alloc (.cells #[.int .i64 freq,.int .i64 itv,.int .i64 cnt,.int .i64 til,.int .i64 wkst,.bool ends,.slice a6 n6 c6,.slice a7 n7 c7,.slice a8 n8 c8,.slice a9 n9 c9,.slice a10 n10 c10,.slice a11 n11 c11,.slice a12 n12 c12,.slice a13 n13 c13,.slice a14 n14 c14] 25))
    case first=>
     by_cases a1:freq=2
     ·have t1:((freq:Int)==2)=true:=by rw[beq_iff_eq];exact a1
      have G:=hid (show true=x4 by rw[<-E4.out];exact(decide_eq_true (.inl a1)).symm);clear a1;go_wp2
      go_meet
      exact⟨by rw[<-G.out],rfl⟩
     ·have t1:((freq:Int)==2)=false:=by rw[beq_eq_false_iff_ne];exact a1
      by_cases a2:freq=1
      ·have t2:((freq:Int)==1)=true:=by rw[beq_iff_eq];exact a2
       by_cases a3:n7=0
       ·have G:=hid (show true=x4 by rw[<-E4.out];exact(decide_eq_true (.inr ⟨a2,a3⟩)).symm)
        have t3:((n7:Int)==0)=true:=by rw[beq_iff_eq];omega
        clear a1 a2 a3;go_wp2
        go_meet
        exact⟨by rw[<-G.out],rfl⟩
       ·have G:=hid (show false=x4 by rw[<-E4.out];exact(decide_eq_false (fun g=>by omega)).symm)
        have t3:((n7:Int)==0)=false:=by rw[beq_eq_false_iff_ne];omega
        clear a1 a2 a3;go_wp2
        go_meet
        exact⟨by rw[<-G.out],rfl⟩
      ·have t2:((freq:Int)==1)=false:=by rw[beq_eq_false_iff_ne];exact a2
       have G:=hid (show false=x4 by rw[<-E4.out];exact(decide_eq_false (fun g=>by omega)).symm);clear a1 a2;go_wp2
       go_meet
       exact⟨by rw[<-G.out],rfl⟩
    case rest=>
     obtain⟨rfl,rfl⟩:=hcut;obtain⟨B1,X1⟩:=box_new w #[.int .i64 freq,.int .i64 itv,.int .i64 cnt,.int .i64 til,.int .i64 wkst,.bool ends,.slice a6 n6 c6,.slice a7 n7 c7,.slice a8 n8 c8,.slice a9 n9 c9,.slice a10 n10 c10,.slice a11 n11 c11,.slice a12 n12 c12,.slice a13 n13 c13,.slice a14 n14 c14] 25;generalize w.alloc _=w1 at *;have z0:=X1.at_ 0 _ rfl;have z1:=X1.at_ 1 _ rfl;have z2:=X1.at_ 2 _ rfl;have z3:=X1.at_ 3 _ rfl;have z4:=X1.at_ 4 _ rfl;have z5:=X1.at_ 5 _ rfl;have z6:=X1.at_ 6 _ rfl;have z7:=X1.at_ 7 _ rfl;have z8:=X1.at_ 8 _ rfl;have z9:=X1.at_ 9 _ rfl;have z10:=X1.at_ 10 _ rfl;have z11:=X1.at_ 11 _ rfl;have z12:=X1.at_ 12 _ rfl;have z13:=X1.at_ 13 _ rfl;have z14:=X1.at_ 14 _ rfl
     go_upto_region 8 with fail
     go_cut [51] (fun s wx=>s= .bool (!x4&&x5)/\Below w1.heap.size w1 wx)
     case first=>
      cases x4
      ·go_wp2_with fail
       refine(containsF_any _ a10 n10 c10 day x5 (H10.out.below B1) (by omega) E5.out).mono ?_;rintro e w2 ⟨rfl,b2⟩;go_wp2
       go_meet
       exact⟨rfl,b2⟩
      ·go_wp2
       go_meet
       exact⟨rfl,Below.refl _ _⟩
     case rest=>
      obtain⟨rfl,b2⟩:=hcut;cases hk:(!x4&&x5)
      case true=>
       have G:=hid (show false=x by rw[<-HX.out,hk];rfl);go_wp2;go_ret;exact⟨ret_bool G.out,B1.trans (b2.mono B1.size)⟩
      have B2:=B1.trans (b2.mono B1.size);have X2:=X1.below b2;have HX2:=hid (show (!(decide (0<n14) && !x7)&&(x8||decide (ti<=1000)))=x by rw[<-HX.out,hk,E6.out];rfl);clear hk HX X1 B1 b2 z0 z1 z2 z3 z4 z5 z6 z7 z8 z9 z10 z11 z12 z13 z14 E1 E2 E3 E4 E5 H10;generalize wc=w2 at *;have z0:=X2.at_ 0 _ rfl;have z1:=X2.at_ 1 _ rfl;have z2:=X2.at_ 2 _ rfl;have z3:=X2.at_ 3 _ rfl;have z4:=X2.at_ 4 _ rfl;have z5:=X2.at_ 5 _ rfl;have z6:=X2.at_ 6 _ rfl;have z7:=X2.at_ 7 _ rfl;have z8:=X2.at_ 8 _ rfl;have z9:=X2.at_ 9 _ rfl;have z10:=X2.at_ 10 _ rfl;have z11:=X2.at_ 11 _ rfl;have z12:=X2.at_ 12 _ rfl;have z13:=X2.at_ 13 _ rfl;have z14:=X2.at_ 14 _ rfl
      go_upto_region 10 with fail
      go_cut [60] (fun s wx=>s= .bool (decide (0<n14) && !x7)/\Below w2.heap.size w2 wx)
      case first=>
       by_cases a1:0<n14
       ·have G:=hid (show (!x7)=(decide (0<n14) && !x7) by rw[decide_eq_true a1];rfl)
        go_wp2_with fail;refine(picks_any _ ⟨a6,n6,c6,a7,n7,c7,a8,n8,c8,a9,n9,c9,a10,n10,c10,a11,n11,c11,a12,n12,c12,a13,n13,c13,a14,n14,c14⟩ ⟨freq,itv,cnt,til,wkst,ends,mon,week,yday,mday,day,hour,minu,sec,pos⟩ x7 (RA.out.below B2) E7.out).mono ?_;rintro e w3 ⟨rfl,b3⟩;go_wp2
        go_meet
        exact⟨by rw[<-G.out],b3⟩
       ·have G:=hid (show false=(decide (0<n14) && !x7) by rw[decide_eq_false a1];rfl)
        go_wp2
        go_meet
        exact⟨by rw[<-G.out],Below.refl _ _⟩
      case rest=>
       obtain⟨rfl,b3⟩:=hcut;cases hk:(decide (0<n14) && !x7)
       case true=>
        have G:=hid (show false=x by rw[<-HX2.out,hk];rfl);go_wp2;go_ret;exact⟨ret_bool G.out,B2.trans (b3.mono B2.size)⟩
       have B3:=B2.trans (b3.mono B2.size);have X3:=X2.below b3;have HX3:=hid (show (x8||decide (ti<=1000))=x by rw[<-HX2.out,hk];rfl);clear hk HX2 X2 B2 b3 z0 z1 z2 z3 z4 z5 z6 z7 z8 z9 z10 z11 z12 z13 z14 E6 E7;generalize wc=w3 at *;have z0:=X3.at_ 0 _ rfl;have z1:=X3.at_ 1 _ rfl;have z2:=X3.at_ 2 _ rfl;have z3:=X3.at_ 3 _ rfl;have z4:=X3.at_ 4 _ rfl;have z5:=X3.at_ 5 _ rfl;have z6:=X3.at_ 6 _ rfl;have z7:=X3.at_ 7 _ rfl;have z8:=X3.at_ 8 _ rfl;have z9:=X3.at_ 9 _ rfl;have z10:=X3.at_ 10 _ rfl;have z11:=X3.at_ 11 _ rfl;have z12:=X3.at_ 12 _ rfl;have z13:=X3.at_ 13 _ rfl;have z14:=X3.at_ 14 _ rfl;cases x8
       ·have a1:freq<=4:=by have:=of_decide_eq_false E8.out;omega
        have G:=hid (show (decide (4<freq)||decide (ti<=1000))=x by rw[<-HX3.out,decide_eq_false (show ¬4<freq by omega)]);go_wp2_with fail;refine(times_any _ ⟨a6,n6,c6,a7,n7,c7,a8,n8,c8,a9,n9,c9,a10,n10,c10,a11,n11,c11,a12,n12,c12,a13,n13,c13,a14,n14,c14⟩ ⟨freq,itv,cnt,til,wkst,ends,mon,week,yday,mday,day,hour,minu,sec,pos⟩ ti (RA.out.below B3) U1 U2 U3 E9.out).mono ?_;rintro e w4 ⟨rfl,b4⟩;go_wp2;go_ret;exact⟨ret_bool G.out,B3.trans (b4.mono B3.size)⟩
       ·have a1:4<freq:=of_decide_eq_true E8.out
        have G:=hid (show true=x by rw[<-HX3.out];rfl);go_wp2;go_ret;exact⟨ret_bool G.out,B3⟩
theorem mayR_eq (r:Ru):mayR r=(numsB r&&listB r&&togB r):=by
 unfold mayR numsB togB
 simp only[Bool.and_assoc]
theorem lens_of {r:Ru} (h:listB r=true):r.hour.length<=60/\r.minu.length<=60/\r.sec.length<=60:=by
 obtain⟨l1,l2,l3,l4,l5,l6,l7,l8,l9⟩:=listB_of h
 exact⟨(inB_of l6).2.1,(inB_of l7).2.1,(inB_of l8).2.1⟩
theorem may_r (w:World) (S:RS) (r:Ru) (x:Bool) (h:RuAt w S r) (hx:mayR r=x):
  Calls Tryz.prog 70 #[S.val r] w fun e w'=>e= .returned (.bool x)/\Below w.heap.size w w':=by
 rw[mayR_eq] at hx
 obtain⟨x1,e1⟩:∃p,numsB r=p:=⟨_,rfl⟩
 obtain⟨x2,e2⟩:∃p,listB r=p:=⟨_,rfl⟩
 obtain⟨x3,e3⟩:∃p,togB r=p:=⟨_,rfl⟩
 rw[e1,e2,e3] at hx
 have E1:=hid e1;have E2:=hid e2;have E3:=hid e3
 have RA:=hid h
 clear e1 e2 e3 h
 obtain⟨a6,n6,c6,a7,n7,c7,a8,n8,c8,a9,n9,c9,a10,n10,c10,a11,n11,c11,a12,n12,c12,a13,n13,c13,a14,n14,c14⟩:=S
 obtain⟨freq,itv,cnt,til,wkst,ends,mon,week,yday,mday,day,hour,minu,sec,pos⟩:=r
 cases x1
 ·have G:=hid (show false=x by rw[<-hx];rfl)
  clear hx
  show Calls Tryz.prog 70 #[.agg #[.int .i64 freq,.int .i64 itv,.int .i64 cnt,.int .i64 til,.int .i64 wkst,.bool ends,.slice a6 n6 c6,.slice a7 n7 c7,.slice a8 n8 c8,.slice a9 n9 c9,.slice a10 n10 c10,.slice a11 n11 c11,.slice a12 n12 c12,.slice a13 n13 c13,.slice a14 n14 c14]] w _
  go_enter Tryz.func70,Tryz.ntmps70
  go_wp2_with fail;refine(mayNums_any _ ⟨a6,n6,c6,a7,n7,c7,a8,n8,c8,a9,n9,c9,a10,n10,c10,a11,n11,c11,a12,n12,c12,a13,n13,c13,a14,n14,c14⟩ ⟨freq,itv,cnt,til,wkst,ends,mon,week,yday,mday,day,hour,minu,sec,pos⟩ false E1.out).mono ?_;rintro e w1 ⟨rfl,b1⟩;go_wp2;go_ret;exact⟨ret_bool G.out,(alloc_below _ _).trans (b1.mono (by simp))⟩
 ·cases x2
  ·have G:=hid (show false=x by rw[<-hx];rfl)
   clear hx
   show Calls Tryz.prog 70 #[.agg #[.int .i64 freq,.int .i64 itv,.int .i64 cnt,.int .i64 til,.int .i64 wkst,.bool ends,.slice a6 n6 c6,.slice a7 n7 c7,.slice a8 n8 c8,.slice a9 n9 c9,.slice a10 n10 c10,.slice a11 n11 c11,.slice a12 n12 c12,.slice a13 n13 c13,.slice a14 n14 c14]] w _
   go_enter Tryz.func70,Tryz.ntmps70
   go_wp2_with fail;refine(mayNums_any _ ⟨a6,n6,c6,a7,n7,c7,a8,n8,c8,a9,n9,c9,a10,n10,c10,a11,n11,c11,a12,n12,c12,a13,n13,c13,a14,n14,c14⟩ ⟨freq,itv,cnt,til,wkst,ends,mon,week,yday,mday,day,hour,minu,sec,pos⟩ true E1.out).mono ?_;rintro e w1 ⟨rfl,b1⟩;have B1:=(alloc_below w (.cells #[.int .i64 freq,.int .i64 itv,.int .i64 cnt,.int .i64 til,.int .i64 wkst,.bool ends,.slice a6 n6 c6,.slice a7 n7 c7,.slice a8 n8 c8,.slice a9 n9 c9,.slice a10 n10 c10,.slice a11 n11 c11,.slice a12 n12 c12,.slice a13 n13 c13,.slice a14 n14 c14] 25)).trans (b1.mono (by simp));have X1:=(Box.new w #[.int .i64 freq,.int .i64 itv,.int .i64 cnt,.int .i64 til,.int .i64 wkst,.bool ends,.slice a6 n6 c6,.slice a7 n7 c7,.slice a8 n8 c8,.slice a9 n9 c9,.slice a10 n10 c10,.slice a11 n11 c11,.slice a12 n12 c12,.slice a13 n13 c13,.slice a14 n14 c14] 25).below b1;clear b1;have z0:=X1.at_ 0 _ rfl;have z1:=X1.at_ 1 _ rfl;have z2:=X1.at_ 2 _ rfl;have z3:=X1.at_ 3 _ rfl;have z4:=X1.at_ 4 _ rfl;have z5:=X1.at_ 5 _ rfl;have z6:=X1.at_ 6 _ rfl;have z7:=X1.at_ 7 _ rfl;have z8:=X1.at_ 8 _ rfl;have z9:=X1.at_ 9 _ rfl;have z10:=X1.at_ 10 _ rfl;have z11:=X1.at_ 11 _ rfl;have z12:=X1.at_ 12 _ rfl;have z13:=X1.at_ 13 _ rfl;have z14:=X1.at_ 14 _ rfl;go_wp2_with fail;refine(mayLists_any _ ⟨a6,n6,c6,a7,n7,c7,a8,n8,c8,a9,n9,c9,a10,n10,c10,a11,n11,c11,a12,n12,c12,a13,n13,c13,a14,n14,c14⟩ ⟨freq,itv,cnt,til,wkst,ends,mon,week,yday,mday,day,hour,minu,sec,pos⟩ false (RA.out.below B1) E2.out).mono ?_;rintro e w2 ⟨rfl,b2⟩;go_wp2;go_ret;exact⟨ret_bool G.out,B1.trans (b2.mono B1.size)⟩
  ·have G:=hid (show x3=x by rw[<-hx];rfl)
   have L:=hid (lens_of E2.out);clear hx
   show Calls Tryz.prog 70 #[.agg #[.int .i64 freq,.int .i64 itv,.int .i64 cnt,.int .i64 til,.int .i64 wkst,.bool ends,.slice a6 n6 c6,.slice a7 n7 c7,.slice a8 n8 c8,.slice a9 n9 c9,.slice a10 n10 c10,.slice a11 n11 c11,.slice a12 n12 c12,.slice a13 n13 c13,.slice a14 n14 c14]] w _
   go_enter Tryz.func70,Tryz.ntmps70
   go_wp2_with fail;refine(mayNums_any _ ⟨a6,n6,c6,a7,n7,c7,a8,n8,c8,a9,n9,c9,a10,n10,c10,a11,n11,c11,a12,n12,c12,a13,n13,c13,a14,n14,c14⟩ ⟨freq,itv,cnt,til,wkst,ends,mon,week,yday,mday,day,hour,minu,sec,pos⟩ true E1.out).mono ?_;rintro e w1 ⟨rfl,b1⟩;have B1:=(alloc_below w (.cells #[.int .i64 freq,.int .i64 itv,.int .i64 cnt,.int .i64 til,.int .i64 wkst,.bool ends,.slice a6 n6 c6,.slice a7 n7 c7,.slice a8 n8 c8,.slice a9 n9 c9,.slice a10 n10 c10,.slice a11 n11 c11,.slice a12 n12 c12,.slice a13 n13 c13,.slice a14 n14 c14] 25)).trans (b1.mono (by simp));have X1:=(Box.new w #[.int .i64 freq,.int .i64 itv,.int .i64 cnt,.int .i64 til,.int .i64 wkst,.bool ends,.slice a6 n6 c6,.slice a7 n7 c7,.slice a8 n8 c8,.slice a9 n9 c9,.slice a10 n10 c10,.slice a11 n11 c11,.slice a12 n12 c12,.slice a13 n13 c13,.slice a14 n14 c14] 25).below b1;clear b1;have z0:=X1.at_ 0 _ rfl;have z1:=X1.at_ 1 _ rfl;have z2:=X1.at_ 2 _ rfl;have z3:=X1.at_ 3 _ rfl;have z4:=X1.at_ 4 _ rfl;have z5:=X1.at_ 5 _ rfl;have z6:=X1.at_ 6 _ rfl;have z7:=X1.at_ 7 _ rfl;have z8:=X1.at_ 8 _ rfl;have z9:=X1.at_ 9 _ rfl;have z10:=X1.at_ 10 _ rfl;have z11:=X1.at_ 11 _ rfl;have z12:=X1.at_ 12 _ rfl;have z13:=X1.at_ 13 _ rfl;have z14:=X1.at_ 14 _ rfl;go_wp2_with fail;refine(mayLists_any _ ⟨a6,n6,c6,a7,n7,c7,a8,n8,c8,a9,n9,c9,a10,n10,c10,a11,n11,c11,a12,n12,c12,a13,n13,c13,a14,n14,c14⟩ ⟨freq,itv,cnt,til,wkst,ends,mon,week,yday,mday,day,hour,minu,sec,pos⟩ true (RA.out.below B1) E2.out).mono ?_;rintro e w2 ⟨rfl,b2⟩;have B2:=B1.trans (b2.mono B1.size);have X2:=X1.below b2;clear z0 z1 z2 z3 z4 z5 z6 z7 z8 z9 z10 z11 z12 z13 z14 X1 b2;have z0:=X2.at_ 0 _ rfl;have z1:=X2.at_ 1 _ rfl;have z2:=X2.at_ 2 _ rfl;have z3:=X2.at_ 3 _ rfl;have z4:=X2.at_ 4 _ rfl;have z5:=X2.at_ 5 _ rfl;have z6:=X2.at_ 6 _ rfl;have z7:=X2.at_ 7 _ rfl;have z8:=X2.at_ 8 _ rfl;have z9:=X2.at_ 9 _ rfl;have z10:=X2.at_ 10 _ rfl;have z11:=X2.at_ 11 _ rfl;have z12:=X2.at_ 12 _ rfl;have z13:=X2.at_ 13 _ rfl;have z14:=X2.at_ 14 _ rfl;go_wp2_with fail;refine(mayTog_any _ ⟨a6,n6,c6,a7,n7,c7,a8,n8,c8,a9,n9,c9,a10,n10,c10,a11,n11,c11,a12,n12,c12,a13,n13,c13,a14,n14,c14⟩ ⟨freq,itv,cnt,til,wkst,ends,mon,week,yday,mday,day,hour,minu,sec,pos⟩ x3 (RA.out.below B2) L.out.1 L.out.2.1 L.out.2.2 E3.out).mono ?_;rintro e w3 ⟨rfl,b3⟩;go_wp2;go_ret;exact⟨ret_bool G.out,B2.trans (b3.mono B2.size)⟩
end Go.Proofs.YtddnnljfgfcplaaGreatDoor.Ru
