/- The walks of package rule's small tests: within, mayList, mayPlaces. The walks of package rule's mayPlaces, compareDays, mayDays, isNumbered, and of what they call of the library. The walks of package rule's compareDays, mayDays, isNumbered, and of what they call of the library. The walks of package rule's mayDays and isNumbered. The walks of package rule's isNumbered, and of slices.ContainsFunc with it. -/
import Derived.Test.YtddnnljfgfcplaaGreatDoorRuB
import Derived.Deep.RegionHeld
set_option maxRecDepth 100000
set_option linter.unusedVariables false
namespace Go.Proofs.YtddnnljfgfcplaaGreatDoor.Ru
open Lib (hid)
open Go.RowKit Cv St
def inI (n lo hi:Int):Bool:=decide (lo<=n/\n<=hi)
theorem inI_yes {n lo hi:Int} (h1:lo<=n) (h2:n<=hi):inI n lo hi=true:=decide_eq_true ⟨h1,h2⟩
theorem inI_no {n lo hi:Int} (h:¬(lo<=n/\n<=hi)):inI n lo hi=false:=decide_eq_false h
theorem pin_any (n lo hi:Int) (w:World):Calls Tryz.prog 154 #[.int .i64 n,.int .i64 lo,.int .i64 hi] w fun e w'=>e= .returned (.bool (inI n lo hi))/\w=w':=by
 by_cases h1:lo<=n
 ·by_cases h2:n<=hi
  ·have G:=hid (inI_yes h1 h2).symm
   go_enter Tryz.func154,Tryz.ntmps154
   go_wp2;go_ret;exact⟨ret_bool G.out,rfl⟩
  ·have G:=hid (inI_no (n:=n) (lo:=lo) (hi:=hi) (by omega)).symm
   go_enter Tryz.func154,Tryz.ntmps154
   go_wp2;go_ret;exact⟨ret_bool G.out,rfl⟩
 ·have G:=hid (inI_no (n:=n) (lo:=lo) (hi:=hi) (by omega)).symm
  go_enter Tryz.func154,Tryz.ntmps154
  go_wp2;go_ret;exact⟨ret_bool G.out,rfl⟩
theorem pin_is (n lo hi:Int) (x:Bool) (w:World) (hx:inI n lo hi=x):Calls Tryz.prog 154 #[.int .i64 n,.int .i64 lo,.int .i64 hi] w fun e w'=>e= .returned (.bool x)/\w=w':=hx ▸ pin_any n lo hi w
theorem riseB_yes {l:List Int} (h:riseTo l l.length):riseB l=true:=decide_eq_true (rise_adj fun j hj=>h j hj)
theorem inB_rise {l:List Int} {lo hi:Int} {z:Bool} (h:inTo l lo hi z l.length) (r:riseTo l l.length) (g:l.length<=60):true=inB l lo hi z:=by
 rw[<-inB_yes h g,riseB_yes r]
theorem inB_fall {l:List Int} {lo hi:Int} {z:Bool} {k:Nat} (hk:k<l.length) (h0:0<k) (h:iat l k<=iat l (k-1)):false=inB l lo hi z:=by
 cases g:inB l lo hi z
 ·rfl
 ·exfalso
  obtain⟨-,-,c⟩:=inB_of g
  have:=List.pairwise_iff_getElem.1 c (k-1) k (by omega) hk (by omega)
  rw[<-iat_lt,<-iat_lt] at this;omega
theorem mayList_any (w:World) (A:Option Addr) (n c:Nat) (l:List Int) (lo hi:Int) (hl:IsAt w A n l) (h1:n<=9223372036854775807):
  Calls Tryz.prog 155 #[.slice A n c,.int .i64 lo,.int .i64 hi] w fun e w'=>e= .returned (.bool (inB l lo hi true))/\w=w':=by
 obtain⟨en,hc⟩:=hl
 have EN:=hid en
 by_cases h60:n<=60
 ·have L60:l.length<=60:=by omega
  clear en
  go_enter Tryz.func155,Tryz.ntmps155
  go_wp2
  go_loop [14] (fun i=>∃t:Nat,t<=n/\i= .int .i64 t/\Hid (inTo l lo hi true t)/\Hid (riseTo l t)) (fun i=>n-(intOf i).toNat)
  case atStart=>exact⟨0,Nat.zero_le _,rfl,hid (fun j hj=>absurd hj (by omega)),hid (fun j hj=>absurd hj (by omega))⟩
  case round=>
   obtain⟨t,ht,rfl,D,R⟩:=hrel
   by_cases hlt:t<n
   ·obtain⟨b,off,rfl,hb,hcc⟩:=hc (by omega)
    have c0:=hcc t hlt;have d0:=hcc (t-1) (by omega);have X:=hid (fun e=>D.out.succ (k:=t) e);have F:=hid (fun e=>inB_no (l:=l) (lo:=lo) (hi:=hi) (z:=true) (k:=t) (by rw[<-EN.out];exact hlt) e);have F2:=hid (fun h0 e=>inB_fall (l:=l) (lo:=lo) (hi:=hi) (z:=true) (k:=t) (by rw[<-EN.out];exact hlt) h0 e);have R1:=hid (fun (e:iat l (t-1)<iat l t)=>R.out.succ (k:=t) e);have R0:=hid (fun (e:t=0)=>show riseTo l (t+1) from fun j hj=>absurd hj (by omega));clear hc hcc D R
    by_cases p1:lo<=iat l t/\iat l t<=hi
    ·have P:=hid (inI_yes p1.1 p1.2)
     have Y:=hid (X.out ⟨p1.1,p1.2,.inr rfl⟩);clear X F p1
     by_cases h0:t=0
     ·have Z:=hid (R0.out h0)
      have s5:¬(0<t):=by omega
      clear R0 R1 F2 d0 h0;generalize iat l t=s at *;go_wp2_with fail;refine(pin_is s lo hi true _ P.out).mono ?_;rintro e w1 ⟨rfl,rfl⟩;go_wp2
      go_round
      case rel=>exact⟨t+1,by omega,by go_num,Y,Z⟩
      case measure=>simp[intOf];omega
     ·have s5:0<t:=by omega
      have w3:(0:Int)<=(t:Int)-1:=by omega
      have w5:(1:Int)<=(t:Int):=by omega
      have w2:((t:Int)-1).toNat=t-1:=by omega
      by_cases q:iat l (t-1)<iat l t
      ·have Z:=hid (R1.out q)
       clear R0 R1 F2 h0;generalize iat l t=s at *;generalize iat l (t-1)=s2 at *;go_wp2_with fail;refine(pin_is s lo hi true _ P.out).mono ?_;rintro e w1 ⟨rfl,rfl⟩;go_wp2
       go_round
       case rel=>exact⟨t+1,by omega,by go_num,Y,Z⟩
       case measure=>simp[intOf];omega
      ·have G:=hid (F2.out s5 (by omega))
       clear R0 R1 F2 h0;generalize iat l t=s at *;generalize iat l (t-1)=s2 at *;go_wp2_with fail;refine(pin_is s lo hi true _ P.out).mono ?_;rintro e w1 ⟨rfl,rfl⟩;go_wp2;go_ret;exact⟨ret_bool G.out,rfl⟩
    ·have P:=hid (inI_no p1)
     have G:=hid (F.out (fun e=>p1 ⟨e.1,e.2.1⟩));clear X F p1 F2 R1 R0 d0;generalize iat l t=s at *;go_wp2_with fail;refine(pin_is s lo hi false _ P.out).mono ?_;rintro e w1 ⟨rfl,rfl⟩;go_wp2;go_ret;exact⟨ret_bool G.out,rfl⟩
   ·obtain rfl:n=t:=by omega
    have G:=hid (inB_rise (l:=l) (lo:=lo) (hi:=hi) (z:=true) (by rw[<-EN.out];exact D.out) (by rw[<-EN.out];exact R.out) L60);clear D R;go_wp2;go_ret;exact⟨ret_bool G.out,rfl⟩
 ·have G:=hid (inB_long (l:=l) (lo:=lo) (hi:=hi) (z:=true) (by omega))
  have i60:(60:Int)<(n:Int):=by omega
  clear h60 en
  go_enter Tryz.func155,Tryz.ntmps155
  go_wp2;go_ret;exact⟨ret_bool G.out,rfl⟩
theorem mayList_is (w:World) (A:Option Addr) (n c:Nat) (l:List Int) (lo hi:Int) (x:Bool) (hl:IsAt w A n l) (h1:n<=9223372036854775807) (hx:inB l lo hi true=x):
  Calls Tryz.prog 155 #[.slice A n c,.int .i64 lo,.int .i64 hi] w fun e w'=>e= .returned (.bool x)/\w=w':=hx ▸ mayList_any w A n c l lo hi hl h1
end Go.Proofs.YtddnnljfgfcplaaGreatDoor.Ru
set_option linter.unusedVariables false
namespace Go.Proofs.YtddnnljfgfcplaaGreatDoor.Ru
open Lib (hid)
open Go.RowKit Cv St
def noneTo (l:List Int) (x:Int) (k:Nat):Prop:=∀j,j<k->iat l j≠x
theorem noneTo.succ {l:List Int} {x:Int} {k:Nat} (h:noneTo l x k) (e:iat l k≠x):noneTo l x (k+1):=fun j hj=>by
 by_cases c:j=k
 ·subst c;exact e
 ·exact h j (by omega)
theorem none_all {l:List Int} {x:Int} (h:noneTo l x l.length):x ∉ l:=fun hx=>by
 obtain⟨j,hj,e⟩:=List.getElem_of_mem hx
 exact h j hj (by rw[iat_lt hj,e])
theorem one_of {l:List Int} {x:Int} {k:Nat} (hk:k<l.length) (h:iat l k=x):x∈l:=by
 rw[iat_lt hk] at h;rw[<-h];exact List.getElem_mem hk
def IdxAt (l:List Int) (x:Int) (w:World) (e:Ending) (w':World):Prop:=∃i:Int,e= .returned (.int .i64 i)/\-1<=i/\(0<=i↔x∈l)/\w=w'
theorem index_any (w:World) (A:Option Addr) (n c:Nat) (l:List Int) (x:Int) (hl:IsAt w A n l) (h1:n<=9223372036854775807):
  Calls Tryz.prog 230 #[.slice A n c,.int .i64 x] w (IdxAt l x w):=by
 obtain⟨en,hc⟩:=hl
 have EN:=hid en
 clear en
 go_enter Tryz.func230,Tryz.ntmps230
 go_wp2
 go_loop [8] (fun i=>∃t:Nat,t<=n/\i= .int .i64 t/\Hid (noneTo l x t)) (fun i=>n-(intOf i).toNat)
 case atStart=>exact⟨0,Nat.zero_le _,rfl,hid (fun j hj=>absurd hj (by omega))⟩
 case round=>
  obtain⟨t,ht,rfl,D⟩:=hrel
  by_cases hlt:t<n
  ·obtain⟨b,off,rfl,hb,hcc⟩:=hc (by omega)
   have c0:=hcc t hlt;have X:=hid (fun e=>D.out.succ e);have F:=hid (fun e=>one_of (l:=l) (x:=x) (k:=t) (by rw[<-EN.out];exact hlt) e);clear hc hcc D
   by_cases p:iat l t=x
   ·have t1:((x:Int)==iat l t)=true:=by rw[beq_iff_eq];exact p.symm
    have G:=hid (F.out p);clear F X p;generalize iat l t=s at *;go_wp2;go_ret;exact⟨_,rfl,by omega,⟨fun _=>G.out,fun _=>by omega⟩,rfl⟩
   ·have t1:((x:Int)==iat l t)=false:=by rw[beq_eq_false_iff_ne];exact fun e=>p e.symm
    have G:=hid (X.out p);clear F X p;generalize iat l t=s at *;go_wp2
    go_round
    case rel=>exact⟨t+1,by omega,by go_num,G⟩
    case measure=>simp[intOf];omega
  ·obtain rfl:n=t:=by omega
   have G:=hid (none_all (l:=l) (x:=x) (by rw[<-EN.out];exact D.out));go_wp2;go_ret;exact⟨_,rfl,by omega,⟨fun h=>absurd h (by omega),fun h=>absurd h G.out⟩,rfl⟩
theorem contains_any (w:World) (A:Option Addr) (n c:Nat) (l:List Int) (x:Int) (r:Bool) (hl:IsAt w A n l) (h1:n<=9223372036854775807) (hr:decide (x∈l)=r):
  Calls Tryz.prog 193 #[.slice A n c,.int .i64 x] w fun e w'=>e= .returned (.bool r)/\w=w':=by
 have HL:=hid hl
 have HR:=hid hr
 clear hl hr
 go_enter Tryz.func193,Tryz.ntmps193
 go_wp2_with fail
 refine(index_any _ A n c l x HL.out h1).mono ?_
 rintro e w1 ⟨i,rfl,i1,i2,rfl⟩
 have I2:=hid i2
 clear i2
 by_cases h:0<=i
 ·have G:=hid (show true=r by rw[<-HR.out];exact(decide_eq_true (I2.out.1 h)).symm)
  go_wp2;go_ret;exact⟨ret_bool G.out,rfl⟩
 ·have G:=hid (show false=r by rw[<-HR.out];exact(decide_eq_false (fun g=>h (I2.out.2 g))).symm)
  obtain rfl:i = -1:=by omega
  go_wp2;go_ret;exact⟨ret_bool G.out,rfl⟩
theorem inB_zero {l:List Int} {lo hi:Int}:inB l lo hi false=(inB l lo hi true && !decide ((0:Int)∈l)):=by
 by_cases h0:(0:Int)∈l
 ·rw[decide_eq_true h0]
  unfold inB;rw[decide_eq_false (fun g=>by have:=(g 0 h0).2.2;simp at this)];simp
 ·rw[decide_eq_false h0]
  unfold inB
  have e:(∀x∈l,lo<=x/\x<=hi/\(x≠0\/false=true))↔(∀x∈l,lo<=x/\x<=hi/\(x≠0\/true=true)):=
   ⟨fun g x hx=>⟨(g x hx).1,(g x hx).2.1,.inr rfl⟩,fun g x hx=>⟨(g x hx).1,(g x hx).2.1,.inl fun e=>h0 (e ▸ hx)⟩⟩
  rcases Classical.em (∀x∈l,lo<=x/\x<=hi/\(x≠0\/true=true)) with h|h
  ·rw[decide_eq_true (e.2 h),decide_eq_true h];simp
  ·rw[decide_eq_false (fun g=>h (e.1 g)),decide_eq_false h];simp
theorem mayPlaces_any (w:World) (A:Option Addr) (n c:Nat) (l:List Int) (m:Int) (hl:IsAt w A n l) (h1:n<=9223372036854775807) (m0:0<=m) (m1:m<=100000):
  Calls Tryz.prog 156 #[.slice A n c,.int .i64 m] w fun e w'=>e= .returned (.bool (inB l (-m) m false))/\w=w':=by
 have HL:=hid hl
 have E:=hid (inB_zero (l:=l) (lo:=-m) (hi:=m))
 obtain⟨x,hx⟩:∃x,inB l (-m) m true=x:=⟨_,rfl⟩
 obtain⟨y,hy⟩:∃y,decide ((0:Int)∈l)=y:=⟨_,rfl⟩
 have HX:=hid hx
 have HY:=hid hy
 clear hl hx hy
 cases x
 ·have G:=hid (show false=inB l (-m) m false by rw[E.out,HX.out];rfl)
  go_enter Tryz.func156,Tryz.ntmps156
  go_wp2_with fail;refine(mayList_is _ A n c l (-m) m false HL.out h1 HX.out).mono ?_;rintro e w1 ⟨rfl,rfl⟩;go_wp2;go_ret;exact⟨ret_bool G.out,rfl⟩
 ·cases y
  all_goals
   have G:=hid (by rw[E.out,HX.out,HY.out]:inB l (-m) m false=(true && !_))
   go_enter Tryz.func156,Tryz.ntmps156
   go_wp2_with fail;refine(mayList_is _ A n c l (-m) m true HL.out h1 HX.out).mono ?_;rintro e w1 ⟨rfl,rfl⟩;go_wp2_with fail;refine(contains_any _ A n c l 0 _ HL.out h1 HY.out).mono ?_;rintro e w1 ⟨rfl,rfl⟩;go_wp2;go_ret;exact⟨ret_bool G.out.symm,rfl⟩
theorem mayPlaces_is (w:World) (A:Option Addr) (n c:Nat) (l:List Int) (m lo:Int) (x:Bool) (hl:IsAt w A n l) (h1:n<=9223372036854775807) (m0:0<=m) (m1:m<=100000) (hlo:lo = -m) (hx:inB l lo m false=x):
  Calls Tryz.prog 156 #[.slice A n c,.int .i64 m] w fun e w'=>e= .returned (.bool x)/\w=w':=by subst hlo;exact hx ▸ mayPlaces_any w A n c l m hl h1 m0 m1
end Go.Proofs.YtddnnljfgfcplaaGreatDoor.Ru
set_option linter.unusedVariables false
namespace Go.Proofs.YtddnnljfgfcplaaGreatDoor.Ru
open Lib (hid)
open Go.RowKit Cv St
def cmpI (a b:Int):Int:=Lib.compareInt a b
theorem cmpI_lt {a b:Int} (h:a<b):cmpI a b = -1:=by unfold cmpI Lib.compareInt;rw[if_pos h]
theorem cmpI_gt {a b:Int} (h:b<a):cmpI a b=1:=by unfold cmpI Lib.compareInt;rw[if_neg (by omega),if_pos h]
theorem cmpI_eq {a b:Int} (h:a=b):cmpI a b=0:=by unfold cmpI Lib.compareInt;rw[if_neg (by omega),if_neg (by omega)]
theorem cmpI_bd (a b:Int):-1<=cmpI a b/\cmpI a b<=1:=by
 unfold cmpI Lib.compareInt;split
 ·omega
 ·split<;>omega
theorem compare_any (a b x:Int) (w:World) (hx:cmpI a b=x):Calls Tryz.prog 232 #[.int .i64 a,.int .i64 b] w fun e w'=>e= .returned (.int .i64 x)/\w'=w:=by
 by_cases h1:a<b
 ·have G:=hid (show (-1:Int)=x by rw[<-hx,cmpI_lt h1])
  clear hx
  go_enter Tryz.func232,Tryz.ntmps232
  go_wp2;go_ret;exact⟨ret_int G.out,rfl⟩
 ·by_cases h2:b<a
  ·have G:=hid (show (1:Int)=x by rw[<-hx,cmpI_gt h2])
   clear hx
   go_enter Tryz.func232,Tryz.ntmps232
   go_wp2;go_ret;exact⟨ret_int G.out,rfl⟩
  ·have G:=hid (show (0:Int)=x by rw[<-hx,cmpI_eq (by omega)])
   clear hx;have h1':b<=a:=by omega
   have h2':a<=b:=by omega
   go_enter Tryz.func232,Tryz.ntmps232
   go_wp2;go_ret;exact⟨ret_int G.out,rfl⟩
def orI (x y:Int):Int:=if x=0 then y else x
theorem or_any (x y r:Int) (b c:Nat) (w:World) (c0:w.cell? ⟨b,0,none⟩=some (.int .i64 x)) (c1:w.cell? ⟨b,1,none⟩=some (.int .i64 y)) (hr:orI x y=r):
  Calls Tryz.prog 231 #[.slice (some ⟨b,0,none⟩) 2 c] w fun e w'=>e= .returned (.int .i64 r)/\w'=w:=by
 by_cases hx:x=0
 ·by_cases hy:y=0
  ·have G:=hid (show (0:Int)=r by rw[<-hr];unfold orI;rw[if_pos hx,hy])
   subst hx hy;clear hr
   go_enter Tryz.func231,Tryz.ntmps231
   go_wp2
   go_loop [8] (fun i=>∃t:Nat,t<=2/\i= .int .i64 t) (fun i=>2-(intOf i).toNat)
   case atStart=>exact⟨0,by omega,rfl⟩
   case round=>
    obtain⟨t,ht,rfl⟩:=hrel
    by_cases h0:t=0
    ·subst h0
     go_wp2
     go_round
     case rel=>exact⟨1,by omega,by go_num⟩
     case measure=>simp[intOf]
    ·by_cases h1:t=1
     ·subst h1
      go_wp2
      go_round
      case rel=>exact⟨2,by omega,by go_num⟩
      case measure=>simp[intOf]
     ·obtain rfl:t=2:=by omega
      go_wp2;go_ret;exact⟨ret_int G.out,rfl⟩
  ·have G:=hid (show y=r by rw[<-hr];unfold orI;rw[if_pos hx])
   subst hx;have t1:((y:Int) != 0)=true:=by rw[bne_iff_ne];exact hy
   clear hr
   go_enter Tryz.func231,Tryz.ntmps231
   go_wp2
   go_loop [8] (fun i=>∃t:Nat,t<=1/\i= .int .i64 t) (fun i=>2-(intOf i).toNat)
   case atStart=>exact⟨0,by omega,rfl⟩
   case round=>
    obtain⟨t,ht,rfl⟩:=hrel
    by_cases h0:t=0
    ·subst h0
     go_wp2
     go_round
     case rel=>exact⟨1,by omega,by go_num⟩
     case measure=>simp[intOf]
    ·obtain rfl:t=1:=by omega
     go_wp2;go_ret;exact⟨ret_int G.out,rfl⟩
 ·have G:=hid (show x=r by rw[<-hr];unfold orI;rw[if_neg hx])
  have t1:((x:Int) != 0)=true:=by rw[bne_iff_ne];exact hx
  clear hr
  go_enter Tryz.func231,Tryz.ntmps231
  go_wp2
  go_loop [8] (fun i=>∃t:Nat,t<=0/\i= .int .i64 t) (fun i=>2-(intOf i).toNat)
  case atStart=>exact⟨0,by omega,rfl⟩
  case round=>
   obtain⟨t,ht,rfl⟩:=hrel;obtain rfl:t=0:=by omega
   go_wp2;go_ret;exact⟨ret_int G.out,rfl⟩
def cmpD (a b:Dy):Int:=orI (cmpI a.n b.n) (cmpI a.w b.w)
theorem cmpD_le {a b:Dy}:cmpD a b<=0↔¬dlt b a:=by
 unfold cmpD orI dlt
 have h1:=cmpI_bd a.n b.n
 have h2:=cmpI_bd a.w b.w
 rcases Int.lt_trichotomy a.n b.n with h|h|h
 ·rw[cmpI_lt h,if_neg (by decide)];omega
 ·rw[cmpI_eq h,if_pos rfl]
  rcases Int.lt_trichotomy a.w b.w with g|g|g
  ·rw[cmpI_lt g];omega
  ·rw[cmpI_eq g];omega
  ·rw[cmpI_gt g];omega
 ·rw[cmpI_gt h,if_neg (by decide)];omega
theorem cmpDays_any (a b:Dy) (x:Int) (w:World) (hx:cmpD a b=x):
  Calls Tryz.prog 194 #[.agg #[.int .i64 a.n,.int .i64 a.w],.agg #[.int .i64 b.n,.int .i64 b.w]] w fun e w'=>e= .returned (.int .i64 x)/\Below w.heap.size w w':=by
 obtain⟨a1,a2⟩:=a
 obtain⟨b1,b2⟩:=b
 obtain⟨p,hp⟩:∃p,cmpI a1 b1=p:=⟨_,rfl⟩
 obtain⟨q,hq⟩:∃q,cmpI a2 b2=q:=⟨_,rfl⟩
 have G:=hid (show orI p q=x by rw[<-hx,<-hp,<-hq];rfl)
 have HP:=hid hp
 have HQ:=hid hq
 clear hx hp hq
 show Calls Tryz.prog 194 #[.agg #[.int .i64 a1,.int .i64 a2],.agg #[.int .i64 b1,.int .i64 b2]] w _
 go_enter Tryz.func194,Tryz.ntmps194
 go_wp2_with fail
 have bz:=((Below.refl w.heap.size w).alloc (Nat.le_refl _) (.cells #[.int .i64 a1,.int .i64 a2] 109)).alloc (by simp) (.cells #[.int .i64 b1,.int .i64 b2] 109)
 have k0:((w.alloc (.cells #[.int .i64 a1,.int .i64 a2] 109)).alloc (.cells #[.int .i64 b1,.int .i64 b2] 109)).drew.cell? ⟨w.heap.size,0,none⟩=some (.int .i64 a1):=by simp[go_sem]
 have k1:((w.alloc (.cells #[.int .i64 a1,.int .i64 a2] 109)).alloc (.cells #[.int .i64 b1,.int .i64 b2] 109)).drew.cell? ⟨w.heap.size,1,none⟩=some (.int .i64 a2):=by simp[go_sem]
 have k2:((w.alloc (.cells #[.int .i64 a1,.int .i64 a2] 109)).alloc (.cells #[.int .i64 b1,.int .i64 b2] 109)).drew.cell? ⟨w.heap.size+1,0,none⟩=some (.int .i64 b1):=by simp[go_sem]
 have k3:((w.alloc (.cells #[.int .i64 a1,.int .i64 a2] 109)).alloc (.cells #[.int .i64 b1,.int .i64 b2] 109)).drew.cell? ⟨w.heap.size+1,1,none⟩=some (.int .i64 b2):=by simp[go_sem]
 generalize (w.alloc (.cells #[.int .i64 a1,.int .i64 a2] 109)).alloc (.cells #[.int .i64 b1,.int .i64 b2] 109)=w2 at *
 refine wp_region_still_tail 10 (by kernel_rfl) (by kernel_rfl) ?_
 simp only[List.take_succ_cons,List.take_zero,List.drop_succ_cons,List.drop_zero]
 still_step
 still_step
 still_step
 still_step
 still_call (compare_any a1 b1 p _ HP.out)
 still_step
 still_step
 still_step
 still_step
 still_call (compare_any a2 b2 q _ HQ.out)
 refine wpStill_nil ?_
 change wpList _ _ _ _ _ w2.drew
 have bd:=bz.trans ((Below.refl _ _).drew)
 generalize w2.drew=w3 at *
 go_wp2_with fail
 refine(or_any p q x _ _ _ (by simp[go_sem]) (by simp[go_sem]) G.out).mono ?_
 rintro e w4 ⟨rfl,rfl⟩
 go_wp2
 go_ret
 exact⟨rfl,bd.alloc bd.size _⟩
end Go.Proofs.YtddnnljfgfcplaaGreatDoor.Ru
set_option linter.unusedVariables false
namespace Go.Proofs.YtddnnljfgfcplaaGreatDoor.Ru
open Lib (hid)
open Go.RowKit Cv St
theorem dayB_long {l:List Dy} (h:60<l.length):false=dayB l:=by
 unfold dayB;rw[decide_eq_false (show ¬l.length<=60 by omega)];simp
theorem dayB_all {l:List Dy} (h:dayTo l l.length) (g:l.length<=60):true=dayB l:=by rw[<-dayB_yes h,decide_eq_true g]
set_option maxHeartbeats 4000000 in
theorem mayDays_any (w:World) (A:Option Addr) (n c:Nat) (l:List Dy) (hl:DyAt w A n l) (h1:n<=9223372036854775807):
  Calls Tryz.prog 157 #[.slice A n c] w fun e w'=>e= .returned (.bool (dayB l))/\Below w.heap.size w w':=by
 obtain⟨en,hc⟩:=hl
 have EN:=hid en
 by_cases h60:n<=60
 ·have L60:l.length<=60:=by omega
  clear en
  go_enter Tryz.func157,Tryz.ntmps157
  go_wp2
  go_loopw [10] (fun i wr=>∃t:Nat,t<=n/\i= .int .i64 t/\Hid (dayTo l t)/\Below w.heap.size w wr) (fun i _=>n-(intOf i).toNat)
  case atStart=>exact⟨0,Nat.zero_le _,rfl,hid (fun j hj=>absurd hj (by omega)),Below.refl _ _⟩
  case round=>
   rename_i wr
   obtain⟨t,ht,rfl,D,hB⟩:=hrel
   by_cases hlt:t<n
   ·obtain⟨b,off,rfl,hb,hcc⟩:=hc (by omega)
    obtain⟨c0,c1⟩:=hcc t hlt;obtain⟨d0,d1⟩:=hcc (t-1) (by omega)
    replace c0:=(hB.cell (p:=⟨b,_,none⟩) hb).trans c0
    replace c1:=(hB.cell (p:=⟨b,_,none⟩) hb).trans c1
    replace d0:=(hB.cell (p:=⟨b,_,none⟩) hb).trans d0
    replace d1:=(hB.cell (p:=⟨b,_,none⟩) hb).trans d1
    have hbw:=Nat.lt_of_lt_of_le hb hB.size;have X:=hid (fun e=>D.out.succ (k:=t) e);have F:=hid (fun e=>dayB_no (l:=l) (k:=t) (by rw[<-EN.out];exact hlt) e);clear hc hcc D;have HX:=hid (show cmpD (dat l t) (dat l (t-1))=_ from rfl)
    by_cases a1:-53<=(dat l t).n/\(dat l t).n<=53
    ·have P1:=hid (inI_yes a1.1 a1.2)
     by_cases a2:0<=(dat l t).w/\(dat l t).w<=6
     ·have P2:=hid (inI_yes a2.1 a2.2)
      by_cases h0:t=0
      ·have Y:=hid (X.out ⟨a1.1,a1.2,a2.1,a2.2,fun g=>absurd g (by omega)⟩)
       have s5:decide (0<t)=false:=decide_eq_false (by omega)
       clear X F a1 a2 h0 HX;go_wp2;generalize hw1:wr.alloc (.cells #[.int .i64 (dat l t).n,.int .i64 (dat l t).w] 109)=w1;have z1:Below w.heap.size w w1:=hw1 ▸ hB.alloc hB.size _
       have y0:w1.cell? ⟨wr.heap.size,0,none⟩=some (.int .i64 (dat l t).n):=by rw[<-hw1];simp[go_sem]
       have y1:w1.cell? ⟨wr.heap.size,1,none⟩=some (.int .i64 (dat l t).w):=by rw[<-hw1];simp[go_sem]
       have ys:wr.heap.size<w1.heap.size:=by rw[<-hw1];simp
       have bk:Below wr.heap.size wr w1:=hw1 ▸ (Below.refl _ _).alloc (Nat.le_refl _) _
       clear hw1;have q0:=Past.at_ ys y0;have q1:=Past.at_ ys y1;have q2:=Past.at_ (Nat.lt_of_lt_of_le hbw bk.size) ((bk.cell (p:=⟨b,_,none⟩) hbw).trans d0);have q3:=Past.at_ (Nat.lt_of_lt_of_le hbw bk.size) ((bk.cell (p:=⟨b,_,none⟩) hbw).trans d1);clear y0 y1 c0 c1 d0 d1;have p9:Past w1 w1:=Below.refl _ _
       have hne:Nonempty (In (Past w1)):=⟨⟨_,p9⟩⟩
       refine wp_region_class (Past w1) (by kernel_rfl) (by kernel_rfl) (Past.drew' p9) ?_
       repeat (any_goals (first|go_big_quiet_step ((first|(with_reducible refine quiet_eq (pin_is _ (-53) 53 _ _ P1.out))|(with_reducible refine quiet_eq (pin_is _ 0 6 _ _ P2.out))|(with_reducible refine quiet_cl Past.on (cmpDays_any (dat l t) (dat l (t-1)) _ _ HX.out))))|quiet_step ((first|(with_reducible refine quiet_eq (pin_is _ (-53) 53 _ _ P1.out))|(with_reducible refine quiet_eq (pin_is _ 0 6 _ _ P2.out))|(with_reducible refine quiet_cl Past.on (cmpDays_any (dat l t) (dat l (t-1)) _ _ HX.out))))))
       refine wpQuiet_nil ?_;rintro _ ⟨⟨w3,hb3⟩,rfl⟩
       replace hb3:Below _ _ _:=hb3
       have z3:=z1.trans (hb3.mono z1.size);clear q0 q1 q2 q3 hne p9;go_wp2
       go_roundw
       case rel=>exact⟨t+1,by omega,by go_num,Y,z3⟩
       case measure=>simp[intOf];omega
      ·have s5:decide (0<t)=true:=decide_eq_true (by omega)
       have w1:IntKind.i64.wrap ((t:Int)-1)=(t:Int)-1:=IntWalk.i64_in _ (by omega)
       have w2:((t:Int)-1).toNat=t-1:=by omega
       have w3:(0:Int)<=(t:Int)-1:=by omega
       have w4:(t:Int)-1<(n:Int):=by omega
       have w5:(1:Int)<=(t:Int):=by omega
       have X2:=hid (fun (e:dlt (dat l (t-1)) (dat l t))=>X.out ⟨a1.1,a1.2,a2.1,a2.2,fun _=>e⟩);have F2:=hid (fun (e:¬dlt (dat l (t-1)) (dat l t))=>F.out (fun g=>e (g.2.2.2.2 (by omega))));have CL:=hid (cmpD_le (a:=dat l t) (b:=dat l (t-1)));clear X F a1 a2 h0 HX;obtain⟨x,hx⟩:∃x,cmpD (dat l t) (dat l (t-1))=x:=⟨_,rfl⟩;have HX:=hid hx
       by_cases q:x<=0
       ·have s6:decide (x<=0)=true:=decide_eq_true q
        have G:=hid (F2.out (CL.out.1 (by rw[hx];exact q)));clear X2 F2 CL q hx;go_wp2;generalize hw1:wr.alloc (.cells #[.int .i64 (dat l t).n,.int .i64 (dat l t).w] 109)=w1;have z1:Below w.heap.size w w1:=hw1 ▸ hB.alloc hB.size _
        have y0:w1.cell? ⟨wr.heap.size,0,none⟩=some (.int .i64 (dat l t).n):=by rw[<-hw1];simp[go_sem]
        have y1:w1.cell? ⟨wr.heap.size,1,none⟩=some (.int .i64 (dat l t).w):=by rw[<-hw1];simp[go_sem]
        have ys:wr.heap.size<w1.heap.size:=by rw[<-hw1];simp
        have bk:Below wr.heap.size wr w1:=hw1 ▸ (Below.refl _ _).alloc (Nat.le_refl _) _
        clear hw1;have q0:=Past.at_ ys y0;have q1:=Past.at_ ys y1;have q2:=Past.at_ (Nat.lt_of_lt_of_le hbw bk.size) ((bk.cell (p:=⟨b,_,none⟩) hbw).trans d0);have q3:=Past.at_ (Nat.lt_of_lt_of_le hbw bk.size) ((bk.cell (p:=⟨b,_,none⟩) hbw).trans d1);clear y0 y1 c0 c1 d0 d1;have p9:Past w1 w1:=Below.refl _ _
        have hne:Nonempty (In (Past w1)):=⟨⟨_,p9⟩⟩
        refine wp_region_class (Past w1) (by kernel_rfl) (by kernel_rfl) (Past.drew' p9) ?_
        repeat (any_goals (first|go_big_quiet_step ((first|(with_reducible refine quiet_eq (pin_is _ (-53) 53 _ _ P1.out))|(with_reducible refine quiet_eq (pin_is _ 0 6 _ _ P2.out))|(with_reducible refine quiet_cl Past.on (cmpDays_any (dat l t) (dat l (t-1)) _ _ HX.out))))|quiet_step ((first|(with_reducible refine quiet_eq (pin_is _ (-53) 53 _ _ P1.out))|(with_reducible refine quiet_eq (pin_is _ 0 6 _ _ P2.out))|(with_reducible refine quiet_cl Past.on (cmpDays_any (dat l t) (dat l (t-1)) _ _ HX.out))))))
        refine wpQuiet_nil ?_;rintro _ ⟨⟨w3,hb3⟩,rfl⟩
        replace hb3:Below _ _ _:=hb3
        have z3:=z1.trans (hb3.mono z1.size);clear q0 q1 q2 q3 hne p9;go_wp2;go_ret;exact⟨ret_bool G.out,z3⟩
       ·have s6:decide (x<=0)=false:=decide_eq_false q
        have Y:=hid (X2.out (Classical.byContradiction fun g=>q (by rw[<-hx];exact CL.out.2 g)));clear X2 F2 CL q hx;go_wp2;generalize hw1:wr.alloc (.cells #[.int .i64 (dat l t).n,.int .i64 (dat l t).w] 109)=w1;have z1:Below w.heap.size w w1:=hw1 ▸ hB.alloc hB.size _
        have y0:w1.cell? ⟨wr.heap.size,0,none⟩=some (.int .i64 (dat l t).n):=by rw[<-hw1];simp[go_sem]
        have y1:w1.cell? ⟨wr.heap.size,1,none⟩=some (.int .i64 (dat l t).w):=by rw[<-hw1];simp[go_sem]
        have ys:wr.heap.size<w1.heap.size:=by rw[<-hw1];simp
        have bk:Below wr.heap.size wr w1:=hw1 ▸ (Below.refl _ _).alloc (Nat.le_refl _) _
        clear hw1;have q0:=Past.at_ ys y0;have q1:=Past.at_ ys y1;have q2:=Past.at_ (Nat.lt_of_lt_of_le hbw bk.size) ((bk.cell (p:=⟨b,_,none⟩) hbw).trans d0);have q3:=Past.at_ (Nat.lt_of_lt_of_le hbw bk.size) ((bk.cell (p:=⟨b,_,none⟩) hbw).trans d1);clear y0 y1 c0 c1 d0 d1;have p9:Past w1 w1:=Below.refl _ _
        have hne:Nonempty (In (Past w1)):=⟨⟨_,p9⟩⟩
        refine wp_region_class (Past w1) (by kernel_rfl) (by kernel_rfl) (Past.drew' p9) ?_
        repeat (any_goals (first|go_big_quiet_step ((first|(with_reducible refine quiet_eq (pin_is _ (-53) 53 _ _ P1.out))|(with_reducible refine quiet_eq (pin_is _ 0 6 _ _ P2.out))|(with_reducible refine quiet_cl Past.on (cmpDays_any (dat l t) (dat l (t-1)) _ _ HX.out))))|quiet_step ((first|(with_reducible refine quiet_eq (pin_is _ (-53) 53 _ _ P1.out))|(with_reducible refine quiet_eq (pin_is _ 0 6 _ _ P2.out))|(with_reducible refine quiet_cl Past.on (cmpDays_any (dat l t) (dat l (t-1)) _ _ HX.out))))))
        refine wpQuiet_nil ?_;rintro _ ⟨⟨w3,hb3⟩,rfl⟩
        replace hb3:Below _ _ _:=hb3
        have z3:=z1.trans (hb3.mono z1.size);clear q0 q1 q2 q3 hne p9;go_wp2
        go_roundw
        case rel=>exact⟨t+1,by omega,by go_num,Y,z3⟩
        case measure=>simp[intOf];omega
     ·have P2:=hid (inI_no a2)
      have G:=hid (F.out (fun e=>a2 ⟨e.2.2.1,e.2.2.2.1⟩));clear X F a1 a2 HX;go_wp2;generalize hw1:wr.alloc (.cells #[.int .i64 (dat l t).n,.int .i64 (dat l t).w] 109)=w1;have z1:Below w.heap.size w w1:=hw1 ▸ hB.alloc hB.size _
      have y0:w1.cell? ⟨wr.heap.size,0,none⟩=some (.int .i64 (dat l t).n):=by rw[<-hw1];simp[go_sem]
      have y1:w1.cell? ⟨wr.heap.size,1,none⟩=some (.int .i64 (dat l t).w):=by rw[<-hw1];simp[go_sem]
      have ys:wr.heap.size<w1.heap.size:=by rw[<-hw1];simp
      have bk:Below wr.heap.size wr w1:=hw1 ▸ (Below.refl _ _).alloc (Nat.le_refl _) _
      clear hw1;have q0:=Past.at_ ys y0;have q1:=Past.at_ ys y1;have q2:=Past.at_ (Nat.lt_of_lt_of_le hbw bk.size) ((bk.cell (p:=⟨b,_,none⟩) hbw).trans d0);have q3:=Past.at_ (Nat.lt_of_lt_of_le hbw bk.size) ((bk.cell (p:=⟨b,_,none⟩) hbw).trans d1);clear y0 y1 c0 c1 d0 d1;have p9:Past w1 w1:=Below.refl _ _
      have hne:Nonempty (In (Past w1)):=⟨⟨_,p9⟩⟩
      refine wp_region_class (Past w1) (by kernel_rfl) (by kernel_rfl) (Past.drew' p9) ?_
      repeat (any_goals (first|go_big_quiet_step ((first|(with_reducible refine quiet_eq (pin_is _ (-53) 53 _ _ P1.out))|(with_reducible refine quiet_eq (pin_is _ 0 6 _ _ P2.out))|(with_reducible refine quiet_cl Past.on (cmpDays_any (dat l t) (dat l (t-1)) _ _ HX.out))))|quiet_step ((first|(with_reducible refine quiet_eq (pin_is _ (-53) 53 _ _ P1.out))|(with_reducible refine quiet_eq (pin_is _ 0 6 _ _ P2.out))|(with_reducible refine quiet_cl Past.on (cmpDays_any (dat l t) (dat l (t-1)) _ _ HX.out))))))
      refine wpQuiet_nil ?_;rintro _ ⟨⟨w3,hb3⟩,rfl⟩
      replace hb3:Below _ _ _:=hb3
      have z3:=z1.trans (hb3.mono z1.size);clear q0 q1 q2 q3 hne p9;go_wp2;go_ret;exact⟨ret_bool G.out,z3⟩
    ·have P1:=hid (inI_no a1)
     have G:=hid (F.out (fun e=>a1 ⟨e.1,e.2.1⟩));clear X F a1 HX;go_wp2;generalize hw1:wr.alloc (.cells #[.int .i64 (dat l t).n,.int .i64 (dat l t).w] 109)=w1;have z1:Below w.heap.size w w1:=hw1 ▸ hB.alloc hB.size _
     have y0:w1.cell? ⟨wr.heap.size,0,none⟩=some (.int .i64 (dat l t).n):=by rw[<-hw1];simp[go_sem]
     have y1:w1.cell? ⟨wr.heap.size,1,none⟩=some (.int .i64 (dat l t).w):=by rw[<-hw1];simp[go_sem]
     have ys:wr.heap.size<w1.heap.size:=by rw[<-hw1];simp
     have bk:Below wr.heap.size wr w1:=hw1 ▸ (Below.refl _ _).alloc (Nat.le_refl _) _
     clear hw1;have q0:=Past.at_ ys y0;have q1:=Past.at_ ys y1;have q2:=Past.at_ (Nat.lt_of_lt_of_le hbw bk.size) ((bk.cell (p:=⟨b,_,none⟩) hbw).trans d0);have q3:=Past.at_ (Nat.lt_of_lt_of_le hbw bk.size) ((bk.cell (p:=⟨b,_,none⟩) hbw).trans d1);clear y0 y1 c0 c1 d0 d1;have p9:Past w1 w1:=Below.refl _ _
     have hne:Nonempty (In (Past w1)):=⟨⟨_,p9⟩⟩
     refine wp_region_class (Past w1) (by kernel_rfl) (by kernel_rfl) (Past.drew' p9) ?_
     repeat (any_goals (first|go_big_quiet_step ((first|(with_reducible refine quiet_eq (pin_is _ (-53) 53 _ _ P1.out))|(with_reducible refine quiet_eq (pin_is _ 0 6 _ _ P2.out))|(with_reducible refine quiet_cl Past.on (cmpDays_any (dat l t) (dat l (t-1)) _ _ HX.out))))|quiet_step ((first|(with_reducible refine quiet_eq (pin_is _ (-53) 53 _ _ P1.out))|(with_reducible refine quiet_eq (pin_is _ 0 6 _ _ P2.out))|(with_reducible refine quiet_cl Past.on (cmpDays_any (dat l t) (dat l (t-1)) _ _ HX.out))))))
     refine wpQuiet_nil ?_;rintro _ ⟨⟨w3,hb3⟩,rfl⟩
     replace hb3:Below _ _ _:=hb3
     have z3:=z1.trans (hb3.mono z1.size);clear q0 q1 q2 q3 hne p9;go_wp2;go_ret;exact⟨ret_bool G.out,z3⟩
   ·obtain rfl:n=t:=by omega
    have G:=hid (dayB_all (l:=l) (by rw[<-EN.out];exact D.out) L60);clear D;go_wp2;go_ret;exact⟨ret_bool G.out,hB⟩
 ·have G:=hid (dayB_long (l:=l) (by omega))
  have i60:(60:Int)<(n:Int):=by omega
  clear h60 en
  go_enter Tryz.func157,Tryz.ntmps157
  go_wp2;go_ret;exact⟨ret_bool G.out,Below.refl _ _⟩
theorem mayDays_is (w:World) (A:Option Addr) (n c:Nat) (l:List Dy) (x:Bool) (hl:DyAt w A n l) (h1:n<=9223372036854775807) (hx:dayB l=x):
  Calls Tryz.prog 157 #[.slice A n c] w fun e w'=>e= .returned (.bool x)/\Below w.heap.size w w':=hx ▸ mayDays_any w A n c l hl h1
end Go.Proofs.YtddnnljfgfcplaaGreatDoor.Ru
set_option linter.unusedVariables false
namespace Go.Proofs.YtddnnljfgfcplaaGreatDoor.Ru
open Lib (hid)
open Go.RowKit Cv St
theorem isNumb_any (a b:Int) (x:Bool) (w:World) (hx:decide (a≠0)=x):Calls Tryz.prog 159 #[.agg #[.int .i64 a,.int .i64 b]] w fun e w'=>e= .returned (.bool x)/\Below w.heap.size w w':=by
 have t1:((a:Int) != 0)=x:=by rw[<-hx];by_cases h:a=0<;>simp[h]
 clear hx
 go_enter Tryz.func159,Tryz.ntmps159
 go_wp2
 go_ret
 exact⟨rfl,alloc_below _ _⟩
def noneN (l:List Dy) (k:Nat):Prop:=∀j,j<k->(dat l j).n=0
def IdxN (l:List Dy) (w:World) (e:Ending) (w':World):Prop:=∃i:Int,e= .returned (.int .i64 i)/\-1<=i/\(if 0<=i then true else false)=numbB l/\Below w.heap.size w w'
theorem indexF_any (w:World) (A:Option Addr) (n c:Nat) (l:List Dy) (hl:DyAt w A n l) (h1:n<=9223372036854775807):
  Calls Tryz.prog 195 #[.slice A n c,.func (.func 159) #[] #[]] w (IdxN l w):=by
 obtain⟨en,hc⟩:=hl
 have EN:=hid en
 clear en
 go_enter Tryz.func195,Tryz.ntmps195
 go_wp2
 go_loopw [8] (fun i wr=>∃t:Nat,t<=n/\i= .int .i64 t/\Hid (noneN l t)/\Below w.heap.size w wr) (fun i _=>n-(intOf i).toNat)
 case atStart=>exact⟨0,Nat.zero_le _,rfl,hid (fun j hj=>absurd hj (by omega)),Below.refl _ _⟩
 case round=>
  rename_i wr
  obtain⟨t,ht,rfl,D,hB⟩:=hrel
  by_cases hlt:t<n
  ·obtain⟨b,off,rfl,hb,hcc⟩:=hc (by omega)
   obtain⟨c0,c1⟩:=hcc t hlt
   replace c0:=(hB.cell (p:=⟨b,_,none⟩) hb).trans c0
   replace c1:=(hB.cell (p:=⟨b,_,none⟩) hb).trans c1
   have F:=hid (fun e=>numb_yes (l:=l) (j:=t) (by rw[<-EN.out];exact hlt) e);have X:=hid (fun e=>zeroTo.succ (k:=t) D.out e);obtain⟨x,hx⟩:∃x,decide ((dat l t).n≠0)=x:=⟨_,rfl⟩;have HX:=hid hx;clear hc hcc D hx;go_wp2_with fail;refine(isNumb_any _ _ x _ HX.out).mono ?_;rintro e w3 ⟨rfl,b3⟩;have hB3:=hB.trans (b3.mono hB.size);cases x
   ·have G:=hid (X.out (by have:=of_decide_eq_false HX.out;simpa using this))
    go_wp2
    go_roundw
    case rel=>exact⟨t+1,by omega,by go_num,G,hB3⟩
    case measure=>simp[intOf];omega
   ·have G:=hid (F.out (of_decide_eq_true HX.out))
    go_wp2;go_ret;exact⟨_,rfl,by omega,by rw[if_pos (by omega)];exact G.out,hB3⟩
  ·obtain rfl:n=t:=by omega
   have G:=hid (numb_no (l:=l) (by rw[<-EN.out];exact D.out));go_wp2;go_ret;exact⟨_,rfl,by omega,by rw[if_neg (by omega)];exact G.out,hB⟩
theorem containsF_any (w:World) (A:Option Addr) (n c:Nat) (l:List Dy) (x:Bool) (hl:DyAt w A n l) (h1:n<=9223372036854775807) (hx:numbB l=x):
  Calls Tryz.prog 158 #[.slice A n c,.func (.func 159) #[] #[]] w fun e w'=>e= .returned (.bool x)/\Below w.heap.size w w':=by
 have HL:=hid hl
 have HX:=hid hx
 clear hl hx
 go_enter Tryz.func158,Tryz.ntmps158
 go_wp2_with fail
 refine(indexF_any _ A n c l HL.out h1).mono ?_
 rintro e w1 ⟨i,rfl,i1,i2,b1⟩
 have I2:=hid i2
 clear i2
 by_cases h:0<=i
 ·have G:=hid (show true=x by rw[<-HX.out,<-I2.out,if_pos h])
  go_wp2;go_ret;exact⟨ret_bool G.out,b1⟩
 ·have G:=hid (show false=x by rw[<-HX.out,<-I2.out,if_neg h])
  obtain rfl:i = -1:=by omega
  go_wp2;go_ret;exact⟨ret_bool G.out,b1⟩
end Go.Proofs.YtddnnljfgfcplaaGreatDoor.Ru
