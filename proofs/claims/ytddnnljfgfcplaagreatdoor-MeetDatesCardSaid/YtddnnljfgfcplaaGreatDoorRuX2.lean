/- RuX2 -/
import Derived.Test.YtddnnljfgfcplaaGreatDoorRuB
set_option maxRecDepth 100000
set_option linter.unusedVariables false
namespace Go.Proofs.YtddnnljfgfcplaaGreatDoor.Ru
open Lib (hid)
open Go.RowKit Cv St
def Drawn (w w':World):Prop:=∃q,w'=w.drewN q
theorem drawn_0 (w:World):Drawn w w:=⟨0,rfl⟩
theorem drawn_1 (w:World) (a:Nat):Drawn w (w.drewN a):=⟨a,rfl⟩
theorem drawn_2 (w:World) (a b:Nat):Drawn w ((w.drewN a).drewN b):=⟨a+b,World.drewN_drewN _ _ _⟩
theorem equalI_d (w:World) (A B:Option Addr) (n c m d:Nat) (l k:List Int) (x:Bool) (hl:IsAt w A n l) (hk:IsAt w B m k) (h1:n<=9223372036854775807) (h2:m<=9223372036854775807) (hx:decide (l=k)=x):
  Calls Tryz.prog 38 #[.slice A n c,.slice B m d] w fun e w'=>e= .returned (.bool x)/\Drawn w w':=by
 have HX:=hid hx
 clear hx
 obtain⟨en,hc⟩:=hl
 obtain⟨en2,hc2⟩:=hk
 by_cases hn:n=m
 ·subst hn
  have EN:=hid en;have EN2:=hid en2;clear en en2
  go_enter Tryz.func38,Tryz.ntmps38
  go_wp2
  go_loopw [13] (fun i wr=>∃t:Nat,t<=n/\i= .int .i64 t/\Hid (isTo l k t)/\∃q:Nat,wr=w.drewN q) (fun i _=>n-(intOf i).toNat)
  case atStart=>exact⟨0,Nat.zero_le _,rfl,hid (fun j hj=>absurd hj (by omega)),0,rfl⟩
  case round=>
   obtain⟨t,ht,rfl,D,q,rfl⟩:=hrel
   by_cases hlt:t<n
   ·obtain⟨b,off,rfl,hb,hcc⟩:=hc (by omega)
    obtain⟨b2,off2,rfl,hb2,hcc2⟩:=hc2 (by omega);have c0:=hcc t hlt;have d0:=hcc2 t hlt;clear hc hc2 hcc hcc2
    by_cases he:iat l t=iat k t
    ·have X:=hid (D.out.succ he)
     rw[<-he] at d0;clear he D;generalize iat l t=s at *;go_wp2
     go_big_quiet (fail)
     go_wp2
     go_roundw
     case rel=>exact⟨t+1,by omega,by go_num,X,_,rfl⟩
     case measure=>simp[intOf];omega
    ·have F:=hid (show false=x by rw[<-HX.out];exact no_bool (fun e=>he (by rw[e])))
     have e1:((iat l t:Int) != iat k t)=true:=by rw[bne_iff_ne];exact he
     clear he D;generalize iat l t=s at *;generalize iat k t=s2 at *;go_wp2
     go_big_quiet (fail)
     go_wp2;go_ret;exact⟨ret_bool F.out,drawn_2 _ _ _⟩
   ·obtain rfl:n=t:=by omega
    have F:=hid (show true=x by rw[<-HX.out];exact yes_bool (is_ext (by rw[<-EN.out,<-EN2.out]) (by rw[<-EN.out];exact D.out)));go_wp2;go_ret;exact⟨ret_bool F.out,drawn_1 _ _⟩
 ·have F:=hid (show false=x by rw[<-HX.out];exact no_bool (fun e=>hn (by rw[en,en2,e])))
  have t1:((n:Int) != m)=true:=by rw[bne_iff_ne];omega
  clear en en2 hc hc2 hn
  go_enter Tryz.func38,Tryz.ntmps38
  go_wp2;go_ret;exact⟨ret_bool F.out,drawn_0 _⟩
theorem equalD_d (w:World) (A B:Option Addr) (n c m d:Nat) (l k:List Dy) (x:Bool) (hl:DyAt w A n l) (hk:DyAt w B m k) (h1:n<=9223372036854775807) (h2:m<=9223372036854775807) (hx:decide (l=k)=x):
  Calls Tryz.prog 80 #[.slice A n c,.slice B m d] w fun e w'=>e= .returned (.bool x)/\Drawn w w':=by
 have HX:=hid hx
 clear hx
 obtain⟨en,hc⟩:=hl
 obtain⟨en2,hc2⟩:=hk
 by_cases hn:n=m
 ·subst hn
  have EN:=hid en;have EN2:=hid en2;clear en en2
  go_enter Tryz.func80,Tryz.ntmps80
  go_wp2
  go_loopw [13] (fun i wr=>∃t:Nat,t<=n/\i= .int .i64 t/\Hid (dyTo l k t)/\∃q:Nat,wr=w.drewN q) (fun i _=>n-(intOf i).toNat)
  case atStart=>exact⟨0,Nat.zero_le _,rfl,hid (fun j hj=>absurd hj (by omega)),0,rfl⟩
  case round=>
   obtain⟨t,ht,rfl,D,q,rfl⟩:=hrel
   by_cases hlt:t<n
   ·obtain⟨b,off,rfl,hb,hcc⟩:=hc (by omega)
    obtain⟨b2,off2,rfl,hb2,hcc2⟩:=hc2 (by omega);obtain⟨c0,c1⟩:=hcc t hlt;obtain⟨d0,d1⟩:=hcc2 t hlt;clear hc hc2 hcc hcc2;have X:=hid (fun (e1:(dat l t).n=(dat k t).n) (e2:(dat l t).w=(dat k t).w)=>D.out.succ (by cases h1:dat l t;cases h2:dat k t;rw[h1,h2] at e1 e2;simp only at e1 e2;rw[e1,e2]));have F1:=hid (fun (h:(dat l t).n≠(dat k t).n)=>show false=x by rw[<-HX.out];exact no_bool (fun e=>h (by rw[e])));have F2:=hid (fun (h:(dat l t).w≠(dat k t).w)=>show false=x by rw[<-HX.out];exact no_bool (fun e=>h (by rw[e])));clear D
    by_cases p1:(dat l t).n=(dat k t).n
    ·have s1:(((dat l t).n:Int) != (dat k t).n)=false:=by rw[bne_eq_false_iff_eq];exact p1
     have s1':(((dat l t).n:Int)==(dat k t).n)=true:=by rw[beq_iff_eq];exact p1
     by_cases p2:(dat l t).w=(dat k t).w
     ·have s2:(((dat l t).w:Int) != (dat k t).w)=false:=by rw[bne_eq_false_iff_eq];exact p2
      have s2':(((dat l t).w:Int)==(dat k t).w)=true:=by rw[beq_iff_eq];exact p2
      have Y:=hid (X.out p1 p2);clear p1 p2 X F1 F2;go_wp2
      go_big_quiet (fail)
      go_wp2
      go_roundw
      case rel=>exact⟨t+1,by omega,by go_num,Y,_,rfl⟩
      case measure=>simp[intOf];omega
     ·have s2:(((dat l t).w:Int) != (dat k t).w)=true:=by rw[bne_iff_ne];exact p2
      have s2':(((dat l t).w:Int)==(dat k t).w)=false:=by rw[beq_eq_false_iff_ne];exact p2
      have F:=hid (F2.out p2);clear p1 p2 X F1 F2;go_wp2
      go_big_quiet (fail)
      go_wp2;go_ret;exact⟨ret_bool F.out,drawn_2 _ _ _⟩
    ·have s1:(((dat l t).n:Int) != (dat k t).n)=true:=by rw[bne_iff_ne];exact p1
     have s1':(((dat l t).n:Int)==(dat k t).n)=false:=by rw[beq_eq_false_iff_ne];exact p1
     have F:=hid (F1.out p1);clear p1 X F1 F2;go_wp2
     go_big_quiet (fail)
     go_wp2;go_ret;exact⟨ret_bool F.out,drawn_2 _ _ _⟩
   ·obtain rfl:n=t:=by omega
    have F:=hid (show true=x by rw[<-HX.out];exact yes_bool (dy_ext (by rw[<-EN.out,<-EN2.out]) (by rw[<-EN.out];exact D.out)));go_wp2;go_ret;exact⟨ret_bool F.out,drawn_1 _ _⟩
 ·have F:=hid (show false=x by rw[<-HX.out];exact no_bool (fun e=>hn (by rw[en,en2,e])))
  have t1:((n:Int) != m)=true:=by rw[bne_iff_ne];omega
  clear en en2 hc hc2 hn
  go_enter Tryz.func80,Tryz.ntmps80
  go_wp2;go_ret;exact⟨ret_bool F.out,drawn_0 _⟩
theorem ru_eq (r q:Ru):decide (r=q)=(decide (r.freq=q.freq)&&decide (r.itv=q.itv)&&decide (r.cnt=q.cnt)&&decide (r.til=q.til)&&decide (r.wkst=q.wkst)&&decide (r.ends=q.ends)&&decide (r.mon=q.mon)&&decide (r.week=q.week)&&decide (r.yday=q.yday)&&decide (r.mday=q.mday)&&decide (r.day=q.day)&&decide (r.hour=q.hour)&&decide (r.minu=q.minu)&&decide (r.sec=q.sec)&&decide (r.pos=q.pos)):=by
 cases r;cases q
 simp only[Ru.mk.injEq,Bool.decide_and]
 simp only[Bool.and_assoc]
end Go.Proofs.YtddnnljfgfcplaaGreatDoor.Ru
