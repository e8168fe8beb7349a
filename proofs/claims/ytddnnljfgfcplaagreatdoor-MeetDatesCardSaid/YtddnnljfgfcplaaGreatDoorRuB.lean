/- Slices of numbers and of days that are read, as lists; the walks of vokref's and vokref4's small functions on them. The walks of vokref4's within, numbered, dayList. The walk of vokref's Split: a text cut at a sign. The walk of vokref.Dec, of every number. Regions that draw their order and hold calls that make memory, walked once, over a class of worlds. A rule as a value: its numbers, and its lists as slices that are read. Regions that draw their order: loads beside calls that make memory, and behind them stores into the very cells that were loaded: each such store waits for every load, so what the loads want of the world need not hold behind it. -/
import Derived.Test.YtddnnljfgfcplaaGreatDoorStW
import Derived.StillTailTactics
import Derived.Deep.DeepCutAuto
import Derived.OrdersHeld
set_option linter.unusedVariables false
namespace Go.Proofs.YtddnnljfgfcplaaGreatDoor.Ru
open Lib (hid)
open Go.RowKit Cv St
theorem no_bool {p:Prop} [Decidable p] (h:¬p):false=decide p:=(decide_eq_false h).symm
theorem yes_bool {p:Prop} [Decidable p] (h:p):true=decide p:=(decide_eq_true h).symm
theorem two_bool {a b:Bool} (h:a=true↔b=true):a=b:=Bool.eq_iff_iff.2 h
def IsAt (W:World) (A:Option Addr) (n:Nat) (l:List Int):Prop:=
 n=l.length/\(0<n->∃b off,A=some ⟨b,off,none⟩/\b<W.heap.size/\∀j,j<n->W.cell? ⟨b,off+j,none⟩=some (.int .i64 (iat l j)))
def DyAt (W:World) (A:Option Addr) (n:Nat) (l:List Dy):Prop:=
 n=l.length/\(0<n->∃b off,A=some ⟨b,off,none⟩/\b<W.heap.size/\∀j,j<n->W.cell? ⟨b,off+j*2,none⟩=some (.int .i64 (dat l j).n)/\W.cell? ⟨b,off+j*2+1,none⟩=some (.int .i64 (dat l j).w))
theorem IsAt.below {W w:World} {A:Option Addr} {n:Nat} {l:List Int} (h:IsAt W A n l) (hb:Below W.heap.size W w):IsAt w A n l:=
 ⟨h.1,fun h0=>by
  obtain⟨b,off,e,hlt,hc⟩:=h.2 h0
  exact⟨b,off,e,Nat.lt_of_lt_of_le hlt hb.size,fun j hj=>(hb.cell (p:=⟨b,_,none⟩) hlt).trans (hc j hj)⟩⟩
theorem DyAt.below {W w:World} {A:Option Addr} {n:Nat} {l:List Dy} (h:DyAt W A n l) (hb:Below W.heap.size W w):DyAt w A n l:=
 ⟨h.1,fun h0=>by
  obtain⟨b,off,e,hlt,hc⟩:=h.2 h0
  exact⟨b,off,e,Nat.lt_of_lt_of_le hlt hb.size,fun j hj=>⟨(hb.cell (p:=⟨b,_,none⟩) hlt).trans (hc j hj).1,(hb.cell (p:=⟨b,_,none⟩) hlt).trans (hc j hj).2⟩⟩⟩
theorem IsAt.nil (W:World) (A:Option Addr):IsAt W A 0 []:=⟨rfl,fun h=>absurd h (by omega)⟩
theorem DyAt.nil (W:World) (A:Option Addr):DyAt W A 0 []:=⟨rfl,fun h=>absurd h (by omega)⟩
def isTo (l m:List Int) (k:Nat):Prop:=∀j,j<k->iat l j=iat m j
theorem isTo.succ {l m:List Int} {k:Nat} (h:isTo l m k) (e:iat l k=iat m k):isTo l m (k+1):=fun j hj=>by
 by_cases c:j=k
 ·subst c;exact e
 ·exact h j (by omega)
theorem is_ext {l m:List Int} (e:l.length=m.length) (h:∀j,j<l.length->iat l j=iat m j):l=m:=by
 refine List.ext_getElem e fun i h1 h2 => ?_
 have:=h i h1
 rwa [iat_lt h1,iat_lt h2] at this
def dyTo (l m:List Dy) (k:Nat):Prop:=∀j,j<k->dat l j=dat m j
theorem dyTo.succ {l m:List Dy} {k:Nat} (h:dyTo l m k) (e:dat l k=dat m k):dyTo l m (k+1):=fun j hj=>by
 by_cases c:j=k
 ·subst c;exact e
 ·exact h j (by omega)
theorem dy_ext {l m:List Dy} (e:l.length=m.length) (h:∀j,j<l.length->dat l j=dat m j):l=m:=by
 refine List.ext_getElem e fun i h1 h2 => ?_
 have:=h i h1
 rwa [dat_lt h1,dat_lt h2] at this
theorem ints_any (w:World) (A B:Option Addr) (n c m d:Nat) (l k:List Int) (hl:IsAt w A n l) (hk:IsAt w B m k) (h1:n<=9223372036854775807) (h2:m<=9223372036854775807):
  Calls Tryz.prog 22 #[.slice A n c,.slice B m d] w fun e w'=>e= .returned (.bool (decide (l=k)))/\Below w.heap.size w w':=by
 obtain⟨en,hc⟩:=hl
 obtain⟨en2,hc2⟩:=hk
 by_cases hn:n=m
 ·subst hn
  have EN:=hid en;have EN2:=hid en2;clear en en2
  go_enter Tryz.func22,Tryz.ntmps22
  go_wp2
  go_loopw [5] (fun i wr=>∃t:Nat,t<=n/\i= .int .i64 t/\Hid (isTo l k t)/\∃q:Nat,wr=w.drewN q) (fun i _=>n-(intOf i).toNat)
  case atStart=>exact⟨0,Nat.zero_le _,rfl,hid (fun j hj=>absurd hj (by omega)),0,rfl⟩
  case round=>
   obtain⟨t,ht,rfl,D,q,rfl⟩:=hrel
   by_cases hlt:t<n
   ·obtain⟨b,off,rfl,hb,hcc⟩:=hc (by omega)
    obtain⟨b2,off2,rfl,hb2,hcc2⟩:=hc2 (by omega);have c0:=hcc t hlt;have d0:=hcc2 t hlt;clear hc hc2 hcc hcc2
    by_cases he:iat l t=iat k t
    ·have X:=hid (D.out.succ he)
     rw[<-he] at d0;clear he D;generalize iat l t=s at *;go_wp2
     go_big_quiet (fail)
     go_wp2
     go_roundw
     case rel=>exact⟨t+1,by omega,by go_num,X,_,rfl⟩
     case measure=>simp[intOf];omega
    ·have F:=hid (show false=decide (l=k) from no_bool (fun e=>he (by rw[e])))
     have e1:((iat l t:Int) != iat k t)=true:=by rw[bne_iff_ne];exact he
     clear he D;generalize iat l t=s at *;generalize iat k t=s2 at *;go_wp2
     go_big_quiet (fail)
     go_wp2;go_ret;exact⟨ret_bool F.out,(Below.drewN' _ _ _).trans (Below.drewN' _ _ _)⟩
   ·obtain rfl:n=t:=by omega
    have F:=hid (show true=decide (l=k) from yes_bool (is_ext (by rw[<-EN.out,<-EN2.out]) (by rw[<-EN.out];exact D.out)));go_wp2;go_ret;exact⟨ret_bool F.out,Below.drewN' _ _ _⟩
 ·have F:=hid (show false=decide (l=k) from no_bool (fun e=>hn (by rw[en,en2,e])))
  have t1:((n:Int) != m)=true:=by rw[bne_iff_ne];omega
  clear en en2 hc hc2 hn
  go_enter Tryz.func22,Tryz.ntmps22
  go_wp2;go_ret;exact⟨ret_bool F.out,Below.refl _ _⟩
theorem rise_adj:∀ {l:List Int},(∀j,j+1<l.length->iat l j<iat l (j+1))->l.Pairwise (· < ·)
 | [],_=>List.Pairwise.nil
 | [x],_=>by simp
 |x::y::l,h=>by
  have ih:=rise_adj (l:=y::l) fun j hj=>h (j+1) (by simpa using hj)
  have h0:x<y:=h 0 (by simp)
  rw[List.pairwise_cons] at ih ⊢;refine⟨fun z hz => ?_,List.pairwise_cons.2 ih⟩
  rcases List.mem_cons.1 hz with rfl|hz
  ·exact h0
  ·have:=ih.1 z hz;omega
theorem rise_of {l:List Int} (h:riseB l=true) {j:Nat} (hj:j+1<l.length):iat l j<iat l (j+1):=by
 have:=List.pairwise_iff_getElem.1 (of_decide_eq_true h) j (j+1) (by omega) hj (by omega)
 rwa [iat_lt (by omega),iat_lt hj]
def riseTo (l:List Int) (k:Nat):Prop:=∀j,j+1<k->iat l j<iat l (j+1)
theorem riseTo.succ {l:List Int} {k:Nat} (h:riseTo l k) (e:iat l (k-1)<iat l k):riseTo l (k+1):=fun j hj=>by
 by_cases c:j+1=k
 ·subst c;simpa using e
 ·exact h j (by omega)
theorem rises_any (w:World) (A:Option Addr) (n c:Nat) (l:List Int) (hl:IsAt w A n l) (h1:n<=9223372036854775807):
  Calls Tryz.prog 120 #[.slice A n c] w fun e w'=>e= .returned (.bool (riseB l))/\Below w.heap.size w w':=by
 obtain⟨en,hc⟩:=hl
 have EN:=hid en
 clear en
 go_enter Tryz.func120,Tryz.ntmps120
 go_wp2
 go_loopw [3] (fun i wr=>∃t:Nat,1<=t/\(t<=n\/t=1)/\i= .int .i64 t/\Hid (riseTo l t)/\∃q:Nat,wr=w.drewN q) (fun i _=>n-(intOf i).toNat)
 case atStart=>exact⟨1,Nat.le_refl _,.inr rfl,rfl,hid (fun j hj=>absurd hj (by omega)),0,rfl⟩
 case round=>
  obtain⟨t,ht1,ht,rfl,D,q,rfl⟩:=hrel
  by_cases hlt:t<n
  ·obtain⟨b,off,rfl,hb,hcc⟩:=hc (by omega)
   have c0:=hcc t hlt;have d0:=hcc (t-1) (by omega);have X:=hid (fun (e:iat l (t-1)<iat l t)=>D.out.succ e)
   have F:=hid (fun (e:¬iat l (t-1)<iat l t)=>show false=riseB l from by
    cases g:riseB l
    ·rfl
    ·have:=rise_of g (j:=t-1) (by rw[<-EN.out];omega)
     rw[show t-1+1=t from by omega] at this
     exact absurd this e)
   have w1:IntKind.i64.wrap ((t:Int)-1)=(t:Int)-1:=IntWalk.i64_in _ (by omega)
   have w2:((t:Int)-1).toNat=t-1:=by omega
   have w3:(0:Int)<=(t:Int)-1:=by omega
   have w4:(t:Int)-1<(n:Int):=by omega
   have w5:(1:Int)<=(t:Int):=by omega
   clear hc hcc D
   by_cases he:iat l (t-1)<iat l t
   ·have Y:=hid (X.out he)
    have e1:decide (iat l t<=iat l (t-1))=false:=decide_eq_false (by omega)
    clear he X F;generalize iat l t=s at *;generalize iat l (t-1)=s2 at *;go_wp2
    go_big_quiet (fail)
    go_wp2
    go_roundw
    case rel=>exact⟨t+1,by omega,.inl (by omega),by go_num,Y,_,rfl⟩
    case measure=>simp[intOf];omega
   ·have G:=hid (F.out he)
    have e1:decide (iat l t<=iat l (t-1))=true:=decide_eq_true (by omega)
    clear he X F;generalize iat l t=s at *;generalize iat l (t-1)=s2 at *;go_wp2
    go_big_quiet (fail)
    go_wp2;go_ret;exact⟨ret_bool G.out,(Below.drewN' _ _ _).trans (Below.drewN' _ _ _)⟩
  ·have F:=hid (show true=riseB l from yes_bool (rise_adj fun j hj=>D.out j (by rw[<-EN.out] at hj;omega)))
   go_wp2;go_ret;exact⟨ret_bool F.out,Below.drewN' _ _ _⟩
end Go.Proofs.YtddnnljfgfcplaaGreatDoor.Ru
namespace Go.Proofs.YtddnnljfgfcplaaGreatDoor.Ru
open Lib (hid)
open Go.RowKit Cv St
def inTo (l:List Int) (lo hi:Int) (z:Bool) (k:Nat):Prop:=∀j,j<k->lo<=iat l j/\iat l j<=hi/\(iat l j≠0\/z=true)
theorem inTo.succ {l:List Int} {lo hi:Int} {z:Bool} {k:Nat} (h:inTo l lo hi z k) (e:lo<=iat l k/\iat l k<=hi/\(iat l k≠0\/z=true)):inTo l lo hi z (k+1):=fun j hj=>by
 by_cases c:j=k
 ·subst c;exact e
 ·exact h j (by omega)
theorem inB_no {l:List Int} {lo hi:Int} {z:Bool} {k:Nat} (hk:k<l.length) (h:¬(lo<=iat l k/\iat l k<=hi/\(iat l k≠0\/z=true))):false=inB l lo hi z:=by
 unfold inB
 rw[decide_eq_false (fun g=>h (by have:=g l[k] (List.getElem_mem hk);rwa [<-iat_lt hk] at this))];rfl
theorem inB_long {l:List Int} {lo hi:Int} {z:Bool} (h:60<l.length):false=inB l lo hi z:=by
 unfold inB;rw[decide_eq_false (show ¬l.length<=60 by omega)];simp
theorem inB_yes {l:List Int} {lo hi:Int} {z:Bool} (h:inTo l lo hi z l.length) (g:l.length<=60):riseB l=inB l lo hi z:=by
 unfold inB
 rw[decide_eq_true (fun x hx=>by
  obtain⟨j,hj,e⟩:=List.getElem_of_mem hx
  have:=h j hj
  rwa [iat_lt hj,e] at this),decide_eq_true g];rfl
theorem rises_is (w:World) (A:Option Addr) (n c:Nat) (l:List Int) (x:Bool) (hl:IsAt w A n l) (h1:n<=9223372036854775807) (hx:riseB l=x):
  Calls Tryz.prog 120 #[.slice A n c] w fun e w'=>e= .returned (.bool x)/\Below w.heap.size w w':=hx ▸ rises_any w A n c l hl h1
theorem within_any (w:World) (A:Option Addr) (n c:Nat) (l:List Int) (lo hi:Int) (z:Bool) (hl:IsAt w A n l) (h1:n<=9223372036854775807):
  Calls Tryz.prog 81 #[.slice A n c,.int .i64 lo,.int .i64 hi,.bool z] w fun e w'=>e= .returned (.bool (inB l lo hi z))/\Below w.heap.size w w':=by
 have HL:=hid hl
 obtain⟨en,hc⟩:=hl
 have EN:=hid en
 clear en
 obtain⟨rb,hrb⟩:∃x,riseB l=x:=⟨_,rfl⟩
 have RB:=hid hrb
 clear hrb
 cases z
 all_goals
  go_enter Tryz.func81,Tryz.ntmps81
  go_wp2
 ·go_loop [9] (fun i=>∃t:Nat,t<=n/\i= .int .i64 t/\Hid (inTo l lo hi false t)) (fun i=>n-(intOf i).toNat)
  case atStart=>exact⟨0,Nat.zero_le _,rfl,hid (fun j hj=>absurd hj (by omega))⟩
  case round=>
   obtain⟨t,ht,rfl,D⟩:=hrel
   by_cases hlt:t<n
   ·obtain⟨b,off,rfl,hb,hcc⟩:=hc (by omega)
    have c0:=hcc t hlt;have X:=hid (fun e=>D.out.succ (k:=t) e);have F:=hid (fun e=>inB_no (l:=l) (lo:=lo) (hi:=hi) (z:=false) (k:=t) (by rw[<-EN.out];exact hlt) e);clear hc hcc D
    by_cases p1:iat l t<lo
    ·have G:=hid (F.out (by omega))
     clear X F;generalize iat l t=s at *;go_wp2;go_ret;exact⟨ret_bool G.out,Below.refl _ _⟩
    ·by_cases p2:hi<iat l t
     ·have G:=hid (F.out (by omega))
      have p1':lo<=iat l t:=by omega
      clear X F p1;generalize iat l t=s at *;go_wp2;go_ret;exact⟨ret_bool G.out,Below.refl _ _⟩
     ·by_cases p3:iat l t=0
      ·have G:=hid (F.out (by rintro⟨_,_,h|h⟩;exact h p3;cases h))
       have p1':lo<=iat l t:=by omega
       have p2':iat l t<=hi:=by omega
       have t3:((iat l t:Int)==0)=true:=by rw[beq_iff_eq];exact p3
       clear X F p1 p2 p3;generalize iat l t=s at *;go_wp2;go_ret;exact⟨ret_bool G.out,Below.refl _ _⟩
      ·have Y:=hid (X.out ⟨by omega,by omega,.inl p3⟩)
       have p1':lo<=iat l t:=by omega
       have p2':iat l t<=hi:=by omega
       have t3:((iat l t:Int)==0)=false:=by rw[beq_eq_false_iff_ne];exact p3
       clear X F p1 p2 p3;generalize iat l t=s at *;go_wp2
       go_round
       case rel=>exact⟨t+1,by omega,by go_num,Y⟩
       case measure=>simp[intOf];omega
   ·obtain rfl:n=t:=by omega
    by_cases h60:n<=60
    ·have G:=hid (inB_yes (l:=l) (lo:=lo) (hi:=hi) (z:=false) (by rw[<-EN.out];exact D.out) (by rw[<-EN.out];exact h60))
     have i60:(n:Int)<=60:=by omega
     clear h60 D;go_wp2_with fail;refine(rises_is _ A n c l _ HL.out h1 RB.out).mono ?_;rintro e w1 ⟨rfl,b1⟩;go_wp2;go_ret;exact⟨ret_bool (by rw[<-G.out,RB.out]),b1⟩
    ·have G:=hid (inB_long (l:=l) (lo:=lo) (hi:=hi) (z:=false) (by rw[<-EN.out];omega))
     have i60:(60:Int)<(n:Int):=by omega
     clear h60 D;go_wp2;go_ret;exact⟨ret_bool G.out,Below.refl _ _⟩
 ·go_loop [9] (fun i=>∃t:Nat,t<=n/\i= .int .i64 t/\Hid (inTo l lo hi true t)) (fun i=>n-(intOf i).toNat)
  case atStart=>exact⟨0,Nat.zero_le _,rfl,hid (fun j hj=>absurd hj (by omega))⟩
  case round=>
   obtain⟨t,ht,rfl,D⟩:=hrel
   by_cases hlt:t<n
   ·obtain⟨b,off,rfl,hb,hcc⟩:=hc (by omega)
    have c0:=hcc t hlt;have X:=hid (fun e=>D.out.succ (k:=t) e);have F:=hid (fun e=>inB_no (l:=l) (lo:=lo) (hi:=hi) (z:=true) (k:=t) (by rw[<-EN.out];exact hlt) e);clear hc hcc D
    by_cases p1:iat l t<lo
    ·have G:=hid (F.out (by omega))
     clear X F;generalize iat l t=s at *;go_wp2;go_ret;exact⟨ret_bool G.out,Below.refl _ _⟩
    ·by_cases p2:hi<iat l t
     ·have G:=hid (F.out (by omega))
      have p1':lo<=iat l t:=by omega
      clear X F p1;generalize iat l t=s at *;go_wp2;go_ret;exact⟨ret_bool G.out,Below.refl _ _⟩
     ·have Y:=hid (X.out ⟨by omega,by omega,.inr rfl⟩)
      have p1':lo<=iat l t:=by omega
      have p2':iat l t<=hi:=by omega
      clear X F p1 p2
      by_cases p3:iat l t=0
      ·have t3:((iat l t:Int)==0)=true:=by rw[beq_iff_eq];exact p3
       clear p3;generalize iat l t=s at *;go_wp2
       go_round
       case rel=>exact⟨t+1,by omega,by go_num,Y⟩
       case measure=>simp[intOf];omega
      ·have t3:((iat l t:Int)==0)=false:=by rw[beq_eq_false_iff_ne];exact p3
       clear p3;generalize iat l t=s at *;go_wp2
       go_round
       case rel=>exact⟨t+1,by omega,by go_num,Y⟩
       case measure=>simp[intOf];omega
   ·obtain rfl:n=t:=by omega
    by_cases h60:n<=60
    ·have G:=hid (inB_yes (l:=l) (lo:=lo) (hi:=hi) (z:=true) (by rw[<-EN.out];exact D.out) (by rw[<-EN.out];exact h60))
     have i60:(n:Int)<=60:=by omega
     clear h60 D;go_wp2_with fail;refine(rises_is _ A n c l _ HL.out h1 RB.out).mono ?_;rintro e w1 ⟨rfl,b1⟩;go_wp2;go_ret;exact⟨ret_bool (by rw[<-G.out,RB.out]),b1⟩
    ·have G:=hid (inB_long (l:=l) (lo:=lo) (hi:=hi) (z:=true) (by rw[<-EN.out];omega))
     have i60:(60:Int)<(n:Int):=by omega
     clear h60 D;go_wp2;go_ret;exact⟨ret_bool G.out,Below.refl _ _⟩
theorem numb_no {l:List Dy} (h:∀j,j<l.length->(dat l j).n=0):false=numbB l:=by
 unfold numbB
 symm
 rw[List.any_eq_false]
 intro x hx
 obtain⟨j,hj,e⟩:=List.getElem_of_mem hx
 have:=h j hj
 rw[dat_lt hj,e] at this
 simp[this]
theorem numb_yes {l:List Dy} {j:Nat} (hj:j<l.length) (h:(dat l j).n≠0):true=numbB l:=by
 unfold numbB
 symm
 rw[List.any_eq_true]
 exact⟨l[j],List.getElem_mem hj,decide_eq_true (by rwa [dat_lt hj] at h)⟩
def zeroTo (l:List Dy) (k:Nat):Prop:=∀j,j<k->(dat l j).n=0
theorem zeroTo.succ {l:List Dy} {k:Nat} (h:zeroTo l k) (e:(dat l k).n=0):zeroTo l (k+1):=fun j hj=>by
 by_cases c:j=k
 ·subst c;exact e
 ·exact h j (by omega)
theorem numbered_any (w:World) (A:Option Addr) (n c:Nat) (l:List Dy) (hl:DyAt w A n l) (h1:n<=9223372036854775807):
  Calls Tryz.prog 83 #[.slice A n c] w fun e w'=>e= .returned (.bool (numbB l))/\Below w.heap.size w w':=by
 obtain⟨en,hc⟩:=hl
 have EN:=hid en
 clear en
 go_enter Tryz.func83,Tryz.ntmps83
 go_wp2
 go_loop [3] (fun i=>∃t:Nat,t<=n/\i= .int .i64 t/\Hid (zeroTo l t)) (fun i=>n-(intOf i).toNat)
 case atStart=>exact⟨0,Nat.zero_le _,rfl,hid (fun j hj=>absurd hj (by omega))⟩
 case round=>
  obtain⟨t,ht,rfl,D⟩:=hrel
  by_cases hlt:t<n
  ·obtain⟨b,off,rfl,hb,hcc⟩:=hc (by omega)
   have c0:=(hcc t hlt).1
   by_cases p:(dat l t).n=0
   ·have Y:=hid (D.out.succ p)
    have t3:(((dat l t).n:Int) != 0)=false:=by rw[bne_eq_false_iff_eq];exact p
    clear p hcc hc D;generalize (dat l t).n=s at *;go_wp2
    go_round
    case rel=>exact⟨t+1,by omega,by go_num,Y⟩
    case measure=>simp[intOf];omega
   ·have G:=hid (numb_yes (l:=l) (j:=t) (by rw[<-EN.out];exact hlt) p)
    have t3:(((dat l t).n:Int) != 0)=true:=by rw[bne_iff_ne];exact p
    clear p hcc hc D;generalize (dat l t).n=s at *;go_wp2;go_ret;exact⟨ret_bool G.out,Below.refl _ _⟩
  ·obtain rfl:n=t:=by omega
   have G:=hid (numb_no (l:=l) (by rw[<-EN.out];exact D.out));go_wp2;go_ret;exact⟨ret_bool G.out,Below.refl _ _⟩
def dayOk (l:List Dy) (j:Nat):Prop:=-53<=(dat l j).n/\(dat l j).n<=53/\0<=(dat l j).w/\(dat l j).w<=6/\(0<j->dlt (dat l (j-1)) (dat l j))
def dayTo (l:List Dy) (k:Nat):Prop:=∀j,j<k->dayOk l j
theorem dayTo.succ {l:List Dy} {k:Nat} (h:dayTo l k) (e:dayOk l k):dayTo l (k+1):=fun j hj=>by
 by_cases c:j=k
 ·subst c;exact e
 ·exact h j (by omega)
theorem dlt_trans {a b c:Dy} (h:dlt a b) (g:dlt b c):dlt a c:=by unfold dlt at *;omega
theorem dlt_adj:∀ {l:List Dy},(∀j,j+1<l.length->dlt (dat l j) (dat l (j+1)))->l.Pairwise dlt
 | [],_=>List.Pairwise.nil
 | [x],_=>by simp
 |x::y::l,h=>by
  have ih:=dlt_adj (l:=y::l) fun j hj=>h (j+1) (by simpa using hj)
  have h0:dlt x y:=h 0 (by simp)
  rw[List.pairwise_cons] at ih ⊢;refine⟨fun z hz => ?_,List.pairwise_cons.2 ih⟩
  rcases List.mem_cons.1 hz with rfl|hz
  ·exact h0
  ·exact dlt_trans h0 (ih.1 z hz)
theorem dayB_yes {l:List Dy} (h:dayTo l l.length):decide (l.length<=60)=dayB l:=by
 unfold dayB
 rw[decide_eq_true (fun x hx=>by
  obtain⟨j,hj,e⟩:=List.getElem_of_mem hx;obtain⟨a,b,c,d,-⟩:=h j hj;rw[dat_lt hj,e] at a b c d
  exact⟨a,b,c,d⟩:∀x∈l,-53<=x.n/\x.n<=53/\0<=x.w/\x.w<=6),
  decide_eq_true (dlt_adj fun j hj=>by have:=(h (j+1) hj).2.2.2.2 (by omega);simpa using this:l.Pairwise dlt)]
 simp
theorem dayB_no {l:List Dy} {k:Nat} (hk:k<l.length) (h:¬dayOk l k):false=dayB l:=by
 cases g:dayB l
 ·rfl
 ·exfalso
  obtain⟨a,-,c⟩:=dayB_of g;refine h ?_
  have:=a l[k] (List.getElem_mem hk)
  rw[<-dat_lt hk] at this;refine⟨this.1,this.2.1,this.2.2.1,this.2.2.2,fun h0 => ?_⟩
  have:=List.pairwise_iff_getElem.1 c (k-1) k (by omega) hk (by omega)
  rwa [dat_lt (by omega),dat_lt hk]
set_option maxRecDepth 100000 in
set_option maxHeartbeats 4000000 in
theorem dayList_any (w:World) (A:Option Addr) (n c:Nat) (l:List Dy) (hl:DyAt w A n l) (h1:n<=9223372036854775807):
  Calls Tryz.prog 82 #[.slice A n c] w fun e w'=>e= .returned (.bool (dayB l))/\Below w.heap.size w w':=by
 obtain⟨en,hc⟩:=hl
 have EN:=hid en
 clear en
 go_enter Tryz.func82,Tryz.ntmps82
 go_wp2
 go_loopw [3] (fun i wr=>∃t:Nat,t<=n/\i= .int .i64 t/\Hid (dayTo l t)/\∃q:Nat,wr=w.drewN q) (fun i _=>n-(intOf i).toNat)
 case atStart=>exact⟨0,Nat.zero_le _,rfl,hid (fun j hj=>absurd hj (by omega)),0,rfl⟩
 case round=>
  obtain⟨t,ht,rfl,D,q,rfl⟩:=hrel
  by_cases hlt:t<n
  ·obtain⟨b,off,rfl,hb,hcc⟩:=hc (by omega)
   obtain⟨c0,c1⟩:=hcc t hlt;obtain⟨d0,d1⟩:=hcc (t-1) (by omega);have X:=hid (fun e=>D.out.succ (k:=t) e);have F:=hid (fun e=>dayB_no (l:=l) (k:=t) (by rw[<-EN.out];exact hlt) e);clear hc hcc D
   by_cases p1:(dat l t).n < -53
   ·have G:=hid (F.out (fun e=>by have:=e.1;omega))
    have s1:decide ((dat l t).n < -53)=true:=decide_eq_true p1
    clear X F p1 d0 d1;generalize (dat l t).n=x at *;generalize (dat l t).w=y at *;go_wp2;refine wp_region_quiet_lit (by kernel_rfl) (by kernel_rfl) ?_;simp only[List.append]
    repeat (go_big_quiet_step (fail))
    refine wpQuiet_nil ?_;rintro _ ⟨nq,rfl⟩;go_wp2;go_ret;exact⟨ret_bool G.out,(Below.drewN' _ _ _).trans (Below.drewN' _ _ _)⟩
   have s1:decide ((dat l t).n < -53)=false:=decide_eq_false p1
   by_cases p2:53<(dat l t).n
   ·have G:=hid (F.out (fun e=>by have:=e.2.1;omega))
    have s2:decide (53<(dat l t).n)=true:=decide_eq_true p2
    clear X F p1 p2 d0 d1;generalize (dat l t).n=x at *;generalize (dat l t).w=y at *;go_wp2;refine wp_region_quiet_lit (by kernel_rfl) (by kernel_rfl) ?_;simp only[List.append]
    repeat (go_big_quiet_step (fail))
    refine wpQuiet_nil ?_;rintro _ ⟨nq,rfl⟩;go_wp2;go_ret;exact⟨ret_bool G.out,(Below.drewN' _ _ _).trans (Below.drewN' _ _ _)⟩
   have s2:decide (53<(dat l t).n)=false:=decide_eq_false p2
   by_cases p3:(dat l t).w<0
   ·have G:=hid (F.out (fun e=>by have:=e.2.2.1;omega))
    have s3:decide ((dat l t).w<0)=true:=decide_eq_true p3
    clear X F p1 p2 p3 d0 d1;generalize (dat l t).n=x at *;generalize (dat l t).w=y at *;go_wp2;refine wp_region_quiet_lit (by kernel_rfl) (by kernel_rfl) ?_;simp only[List.append]
    repeat (go_big_quiet_step (fail))
    refine wpQuiet_nil ?_;rintro _ ⟨nq,rfl⟩;go_wp2;go_ret;exact⟨ret_bool G.out,(Below.drewN' _ _ _).trans (Below.drewN' _ _ _)⟩
   have s3:decide ((dat l t).w<0)=false:=decide_eq_false p3
   by_cases p4:6<(dat l t).w
   ·have G:=hid (F.out (fun e=>by have:=e.2.2.2.1;omega))
    have s4:decide (6<(dat l t).w)=true:=decide_eq_true p4
    clear X F p1 p2 p3 p4 d0 d1;generalize (dat l t).n=x at *;generalize (dat l t).w=y at *;go_wp2;refine wp_region_quiet_lit (by kernel_rfl) (by kernel_rfl) ?_;simp only[List.append]
    repeat (go_big_quiet_step (fail))
    refine wpQuiet_nil ?_;rintro _ ⟨nq,rfl⟩;go_wp2;go_ret;exact⟨ret_bool G.out,(Below.drewN' _ _ _).trans (Below.drewN' _ _ _)⟩
   have s4:decide (6<(dat l t).w)=false:=decide_eq_false p4
   by_cases h0:t=0
   ·have Y:=hid (X.out ⟨by omega,by omega,by omega,by omega,fun g=>by omega⟩)
    have s5:decide (0<t)=false:=decide_eq_false (by omega)
    clear X F p1 p2 p3 p4 d0 d1 h0;generalize (dat l t).n=x at *;generalize (dat l t).w=y at *;go_wp2;refine wp_region_quiet_lit (by kernel_rfl) (by kernel_rfl) ?_;simp only[List.append]
    repeat (go_big_quiet_step (fail))
    refine wpQuiet_nil ?_;rintro _ ⟨nq,rfl⟩;go_wp2
    go_roundw
    case rel=>exact⟨t+1,by omega,by go_num,Y,_,rfl⟩
    case measure=>simp[intOf];omega
   have s5:decide (0<t)=true:=decide_eq_true (by omega)
   have w1:IntKind.i64.wrap ((t:Int)-1)=(t:Int)-1:=IntWalk.i64_in _ (by omega)
   have w2:((t:Int)-1).toNat=t-1:=by omega
   have w3:(0:Int)<=(t:Int)-1:=by omega
   have w4:(t:Int)-1<(n:Int):=by omega
   have w5:(1:Int)<=(t:Int):=by omega
   have X2:=hid (fun (e:dlt (dat l (t-1)) (dat l t))=>X.out ⟨by omega,by omega,by omega,by omega,fun _=>e⟩);have F2:=hid (fun (e:¬dlt (dat l (t-1)) (dat l t))=>F.out (fun g=>e (g.2.2.2.2 (by omega))));clear X F p1 p2 p3 p4 h0
   by_cases q1:(dat l t).n<(dat l (t-1)).n
   ·have G:=hid (F2.out (by unfold dlt;omega))
    have s6:decide ((dat l t).n<(dat l (t-1)).n)=true:=decide_eq_true q1
    clear X2 F2 q1;generalize (dat l t).n=x at *;generalize (dat l t).w=y at *;generalize (dat l (t-1)).n=u at *;generalize (dat l (t-1)).w=v at *;go_wp2;refine wp_region_quiet_lit (by kernel_rfl) (by kernel_rfl) ?_;simp only[List.append]
    repeat (go_big_quiet_step (fail))
    refine wpQuiet_nil ?_;rintro _ ⟨nq,rfl⟩;go_wp2;go_ret;exact⟨ret_bool G.out,(Below.drewN' _ _ _).trans (Below.drewN' _ _ _)⟩
   have s6:decide ((dat l t).n<(dat l (t-1)).n)=false:=decide_eq_false q1
   by_cases q2:(dat l t).n=(dat l (t-1)).n
   ·have s7:(((dat l t).n:Int)==(dat l (t-1)).n)=true:=by rw[beq_iff_eq];exact q2
    by_cases q3:(dat l t).w<=(dat l (t-1)).w
    ·have G:=hid (F2.out (by unfold dlt;omega))
     have s8:decide ((dat l t).w<=(dat l (t-1)).w)=true:=decide_eq_true q3
     clear X2 F2 q1 q2 q3;generalize (dat l t).n=x at *;generalize (dat l t).w=y at *;generalize (dat l (t-1)).n=u at *;generalize (dat l (t-1)).w=v at *;go_wp2;refine wp_region_quiet_lit (by kernel_rfl) (by kernel_rfl) ?_;simp only[List.append]
     repeat (go_big_quiet_step (fail))
     refine wpQuiet_nil ?_;rintro _ ⟨nq,rfl⟩;go_wp2;go_ret;exact⟨ret_bool G.out,(Below.drewN' _ _ _).trans (Below.drewN' _ _ _)⟩
    ·have Y:=hid (X2.out (by unfold dlt;omega))
     have s8:decide ((dat l t).w<=(dat l (t-1)).w)=false:=decide_eq_false q3
     clear X2 F2 q1 q2 q3;generalize (dat l t).n=x at *;generalize (dat l t).w=y at *;generalize (dat l (t-1)).n=u at *;generalize (dat l (t-1)).w=v at *;go_wp2;refine wp_region_quiet_lit (by kernel_rfl) (by kernel_rfl) ?_;simp only[List.append]
     repeat (go_big_quiet_step (fail))
     refine wpQuiet_nil ?_;rintro _ ⟨nq,rfl⟩;go_wp2
     go_roundw
     case rel=>exact⟨t+1,by omega,by go_num,Y,_,rfl⟩
     case measure=>simp[intOf];omega
   ·have s7:(((dat l t).n:Int)==(dat l (t-1)).n)=false:=by rw[beq_eq_false_iff_ne];exact q2
    have Y:=hid (X2.out (by unfold dlt;omega));clear X2 F2 q1 q2;generalize (dat l t).n=x at *;generalize (dat l t).w=y at *;generalize (dat l (t-1)).n=u at *;generalize (dat l (t-1)).w=v at *;go_wp2;refine wp_region_quiet_lit (by kernel_rfl) (by kernel_rfl) ?_;simp only[List.append]
    repeat (go_big_quiet_step (fail))
    refine wpQuiet_nil ?_;rintro _ ⟨nq,rfl⟩;go_wp2
    go_roundw
    case rel=>exact⟨t+1,by omega,by go_num,Y,_,rfl⟩
    case measure=>simp[intOf];omega
  ·obtain rfl:n=t:=by omega
   have E:=dayB_yes (l:=l) (by rw[<-EN.out];exact D.out);rw[<-EN.out] at E
   by_cases h60:n<=60
   ·have G:=hid (show true=dayB l from by rw[<-E];exact yes_bool h60)
    have i60:(n:Int)<=60:=by omega
    clear h60 D E;go_wp2;go_ret;exact⟨ret_bool G.out,Below.drewN' _ _ _⟩
   ·have G:=hid (show decide ((n:Int)<=60)=dayB l from by rw[<-E,decide_eq_false h60,decide_eq_false (by omega)])
    have i60:(60:Int)<(n:Int):=by omega
    clear h60 D E;go_wp2;go_ret;exact⟨ret_bool G.out,Below.drewN' _ _ _⟩
end Go.Proofs.YtddnnljfgfcplaaGreatDoor.Ru
namespace Go.Proofs.YtddnnljfgfcplaaGreatDoor.Ru
open Go.RowKit Cv St
def str (z:List UInt8):ByteArray:=⟨z.toArray⟩
theorem str_list (s:ByteArray):str s.data.toList=s:=by cases s;simp[str]
theorem list_str (z:List UInt8):(str z).data.toList=z:=by simp[str]
theorem str_size (z:List UInt8):(str z).size=z.length:=by simp[str,ByteArray.size]
theorem size_list (s:ByteArray):s.data.toList.length=s.size:=by simp
theorem ext_str (s:ByteArray) (a b:Nat):s.extract a b=str ((s.data.toList.drop a).take (b-a)):=by
 rw[<-str_list (s.extract a b),ext_list]
def strV (s:ByteArray):Value:= .string s
def OwnT (W w:World) (v:Value) (l:List ByteArray):Prop:=w.ownsRow W.heap.size 9 1 v l.length (l.map strV)
theorem OwnT.nil (W w:World):OwnT W w (.slice none 0 0) []:=World.ownsRow_nil _ _ _ _
theorem OwnT.on {W w w':World} {v:Value} {l:List ByteArray} (h:OwnT W w v l) (hb:Below w.heap.size w w'):OwnT W w' v l:=
 World.ownsRow.kept (row:=none) h ⟨hb.1,hb.2,hb.3,hb.4,fun k hk _=>hb.5 k hk⟩ (by cases v.ownBlock<;>simp)
theorem info_str:(Tryz.prog.info? 9).map (fun i=>(i.zero,i.size,i.bytes))=some (some (.string ⟨#[]⟩),1,16):=by kernel_rfl
theorem append_line {ops:Array Oper} {rest:List Oper} {o:Oper} {a:Act} {Q:Exit->Act->World->Prop} {W w:World} (hgd:o.guard=none) (s x:Operand)
  (ho:o.op= .call { callee:= .builtin .append,args:=#[s,x],argTypes:=#[59,59] })
  (v:Value) (l:List ByteArray) (hs:a.eval s=v) (hown:OwnT W w v l) (hat:Below W.heap.size W w) (t:ByteArray) (T:TypeId) (c:Nat)
  (hx:a.eval x= .slice (some ⟨w.heap.size,0,none⟩) 1 c) (hl:l.length<=1000000)
  (h:∀v' w',OwnT W w' v' (l++[t])->Below W.heap.size W w'->wpList Tryz.prog ops Q rest (a.put o.dst v') w'):wpList Tryz.prog ops Q (o::rest) a (w.alloc (.cells #[.string t] T)):=by
 obtain⟨i0,hi,hz0,hz1,hz2⟩:=info_parts info_str
 refine wpList_append_own _ hgd s x 59 ho W.heap.size 9 i0 (.string ⟨#[]⟩) 1 16 Tryz.underlying59 hi hz0 hz1 hz2 rfl (by decide) v l.length (l.map strV) hs (World.ownsRow.alloc hown _)
  ⟨w.heap.size,0,none⟩ 1 c [.string t] hx rfl ?_ (by intro u hu;obtain rfl:u= .string t:=by simpa using hu
                                                     rfl) (by unfold maxLen;omega) (by omega) (by have:=hat.size;simp;omega) ?_
 ·intro j u hj
  cases j with
  |zero=>obtain rfl:Value.string t=u:=by simpa using hj
         show (w.alloc (.cells #[.string t] T)).cell? ⟨w.heap.size,0,none⟩=_
         rw[World.cell?_alloc_new];rfl
  |succ j=>simp at hj
 ·intro v' w' hown' hg _
  have hat1:Below W.heap.size W (w.alloc (.cells #[.string t] T)):=hat.trans ((Below.refl _ _).alloc hat.size _)
  refine h v' w' ?_ (hat1.trans ((Below.refl _ _).grown hg (by have:=hat.size;simp;omega) fun _ hk=>(World.ownsRow.lt hown _ hk).1));unfold OwnT;rw[List.length_append,List.map_append];exact hown'
def Sp (l:List UInt8) (c:UInt8) (acc:List (List UInt8)) (f t:Nat):Prop:=
 acc.length<=t/\((t<=l.length/\f<=t/\c ∉ (l.drop f).take (t-f)/\acc++cutAt c (l.drop f)=cutAt c l)\/(t=l.length+1/\acc=cutAt c l))
theorem Sp.start (l:List UInt8) (c:UInt8):Sp l c [] 0 0:=⟨Nat.le_refl _,.inl ⟨Nat.zero_le _,Nat.le_refl _,by simp,by simp⟩⟩
theorem Sp.over {l:List UInt8} {c:UInt8} {acc:List (List UInt8)} {f t:Nat} (h:Sp l c acc f t) (ht:l.length<t):acc=cutAt c l:=by
 rcases h.2 with h|h
 ·omega
 ·exact h.2
theorem Sp.le {l:List UInt8} {c:UInt8} {acc:List (List UInt8)} {f t:Nat} (h:Sp l c acc f t) (ht:t<=l.length):f<=t:=by
 rcases h.2 with h|h
 ·exact h.2.1
 ·omega
theorem drop_split {l:List UInt8} {f t:Nat} (hf:f<=t) (ht:t<l.length):l.drop f=(l.drop f).take (t-f)++l[t]::l.drop (t+1):=by
 have e:l.drop f=(l.drop f).take (t-f)++(l.drop f).drop (t-f):=(List.take_append_drop _ _).symm
 rw[List.drop_drop,show f+(t-f)=t from by omega,List.drop_eq_getElem_cons ht] at e
 exact e
theorem Sp.cut {l:List UInt8} {c:UInt8} {acc:List (List UInt8)} {f t:Nat} (h:Sp l c acc f t) (ht:t<l.length) (hc:l[t]=c):Sp l c (acc++[(l.drop f).take (t-f)]) (t+1) (t+1):=by
 rcases h.2 with ⟨-,h2,h3,h4⟩|g
 ·refine⟨by rw[List.length_append];have:=h.1;simp;omega,.inl ⟨by omega,Nat.le_refl _,by simp,?_⟩⟩
  rw[<-h4,List.append_assoc]
  conv=>rhs;rw[drop_split h2 ht,hc,cutAt_app h3]
  rfl
 ·omega
theorem Sp.last {l:List UInt8} {c:UInt8} {acc:List (List UInt8)} {f:Nat} (h:Sp l c acc f l.length):Sp l c (acc++[(l.drop f).take (l.length-f)]) (l.length+1) (l.length+1):=by
 rcases h.2 with ⟨-,h2,h3,h4⟩|g
 ·refine⟨by rw[List.length_append];have:=h.1;simp;omega,.inr ⟨rfl,?_⟩⟩
  have e:(l.drop f).take (l.length-f)=l.drop f:=List.take_of_length_le (by rw[List.length_drop];omega)
  rw[e] at h3 ⊢;rw[<-h4,cutAt_one h3]
 ·omega
def SplitPost (W:World) (s:ByteArray) (c:UInt8) (e:Ending) (w':World):Prop:=
 ∃v,e= .returned v/\OwnT W w' v ((cutAt c s.data.toList).map str)/\Below W.heap.size W w'
end Go.Proofs.YtddnnljfgfcplaaGreatDoor.Ru
namespace Go.Proofs.YtddnnljfgfcplaaGreatDoor.Ru
open Go.RowKit Cv St
end Go.Proofs.YtddnnljfgfcplaaGreatDoor.Ru
namespace Go.Proofs.YtddnnljfgfcplaaGreatDoor.Ru
open Go.RowKit Cv St
structure In (K:World->Prop) where
 w:World
 h:K w
theorem wp_region_class (K:World->Prop) {P:Program} {id:Nat} {Q:Exit->Act->World->Prop} {a:Act} {w:World} {l:List Oper} (hm:P.follows .mixedOrders=true) (hB:Region.lexB .any l.toArray=true) (hd:K w.drew)
  (h:wpQuiet P l.toArray (fun w'=>∃n:In K,w'=n.w) (fun a'=>∀w',(∃n:In K,w'=n.w)->Q .normal a' w') l a):(Code.region id l.toArray true).wp P Q a w:=
 wp_region_quiet (C:=fun w'=>∃n:In K,w'=n.w) hm hB ⟨⟨_,hd⟩,rfl⟩ (by simpa using h)
theorem quiet_cl {K:World->Prop} {P:Program} {f:FuncId} {args:Array Value} {n:In K} {v:Value} (hK:∀w w',K w->Below w.heap.size w w'->K w') (h:Calls P f args n.w fun e w'=>e= .returned v/\Below n.w.heap.size n.w w'):
  Calls P f args n.w fun e w''=>e= .returned v/\∃m:In K,w''=m.w:=
 h.mono fun e w' ⟨he,hb⟩=>⟨he,⟨w',hK _ _ n.h hb⟩,rfl⟩
theorem quiet_eq {K:World->Prop} {P:Program} {f:FuncId} {args:Array Value} {n:In K} {v:Value} (h:Calls P f args n.w fun e w'=>e= .returned v/\n.w=w'):
  Calls P f args n.w fun e w''=>e= .returned v/\∃m:In K,w''=m.w:=
 h.mono fun e w' ⟨he,hb⟩=>⟨he,n,hb.symm⟩
def Past (W w:World):Prop:=Below W.heap.size W w
theorem Past.on {W:World}:∀w w',Past W w->Below w.heap.size w w'->Past W w':=fun w w' h hb=>Below.trans h (hb.mono h.size)
theorem Past.drew' {W w:World} (h:Past W w):Past W w.drew:=Below.trans h ((Below.refl _ _).drew)
theorem Past.at_ {W:World} {b o:Nat} {u:Value} (hb:b<W.heap.size) (hc:W.cell? ⟨b,o,none⟩=some u) (v:In (Past W)):v.w.cell? ⟨b,o,none⟩=some u:=
 (Below.cell (p:=⟨b,o,none⟩) (show Below _ _ _ from v.h) hb).trans hc
theorem IsAt.past {W:World} {A:Option Addr} {n:Nat} {l:List Int} (h:IsAt W A n l) (v:In (Past W)):IsAt v.w A n l:=h.below (show Below _ _ _ from v.h)
theorem DyAt.past {W:World} {A:Option Addr} {n:Nat} {l:List Dy} (h:DyAt W A n l) (v:In (Past W)):DyAt v.w A n l:=h.below (show Below _ _ _ from v.h)
end Go.Proofs.YtddnnljfgfcplaaGreatDoor.Ru
namespace Go.Proofs.YtddnnljfgfcplaaGreatDoor.Ru
open Go.RowKit Cv St
structure RS where
 a6:Option Addr
 n6:Nat
 c6:Nat
 a7:Option Addr
 n7:Nat
 c7:Nat
 a8:Option Addr
 n8:Nat
 c8:Nat
 a9:Option Addr
 n9:Nat
 c9:Nat
 a10:Option Addr
 n10:Nat
 c10:Nat
 a11:Option Addr
 n11:Nat
 c11:Nat
 a12:Option Addr
 n12:Nat
 c12:Nat
 a13:Option Addr
 n13:Nat
 c13:Nat
 a14:Option Addr
 n14:Nat
 c14:Nat
def RS.cells (S:RS) (r:Ru):Array Value:=#[.int .i64 r.freq,.int .i64 r.itv,.int .i64 r.cnt,.int .i64 r.til,.int .i64 r.wkst,.bool r.ends,.slice S.a6 S.n6 S.c6,.slice S.a7 S.n7 S.c7,.slice S.a8 S.n8 S.c8,.slice S.a9 S.n9 S.c9,.slice S.a10 S.n10 S.c10,.slice S.a11 S.n11 S.c11,.slice S.a12 S.n12 S.c12,.slice S.a13 S.n13 S.c13,.slice S.a14 S.n14 S.c14]
def RS.val (S:RS) (r:Ru):Value:= .agg (S.cells r)
structure RuAt (W:World) (S:RS) (r:Ru):Prop where
 h6:IsAt W S.a6 S.n6 r.mon
 h7:IsAt W S.a7 S.n7 r.week
 h8:IsAt W S.a8 S.n8 r.yday
 h9:IsAt W S.a9 S.n9 r.mday
 h10:DyAt W S.a10 S.n10 r.day
 h11:IsAt W S.a11 S.n11 r.hour
 h12:IsAt W S.a12 S.n12 r.minu
 h13:IsAt W S.a13 S.n13 r.sec
 h14:IsAt W S.a14 S.n14 r.pos
 l6:S.n6<=140737488355328
 l7:S.n7<=140737488355328
 l8:S.n8<=140737488355328
 l9:S.n9<=140737488355328
 l10:S.n10<=140737488355328
 l11:S.n11<=140737488355328
 l12:S.n12<=140737488355328
 l13:S.n13<=140737488355328
 l14:S.n14<=140737488355328
theorem RuAt.below {W w:World} {S:RS} {r:Ru} (h:RuAt W S r) (hb:Below W.heap.size W w):RuAt w S r:=
 ⟨h.h6.below hb,h.h7.below hb,h.h8.below hb,h.h9.below hb,h.h10.below hb,h.h11.below hb,h.h12.below hb,h.h13.below hb,h.h14.below hb,h.l6,h.l7,h.l8,h.l9,h.l10,h.l11,h.l12,h.l13,h.l14⟩
def Box (v:World) (g:Nat) (cs:Array Value):Prop:=g<v.heap.size/\∀k u,cs[k]? = some u->v.cell? ⟨g,k,none⟩=some u
theorem Box.new (w:World) (cs:Array Value) (T:TypeId):Box (w.alloc (.cells cs T)) w.heap.size cs:=
 ⟨by simp,fun k u h=>by rw[World.cell?_alloc_new];exact h⟩
theorem Box.below {v v':World} {g:Nat} {cs:Array Value} (h:Box v g cs) (hb:Below v.heap.size v v'):Box v' g cs:=
 ⟨Nat.lt_of_lt_of_le h.1 hb.size,fun k u hk=>(hb.cell (p:=⟨g,k,none⟩) h.1).trans (h.2 k u hk)⟩
theorem Box.past {v:World} {g:Nat} {cs:Array Value} (h:Box v g cs) (x:In (Past v)):Box x.w g cs:=h.below (show Below _ _ _ from x.h)
theorem Box.at_ {v:World} {g:Nat} {cs:Array Value} (h:Box v g cs) (k:Nat) (u:Value) (hk:cs[k]? = some u):v.cell? ⟨g,k,none⟩=some u:=h.2 k u hk
theorem alloc_below (w:World) (o:Obj):Below w.heap.size w (w.alloc o):=(Below.refl _ _).alloc (Nat.le_refl _) _
theorem box_new (w:World) (cs:Array Value) (T:TypeId):Below w.heap.size w (w.alloc (.cells cs T))/\Box (w.alloc (.cells cs T)) w.heap.size cs:=⟨alloc_below _ _,Box.new _ _ _⟩
theorem cells15 {w:World} {g:Nat} {a0 a1 a2 a3 a4 a5 a6 a7 a8 a9 a10 a11 a12 a13 a14:Value} (X:Box w g #[a0,a1,a2,a3,a4,a5,a6,a7,a8,a9,a10,a11,a12,a13,a14]):w.cell? ⟨g,0,none⟩=some a0/\w.cell? ⟨g,1,none⟩=some a1/\w.cell? ⟨g,2,none⟩=some a2/\w.cell? ⟨g,3,none⟩=some a3/\w.cell? ⟨g,4,none⟩=some a4/\w.cell? ⟨g,5,none⟩=some a5/\w.cell? ⟨g,6,none⟩=some a6/\w.cell? ⟨g,7,none⟩=some a7/\w.cell? ⟨g,8,none⟩=some a8/\w.cell? ⟨g,9,none⟩=some a9/\w.cell? ⟨g,10,none⟩=some a10/\w.cell? ⟨g,11,none⟩=some a11/\w.cell? ⟨g,12,none⟩=some a12/\w.cell? ⟨g,13,none⟩=some a13/\w.cell? ⟨g,14,none⟩=some a14:=
 ⟨X.at_ 0 _ rfl,X.at_ 1 _ rfl,X.at_ 2 _ rfl,X.at_ 3 _ rfl,X.at_ 4 _ rfl,X.at_ 5 _ rfl,X.at_ 6 _ rfl,X.at_ 7 _ rfl,X.at_ 8 _ rfl,X.at_ 9 _ rfl,X.at_ 10 _ rfl,X.at_ 11 _ rfl,X.at_ 12 _ rfl,X.at_ 13 _ rfl,X.at_ 14 _ rfl⟩
end Go.Proofs.YtddnnljfgfcplaaGreatDoor.Ru
namespace Go.Proofs.YtddnnljfgfcplaaGreatDoor.Ru
open Go.RowKit
section
variable {P:Program} {ops:Array Oper} {Q:Exit->Act->World->Prop} {md:Region.Mode} {S:World->Prop} {late:Nat->Bool}
def Late (P:Program) (md:Region.Mode) (ops:Array Oper) (Q:Exit->Act->World->Prop) (S:World->Prop) (late:Nat->Bool) (g:Nat) (listed:Array Bool) (a:Act) (w:World):Prop:=
 match g with
 |0=>Region.ready md ops listed=[]/\Q .normal a w
 |g+1=>(Region.ready md ops listed=[]->Q .normal a w)/\
  ∀k,k∈Region.ready md ops listed->wpOp P ops Q k (fun b v=>(late k=true\/S v)/\Late P md ops Q S late g (listed.setIfInBounds k true) b v) a w
theorem Late.any:∀(g:Nat) {listed:Array Bool} {a:Act} {w:World},Late P md ops Q S late g listed a w->wpAny P md ops Q g listed a w
 |0,_,_,_,h=>by unfold Late at h;exact h
 |g+1,_,_,_,h=>by
  unfold Late at h;exact⟨h.1,fun k hk=>wpOp_mono (fun b v q=>Late.any g q.2) (h.2 k hk)⟩
def waitsB (md:Region.Mode) (ops:Array Oper) (late:Nat->Bool) (i:Nat):Bool:=
 (List.range ops.size).all fun j => !late j||((ops[j]?).map fun o=>o.after.any fun e=>Region.binds md e&&e.on==i).getD false
theorem waits_of {i j:Nat} {o:Oper} (h:waitsB md ops late i=true) (ho:ops[j]? = some o) (hl:late j=true):∃e∈o.after,Region.binds md e=true/\e.on=i:=by
 have hj:j<ops.size:=(Array.getElem?_eq_some_iff.1 ho).1
 have:=List.all_eq_true.1 h j (List.mem_range.2 hj)
 rw[hl,ho] at this
 simp only[Bool.not_true,Bool.false_or,Option.map_some,Option.getD_some,Array.any_eq_true'] at this
 obtain⟨e,he,h2⟩:=this
 rw[Bool.and_eq_true] at h2
 exact⟨e,he,h2.1,by simpa using h2.2⟩
theorem Late.ahead {i:Nat} {o:Oper} {v:Value} (ho:ops[i]? = some o) (nosel:∀(j:Nat) (u:Oper) cs b,ops[j]? = some u->u.op≠.select cs b)
  (pan:∀c a w,Q (.panic c) (a.put o.dst v) w->Q (.panic c) a w) (wait:waitsB md ops late i=true) (g:Nat):
  ∀ {listed:Array Bool} {a:Act} {w:World},(∀j u,ops[j]? = some u->j≠i->listed.getD j true=false->(∀e∈u.after,Region.binds md e=true->e.on≠i)->o.apart ops u=true)->
    i∈Region.ready md ops listed->YieldsIf P ops S o v a->S w->Late P md ops Q S late g (listed.setIfInBounds i true) (a.put o.dst v) w->Late P md ops Q S late (g+1) listed a w:=by
 induction g with
 |zero=>
  intro listed a w free rd yi hS H;unfold Late;refine⟨fun e=>absurd rd (by rw[e];simp),fun j hj => ?_⟩
  by_cases e:j=i
  ·subst e;exact yi.wpOp ho hS ⟨.inr hS,H⟩
  ·unfold Late at H
   have r:=ready_mono hj e;rw[H.1] at r;cases r
 |succ g ih=>
  intro listed a w free rd yi hS H;unfold Late;refine⟨fun e=>absurd rd (by rw[e];simp),fun j hj => ?_⟩
  by_cases e:j=i
  ·subst e;exact yi.wpOp ho hS ⟨.inr hS,H⟩
  ·have H0:=H
   unfold Late at H0;obtain⟨open_,u,hu,met⟩:=mem_ready.1 hj
   have off:∀x∈u.after,Region.binds md x=true->x.on≠i:=fun x hx hb q=>by
    have m:=met x hx hb;rw[q] at m;have op:=(mem_ready.1 rd).1
    rcases Nat.lt_or_ge i listed.size with lt|ge
    ·simp[lt] at m op;rw[m] at op;cases op
    ·simp[Array.getElem?_eq_none ge] at m
   have early:late j=false:=by
    cases q:late j
    ·rfl
    ·obtain⟨x,hx,hb,z⟩:=waits_of wait hu q
     exact absurd z (off x hx hb)
   have step:=wpOp_putIf hu (free j u hu e open_ off) (fun cs b=>nosel i o cs b ho) (fun cs b=>nosel j u cs b hu) pan yi (H0.2 j (ready_mono hj e));refine wpOp_mono (fun b v' q => ?_) step
   have hS2:S v':=by
    rcases q.2.1 with z|z
    ·rw[early] at z;cases z
    ·exact z
   refine⟨.inr hS2,ih (fun k x hx ki un no=>free k x hx ki ?_ no) (ready_mono rd (Ne.symm e)) q.1 hS2 (by rw[Array.setIfInBounds_comm _ _ e];exact q.2.2)⟩
   by_cases jk:j=k
   ·subst jk;exact open_
   ·rw[getD_set_ne true jk] at un;exact un
theorem Late.take (i:Nat) {o:Oper} (v:Value) {g:Nat} {listed:Array Bool} {a:Act} {w:World} (ho:ops[i]? = some o) (hs:Region.noSelect ops=true) (hf:Region.free md ops listed i=true) (hr:(Region.ready md ops listed).contains i=true)
  (hw:waitsB md ops late i=true) (pan:∀c a w,Q (.panic c) (a.put o.dst v) w->Q (.panic c) a w) (hy:YieldsIf P ops S o v a) (hS:S w) (h:Late P md ops Q S late g (listed.setIfInBounds i true) (a.put o.dst v) w):Late P md ops Q S late (g+1) listed a w:=
 Late.ahead ho (Region.noSelect_spec hs) pan hw g (Region.free_spec ho hf) (by simpa using hr) hy hS h
theorem Late.one (i:Nat) {o:Oper} {g:Nat} {listed:Array Bool} {a:Act} {w:World} (ho:ops[i]? = some o) (hr:Region.ready md ops listed=[i]) (hg:o.guard=none)
  (h:Oper.wp P o a w (fun b v=>(late i=true\/S v)/\Late P md ops Q S late g (listed.setIfInBounds i true) b v) Q):Late P md ops Q S late (g+1) listed a w:=by
 unfold Late
 refine⟨fun e=>absurd (hr ▸ e) (by simp),fun k hk => ?_⟩
 rw[hr] at hk
 obtain rfl:=List.mem_singleton.1 hk
 unfold wpOp
 simp only[ho]
 rw[if_pos (by simp[Region.wanted,hg])]
 exact .inl h
theorem Late.done {g:Nat} {listed:Array Bool} {a:Act} {w:World} (hr:Region.ready md ops listed=[]) (h:Q .normal a w):Late P md ops Q S late g listed a w:=by
 cases g with
 |zero=>unfold Late;exact⟨hr,h⟩
 |succ g=>unfold Late;exact⟨fun _=>h,by rw[hr];simp⟩
theorem wp_region_late {id:Nat} {a:Act} {w:World} (late:Nat->Bool) (S:World->Prop) (hm:P.follows .mixedOrders=true) (h:Late P .any ops Q S late ops.size (Array.replicate ops.size false) a w.drew):(Code.region id ops true).wp P Q a w:=
 wp_region_any hm (Late.any _ h)
end
end Go.Proofs.YtddnnljfgfcplaaGreatDoor.Ru
