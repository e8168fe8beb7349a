/- The walks of package days' small functions: a day's date, a list asked, a year's length, a week's start. The walks of package days' fitsWeek, fitsPlaces, fitsDay, fitsStart. The walks of package days' fitsDay, fitsStart and Fits. The walks of package days' fitsStart and Fits. The walk of days.Fits. -/
import Derived.Test.YtddnnljfgfcplaaGreatDoorRpFG
set_option maxRecDepth 100000
set_option maxHeartbeats 8000000
set_option linter.unusedVariables false
namespace Go.Proofs.YtddnnljfgfcplaaGreatDoor.Dd
open Lib (hid)
open Go.RowKit Cv St Ru
def dcells (n:Int):Array Value:=#[.int .i64 (yr n),.int .i64 (mon n),.int .i64 (dom n),.int .i64 (yd n),.int .i64 (wd n)]
theorem dateOf_yes (n:Int) (w:World) (h1:-719162<=n) (h2:n<=2932896):
  Calls Tryz.prog 252 #[.int .i64 n] w fun e w'=>e= .returned (.tuple #[.agg (dcells n),.bool true])/\Below w.heap.size w w':=by
 go_enter Tryz.func252,Tryz.ntmps252
 go_wp2_with (first
  | (go_at_call 66;refine(date_yes _ _ h1 h2).mono ?_;rintro e w' ⟨rfl,rfl⟩)
  | (go_at_call 180;refine(yearDay_yes _ _ h1 h2).mono ?_;rintro e w' ⟨rfl,rfl⟩)
  | (go_at_call 227;refine(weekday_any _ _).mono ?_;rintro e w' ⟨rfl,rfl⟩))
 exact bodyPost_ret (v:= .tuple #[.agg (dcells n),.bool true]) (by simp[results,Tryz.results252,go_sem,dcells,yd]) rfl ⟨rfl,alloc_below _ _⟩
theorem dateOf_no (n:Int) (w:World) (h:¬(-719162<=n/\n<=2932896)):
  Calls Tryz.prog 252 #[.int .i64 n] w fun e w'=>e= .returned (.tuple #[.agg #[.int .i64 0,.int .i64 0,.int .i64 0,.int .i64 0,.int .i64 0],.bool false])/\Below w.heap.size w w':=by
 have H:=hid h
 clear h
 go_enter Tryz.func252,Tryz.ntmps252
 go_wp2_with (go_at_call 66;refine(date_no _ _ H.out).mono ?_;rintro e w' ⟨rfl,rfl⟩)
 exact bodyPost_ret (v:= .tuple #[.agg #[.int .i64 0,.int .i64 0,.int .i64 0,.int .i64 0,.int .i64 0],.bool false]) (by simp[results,Tryz.results252,go_sem]) rfl ⟨rfl,alloc_below _ _⟩
theorem ylen_any (y:Int) (w:World):
  Calls Tryz.prog 272 #[.int .i64 y] w fun e w'=>e= .returned (.int .i64 (ylen y))/\w=w':=by
 cases h:leap y
 ·have G:=hid (show (365:Int)=ylen y by simp[ylen,lp,h])
  go_enter Tryz.func272,Tryz.ntmps272
  go_wp2_with (go_at_call 148;refine(leap_no _ _ h).mono ?_;rintro e w' ⟨rfl,rfl⟩)
  go_ret;exact⟨ret_int G.out,rfl⟩
 ·have G:=hid (show (366:Int)=ylen y by simp[ylen,lp,h])
  go_enter Tryz.func272,Tryz.ntmps272
  go_wp2_with (go_at_call 148;refine(leap_yes _ _ h).mono ?_;rintro e w' ⟨rfl,rfl⟩)
  go_ret;exact⟨ret_int G.out,rfl⟩
theorem wst_any (n k:Int) (w:World) (h1:-719162<=n) (h2:n<=2932896) (k1:0<=k) (k2:k<=6):
  Calls Tryz.prog 253 #[.int .i64 n,.int .i64 k] w fun e w'=>e= .returned (.int .i64 (wst n k))/\w=w':=by
 obtain⟨d1,d2⟩:=wd_bd n
 have G:=hid (show n-(wd n-k) % 7=wst n k from rfl)
 go_enter Tryz.func253,Tryz.ntmps253
 go_wp2_with (go_at_call 227;refine(weekday_any _ _).mono ?_;rintro e w' ⟨rfl,rfl⟩)
 go_ret
 exact⟨ret_int G.out,rfl⟩
def hasTo (l:List Int) (f b:Int) (k:Nat):Prop:=∀j,j<k->iat l j≠f/\iat l j≠b
theorem hasTo.succ {l:List Int} {f b:Int} {k:Nat} (h:hasTo l f b k) (e1:iat l k≠f) (e2:iat l k≠b):hasTo l f b (k+1):=fun j hj=>by
 by_cases c:j=k
 ·subst c;exact⟨e1,e2⟩
 ·exact h j (by omega)
theorem has_yes {l:List Int} {f b:Int} {k:Nat} (hk:k<l.length) (h:iat l k=f\/iat l k=b):true=hasB l f b:=by
 refine(decide_eq_true (.inr ?_)).symm
 rw[iat_lt hk] at h
 rcases h with h|h
 ·exact .inl (h ▸ List.getElem_mem hk)
 ·exact .inr (h ▸ List.getElem_mem hk)
theorem has_no {l:List Int} {f b:Int} (h0:l≠[]) (h:hasTo l f b l.length):false=hasB l f b:=by
 refine(decide_eq_false ?_).symm
 rintro(g|g|g)
 ·exact h0 g
 ·obtain⟨j,hj,e⟩:=List.getElem_of_mem g
  exact(h j hj).1 (by rw[iat_lt hj];exact e)
 ·obtain⟨j,hj,e⟩:=List.getElem_of_mem g
  exact(h j hj).2 (by rw[iat_lt hj];exact e)
theorem has_any (w:World) (A:Option Addr) (n c:Nat) (l:List Int) (f b:Int) (hl:IsAt w A n l) (h1:n<=9223372036854775807):
  Calls Tryz.prog 257 #[.slice A n c,.int .i64 f,.int .i64 b] w fun e w'=>e= .returned (.bool (hasB l f b))/\Below w.heap.size w w':=by
 obtain⟨en,hc⟩:=hl
 have EN:=hid en
 clear en
 go_enter Tryz.func257,Tryz.ntmps257
 go_wp2
 go_loopw [11] (fun i wr=>∃t:Nat,t<=n/\i= .int .i64 t/\Hid (hasTo l f b t)/\∃q:Nat,wr=w.drewN q) (fun i _=>n-(intOf i).toNat)
 case atStart=>exact⟨0,Nat.zero_le _,rfl,hid (fun j hj=>absurd hj (by omega)),0,rfl⟩
 case round=>
  obtain⟨t,ht,rfl,D,q,rfl⟩:=hrel
  by_cases hlt:t<n
  ·obtain⟨bl,off,rfl,hb,hcc⟩:=hc (by omega)
   have c0:=hcc t hlt;have Y:=hid (fun (h:iat l t=f\/iat l t=b)=>has_yes (f:=f) (b:=b) (by rw[<-EN.out];exact hlt) h);have X:=hid (fun (e1:iat l t≠f) (e2:iat l t≠b)=>D.out.succ e1 e2);clear hc hcc D
   by_cases p1:iat l t=f
   ·have e1:((iat l t:Int)==f)=true:=by rw[beq_iff_eq];exact p1
    have F:=hid (Y.out (.inl p1));clear p1 X Y;generalize iat l t=s at *;go_wp2;go_ret;exact⟨ret_bool F.out,Below.drewN' _ _ _⟩
   ·have e1:((iat l t:Int)==f)=false:=by rw[beq_eq_false_iff_ne];exact p1
    by_cases p2:iat l t=b
    ·have e2:((iat l t:Int)==b)=true:=by rw[beq_iff_eq];exact p2
     have F:=hid (Y.out (.inr p2));clear p1 p2 X Y;generalize iat l t=s at *;go_wp2;go_ret;exact⟨ret_bool F.out,Below.drewN' _ _ _⟩
    ·have e2:((iat l t:Int)==b)=false:=by rw[beq_eq_false_iff_ne];exact p2
     have F:=hid (X.out p1 p2);clear p1 p2 X Y;generalize iat l t=s at *;go_wp2
     go_roundw
     case rel=>exact⟨t+1,by omega,by go_num,F,_,rfl⟩
     case measure=>simp[intOf];omega
  ·obtain rfl:n=t:=by omega
   by_cases h0:n=0
   ·have F:=hid (show true=hasB l f b from by
     have:l=[]:=List.length_eq_zero_iff.1 (by rw[<-EN.out];exact h0)
     rw[this];exact(hasB_nil f b).symm)
    subst h0;go_wp2;go_ret;exact⟨ret_bool F.out,Below.drewN' _ _ _⟩
   ·have F:=hid (has_no (l:=l) (f:=f) (b:=b) (fun e=>h0 (by rw[EN.out,e];rfl)) (by rw[<-EN.out];exact D.out))
    have e0:((n:Int)==0)=false:=by rw[beq_eq_false_iff_ne];omega
    go_wp2;go_ret;exact⟨ret_bool F.out,Below.drewN' _ _ _⟩
end Go.Proofs.YtddnnljfgfcplaaGreatDoor.Dd
namespace Go.Proofs.YtddnnljfgfcplaaGreatDoor.Dd
open Lib (hid)
open Go.RowKit Cv St Ru
theorem two_belowB (w:World) (o p:Obj):Below w.heap.size w ((w.alloc o).alloc p):=(alloc_below w o).trans ((alloc_below (w.alloc o) p).mono (by simp))
theorem two_boxA (w:World) (cs ds:Array Value) (T U:TypeId):Box ((w.alloc (.cells cs T)).alloc (.cells ds U)) w.heap.size cs:=(Box.new w cs T).below (alloc_below _ _)
theorem two_boxB (w:World) (cs ds:Array Value) (T U:TypeId):Box ((w.alloc (.cells cs T)).alloc (.cells ds U)) (w.heap.size+1) ds:=by
 have:=Box.new (w.alloc (.cells cs T)) ds U
 simpa using this
theorem two_size (w:World) (o p:Obj):((w.alloc o).alloc p).heap.size=w.heap.size+2:=by simp
theorem has_is (w:World) (A:Option Addr) (n c:Nat) (l:List Int) (f b:Int) (hl:IsAt w A n l) (h1:n<=9223372036854775807) (p:Bool) (hp:hasB l f b=p):
  Calls Tryz.prog 257 #[.slice A n c,.int .i64 f,.int .i64 b] w fun e w'=>e= .returned (.bool p)/\Below w.heap.size w w':=hp ▸ has_any w A n c l f b hl h1
theorem fitsWeek_any (w:World) (S:RS) (r:Ru) (d:Int) (h:RuAt w S r) (d1:-719162<=d) (d2:d<=2932896) (k1:0<=r.wkst) (k2:r.wkst<=6):
  Calls Tryz.prog 258 #[S.val r,.int .i64 d] w fun e w'=>e= .returned (.bool (weekB r d))/\Below w.heap.size w w':=by
 obtain⟨x,hx⟩:∃x,weekB r d=x:=⟨_,rfl⟩
 rw[hx]
 have H7:=hid h.h7
 have L7:=h.l7
 clear h
 have wb:=wkn_bd d r.wkst
 have ws:=wks_bd (wky d r.wkst) r.wkst k1 k2
 obtain⟨a6,n6,c6,a7,n7,c7,a8,n8,c8,a9,n9,c9,a10,n10,c10,a11,n11,c11,a12,n12,c12,a13,n13,c13,a14,n14,c14⟩:=S
 obtain⟨freq,itv,cnt,til,wkst,ends,mon,week,yday,mday,day,hour,minu,sec,pos⟩:=r
 replace k1:0<=wkst:=k1
 replace k2:wkst<=6:=k2
 replace L7:n7<=140737488355328:=L7
 replace wb:1<=wkn d wkst/\wkn d wkst<=53:=wb
 replace ws:wks (wky d wkst) wkst=52\/wks (wky d wkst) wkst=53:=ws
 have E7:=hid (show n7=week.length from H7.out.1)
 have B1:=alloc_below w (.cells #[.int .i64 freq,.int .i64 itv,.int .i64 cnt,.int .i64 til,.int .i64 wkst,.bool ends,.slice a6 n6 c6,.slice a7 n7 c7,.slice a8 n8 c8,.slice a9 n9 c9,.slice a10 n10 c10,.slice a11 n11 c11,.slice a12 n12 c12,.slice a13 n13 c13,.slice a14 n14 c14] 25)
 by_cases c:n7=0
 ·have G:=hid (show true=x by rw[<-hx];unfold weekB;rw[if_pos (List.length_eq_zero_iff.1 (by rw[<-E7.out];exact c))])
  clear hx;have t1:((n7:Int)==0)=true:=by rw[beq_iff_eq];omega
  show Calls Tryz.prog 258 #[.agg #[.int .i64 freq,.int .i64 itv,.int .i64 cnt,.int .i64 til,.int .i64 wkst,.bool ends,.slice a6 n6 c6,.slice a7 n7 c7,.slice a8 n8 c8,.slice a9 n9 c9,.slice a10 n10 c10,.slice a11 n11 c11,.slice a12 n12 c12,.slice a13 n13 c13,.slice a14 n14 c14],.int .i64 d] w _
  go_enter Tryz.func258,Tryz.ntmps258
  go_wp2;go_ret;exact⟨ret_bool G.out,alloc_below _ _⟩
 ·have t1:((n7:Int)==0)=false:=by rw[beq_eq_false_iff_ne];omega
  have NE:week≠[]:=fun e=>c (by rw[E7.out,e];rfl)
  have hx2:(isyear (wky d wkst)&&hasB week (wkn d wkst) (wkn d wkst-wks (wky d wkst) wkst-1))=x:=by rw[<-hx];unfold weekB;rw[if_neg NE]
  clear hx NE
  by_cases y:1<=wky d wkst/\wky d wkst<=9999
  ·have G:=hid (show hasB week (wkn d wkst) (wkn d wkst-wks (wky d wkst) wkst-1)=x by rw[<-hx2,show isyear (wky d wkst)=true from decide_eq_true y,Bool.true_and])
   clear hx2 c;obtain⟨y1,y2⟩:=y
   show Calls Tryz.prog 258 #[.agg #[.int .i64 freq,.int .i64 itv,.int .i64 cnt,.int .i64 til,.int .i64 wkst,.bool ends,.slice a6 n6 c6,.slice a7 n7 c7,.slice a8 n8 c8,.slice a9 n9 c9,.slice a10 n10 c10,.slice a11 n11 c11,.slice a12 n12 c12,.slice a13 n13 c13,.slice a14 n14 c14],.int .i64 d] w _
   go_enter Tryz.func258,Tryz.ntmps258
   go_wp2_with (first
    | (go_at_call 273;refine(week_yes _ _ _ d1 d2 k1 k2).mono ?_;rintro e w' ⟨rfl,rfl⟩)
    | (go_at_call 274;refine(weeks_yes _ _ _ y1 y2 k1 k2).mono ?_;rintro e w' ⟨rfl,rfl⟩))
   refine(has_any _ a7 n7 c7 week _ _ (H7.out.below B1) (by omega)).mono ?_;rintro e w2 ⟨rfl,b2⟩;go_wp2;go_ret;exact⟨ret_bool G.out,B1.trans (b2.mono B1.size)⟩
  ·have G:=hid (show false=x by rw[<-hx2,show isyear (wky d wkst)=false from decide_eq_false y,Bool.false_and])
   clear hx2 c;have Y:=hid (show ¬(1<=wky d wkst/\wky d wkst<=9999/\0<=wkst/\wkst<=6) from fun g=>y ⟨g.1,g.2.1⟩);clear y
   show Calls Tryz.prog 258 #[.agg #[.int .i64 freq,.int .i64 itv,.int .i64 cnt,.int .i64 til,.int .i64 wkst,.bool ends,.slice a6 n6 c6,.slice a7 n7 c7,.slice a8 n8 c8,.slice a9 n9 c9,.slice a10 n10 c10,.slice a11 n11 c11,.slice a12 n12 c12,.slice a13 n13 c13,.slice a14 n14 c14],.int .i64 d] w _
   go_enter Tryz.func258,Tryz.ntmps258
   go_wp2_with (first
    | (go_at_call 273;refine(week_yes _ _ _ d1 d2 k1 k2).mono ?_;rintro e w' ⟨rfl,rfl⟩)
    | (go_at_call 274;refine(weeks_no _ _ _ Y.out).mono ?_;rintro e w' ⟨rfl,rfl⟩))
   go_ret;exact⟨ret_bool G.out,B1⟩
theorem dom_len (d:Int):1<=dom d/\dom d<=len (yr d) (mon d):=by
 have:=mon_bd d
 have e:dom d=d-ny (yr d)-ah (yr d) (mon d)+1:=rfl
 omega
theorem yd_bd (d:Int):1<=yd d/\yd d<=ylen (yr d):=by
 have:=in_year d
 unfold yd ylen
 omega
theorem ylen_bd (y:Int):365<=ylen y/\ylen y<=366:=by have:=lp_01 y;unfold ylen;omega
theorem fitsPlaces_any (w:World) (S:RS) (r:Ru) (d:Int) (h:RuAt w S r):
  Calls Tryz.prog 259 #[S.val r,.agg (dcells d)] w fun e w'=>e= .returned (.bool (placeB r d))/\Below w.heap.size w w':=by
 obtain⟨x,hx⟩:∃x,placeB r d=x:=⟨_,rfl⟩
 rw[hx]
 have H8:=hid h.h8
 have H9:=hid h.h9
 have L8:=h.l8
 have L9:=h.l9
 clear h
 have m1:=dom_len d
 have m2:=yd_bd d
 have m3:=ylen_bd (yr d)
 have m4:=len_bd (yr d) (mon d)
 obtain⟨a6,n6,c6,a7,n7,c7,a8,n8,c8,a9,n9,c9,a10,n10,c10,a11,n11,c11,a12,n12,c12,a13,n13,c13,a14,n14,c14⟩:=S
 obtain⟨freq,itv,cnt,til,wkst,ends,mon,week,yday,mday,day,hour,minu,sec,pos⟩:=r
 replace L8:n8<=140737488355328:=L8
 replace L9:n9<=140737488355328:=L9
 have hx2:(hasB yday (yd d) (yd d-ylen (yr d)-1)&&hasB mday (dom d) (dom d-len (yr d) (Cv.mon d)-1))=x:=hx
 clear hx
 have B1:=(alloc_below w (.cells #[.int .i64 freq,.int .i64 itv,.int .i64 cnt,.int .i64 til,.int .i64 wkst,.bool ends,.slice a6 n6 c6,.slice a7 n7 c7,.slice a8 n8 c8,.slice a9 n9 c9,.slice a10 n10 c10,.slice a11 n11 c11,.slice a12 n12 c12,.slice a13 n13 c13,.slice a14 n14 c14] 25)).trans ((alloc_below (w.alloc (.cells #[.int .i64 freq,.int .i64 itv,.int .i64 cnt,.int .i64 til,.int .i64 wkst,.bool ends,.slice a6 n6 c6,.slice a7 n7 c7,.slice a8 n8 c8,.slice a9 n9 c9,.slice a10 n10 c10,.slice a11 n11 c11,.slice a12 n12 c12,.slice a13 n13 c13,.slice a14 n14 c14] 25)) (.cells #[.int .i64 (yr d),.int .i64 (Cv.mon d),.int .i64 (dom d),.int .i64 (yd d),.int .i64 (wd d)] 255)).mono (by simp))
 obtain⟨p,hp⟩:∃p,hasB yday (yd d) (yd d-ylen (yr d)-1)=p:=⟨_,rfl⟩
 rw[hp] at hx2
 have P1:=hid hp
 clear hp
 have X2:=hid hx2
 clear hx2
 show Calls Tryz.prog 259 #[.agg #[.int .i64 freq,.int .i64 itv,.int .i64 cnt,.int .i64 til,.int .i64 wkst,.bool ends,.slice a6 n6 c6,.slice a7 n7 c7,.slice a8 n8 c8,.slice a9 n9 c9,.slice a10 n10 c10,.slice a11 n11 c11,.slice a12 n12 c12,.slice a13 n13 c13,.slice a14 n14 c14],.agg #[.int .i64 (yr d),.int .i64 (Cv.mon d),.int .i64 (dom d),.int .i64 (yd d),.int .i64 (wd d)]] w _
 clear B1
 cases p
 ·have G:=hid (show false=x by rw[<-X2.out];rfl)
  clear X2
  go_enter Tryz.func259,Tryz.ntmps259
  go_upto_region 1 with fail
  have B0:=two_belowB w (.cells #[.int .i64 freq,.int .i64 itv,.int .i64 cnt,.int .i64 til,.int .i64 wkst,.bool ends,.slice a6 n6 c6,.slice a7 n7 c7,.slice a8 n8 c8,.slice a9 n9 c9,.slice a10 n10 c10,.slice a11 n11 c11,.slice a12 n12 c12,.slice a13 n13 c13,.slice a14 n14 c14] 25) (.cells #[.int .i64 (yr d),.int .i64 (Cv.mon d),.int .i64 (dom d),.int .i64 (yd d),.int .i64 (wd d)] 255);have XR:=two_boxA w #[.int .i64 freq,.int .i64 itv,.int .i64 cnt,.int .i64 til,.int .i64 wkst,.bool ends,.slice a6 n6 c6,.slice a7 n7 c7,.slice a8 n8 c8,.slice a9 n9 c9,.slice a10 n10 c10,.slice a11 n11 c11,.slice a12 n12 c12,.slice a13 n13 c13,.slice a14 n14 c14] #[.int .i64 (yr d),.int .i64 (Cv.mon d),.int .i64 (dom d),.int .i64 (yd d),.int .i64 (wd d)] 25 255;have XD:=two_boxB w #[.int .i64 freq,.int .i64 itv,.int .i64 cnt,.int .i64 til,.int .i64 wkst,.bool ends,.slice a6 n6 c6,.slice a7 n7 c7,.slice a8 n8 c8,.slice a9 n9 c9,.slice a10 n10 c10,.slice a11 n11 c11,.slice a12 n12 c12,.slice a13 n13 c13,.slice a14 n14 c14] #[.int .i64 (yr d),.int .i64 (Cv.mon d),.int .i64 (dom d),.int .i64 (yd d),.int .i64 (wd d)] 25 255;have SR:=two_size w (.cells #[.int .i64 freq,.int .i64 itv,.int .i64 cnt,.int .i64 til,.int .i64 wkst,.bool ends,.slice a6 n6 c6,.slice a7 n7 c7,.slice a8 n8 c8,.slice a9 n9 c9,.slice a10 n10 c10,.slice a11 n11 c11,.slice a12 n12 c12,.slice a13 n13 c13,.slice a14 n14 c14] 25) (.cells #[.int .i64 (yr d),.int .i64 (Cv.mon d),.int .i64 (dom d),.int .i64 (yd d),.int .i64 (wd d)] 255);generalize (w.alloc (.cells #[.int .i64 freq,.int .i64 itv,.int .i64 cnt,.int .i64 til,.int .i64 wkst,.bool ends,.slice a6 n6 c6,.slice a7 n7 c7,.slice a8 n8 c8,.slice a9 n9 c9,.slice a10 n10 c10,.slice a11 n11 c11,.slice a12 n12 c12,.slice a13 n13 c13,.slice a14 n14 c14] 25)).alloc (.cells #[.int .i64 (yr d),.int .i64 (Cv.mon d),.int .i64 (dom d),.int .i64 (yd d),.int .i64 (wd d)] 255)=w0 at *;have q8:=Past.at_ (W:=w0) (by omega) (show w0.cell? ⟨w.heap.size,8,none⟩=some (.slice a8 n8 c8) from XR.at_ 8 _ rfl);have d20:=Past.at_ (W:=w0) (by omega) (show w0.cell? ⟨w.heap.size+1,0,none⟩=some (.int .i64 (yr d)) from XD.at_ 0 _ rfl);have d23:=Past.at_ (W:=w0) (by omega) (show w0.cell? ⟨w.heap.size+1,3,none⟩=some (.int .i64 (yd d)) from XD.at_ 3 _ rfl);have H8q:=hid (fun v:In (Past w0)=>(H8.out.below B0).past v);have H9q:=hid (fun v:In (Past w0)=>(H9.out.below B0).past v);have L8m:n8<=9223372036854775807:=by omega
  have L9m:n9<=9223372036854775807:=by omega
  clear XR XD SR;have p9:Past w0 w0:=Below.refl _ _
  have hne:Nonempty (In (Past w0)):=⟨⟨_,p9⟩⟩
  refine wp_region_class (Past w0) (by kernel_rfl) (by kernel_rfl) (Past.drew' p9) ?_
  try simp only [List.append]
  repeat (any_goals (first|go_big_quiet_step ((first|(with_reducible refine quiet_eq (ylen_any (yr d) _))|(with_reducible refine quiet_cl Past.on (has_is _ a8 n8 c8 yday _ _ (H8q.out _) L8m _ P1.out))))|quiet_step ((first|(with_reducible refine quiet_eq (ylen_any (yr d) _))|(with_reducible refine quiet_cl Past.on (has_is _ a8 n8 c8 yday _ _ (H8q.out _) L8m _ P1.out))))))
  refine wpQuiet_nil ?_;rintro _ ⟨⟨w2,hb⟩,rfl⟩
  replace hb:Below _ _ _:=hb
  go_wp2;go_ret;exact⟨ret_bool G.out,B0.trans (hb.mono B0.size)⟩
 ·have G:=hid (show hasB mday (dom d) (dom d-len (yr d) (Cv.mon d)-1)=x by rw[<-X2.out];rfl)
  clear X2
  go_enter Tryz.func259,Tryz.ntmps259
  go_upto_region 1 with fail
  have B0:=two_belowB w (.cells #[.int .i64 freq,.int .i64 itv,.int .i64 cnt,.int .i64 til,.int .i64 wkst,.bool ends,.slice a6 n6 c6,.slice a7 n7 c7,.slice a8 n8 c8,.slice a9 n9 c9,.slice a10 n10 c10,.slice a11 n11 c11,.slice a12 n12 c12,.slice a13 n13 c13,.slice a14 n14 c14] 25) (.cells #[.int .i64 (yr d),.int .i64 (Cv.mon d),.int .i64 (dom d),.int .i64 (yd d),.int .i64 (wd d)] 255);have XR:=two_boxA w #[.int .i64 freq,.int .i64 itv,.int .i64 cnt,.int .i64 til,.int .i64 wkst,.bool ends,.slice a6 n6 c6,.slice a7 n7 c7,.slice a8 n8 c8,.slice a9 n9 c9,.slice a10 n10 c10,.slice a11 n11 c11,.slice a12 n12 c12,.slice a13 n13 c13,.slice a14 n14 c14] #[.int .i64 (yr d),.int .i64 (Cv.mon d),.int .i64 (dom d),.int .i64 (yd d),.int .i64 (wd d)] 25 255;have XD:=two_boxB w #[.int .i64 freq,.int .i64 itv,.int .i64 cnt,.int .i64 til,.int .i64 wkst,.bool ends,.slice a6 n6 c6,.slice a7 n7 c7,.slice a8 n8 c8,.slice a9 n9 c9,.slice a10 n10 c10,.slice a11 n11 c11,.slice a12 n12 c12,.slice a13 n13 c13,.slice a14 n14 c14] #[.int .i64 (yr d),.int .i64 (Cv.mon d),.int .i64 (dom d),.int .i64 (yd d),.int .i64 (wd d)] 25 255;have SR:=two_size w (.cells #[.int .i64 freq,.int .i64 itv,.int .i64 cnt,.int .i64 til,.int .i64 wkst,.bool ends,.slice a6 n6 c6,.slice a7 n7 c7,.slice a8 n8 c8,.slice a9 n9 c9,.slice a10 n10 c10,.slice a11 n11 c11,.slice a12 n12 c12,.slice a13 n13 c13,.slice a14 n14 c14] 25) (.cells #[.int .i64 (yr d),.int .i64 (Cv.mon d),.int .i64 (dom d),.int .i64 (yd d),.int .i64 (wd d)] 255);generalize (w.alloc (.cells #[.int .i64 freq,.int .i64 itv,.int .i64 cnt,.int .i64 til,.int .i64 wkst,.bool ends,.slice a6 n6 c6,.slice a7 n7 c7,.slice a8 n8 c8,.slice a9 n9 c9,.slice a10 n10 c10,.slice a11 n11 c11,.slice a12 n12 c12,.slice a13 n13 c13,.slice a14 n14 c14] 25)).alloc (.cells #[.int .i64 (yr d),.int .i64 (Cv.mon d),.int .i64 (dom d),.int .i64 (yd d),.int .i64 (wd d)] 255)=w0 at *;have q8:=Past.at_ (W:=w0) (by omega) (show w0.cell? ⟨w.heap.size,8,none⟩=some (.slice a8 n8 c8) from XR.at_ 8 _ rfl);have q9:=Past.at_ (W:=w0) (by omega) (show w0.cell? ⟨w.heap.size,9,none⟩=some (.slice a9 n9 c9) from XR.at_ 9 _ rfl);have d20:=Past.at_ (W:=w0) (by omega) (show w0.cell? ⟨w.heap.size+1,0,none⟩=some (.int .i64 (yr d)) from XD.at_ 0 _ rfl);have d21:=Past.at_ (W:=w0) (by omega) (show w0.cell? ⟨w.heap.size+1,1,none⟩=some (.int .i64 (Cv.mon d)) from XD.at_ 1 _ rfl);have d22:=Past.at_ (W:=w0) (by omega) (show w0.cell? ⟨w.heap.size+1,2,none⟩=some (.int .i64 (dom d)) from XD.at_ 2 _ rfl);have d23:=Past.at_ (W:=w0) (by omega) (show w0.cell? ⟨w.heap.size+1,3,none⟩=some (.int .i64 (yd d)) from XD.at_ 3 _ rfl);have H8q:=hid (fun v:In (Past w0)=>(H8.out.below B0).past v);have H9q:=hid (fun v:In (Past w0)=>(H9.out.below B0).past v);have L8m:n8<=9223372036854775807:=by omega
  have L9m:n9<=9223372036854775807:=by omega
  clear XR XD SR;have p9:Past w0 w0:=Below.refl _ _
  have hne:Nonempty (In (Past w0)):=⟨⟨_,p9⟩⟩
  refine wp_region_class (Past w0) (by kernel_rfl) (by kernel_rfl) (Past.drew' p9) ?_
  try simp only [List.append]
  repeat (any_goals (first|go_big_quiet_step ((first|(with_reducible refine quiet_eq (ylen_any (yr d) _))|(with_reducible refine quiet_cl Past.on (has_is _ a8 n8 c8 yday _ _ (H8q.out _) L8m _ P1.out))|(with_reducible refine quiet_eq (length_any (yr d) (Cv.mon d) _))|(with_reducible refine quiet_cl Past.on (has_is _ a9 n9 c9 mday _ _ (H9q.out _) L9m _ G.out))))|quiet_step ((first|(with_reducible refine quiet_eq (ylen_any (yr d) _))|(with_reducible refine quiet_cl Past.on (has_is _ a8 n8 c8 yday _ _ (H8q.out _) L8m _ P1.out))|(with_reducible refine quiet_eq (length_any (yr d) (Cv.mon d) _))|(with_reducible refine quiet_cl Past.on (has_is _ a9 n9 c9 mday _ _ (H9q.out _) L9m _ G.out))))))
  refine wpQuiet_nil ?_;rintro _ ⟨⟨w2,hb⟩,rfl⟩
  replace hb:Below _ _ _:=hb
  go_wp2;go_ret;exact⟨rfl,B0.trans (hb.mono B0.size)⟩
end Go.Proofs.YtddnnljfgfcplaaGreatDoor.Dd
namespace Go.Proofs.YtddnnljfgfcplaaGreatDoor.Dd
open Lib (hid)
open Go.RowKit Cv St Ru
def dmP (v f b:Int) (d:Dy):Prop:=d.w=v/\(d.n=0\/d.n=f\/d.n=b)
def dhTo (l:List Dy) (v f b:Int) (k:Nat):Prop:=∀j,j<k->¬dmP v f b (dat l j)
theorem dhTo.succ {l:List Dy} {v f b:Int} {k:Nat} (h:dhTo l v f b k) (e:¬dmP v f b (dat l k)):dhTo l v f b (k+1):=fun j hj=>by
 by_cases c:j=k
 ·subst c;exact e
 ·exact h j (by omega)
theorem dhas_yes {l:List Dy} {v f b:Int} {k:Nat} (hk:k<l.length) (h:dmP v f b (dat l k)):true=dhasB l v f b:=by
 refine(decide_eq_true (.inr ⟨dat l k,?_,h⟩)).symm
 rw[dat_lt hk];exact List.getElem_mem hk
theorem dhas_no {l:List Dy} {v f b:Int} (h0:l≠[]) (h:dhTo l v f b l.length):false=dhasB l v f b:=by
 refine(decide_eq_false ?_).symm
 rintro(g|⟨d,g,hd⟩)
 ·exact h0 g
 ·obtain⟨j,hj,rfl⟩:=List.getElem_of_mem g
  exact h j hj (by rw[dat_lt hj];exact hd)
theorem dpl_bd (r:Ru) (d:Int):1<=dpl r d/\dpl r d<=dln r d/\dln r d<=366:=by
 have a:=dom_len d;have b:=yd_bd d;have c:=ylen_bd (yr d);have e:=len_bd (yr d) (Cv.mon d)
 unfold dpl dln
 split<;>omega
theorem neg7 (x:Int):(-x).tdiv 7 = -(x.tdiv 7):=Int.neg_tdiv x 7
theorem fitsDay_any (w:World) (S:RS) (r:Ru) (d:Int) (h:RuAt w S r):
  Calls Tryz.prog 260 #[S.val r,.agg (dcells d)] w fun e w'=>e= .returned (.bool (dayFB r d))/\Below w.heap.size w w':=by
 obtain⟨x,hx⟩:∃x,dayFB r d=x:=⟨_,rfl⟩
 rw[hx]
 have H10:=hid h.h10
 have H6:=hid h.h6
 have L10:=h.l10
 have L6:=h.l6
 clear h
 have pb:=dpl_bd r d
 have PD:=hid (show (if r.freq=1/\r.mon=[] then yd d else dom d)=dpl r d from rfl)
 have LD:=hid (show (if r.freq=1/\r.mon=[] then ylen (yr d) else len (yr d) (Cv.mon d))=dln r d from rfl)
 unfold dayFB at hx
 generalize dpl r d=p at *
 generalize dln r d=l at *
 have HX:=hid hx
 clear hx
 have n1:(-(l-p)).tdiv 7 = -((l-p) / 7):=by rw[neg7,Int.tdiv_eq_ediv_of_nonneg (by omega)]
 obtain⟨a6,n6,c6,a7,n7,c7,a8,n8,c8,a9,n9,c9,a10,n10,c10,a11,n11,c11,a12,n12,c12,a13,n13,c13,a14,n14,c14⟩:=S
 obtain⟨freq,itv,cnt,til,wkst,ends,mon,week,yday,mday,day,hour,minu,sec,pos⟩:=r
 replace L10:n10<=140737488355328:=L10
 replace L6:n6<=140737488355328:=L6
 have E6:=hid (show n6=mon.length from H6.out.1)
 show Calls Tryz.prog 260 #[.agg #[.int .i64 freq,.int .i64 itv,.int .i64 cnt,.int .i64 til,.int .i64 wkst,.bool ends,.slice a6 n6 c6,.slice a7 n7 c7,.slice a8 n8 c8,.slice a9 n9 c9,.slice a10 n10 c10,.slice a11 n11 c11,.slice a12 n12 c12,.slice a13 n13 c13,.slice a14 n14 c14],.agg #[.int .i64 (yr d),.int .i64 (Cv.mon d),.int .i64 (dom d),.int .i64 (yd d),.int .i64 (wd d)]] w _
 go_enter Tryz.func260,Tryz.ntmps260
 go_upto_region 1 with fail
 have B0:=two_belowB w (.cells #[.int .i64 freq,.int .i64 itv,.int .i64 cnt,.int .i64 til,.int .i64 wkst,.bool ends,.slice a6 n6 c6,.slice a7 n7 c7,.slice a8 n8 c8,.slice a9 n9 c9,.slice a10 n10 c10,.slice a11 n11 c11,.slice a12 n12 c12,.slice a13 n13 c13,.slice a14 n14 c14] 25) (.cells #[.int .i64 (yr d),.int .i64 (Cv.mon d),.int .i64 (dom d),.int .i64 (yd d),.int .i64 (wd d)] 255)
 have XR0:=two_boxA w #[.int .i64 freq,.int .i64 itv,.int .i64 cnt,.int .i64 til,.int .i64 wkst,.bool ends,.slice a6 n6 c6,.slice a7 n7 c7,.slice a8 n8 c8,.slice a9 n9 c9,.slice a10 n10 c10,.slice a11 n11 c11,.slice a12 n12 c12,.slice a13 n13 c13,.slice a14 n14 c14] #[.int .i64 (yr d),.int .i64 (Cv.mon d),.int .i64 (dom d),.int .i64 (yd d),.int .i64 (wd d)] 25 255
 have XD0:=two_boxB w #[.int .i64 freq,.int .i64 itv,.int .i64 cnt,.int .i64 til,.int .i64 wkst,.bool ends,.slice a6 n6 c6,.slice a7 n7 c7,.slice a8 n8 c8,.slice a9 n9 c9,.slice a10 n10 c10,.slice a11 n11 c11,.slice a12 n12 c12,.slice a13 n13 c13,.slice a14 n14 c14] #[.int .i64 (yr d),.int .i64 (Cv.mon d),.int .i64 (dom d),.int .i64 (yd d),.int .i64 (wd d)] 25 255
 have SR0:=two_size w (.cells #[.int .i64 freq,.int .i64 itv,.int .i64 cnt,.int .i64 til,.int .i64 wkst,.bool ends,.slice a6 n6 c6,.slice a7 n7 c7,.slice a8 n8 c8,.slice a9 n9 c9,.slice a10 n10 c10,.slice a11 n11 c11,.slice a12 n12 c12,.slice a13 n13 c13,.slice a14 n14 c14] 25) (.cells #[.int .i64 (yr d),.int .i64 (Cv.mon d),.int .i64 (dom d),.int .i64 (yd d),.int .i64 (wd d)] 255)
 generalize (w.alloc (.cells #[.int .i64 freq,.int .i64 itv,.int .i64 cnt,.int .i64 til,.int .i64 wkst,.bool ends,.slice a6 n6 c6,.slice a7 n7 c7,.slice a8 n8 c8,.slice a9 n9 c9,.slice a10 n10 c10,.slice a11 n11 c11,.slice a12 n12 c12,.slice a13 n13 c13,.slice a14 n14 c14] 25)).alloc (.cells #[.int .i64 (yr d),.int .i64 (Cv.mon d),.int .i64 (dom d),.int .i64 (yd d),.int .i64 (wd d)] 255)=w0 at *
 replace SR0:w.heap.size+2<=w0.heap.size:=by omega
 have q20:=Past.at_ (W:=w0) (by omega) (show w0.cell? ⟨w.heap.size+1,0,none⟩=some (.int .i64 (yr d)) from XD0.at_ 0 _ rfl)
 have q21:=Past.at_ (W:=w0) (by omega) (show w0.cell? ⟨w.heap.size+1,1,none⟩=some (.int .i64 (Cv.mon d)) from XD0.at_ 1 _ rfl)
 have q22:=Past.at_ (W:=w0) (by omega) (show w0.cell? ⟨w.heap.size+1,2,none⟩=some (.int .i64 (dom d)) from XD0.at_ 2 _ rfl)
 have p9:Past w0 w0:=Below.refl _ _
 have hne:Nonempty (In (Past w0)):=⟨⟨_,p9⟩⟩
 refine wp_region_class (Past w0) (by kernel_rfl) (by kernel_rfl) (Past.drew' p9) ?_
 try simp only [List.append]
 repeat (any_goals (first|go_big_quiet_step ((first|(with_reducible refine quiet_eq (length_any (yr d) (Cv.mon d) _))))|quiet_step ((first|(with_reducible refine quiet_eq (length_any (yr d) (Cv.mon d) _))))))
 refine wpQuiet_nil ?_
 rintro w1 ⟨n9,hq⟩
 have hb:Below w0.heap.size w0 w1:=by rw[hq];exact n9.h
 clear hne p9 hq n9
 clear q20 q21 q22
 have B1:=B0.trans (hb.mono B0.size)
 have XR1:=XR0.below hb
 have XD1:=XD0.below hb
 have SR1:w.heap.size+2<=w1.heap.size:=by have:=hb.size;omega
 clear B0 XR0 XD0 SR0
 clear hb
 have z0:w1.cell? ⟨w.heap.size,0,none⟩=some (.int .i64 freq):=XR1.at_ 0 _ rfl
 have z6:w1.cell? ⟨w.heap.size,6,none⟩=some (.slice a6 n6 c6):=XR1.at_ 6 _ rfl
 go_upto_region 2 with fail
 go_cut [26] (fun s wx=>s= .bool (decide (freq=1/\n6=0))/\Below w1.heap.size w1 wx)
 case first=>
  by_cases a1:freq=1
  ·have t1:((freq:Int)==1)=true:=by rw[beq_iff_eq];exact a1
   by_cases a2:n6=0
   ·have t2:((n6:Int)==0)=true:=by rw[beq_iff_eq];omega
    have G:=hid (show true=decide (freq=1/\n6=0) from (decide_eq_true ⟨a1,a2⟩).symm);clear a1 a2;go_wp2
    go_meet
    exact⟨by rw[<-G.out],Below.refl _ _⟩
   ·have t2:((n6:Int)==0)=false:=by rw[beq_eq_false_iff_ne];omega
    have G:=hid (show false=decide (freq=1/\n6=0) from (decide_eq_false (fun g=>a2 g.2)).symm);clear a1 a2;go_wp2
    go_meet
    exact⟨by rw[<-G.out],Below.refl _ _⟩
  ·have t1:((freq:Int)==1)=false:=by rw[beq_eq_false_iff_ne];exact a1
   have G:=hid (show false=decide (freq=1/\n6=0) from (decide_eq_false (fun g=>a1 g.1)).symm);clear a1;go_wp2
   go_meet
   exact⟨by rw[<-G.out],Below.refl _ _⟩
 case rest=>
  obtain⟨rfl,b2⟩:=hcut;generalize wc=w2 at *;clear z0 z6;have B2:=B1.trans (b2.mono B1.size);have XR2:=XR1.below b2;have XD2:=XD1.below b2;have SR2:w.heap.size+2<=w2.heap.size:=by have:=b2.size;omega
  clear B1 XR1 XD1 SR1;clear b2;have PD2:=hid (show (if decide (freq=1/\n6=0)=true then yd d else dom d)=p by rw[<-PD.out,E6.out];simp only[decide_eq_true_eq,List.length_eq_zero_iff]);have LD2:=hid (show (if decide (freq=1/\n6=0)=true then ylen (yr d) else len (yr d) (Cv.mon d))=l by rw[<-LD.out,E6.out];simp only[decide_eq_true_eq,List.length_eq_zero_iff]);clear PD LD;generalize decide (freq=1/\n6=0)=q at *
  go_upto_if 26 with fail
  go_cut [5,6] (fun a b wx=>a= .int .i64 p/\b= .int .i64 l/\Below w2.heap.size w2 wx)
  case first=>
   cases q
   ·go_wp2
    go_meet
    exact⟨by rw[show p=dom d from PD2.out.symm],by rw[show l=len (yr d) (Cv.mon d) from LD2.out.symm],Below.refl _ _⟩
   ·have q20:=Past.at_ (W:=w2) (by omega) (show w2.cell? ⟨w.heap.size+1,0,none⟩=some (.int .i64 (yr d)) from XD2.at_ 0 _ rfl)
    have q23:=Past.at_ (W:=w2) (by omega) (show w2.cell? ⟨w.heap.size+1,3,none⟩=some (.int .i64 (yd d)) from XD2.at_ 3 _ rfl)
    go_upto_region 3 with fail
    have p9:Past w2 w2:=Below.refl _ _
    have hne:Nonempty (In (Past w2)):=⟨⟨_,p9⟩⟩
    refine wp_region_class (Past w2) (by kernel_rfl) (by kernel_rfl) (Past.drew' p9) ?_
    try simp only [List.append]
    repeat (any_goals (first|go_big_quiet_step ((first|(with_reducible refine quiet_eq (ylen_any (yr d) _))))|quiet_step ((first|(with_reducible refine quiet_eq (ylen_any (yr d) _))))))
    refine wpQuiet_nil ?_;rintro w3 ⟨n9,hq⟩;have hb:Below w2.heap.size w2 w3:=by rw[hq];exact n9.h
    clear hne p9 hq n9;clear q20 q23;go_wp2
    go_meet
    exact⟨by rw[show p=yd d from PD2.out.symm],by rw[show l=ylen (yr d) from LD2.out.symm],hb⟩
  case rest=>
   obtain⟨rfl,rfl,b3⟩:=hcut;generalize wc=w3 at *;have B3:=B2.trans (b3.mono B2.size);have XR3:=XR2.below b3;have XD3:=XD2.below b3;have SR3:w.heap.size+2<=w3.heap.size:=by have:=b3.size;omega
   clear B2 XR2 XD2 SR2;clear b3 PD2 LD2 H6 E6;have HD:=hid (H10.out.below B3);obtain⟨f,hf⟩:∃f,(p-1) / 7+1=f:=⟨_,rfl⟩;obtain⟨b,hb⟩:∃b,-((l-p) / 7)-1=b:=⟨_,rfl⟩;have HX2:=hid (show dhasB day (wd d) f b=x by rw[<-HX.out,hf,hb]);clear HX H10;have D10:=hid (show n10=day.length from HD.out.1);have FF:=hid hf;have BB:=hid hb;clear hf hb
   go_upto_region 4 with fail
   go_cut [7,8] (fun u v wx=>u= .int .i64 f/\v= .int .i64 b/\w3=wx)
   case first=>
    go_wp2
    go_meet
    exact⟨by rw[<-FF.out],by rw[<-BB.out],rfl⟩
   case rest=>
    obtain⟨rfl,rfl,rfl⟩:=hcut;clear FF BB n1 pb;have z10:w3.cell? ⟨w.heap.size,10,none⟩=some (.slice a10 n10 c10):=XR3.at_ 10 _ rfl
    go_wp2
    go_loopw [45,10] (fun i c wr=>∃t:Nat,t<=n10/\i= .int .i64 t/\Hid (dhTo day (wd d) f b t)/\Below w3.heap.size w3 wr) (fun i _ _=>n10-(intOf i).toNat)
    case atStart=>exact⟨0,Nat.zero_le _,rfl,hid (fun j hj=>absurd hj (by omega)),Below.refl _ _⟩
    case round=>
     obtain⟨t,ht,rfl,D,br⟩:=hrel
     by_cases hlt:t<n10
     ·obtain⟨bl,off,ha,hbl,hcc⟩:=(HD.out.below br).2 (show 0<n10 by omega)
      obtain rfl:a10=some ⟨bl,off,none⟩:=ha
      obtain⟨c0,c1⟩:=hcc t hlt;have Y:=hid (fun (h:dmP (wd d) f b (dat day t))=>dhas_yes (by rw[<-D10.out];exact hlt) h);have X:=hid (fun (h:¬dmP (wd d) f b (dat day t))=>D.out.succ h);have z24:wr.cell? ⟨w.heap.size+1,4,none⟩=some (.int .i64 (wd d)):=(XD3.below br).at_ 4 _ rfl
      have SRr:w.heap.size+2<=wr.heap.size:=by have:=br.size;omega
      clear hcc D z10
      by_cases p1:(dat day t).w=wd d
      ·have e1:(((dat day t).w:Int)==wd d)=true:=by rw[beq_iff_eq];exact p1
       by_cases p2:(dat day t).n=0
       ·have e2:(((dat day t).n:Int)==0)=true:=by rw[beq_iff_eq];exact p2
        have G:=hid (show true=x by rw[<-HX2.out];exact Y.out ⟨p1,.inl p2⟩);clear X Y HX2 p1 p2;generalize (dat day t).n=en at *;generalize (dat day t).w=ew at *
        go_upto_region 8 with fail
        have bk:=alloc_below wr (.cells #[.int .i64 en,.int .i64 ew] 109);have y0:(wr.alloc (.cells #[.int .i64 en,.int .i64 ew] 109)).cell? ⟨wr.heap.size,0,none⟩=some (.int .i64 en):=by simp[go_sem]
        have y1:(wr.alloc (.cells #[.int .i64 en,.int .i64 ew] 109)).cell? ⟨wr.heap.size,1,none⟩=some (.int .i64 ew):=by simp[go_sem]
        have z24:=(bk.cell (p:=⟨w.heap.size+1,4,none⟩) (by show w.heap.size+1<wr.heap.size;omega)).trans z24;generalize wr.alloc (.cells #[.int .i64 en,.int .i64 ew] 109)=w4 at *;go_wp2;go_ret;exact⟨ret_bool G.out,B3.trans ((br.trans (bk.mono br.size)).mono B3.size)⟩
       ·have e2:(((dat day t).n:Int)==0)=false:=by rw[beq_eq_false_iff_ne];exact p2
        by_cases p3:(dat day t).n=f
        ·have e3:(((dat day t).n:Int)==f)=true:=by rw[beq_iff_eq];exact p3
         have G:=hid (show true=x by rw[<-HX2.out];exact Y.out ⟨p1,.inr (.inl p3)⟩);clear X Y HX2 p1 p2 p3;generalize (dat day t).n=en at *;generalize (dat day t).w=ew at *
         go_upto_region 8 with fail
         have bk:=alloc_below wr (.cells #[.int .i64 en,.int .i64 ew] 109);have y0:(wr.alloc (.cells #[.int .i64 en,.int .i64 ew] 109)).cell? ⟨wr.heap.size,0,none⟩=some (.int .i64 en):=by simp[go_sem]
         have y1:(wr.alloc (.cells #[.int .i64 en,.int .i64 ew] 109)).cell? ⟨wr.heap.size,1,none⟩=some (.int .i64 ew):=by simp[go_sem]
         have z24:=(bk.cell (p:=⟨w.heap.size+1,4,none⟩) (by show w.heap.size+1<wr.heap.size;omega)).trans z24;generalize wr.alloc (.cells #[.int .i64 en,.int .i64 ew] 109)=w4 at *;go_wp2;go_ret;exact⟨ret_bool G.out,B3.trans ((br.trans (bk.mono br.size)).mono B3.size)⟩
        ·have e3:(((dat day t).n:Int)==f)=false:=by rw[beq_eq_false_iff_ne];exact p3
         by_cases p4:(dat day t).n=b
         ·have e4:(((dat day t).n:Int)==b)=true:=by rw[beq_iff_eq];exact p4
          have G:=hid (show true=x by rw[<-HX2.out];exact Y.out ⟨p1,.inr (.inr p4)⟩);clear X Y HX2 p1 p2 p3 p4;generalize (dat day t).n=en at *;generalize (dat day t).w=ew at *
          go_upto_region 8 with fail
          have bk:=alloc_below wr (.cells #[.int .i64 en,.int .i64 ew] 109);have y0:(wr.alloc (.cells #[.int .i64 en,.int .i64 ew] 109)).cell? ⟨wr.heap.size,0,none⟩=some (.int .i64 en):=by simp[go_sem]
          have y1:(wr.alloc (.cells #[.int .i64 en,.int .i64 ew] 109)).cell? ⟨wr.heap.size,1,none⟩=some (.int .i64 ew):=by simp[go_sem]
          have z24:=(bk.cell (p:=⟨w.heap.size+1,4,none⟩) (by show w.heap.size+1<wr.heap.size;omega)).trans z24;generalize wr.alloc (.cells #[.int .i64 en,.int .i64 ew] 109)=w4 at *;go_wp2;go_ret;exact⟨ret_bool G.out,B3.trans ((br.trans (bk.mono br.size)).mono B3.size)⟩
         ·have e4:(((dat day t).n:Int)==b)=false:=by rw[beq_eq_false_iff_ne];exact p4
          have G:=hid (X.out (fun g=>g.2.elim p2 (fun g=>g.elim p3 p4)));clear X Y HX2 p1 p2 p3 p4;generalize (dat day t).n=en at *;generalize (dat day t).w=ew at *
          go_upto_region 8 with fail
          have bk:=alloc_below wr (.cells #[.int .i64 en,.int .i64 ew] 109);have y0:(wr.alloc (.cells #[.int .i64 en,.int .i64 ew] 109)).cell? ⟨wr.heap.size,0,none⟩=some (.int .i64 en):=by simp[go_sem]
          have y1:(wr.alloc (.cells #[.int .i64 en,.int .i64 ew] 109)).cell? ⟨wr.heap.size,1,none⟩=some (.int .i64 ew):=by simp[go_sem]
          have z24:=(bk.cell (p:=⟨w.heap.size+1,4,none⟩) (by show w.heap.size+1<wr.heap.size;omega)).trans z24;generalize wr.alloc (.cells #[.int .i64 en,.int .i64 ew] 109)=w4 at *;go_wp2
          go_roundw
          case rel=>exact⟨t+1,by omega,by go_num,G,br.trans (bk.mono br.size)⟩
          case measure=>simp[intOf];omega
      ·have e1:(((dat day t).w:Int)==wd d)=false:=by rw[beq_eq_false_iff_ne];exact p1
       have G:=hid (X.out (fun g=>p1 g.1));clear X Y HX2 p1;generalize (dat day t).n=en at *;generalize (dat day t).w=ew at *
       go_upto_region 8 with fail
       have bk:=alloc_below wr (.cells #[.int .i64 en,.int .i64 ew] 109);have y0:(wr.alloc (.cells #[.int .i64 en,.int .i64 ew] 109)).cell? ⟨wr.heap.size,0,none⟩=some (.int .i64 en):=by simp[go_sem]
       have y1:(wr.alloc (.cells #[.int .i64 en,.int .i64 ew] 109)).cell? ⟨wr.heap.size,1,none⟩=some (.int .i64 ew):=by simp[go_sem]
       have z24:=(bk.cell (p:=⟨w.heap.size+1,4,none⟩) (by show w.heap.size+1<wr.heap.size;omega)).trans z24;generalize wr.alloc (.cells #[.int .i64 en,.int .i64 ew] 109)=w4 at *;go_wp2
       go_roundw
       case rel=>exact⟨t+1,by omega,by go_num,G,br.trans (bk.mono br.size)⟩
       case measure=>simp[intOf];omega
     ·obtain rfl:n10=t:=by omega
      have z10:wr.cell? ⟨w.heap.size,10,none⟩=some (.slice a10 n10 c10):=(XR3.below br).at_ 10 _ rfl
      by_cases h0:n10=0
      ·have F:=hid (show true=x by
        rw[<-HX2.out,show day=[] from List.length_eq_zero_iff.1 (by rw[<-D10.out];exact h0)]
        exact(decide_eq_true (.inl rfl)).symm)
       have e0:((n10:Int)==0)=true:=by rw[beq_iff_eq];omega
       clear HX2 D h0;go_wp2;go_ret;exact⟨ret_bool F.out,B3.trans (br.mono B3.size)⟩
      ·have F:=hid (show false=x by rw[<-HX2.out];exact dhas_no (fun e=>h0 (by rw[D10.out,e];rfl)) (by rw[<-D10.out];exact D.out))
       have e0:((n10:Int)==0)=false:=by rw[beq_eq_false_iff_ne];omega
       clear HX2 D h0;go_wp2;go_ret;exact⟨ret_bool F.out,B3.trans (br.mono B3.size)⟩
end Go.Proofs.YtddnnljfgfcplaaGreatDoor.Dd
namespace Go.Proofs.YtddnnljfgfcplaaGreatDoor.Dd
open Lib (hid)
open Go.RowKit Cv St Ru
theorem startB_len (r:Ru) (s n:Int):startB r s n=(if 0<r.yday.length+r.mday.length+r.day.length then true else if r.freq=3\/r.week.length≠0 then decide (wd n=wd s) else if r.freq=1 then decide (dom n=dom s/\(r.mon.length≠0\/Cv.mon n=Cv.mon s)) else if r.freq=2 then decide (dom n=dom s) else true):=by
 unfold startB
 simp only[ne_eq,List.length_eq_zero_iff]
theorem fitsStart_any (w:World) (S:RS) (r:Ru) (start d:Int) (h:RuAt w S r) (hs:St.may start=true):
  Calls Tryz.prog 261 #[S.val r,.int .i64 start,.agg (dcells d)] w fun e w'=>e= .returned (.bool (startB r (start / 86400) d))/\Below w.heap.size w w':=by
 obtain⟨x,hx⟩:∃x,startB r (start / 86400) d=x:=⟨_,rfl⟩
 rw[hx]
 have hs1:=of_decide_eq_true hs
 have sd:=may_day hs1.1 hs1.2
 have E6:=hid h.h6.1
 have E7:=hid h.h7.1
 have E8:=hid h.h8.1
 have E9:=hid h.h9.1
 have E10:=hid h.h10.1
 have l6:=h.l6;have l7:=h.l7;have l8:=h.l8;have l9:=h.l9;have l10:=h.l10
 clear h hs
 rw[startB_len,<-E6.out,<-E7.out,<-E8.out,<-E9.out,<-E10.out] at hx
 obtain⟨s,hsd⟩:∃s,start / 86400=s:=⟨_,rfl⟩
 rw[hsd] at hx sd
 have SD:=hid hsd
 have sl:-9223372036854775808<=start:=by omega
 have sh:start<=9223372036854775807:=by omega
 clear hs1
 obtain⟨a6,n6,c6,a7,n7,c7,a8,n8,c8,a9,n9,c9,a10,n10,c10,a11,n11,c11,a12,n12,c12,a13,n13,c13,a14,n14,c14⟩:=S
 obtain⟨freq,itv,cnt,til,wkst,ends,mon,week,yday,mday,day,hour,minu,sec,pos⟩:=r
 replace l6:n6<=140737488355328:=l6
 replace l7:n7<=140737488355328:=l7
 replace l8:n8<=140737488355328:=l8
 replace l9:n9<=140737488355328:=l9
 replace l10:n10<=140737488355328:=l10
 have HX:=hid (show (if 0<n8+n9+n10 then true else if freq=3\/n7≠0 then decide (wd d=wd s) else if freq=1 then decide (dom d=dom s/\(n6≠0\/Cv.mon d=Cv.mon s)) else if freq=2 then decide (dom d=dom s) else true)=x from hx)
 clear hx E6 E7 E8 E9 E10 hsd
 show Calls Tryz.prog 261 #[.agg #[.int .i64 freq,.int .i64 itv,.int .i64 cnt,.int .i64 til,.int .i64 wkst,.bool ends,.slice a6 n6 c6,.slice a7 n7 c7,.slice a8 n8 c8,.slice a9 n9 c9,.slice a10 n10 c10,.slice a11 n11 c11,.slice a12 n12 c12,.slice a13 n13 c13,.slice a14 n14 c14],.int .i64 start,.agg #[.int .i64 (yr d),.int .i64 (Cv.mon d),.int .i64 (dom d),.int .i64 (yd d),.int .i64 (wd d)]] w _
 by_cases a0:0<n8+n9+n10
 ·have G:=hid (show true=x by rw[<-HX.out,if_pos a0])
  clear HX
  go_enter Tryz.func261,Tryz.ntmps261
  go_upto_region 1 with fail
  have B0:=two_belowB w (.cells #[.int .i64 freq,.int .i64 itv,.int .i64 cnt,.int .i64 til,.int .i64 wkst,.bool ends,.slice a6 n6 c6,.slice a7 n7 c7,.slice a8 n8 c8,.slice a9 n9 c9,.slice a10 n10 c10,.slice a11 n11 c11,.slice a12 n12 c12,.slice a13 n13 c13,.slice a14 n14 c14] 25) (.cells #[.int .i64 (yr d),.int .i64 (Cv.mon d),.int .i64 (dom d),.int .i64 (yd d),.int .i64 (wd d)] 255);have XR0:=two_boxA w #[.int .i64 freq,.int .i64 itv,.int .i64 cnt,.int .i64 til,.int .i64 wkst,.bool ends,.slice a6 n6 c6,.slice a7 n7 c7,.slice a8 n8 c8,.slice a9 n9 c9,.slice a10 n10 c10,.slice a11 n11 c11,.slice a12 n12 c12,.slice a13 n13 c13,.slice a14 n14 c14] #[.int .i64 (yr d),.int .i64 (Cv.mon d),.int .i64 (dom d),.int .i64 (yd d),.int .i64 (wd d)] 25 255;have XD0:=two_boxB w #[.int .i64 freq,.int .i64 itv,.int .i64 cnt,.int .i64 til,.int .i64 wkst,.bool ends,.slice a6 n6 c6,.slice a7 n7 c7,.slice a8 n8 c8,.slice a9 n9 c9,.slice a10 n10 c10,.slice a11 n11 c11,.slice a12 n12 c12,.slice a13 n13 c13,.slice a14 n14 c14] #[.int .i64 (yr d),.int .i64 (Cv.mon d),.int .i64 (dom d),.int .i64 (yd d),.int .i64 (wd d)] 25 255;have SR0:=two_size w (.cells #[.int .i64 freq,.int .i64 itv,.int .i64 cnt,.int .i64 til,.int .i64 wkst,.bool ends,.slice a6 n6 c6,.slice a7 n7 c7,.slice a8 n8 c8,.slice a9 n9 c9,.slice a10 n10 c10,.slice a11 n11 c11,.slice a12 n12 c12,.slice a13 n13 c13,.slice a14 n14 c14] 25) (.cells #[.int .i64 (yr d),.int .i64 (Cv.mon d),.int .i64 (dom d),.int .i64 (yd d),.int .i64 (wd d)] 255);generalize (w.alloc (.cells #[.int .i64 freq,.int .i64 itv,.int .i64 cnt,.int .i64 til,.int .i64 wkst,.bool ends,.slice a6 n6 c6,.slice a7 n7 c7,.slice a8 n8 c8,.slice a9 n9 c9,.slice a10 n10 c10,.slice a11 n11 c11,.slice a12 n12 c12,.slice a13 n13 c13,.slice a14 n14 c14] 25)).alloc (.cells #[.int .i64 (yr d),.int .i64 (Cv.mon d),.int .i64 (dom d),.int .i64 (yd d),.int .i64 (wd d)] 255)=w0 at *;have z8:w0.cell? ⟨w.heap.size,8,none⟩=some (.slice a8 n8 c8):=XR0.at_ 8 _ rfl
  have z9:w0.cell? ⟨w.heap.size,9,none⟩=some (.slice a9 n9 c9):=XR0.at_ 9 _ rfl
  have z10:w0.cell? ⟨w.heap.size,10,none⟩=some (.slice a10 n10 c10):=XR0.at_ 10 _ rfl
  have t0:decide ((0:Int)<(n8:Int)+(n9:Int)+(n10:Int))=true:=decide_eq_true (by omega)
  go_wp2;go_ret;exact⟨ret_bool G.out,B0⟩
 ·have HX2:=hid (by have:=HX.out;rwa [if_neg a0] at this)
  clear HX
  go_enter Tryz.func261,Tryz.ntmps261
  go_upto_region 1 with fail
  have B0:=two_belowB w (.cells #[.int .i64 freq,.int .i64 itv,.int .i64 cnt,.int .i64 til,.int .i64 wkst,.bool ends,.slice a6 n6 c6,.slice a7 n7 c7,.slice a8 n8 c8,.slice a9 n9 c9,.slice a10 n10 c10,.slice a11 n11 c11,.slice a12 n12 c12,.slice a13 n13 c13,.slice a14 n14 c14] 25) (.cells #[.int .i64 (yr d),.int .i64 (Cv.mon d),.int .i64 (dom d),.int .i64 (yd d),.int .i64 (wd d)] 255);have XR0:=two_boxA w #[.int .i64 freq,.int .i64 itv,.int .i64 cnt,.int .i64 til,.int .i64 wkst,.bool ends,.slice a6 n6 c6,.slice a7 n7 c7,.slice a8 n8 c8,.slice a9 n9 c9,.slice a10 n10 c10,.slice a11 n11 c11,.slice a12 n12 c12,.slice a13 n13 c13,.slice a14 n14 c14] #[.int .i64 (yr d),.int .i64 (Cv.mon d),.int .i64 (dom d),.int .i64 (yd d),.int .i64 (wd d)] 25 255;have XD0:=two_boxB w #[.int .i64 freq,.int .i64 itv,.int .i64 cnt,.int .i64 til,.int .i64 wkst,.bool ends,.slice a6 n6 c6,.slice a7 n7 c7,.slice a8 n8 c8,.slice a9 n9 c9,.slice a10 n10 c10,.slice a11 n11 c11,.slice a12 n12 c12,.slice a13 n13 c13,.slice a14 n14 c14] #[.int .i64 (yr d),.int .i64 (Cv.mon d),.int .i64 (dom d),.int .i64 (yd d),.int .i64 (wd d)] 25 255;have SR0:=two_size w (.cells #[.int .i64 freq,.int .i64 itv,.int .i64 cnt,.int .i64 til,.int .i64 wkst,.bool ends,.slice a6 n6 c6,.slice a7 n7 c7,.slice a8 n8 c8,.slice a9 n9 c9,.slice a10 n10 c10,.slice a11 n11 c11,.slice a12 n12 c12,.slice a13 n13 c13,.slice a14 n14 c14] 25) (.cells #[.int .i64 (yr d),.int .i64 (Cv.mon d),.int .i64 (dom d),.int .i64 (yd d),.int .i64 (wd d)] 255);generalize (w.alloc (.cells #[.int .i64 freq,.int .i64 itv,.int .i64 cnt,.int .i64 til,.int .i64 wkst,.bool ends,.slice a6 n6 c6,.slice a7 n7 c7,.slice a8 n8 c8,.slice a9 n9 c9,.slice a10 n10 c10,.slice a11 n11 c11,.slice a12 n12 c12,.slice a13 n13 c13,.slice a14 n14 c14] 25)).alloc (.cells #[.int .i64 (yr d),.int .i64 (Cv.mon d),.int .i64 (dom d),.int .i64 (yd d),.int .i64 (wd d)] 255)=w0 at *
  replace SR0:w.heap.size+2<=w0.heap.size:=by omega
  have z8:w0.cell? ⟨w.heap.size,8,none⟩=some (.slice a8 n8 c8):=XR0.at_ 8 _ rfl
  have z9:w0.cell? ⟨w.heap.size,9,none⟩=some (.slice a9 n9 c9):=XR0.at_ 9 _ rfl
  have z10:w0.cell? ⟨w.heap.size,10,none⟩=some (.slice a10 n10 c10):=XR0.at_ 10 _ rfl
  have t0:decide ((0:Int)<(n8:Int)+(n9:Int)+(n10:Int))=false:=decide_eq_false (by omega)
  go_wp2_with (go_at_call 65;refine(day_any start _ sl sh).mono ?_;rintro e w2 ⟨rfl,rfl⟩)
  refine(dateOf_yes (start / 86400) _ (by have:=SD.out;omega) (by have:=SD.out;omega)).mono ?_;rintro e w1 ⟨he,b1⟩;rw[SD.out] at he
  replace he:e= .returned (.tuple #[.agg #[.int .i64 (yr s),.int .i64 (Cv.mon s),.int .i64 (dom s),.int .i64 (yd s),.int .i64 (wd s)],.bool true]):=he
  subst he;rw[SD.out];clear z8 z9 z10;have B1:=B0.trans (b1.mono B0.size);have XR1:=XR0.below b1;have XD1:=XD0.below b1;have SR1:w.heap.size+2<=w1.heap.size:=by have:=b1.size;omega
  clear B0 XR0 XD0 SR0;clear b1 t0 a0
  go_upto_region 5 with fail
  obtain⟨b2,XF⟩:=box_new w1 #[.int .i64 (yr s),.int .i64 (Cv.mon s),.int .i64 (dom s),.int .i64 (yd s),.int .i64 (wd s)] 255;have GF:=w1.heap.size;generalize w1.alloc (.cells #[.int .i64 (yr s),.int .i64 (Cv.mon s),.int .i64 (dom s),.int .i64 (yd s),.int .i64 (wd s)] 255)=w2 at *;have B2:=B1.trans (b2.mono B1.size);have XR2:=XR1.below b2;have XD2:=XD1.below b2;have SR2:w.heap.size+2<=w2.heap.size:=by have:=b2.size;omega
  clear B1 XR1 XD1 SR1;clear b2 GF;clear SR2
  by_cases a1:freq=3
  ·have G:=hid (show ((wd d:Int)==wd s)=x by rw[<-HX2.out,if_pos (.inl a1)];rfl)
   clear HX2;have t1:((freq:Int)==3)=true:=by rw[beq_iff_eq];exact a1
   have z0:w2.cell? ⟨w.heap.size,0,none⟩=some (.int .i64 freq):=XR2.at_ 0 _ rfl
   have z24:w2.cell? ⟨w.heap.size+1,4,none⟩=some (.int .i64 (wd d)):=XD2.at_ 4 _ rfl
   have y4:w2.cell? ⟨w1.heap.size,4,none⟩=some (.int .i64 (wd s)):=XF.at_ 4 _ rfl
   clear a1;go_wp2;go_ret;exact⟨ret_bool G.out,B2⟩
  ·have t1:((freq:Int)==3)=false:=by rw[beq_eq_false_iff_ne];exact a1
   by_cases a2:0<n7
   ·have G:=hid (show ((wd d:Int)==wd s)=x by rw[<-HX2.out,if_pos (.inr (by omega))];rfl)
    clear HX2;have z0:w2.cell? ⟨w.heap.size,0,none⟩=some (.int .i64 freq):=XR2.at_ 0 _ rfl
    have z7:w2.cell? ⟨w.heap.size,7,none⟩=some (.slice a7 n7 c7):=XR2.at_ 7 _ rfl
    have z24:w2.cell? ⟨w.heap.size+1,4,none⟩=some (.int .i64 (wd d)):=XD2.at_ 4 _ rfl
    have y4:w2.cell? ⟨w1.heap.size,4,none⟩=some (.int .i64 (wd s)):=XF.at_ 4 _ rfl
    clear a1;go_wp2;go_ret;exact⟨ret_bool G.out,B2⟩
   ·have HX3:=hid (by have:=HX2.out;rwa [if_neg (show ¬(freq=3\/n7≠0) from fun g=>g.elim a1 (fun g=>a2 (by omega)))] at this)
    clear HX2 a1
    by_cases a3:freq=1
    ·have HX4:=hid (by have:=HX3.out;rwa [if_pos a3] at this)
     clear HX3;have t3:((freq:Int)==1)=true:=by rw[beq_iff_eq];exact a3
     have f3:freq=1:=a3
     clear a3 f3
     by_cases a4:dom d=dom s
     ·have t4:((dom d:Int)==dom s)=true:=by rw[beq_iff_eq];exact a4
      by_cases a5:0<n6
      ·have G:=hid (show true=x by rw[<-HX4.out];exact(decide_eq_true ⟨a4,.inl (by omega)⟩).symm)
       clear HX4 a4;have z0:w2.cell? ⟨w.heap.size,0,none⟩=some (.int .i64 freq):=XR2.at_ 0 _ rfl
       have z6:w2.cell? ⟨w.heap.size,6,none⟩=some (.slice a6 n6 c6):=XR2.at_ 6 _ rfl
       have z7:w2.cell? ⟨w.heap.size,7,none⟩=some (.slice a7 n7 c7):=XR2.at_ 7 _ rfl
       have z22:w2.cell? ⟨w.heap.size+1,2,none⟩=some (.int .i64 (dom d)):=XD2.at_ 2 _ rfl
       have y2:w2.cell? ⟨w1.heap.size,2,none⟩=some (.int .i64 (dom s)):=XF.at_ 2 _ rfl
       go_wp2;go_ret;exact⟨ret_bool G.out,B2⟩
      ·have G:=hid (show ((Cv.mon d:Int)==Cv.mon s)=x by
        rw[<-HX4.out]
        exact decide_eq_decide.2 ⟨fun g=>⟨a4,.inr g⟩,fun g=>g.2.resolve_left (fun h=>a5 (by omega))⟩)
       clear HX4 a4;have z0:w2.cell? ⟨w.heap.size,0,none⟩=some (.int .i64 freq):=XR2.at_ 0 _ rfl
       have z6:w2.cell? ⟨w.heap.size,6,none⟩=some (.slice a6 n6 c6):=XR2.at_ 6 _ rfl
       have z7:w2.cell? ⟨w.heap.size,7,none⟩=some (.slice a7 n7 c7):=XR2.at_ 7 _ rfl
       have z21:w2.cell? ⟨w.heap.size+1,1,none⟩=some (.int .i64 (Cv.mon d)):=XD2.at_ 1 _ rfl
       have z22:w2.cell? ⟨w.heap.size+1,2,none⟩=some (.int .i64 (dom d)):=XD2.at_ 2 _ rfl
       have y1:w2.cell? ⟨w1.heap.size,1,none⟩=some (.int .i64 (Cv.mon s)):=XF.at_ 1 _ rfl
       have y2:w2.cell? ⟨w1.heap.size,2,none⟩=some (.int .i64 (dom s)):=XF.at_ 2 _ rfl
       go_wp2;go_ret;exact⟨ret_bool G.out,B2⟩
     ·have t4:((dom d:Int)==dom s)=false:=by rw[beq_eq_false_iff_ne];exact a4
      have G:=hid (show false=x by rw[<-HX4.out];exact(decide_eq_false (fun g=>a4 g.1)).symm);clear HX4 a4;have z0:w2.cell? ⟨w.heap.size,0,none⟩=some (.int .i64 freq):=XR2.at_ 0 _ rfl
      have z6:w2.cell? ⟨w.heap.size,6,none⟩=some (.slice a6 n6 c6):=XR2.at_ 6 _ rfl
      have z7:w2.cell? ⟨w.heap.size,7,none⟩=some (.slice a7 n7 c7):=XR2.at_ 7 _ rfl
      have z22:w2.cell? ⟨w.heap.size+1,2,none⟩=some (.int .i64 (dom d)):=XD2.at_ 2 _ rfl
      have y2:w2.cell? ⟨w1.heap.size,2,none⟩=some (.int .i64 (dom s)):=XF.at_ 2 _ rfl
      go_wp2;go_ret;exact⟨ret_bool G.out,B2⟩
    ·have t3:((freq:Int)==1)=false:=by rw[beq_eq_false_iff_ne];exact a3
     by_cases a4:freq=2
     ·have t4:((freq:Int)==2)=true:=by rw[beq_iff_eq];exact a4
      have G:=hid (show ((dom d:Int)==dom s)=x by rw[<-HX3.out,if_neg a3,if_pos a4];rfl);clear HX3 a3 a4;have z0:w2.cell? ⟨w.heap.size,0,none⟩=some (.int .i64 freq):=XR2.at_ 0 _ rfl
      have z7:w2.cell? ⟨w.heap.size,7,none⟩=some (.slice a7 n7 c7):=XR2.at_ 7 _ rfl
      have z22:w2.cell? ⟨w.heap.size+1,2,none⟩=some (.int .i64 (dom d)):=XD2.at_ 2 _ rfl
      have y2:w2.cell? ⟨w1.heap.size,2,none⟩=some (.int .i64 (dom s)):=XF.at_ 2 _ rfl
      go_wp2;go_ret;exact⟨ret_bool G.out,B2⟩
     ·have t4:((freq:Int)==2)=false:=by rw[beq_eq_false_iff_ne];exact a4
      have G:=hid (show true=x by rw[<-HX3.out,if_neg a3,if_neg a4]);clear HX3 a3 a4;have z0:w2.cell? ⟨w.heap.size,0,none⟩=some (.int .i64 freq):=XR2.at_ 0 _ rfl
      have z7:w2.cell? ⟨w.heap.size,7,none⟩=some (.slice a7 n7 c7):=XR2.at_ 7 _ rfl
      go_wp2;go_ret;exact⟨ret_bool G.out,B2⟩
end Go.Proofs.YtddnnljfgfcplaaGreatDoor.Dd
namespace Go.Proofs.YtddnnljfgfcplaaGreatDoor.Dd
open Lib (hid)
open Go.RowKit Cv St Ru
theorem wk_of {r:Ru} (h:mayR r=true):0<=r.wkst/\r.wkst<=6:=by
 have:=of_decide_eq_true (mayR_of h).1
 omega
theorem freq_of {r:Ru} (h:mayR r=true):1<=r.freq/\r.freq<=7:=by
 have:=of_decide_eq_true (mayR_of h).1
 omega
theorem fitsWeek_is (w:World) (S:RS) (r:Ru) (d:Int) (h:RuAt w S r) (d1:-719162<=d) (d2:d<=2932896) (k1:0<=r.wkst) (k2:r.wkst<=6) (x:Bool) (hx:weekB r d=x):
  Calls Tryz.prog 258 #[S.val r,.int .i64 d] w fun e w'=>e= .returned (.bool x)/\Below w.heap.size w w':=hx ▸ fitsWeek_any w S r d h d1 d2 k1 k2
theorem fitsPlaces_is (w:World) (S:RS) (r:Ru) (d:Int) (h:RuAt w S r) (x:Bool) (hx:placeB r d=x):
  Calls Tryz.prog 259 #[S.val r,.agg (dcells d)] w fun e w'=>e= .returned (.bool x)/\Below w.heap.size w w':=hx ▸ fitsPlaces_any w S r d h
theorem fitsDay_is (w:World) (S:RS) (r:Ru) (d:Int) (h:RuAt w S r) (x:Bool) (hx:dayFB r d=x):
  Calls Tryz.prog 260 #[S.val r,.agg (dcells d)] w fun e w'=>e= .returned (.bool x)/\Below w.heap.size w w':=hx ▸ fitsDay_any w S r d h
theorem fitsStart_is (w:World) (S:RS) (r:Ru) (start d:Int) (h:RuAt w S r) (hs:St.may start=true) (x:Bool) (hx:startB r (start / 86400) d=x):
  Calls Tryz.prog 261 #[S.val r,.int .i64 start,.agg (dcells d)] w fun e w'=>e= .returned (.bool x)/\Below w.heap.size w w':=hx ▸ fitsStart_any w S r start d h hs
theorem fits_is (w:World) (S:RS) (r:Ru) (start d:Int) (x:Bool) (h:RuAt w S r) (hx:fitsB r start d=x):
  Calls Tryz.prog 221 #[S.val r,.int .i64 start,.int .i64 d] w fun e w'=>e= .returned (.bool x)/\Below w.heap.size w w':=by
 have RA:=hid h
 have H6:=hid h.h6
 have l6:=h.l6
 clear h
 have WK:=hid (fun h:mayR r=true=>wk_of h)
 obtain⟨a6,n6,c6,a7,n7,c7,a8,n8,c8,a9,n9,c9,a10,n10,c10,a11,n11,c11,a12,n12,c12,a13,n13,c13,a14,n14,c14⟩:=S
 obtain⟨freq,itv,cnt,til,wkst,ends,mon,week,yday,mday,day,hour,minu,sec,pos⟩:=r
 replace l6:n6<=140737488355328:=l6
 have HX:=hid (show (isday d&&mayR ⟨freq,itv,cnt,til,wkst,ends,mon,week,yday,mday,day,hour,minu,sec,pos⟩&&St.may start&&fitB ⟨freq,itv,cnt,til,wkst,ends,mon,week,yday,mday,day,hour,minu,sec,pos⟩ start d)=x from hx)
 clear hx
 show Calls Tryz.prog 221 #[.agg #[.int .i64 freq,.int .i64 itv,.int .i64 cnt,.int .i64 til,.int .i64 wkst,.bool ends,.slice a6 n6 c6,.slice a7 n7 c7,.slice a8 n8 c8,.slice a9 n9 c9,.slice a10 n10 c10,.slice a11 n11 c11,.slice a12 n12 c12,.slice a13 n13 c13,.slice a14 n14 c14],.int .i64 start,.int .i64 d] w _
 by_cases hd:-719162<=d/\d<=2932896
 ·obtain⟨m,hm⟩:∃m,mayR ⟨freq,itv,cnt,til,wkst,ends,mon,week,yday,mday,day,hour,minu,sec,pos⟩=m:=⟨_,rfl⟩
  obtain⟨n,hn⟩:∃n,St.may start=n:=⟨_,rfl⟩;have HX2:=hid (by have:=HX.out;rwa [show isday d=true from decide_eq_true hd,hm,hn,Bool.true_and] at this);clear HX;have HM:=hid hm;have HN:=hid hn;clear hm hn
  go_enter Tryz.func221,Tryz.ntmps221
  go_upto_region 1 with fail
  obtain⟨B0,XR0⟩:=box_new w #[.int .i64 freq,.int .i64 itv,.int .i64 cnt,.int .i64 til,.int .i64 wkst,.bool ends,.slice a6 n6 c6,.slice a7 n7 c7,.slice a8 n8 c8,.slice a9 n9 c9,.slice a10 n10 c10,.slice a11 n11 c11,.slice a12 n12 c12,.slice a13 n13 c13,.slice a14 n14 c14] 25;generalize w.alloc _=w0 at *;go_wp2_with fail;refine(dateOf_yes d _ hd.1 hd.2).mono ?_;rintro e w1 ⟨he,b1⟩
  replace he:e= .returned (.tuple #[.agg #[.int .i64 (yr d),.int .i64 (Cv.mon d),.int .i64 (dom d),.int .i64 (yd d),.int .i64 (wd d)],.bool true]):=he
  subst he;have B1:=B0.trans (b1.mono B0.size);have XR1:=XR0.below b1;clear B0 XR0;clear b1
  go_upto_region 2 with fail
  obtain⟨b2,XF2⟩:=box_new w1 #[.int .i64 (yr d),.int .i64 (Cv.mon d),.int .i64 (dom d),.int .i64 (yd d),.int .i64 (wd d)] 255;generalize w1.alloc _=w2 at *;have B2:=B1.trans (b2.mono B1.size);have XR2:=XR1.below b2;clear B1 XR1;clear b2;obtain⟨z0,z1,z2,z3,z4,z5,z6,z7,z8,z9,z10,z11,z12,z13,z14⟩:=cells15 XR2;go_wp2_with fail;refine(may_r _ ⟨a6,n6,c6,a7,n7,c7,a8,n8,c8,a9,n9,c9,a10,n10,c10,a11,n11,c11,a12,n12,c12,a13,n13,c13,a14,n14,c14⟩ ⟨freq,itv,cnt,til,wkst,ends,mon,week,yday,mday,day,hour,minu,sec,pos⟩ m (RA.out.below B2) HM.out).mono ?_;rintro e w3 ⟨rfl,b3⟩;clear z0 z1 z2 z3 z4 z5 z6 z7 z8 z9 z10 z11 z12 z13 z14;have B3:=B2.trans (b3.mono B2.size);have XR3:=XR2.below b3;have XF3:=XF2.below b3;clear B2 XR2 XF2;clear b3;cases m
  ·have G:=hid (show false=x by rw[<-HX2.out];simp)
   go_wp2;go_ret;exact⟨ret_bool G.out,B3⟩
  ·have K:=hid (WK.out HM.out)
   cases n
   ·have G:=hid (show false=x by rw[<-HX2.out];simp)
    go_wp2_with fail;refine(may_no start _ HN.out).mono ?_;rintro e w4 ⟨rfl,rfl⟩;go_wp2;go_ret;exact⟨ret_bool G.out,B3⟩
   ·go_wp2_with fail
    refine(may_yes start _ HN.out).mono ?_;rintro e w4 ⟨rfl,rfl⟩;obtain⟨x1,e1⟩:∃p,hasB mon (Cv.mon d) (Cv.mon d)=p:=⟨_,rfl⟩;obtain⟨x2,e2⟩:∃p,weekB ⟨freq,itv,cnt,til,wkst,ends,mon,week,yday,mday,day,hour,minu,sec,pos⟩ d=p:=⟨_,rfl⟩;obtain⟨x3,e3⟩:∃p,placeB ⟨freq,itv,cnt,til,wkst,ends,mon,week,yday,mday,day,hour,minu,sec,pos⟩ d=p:=⟨_,rfl⟩;obtain⟨x4,e4⟩:∃p,dayFB ⟨freq,itv,cnt,til,wkst,ends,mon,week,yday,mday,day,hour,minu,sec,pos⟩ d=p:=⟨_,rfl⟩;obtain⟨x5,e5⟩:∃p,startB ⟨freq,itv,cnt,til,wkst,ends,mon,week,yday,mday,day,hour,minu,sec,pos⟩ (start / 86400) d=p:=⟨_,rfl⟩;have HX3:=hid (show (x1&&x2&&x3&&x4&&x5)=x by rw[<-HX2.out,<-e1,<-e2,<-e3,<-e4,<-e5];rfl);have E1:=hid e1;have E2:=hid e2;have E3:=hid e3;have E4:=hid e4;have E5:=hid e5;clear e1 e2 e3 e4 e5 HX2
    go_upto_region 4 with fail
    have z6:w3.cell? ⟨w.heap.size,6,none⟩=some (.slice a6 n6 c6):=XR3.at_ 6 _ rfl
    have y1:w3.cell? ⟨w1.heap.size,1,none⟩=some (.int .i64 (Cv.mon d)):=XF3.at_ 1 _ rfl
    go_wp2_with fail;refine(has_is _ a6 n6 c6 mon _ _ (H6.out.below B3) (by omega) x1 E1.out).mono ?_;rintro e w4 ⟨rfl,b4⟩;clear z6 y1;have B4:=B3.trans (b4.mono B3.size);have XR4:=XR3.below b4;have XF4:=XF3.below b4;clear B3 XR3 XF3;clear b4;cases x1
    ·have G:=hid (show false=x by rw[<-HX3.out];simp)
     go_wp2;go_ret;exact⟨ret_bool G.out,B4⟩
    ·obtain⟨z0,z1,z2,z3,z4,z5,z6,z7,z8,z9,z10,z11,z12,z13,z14⟩:=cells15 XR4
     go_wp2_with fail;refine(fitsWeek_is _ ⟨a6,n6,c6,a7,n7,c7,a8,n8,c8,a9,n9,c9,a10,n10,c10,a11,n11,c11,a12,n12,c12,a13,n13,c13,a14,n14,c14⟩ ⟨freq,itv,cnt,til,wkst,ends,mon,week,yday,mday,day,hour,minu,sec,pos⟩ d (RA.out.below B4) hd.1 hd.2 K.out.1 K.out.2 x2 E2.out).mono ?_;rintro e w5 ⟨rfl,b5⟩;clear z0 z1 z2 z3 z4 z5 z6 z7 z8 z9 z10 z11 z12 z13 z14;have B5:=B4.trans (b5.mono B4.size);have XR5:=XR4.below b5;have XF5:=XF4.below b5;clear B4 XR4 XF4;clear b5;cases x2
     ·have G:=hid (show false=x by rw[<-HX3.out];simp)
      go_wp2;go_ret;exact⟨ret_bool G.out,B5⟩
     ·obtain⟨z0,z1,z2,z3,z4,z5,z6,z7,z8,z9,z10,z11,z12,z13,z14⟩:=cells15 XR5
      have y0:w5.cell? ⟨w1.heap.size,0,none⟩=some (.int .i64 (yr d)):=XF5.at_ 0 _ rfl
      have y1:w5.cell? ⟨w1.heap.size,1,none⟩=some (.int .i64 (Cv.mon d)):=XF5.at_ 1 _ rfl
      have y2:w5.cell? ⟨w1.heap.size,2,none⟩=some (.int .i64 (dom d)):=XF5.at_ 2 _ rfl
      have y3:w5.cell? ⟨w1.heap.size,3,none⟩=some (.int .i64 (yd d)):=XF5.at_ 3 _ rfl
      have y4:w5.cell? ⟨w1.heap.size,4,none⟩=some (.int .i64 (wd d)):=XF5.at_ 4 _ rfl
      go_wp2_with fail;refine(fitsPlaces_is _ ⟨a6,n6,c6,a7,n7,c7,a8,n8,c8,a9,n9,c9,a10,n10,c10,a11,n11,c11,a12,n12,c12,a13,n13,c13,a14,n14,c14⟩ ⟨freq,itv,cnt,til,wkst,ends,mon,week,yday,mday,day,hour,minu,sec,pos⟩ d (RA.out.below B5) x3 E3.out).mono ?_;rintro e w6 ⟨rfl,b6⟩;clear z0 z1 z2 z3 z4 z5 z6 z7 z8 z9 z10 z11 z12 z13 z14 y0 y1 y2 y3 y4;have B6:=B5.trans (b6.mono B5.size);have XR6:=XR5.below b6;have XF6:=XF5.below b6;clear B5 XR5 XF5;clear b6;cases x3
      ·have G:=hid (show false=x by rw[<-HX3.out];simp)
       go_wp2;go_ret;exact⟨ret_bool G.out,B6⟩
      ·obtain⟨z0,z1,z2,z3,z4,z5,z6,z7,z8,z9,z10,z11,z12,z13,z14⟩:=cells15 XR6
       have y0:w6.cell? ⟨w1.heap.size,0,none⟩=some (.int .i64 (yr d)):=XF6.at_ 0 _ rfl
       have y1:w6.cell? ⟨w1.heap.size,1,none⟩=some (.int .i64 (Cv.mon d)):=XF6.at_ 1 _ rfl
       have y2:w6.cell? ⟨w1.heap.size,2,none⟩=some (.int .i64 (dom d)):=XF6.at_ 2 _ rfl
       have y3:w6.cell? ⟨w1.heap.size,3,none⟩=some (.int .i64 (yd d)):=XF6.at_ 3 _ rfl
       have y4:w6.cell? ⟨w1.heap.size,4,none⟩=some (.int .i64 (wd d)):=XF6.at_ 4 _ rfl
       go_wp2_with fail;refine(fitsDay_is _ ⟨a6,n6,c6,a7,n7,c7,a8,n8,c8,a9,n9,c9,a10,n10,c10,a11,n11,c11,a12,n12,c12,a13,n13,c13,a14,n14,c14⟩ ⟨freq,itv,cnt,til,wkst,ends,mon,week,yday,mday,day,hour,minu,sec,pos⟩ d (RA.out.below B6) x4 E4.out).mono ?_;rintro e w7 ⟨rfl,b7⟩;clear z0 z1 z2 z3 z4 z5 z6 z7 z8 z9 z10 z11 z12 z13 z14 y0 y1 y2 y3 y4;have B7:=B6.trans (b7.mono B6.size);have XR7:=XR6.below b7;have XF7:=XF6.below b7;clear B6 XR6 XF6;clear b7;cases x4
       ·have G:=hid (show false=x by rw[<-HX3.out];simp)
        go_wp2;go_ret;exact⟨ret_bool G.out,B7⟩
       ·obtain⟨z0,z1,z2,z3,z4,z5,z6,z7,z8,z9,z10,z11,z12,z13,z14⟩:=cells15 XR7
        have y0:w7.cell? ⟨w1.heap.size,0,none⟩=some (.int .i64 (yr d)):=XF7.at_ 0 _ rfl
        have y1:w7.cell? ⟨w1.heap.size,1,none⟩=some (.int .i64 (Cv.mon d)):=XF7.at_ 1 _ rfl
        have y2:w7.cell? ⟨w1.heap.size,2,none⟩=some (.int .i64 (dom d)):=XF7.at_ 2 _ rfl
        have y3:w7.cell? ⟨w1.heap.size,3,none⟩=some (.int .i64 (yd d)):=XF7.at_ 3 _ rfl
        have y4:w7.cell? ⟨w1.heap.size,4,none⟩=some (.int .i64 (wd d)):=XF7.at_ 4 _ rfl
        go_wp2_with fail;refine(fitsStart_is _ ⟨a6,n6,c6,a7,n7,c7,a8,n8,c8,a9,n9,c9,a10,n10,c10,a11,n11,c11,a12,n12,c12,a13,n13,c13,a14,n14,c14⟩ ⟨freq,itv,cnt,til,wkst,ends,mon,week,yday,mday,day,hour,minu,sec,pos⟩ start d (RA.out.below B7) HN.out x5 E5.out).mono ?_;rintro e w8 ⟨rfl,b8⟩;clear z0 z1 z2 z3 z4 z5 z6 z7 z8 z9 z10 z11 z12 z13 z14 y0 y1 y2 y3 y4;have B8:=B7.trans (b8.mono B7.size);have XR8:=XR7.below b8;have XF8:=XF7.below b8;clear B7 XR7 XF7;clear b8;have G:=hid (show x5=x by rw[<-HX3.out];simp);go_wp2;go_ret;exact⟨ret_bool G.out,B8⟩
 ·have G:=hid (show false=x by rw[<-HX.out,show isday d=false from decide_eq_false hd];simp)
  have HD:=hid hd;clear HX hd
  go_enter Tryz.func221,Tryz.ntmps221
  go_upto_region 1 with fail
  obtain⟨B0,XR0⟩:=box_new w #[.int .i64 freq,.int .i64 itv,.int .i64 cnt,.int .i64 til,.int .i64 wkst,.bool ends,.slice a6 n6 c6,.slice a7 n7 c7,.slice a8 n8 c8,.slice a9 n9 c9,.slice a10 n10 c10,.slice a11 n11 c11,.slice a12 n12 c12,.slice a13 n13 c13,.slice a14 n14 c14] 25;generalize w.alloc _=w0 at *;go_wp2_with fail;refine(dateOf_no d _ HD.out).mono ?_;rintro e w1 ⟨rfl,b1⟩;have B1:=B0.trans (b1.mono B0.size);have XR1:=XR0.below b1;clear B0 XR0;clear b1;go_wp2;go_ret;exact⟨ret_bool G.out,B1.trans ((alloc_below _ _).mono B1.size)⟩
end Go.Proofs.YtddnnljfgfcplaaGreatDoor.Dd
