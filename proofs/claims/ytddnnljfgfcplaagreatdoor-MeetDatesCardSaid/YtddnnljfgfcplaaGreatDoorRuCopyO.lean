/- What vokref.CopyRule answers, and that it owns its lists, each in blocks of its own. -/
import Derived.Test.YtddnnljfgfcplaaGreatDoorRpZ
import Derived.Deep.AppendLies
import Derived.Deep.Onto
set_option maxRecDepth 100000
set_option linter.unusedVariables false
namespace Go.Proofs.YtddnnljfgfcplaaGreatDoor.Ru
open Lib (hid)
open Go.RowKit Cv St Go.Proofs.YtddnnljfgfcplaaGreatDoor.Fd
def OwnB (B C:Nat) (w:World) (v:Value) (l:List Int):Prop:=w.ownsRow B 3 1 v l.length (l.map (Value.int .i64))/\∀g,v.ownBlock=some g->g<C
def OwnDB (B C:Nat) (w:World) (v:Value) (l:List Dy):Prop:=w.ownsRow B 109 2 v l.length (dyCells l)/\∀g,v.ownBlock=some g->g<C
theorem OwnI.b {W w:World} {v:Value} {l:List Int} (h:OwnI W w v l):OwnB W.heap.size w.heap.size w v l:=⟨h,fun g q=>(World.ownsRow.lt h g q).2⟩
theorem far_own {w:World} {B g:Nat} {e:TypeId} {k n:Nat} {v:Value} {xs:List Value} (h:w.ownsRow B e k v n xs) (hg:g<B):v.ownBlock=none\/v.ownBlock≠some g:=by
 cases q:v.ownBlock with
 |none=>exact .inl rfl
 |some j=>exact .inr (fun z=>by injection z with z;have:=(World.ownsRow.lt h j q).1;omega)
theorem OwnB.on {B C:Nat} {w w':World} {v:Value} {l:List Int} (h:OwnB B C w v l) (hb:Below w.heap.size w w'):OwnB B C w' v l:=
 ⟨World.ownsRow.kept (row:=none) h.1 ⟨hb.1,hb.2,hb.3,hb.4,fun k hk _=>hb.5 k hk⟩ (by cases v.ownBlock<;>simp),h.2⟩
theorem OwnB.gr {B C g:Nat} {w w':World} {v:Value} {l:List Int} (h:OwnB B C w v l) (hb:w.grownBy w' (some g)) (hg:g<B):OwnB B C w' v l:=⟨World.ownsRow.kept h.1 hb (far_own h.1 hg),h.2⟩
theorem OwnDB.gr {B C g:Nat} {w w':World} {v:Value} {l:List Dy} (h:OwnDB B C w v l) (hb:w.grownBy w' (some g)) (hg:g<B):OwnDB B C w' v l:=⟨World.ownsRow.kept h.1 hb (far_own h.1 hg),h.2⟩
theorem gr_below {w w':World} {g:Nat} (h:Below w.heap.size w w'):w.grownBy w' (some g):=⟨h.1,h.2,h.3,h.4,fun k hk _=>h.5 k hk⟩
theorem gr_set {w w':World} {g k:Nat} {u:Value} (h:w.grownBy w' (some g)):w.grownBy (w'.setCell ⟨g,k,none⟩ u) (some g):=
 ⟨h.os,h.tape,h.output,by simpa using h.size,fun j hj hne=>(Below.heap_setCell _ _ _ _ (fun e=>hne (by rw[e]))).trans (h.block j hj hne)⟩
theorem Box.put {w:World} {g:Nat} {cs:Array Value} (h:Box w g cs) (k:Nat) (u:Value) (hk:k<cs.size):Box (w.setCell ⟨g,k,none⟩ u) g (cs.setIfInBounds k u):=by
 refine⟨by simpa using h.1,fun j x e => ?_⟩
 by_cases ej:k=j
 ·subst ej
  rw[Array.getElem?_setIfInBounds_self_of_lt hk] at e;injection e with e;subst e;exact World.cell?_setCell_same _ _ _ (h.2 k _ (Array.getElem?_eq_getElem hk))
 ·rw[Array.getElem?_setIfInBounds_ne ej] at e
  exact(World.cell?_setCell_other _ _ _ _ (by intro q;injection q with _ q;exact ej q)).trans (h.2 j x e)
theorem own_at {w:World} {B:Nat} {A:Option Addr} {c:Nat} {l:List Int} (h:w.ownsRow B 3 1 (.slice A l.length c) l.length (l.map (Value.int .i64))):IsAt w A l.length l:=by
 rcases h.2 with ⟨q,h0⟩|⟨g,cap,cur,q,hb,hg,hnc,hcm,-⟩
 ·exact⟨rfl,fun z=>by omega⟩
 ·injection q with q1 q2 q3
  subst q1 q3;refine⟨rfl,fun h0=>⟨g,0,rfl,(World.ownsRow.lt h g rfl).2,fun j hj => ?_⟩⟩;rw[Nat.zero_add,World.ownsRow.cellAt h j (by omega),iat_lt hj]
  simp[hj]
theorem own_atD {w:World} {B:Nat} {A:Option Addr} {c:Nat} {l:List Dy} (h:w.ownsRow B 109 2 (.slice A l.length c) l.length (dyCells l)):DyAt w A l.length l:=by
 rcases h.2 with ⟨q,h0⟩|⟨g,cap,cur,q,hb,hg,hnc,hcm,-⟩
 ·exact⟨rfl,fun z=>by omega⟩
 ·injection q with q1 q2 q3
  subst q1 q3;refine⟨rfl,fun h0=>⟨g,0,rfl,(World.ownsRow.lt h g rfl).2,fun j hj => ?_⟩⟩;have z:=dyCells_get l j hj;rw[Nat.zero_add,World.ownsRow.cellAt h (j*2) (by omega),World.ownsRow.cellAt h (j*2+1) (by omega)];exact z
theorem own_far {w:World} {B g n k:Nat} {e:TypeId} {A:Option Addr} {c:Nat} {xs:List Value} (h:w.ownsRow B e k (.slice A n c) n xs) (hg:g<B):Far A g:=fun b off q=>by
 subst q
 have:=(World.ownsRow.lt h b rfl).1
 omega
theorem resC {tm:Array Value} {w:World} {g:Nat} {cs:Array Value} {u0 u1 u2 u3 u4 u5 u6 u7 u8 u9 u10 u11 u12 u13 u14:Value} (hc:15<=cs.size) (h:∀k u,cs[k]? = some u->w.cell? ⟨g,k,none⟩=some u) (t2:tm[2]? = some (.pointer (some ⟨g,0,none⟩))):
  (results Tryz.f55 tm).run Tryz.prog (((((((((((((((w.setCell ⟨g,0,none⟩ u0).setCell ⟨g,1,none⟩ u1).setCell ⟨g,2,none⟩ u2).setCell ⟨g,3,none⟩ u3).setCell ⟨g,4,none⟩ u4).setCell ⟨g,5,none⟩ u5).setCell ⟨g,6,none⟩ u6).setCell ⟨g,7,none⟩ u7).setCell ⟨g,8,none⟩ u8).setCell ⟨g,9,none⟩ u9).setCell ⟨g,10,none⟩ u10).setCell ⟨g,11,none⟩ u11).setCell ⟨g,12,none⟩ u12).setCell ⟨g,13,none⟩ u13).setCell ⟨g,14,none⟩ u14)= .ok (.agg #[u0,u1,u2,u3,u4,u5,u6,u7,u8,u9,u10,u11,u12,u13,u14]) (((((((((((((((w.setCell ⟨g,0,none⟩ u0).setCell ⟨g,1,none⟩ u1).setCell ⟨g,2,none⟩ u2).setCell ⟨g,3,none⟩ u3).setCell ⟨g,4,none⟩ u4).setCell ⟨g,5,none⟩ u5).setCell ⟨g,6,none⟩ u6).setCell ⟨g,7,none⟩ u7).setCell ⟨g,8,none⟩ u8).setCell ⟨g,9,none⟩ u9).setCell ⟨g,10,none⟩ u10).setCell ⟨g,11,none⟩ u11).setCell ⟨g,12,none⟩ u12).setCell ⟨g,13,none⟩ u13).setCell ⟨g,14,none⟩ u14):=by
 simp[results,Tryz.results55,go_sem,t2,set15_0 hc h,set15_1 hc h,set15_2 hc h,set15_3 hc h,set15_4 hc h,set15_5 hc h,set15_6 hc h,set15_7 hc h,set15_8 hc h,set15_9 hc h,set15_10 hc h,set15_11 hc h,set15_12 hc h,set15_13 hc h,set15_14 hc h]
def FourB (w:World) (g:Nat) (F:Value->Value->Value->Value->Array Value) (l6 l7 l8 l9:List Int) (wx:World):Prop:=
 ∃(A6 A7 A8 A9:Option Addr) (c6 c7 c8 c9:Nat) (u1 u2 u3:Nat),w.heap.size<=u1/\u1<=u2/\u2<=u3/\u3<=wx.heap.size/\OwnB w.heap.size u1 wx (.slice A6 l6.length c6) l6/\OwnB u1 u2 wx (.slice A7 l7.length c7) l7/\OwnB u2 u3 wx (.slice A8 l8.length c8) l8/\OwnB u3 wx.heap.size wx (.slice A9 l9.length c9) l9/\
  Box wx g (F (.slice A6 l6.length c6) (.slice A7 l7.length c7) (.slice A8 l8.length c8) (.slice A9 l9.length c9))/\(∀k,wx.frozen? ⟨g,k,none⟩=false)/\w.grownBy wx (some g)
def DaysB (w:World) (g:Nat) (F:Value->Array Value) (l:List Dy) (wx:World):Prop:=
 ∃(A:Option Addr) (c:Nat),OwnDB w.heap.size wx.heap.size wx (.slice A l.length c) l/\Box wx g (F (.slice A l.length c))/\(∀k,wx.frozen? ⟨g,k,none⟩=false)/\w.grownBy wx (some g)
theorem daysB_of {w1 wx:World} {g:Nat} {cs:Array Value} {F:Value->Array Value} {l:List Dy} {A:Option Addr} {c:Nat} (hg:g<w1.heap.size) (XC:Box w1 g cs) (h10:10<cs.size) (hF:F (.slice A l.length c)=cs.setIfInBounds 10 (.slice A l.length c)) (FC:∀k,w1.frozen? ⟨g,k,none⟩=false)
  (o:OwnDB w1.heap.size wx.heap.size wx (.slice A l.length c) l) (bx:Below w1.heap.size w1 wx):DaysB w1 g F l (wx.setCell ⟨g,10,none⟩ (.slice A l.length c)):=by
 refine⟨A,c,⟨ownsRow_setCell_below o.1 hg _,fun h q=>by simpa using o.2 h q⟩,hF ▸ (XC.below bx).put 10 _ h10,fun k=>by simpa using (bx.frozen (p:=⟨g,k,none⟩) hg).trans (FC k),gr_set (gr_below bx)⟩
def OwnsR (B:Nat) (w:World) (S:RS) (r:Ru):Prop:=∃u1 u2 u3 u4 u5 u6 u7 u8 u9:Nat,B<=u1/\u1<=u2/\u2<=u3/\u3<=u4/\u4<=u5/\u5<=u6/\u6<=u7/\u7<=u8/\u8<=u9/\u9<=w.heap.size/\
 OwnB B u1 w (.slice S.a6 S.n6 S.c6) r.mon/\OwnB u1 u2 w (.slice S.a7 S.n7 S.c7) r.week/\OwnB u2 u3 w (.slice S.a8 S.n8 S.c8) r.yday/\OwnB u3 u4 w (.slice S.a9 S.n9 S.c9) r.mday/\OwnDB u4 u5 w (.slice S.a10 S.n10 S.c10) r.day/\
 OwnB u5 u6 w (.slice S.a11 S.n11 S.c11) r.hour/\OwnB u6 u7 w (.slice S.a12 S.n12 S.c12) r.minu/\OwnB u7 u8 w (.slice S.a13 S.n13 S.c13) r.sec/\OwnB u8 u9 w (.slice S.a14 S.n14 S.c14) r.pos
theorem gr_set15 {w:World} {g:Nat} {u0 u1 u2 u3 u4 u5 u6 u7 u8 u9 u10 u11 u12 u13 u14:Value}:w.grownBy ((((((((((((((((w.setCell ⟨g,0,none⟩ u0).setCell ⟨g,1,none⟩ u1).setCell ⟨g,2,none⟩ u2).setCell ⟨g,3,none⟩ u3).setCell ⟨g,4,none⟩ u4).setCell ⟨g,5,none⟩ u5).setCell ⟨g,6,none⟩ u6).setCell ⟨g,7,none⟩ u7).setCell ⟨g,8,none⟩ u8).setCell ⟨g,9,none⟩ u9).setCell ⟨g,10,none⟩ u10).setCell ⟨g,11,none⟩ u11).setCell ⟨g,12,none⟩ u12).setCell ⟨g,13,none⟩ u13).setCell ⟨g,14,none⟩ u14)) (some g):=
 gr_set (gr_set (gr_set (gr_set (gr_set (gr_set (gr_set (gr_set (gr_set (gr_set (gr_set (gr_set (gr_set (gr_set (gr_set (World.grownBy.refl _ _)))))))))))))))
set_option maxHeartbeats 8000000 in
theorem copyR_own (w:World) (S:RS) (r:Ru) (h:RuIn w S r) (hf:fewB S=true):Calls Tryz.prog 55 #[S.val r] w fun e w'=>∃S',e= .returned (S'.val r)/\RuAt w' S' r/\Below w.heap.size w w'/\OwnsR w.heap.size w' S' r:=by
 have RA:=hid (h.few hf)
 have HI:=hid h
 obtain⟨f6,f7,f8,f9,f10,f11,f12,f13,f14⟩:=of_decide_eq_true hf
 clear h hf
 obtain⟨a6,n6,c6,a7,n7,c7,a8,n8,c8,a9,n9,c9,a10,n10,c10,a11,n11,c11,a12,n12,c12,a13,n13,c13,a14,n14,c14⟩:=S
 obtain⟨freq,itv,cnt,til,wkst,ends,mon,week,yday,mday,day,hour,minu,sec,pos⟩:=r
 simp only at f6 f7 f8 f9 f10 f11 f12 f13 f14
 have Y6:=hid HI.out.y6
 have Y7:=hid HI.out.y7
 have Y8:=hid HI.out.y8
 have Y9:=hid HI.out.y9
 have Y10:=hid HI.out.y10
 have Y11:=hid HI.out.y11
 have Y12:=hid HI.out.y12
 have Y13:=hid HI.out.y13
 have Y14:=hid HI.out.y14
 show Calls Tryz.prog 55 #[.agg #[.int .i64 freq,.int .i64 itv,.int .i64 cnt,.int .i64 til,.int .i64 wkst,.bool ends,.slice a6 n6 c6,.slice a7 n7 c7,.slice a8 n8 c8,.slice a9 n9 c9,.slice a10 n10 c10,.slice a11 n11 c11,.slice a12 n12 c12,.slice a13 n13 c13,.slice a14 n14 c14]] w _
 go_enter Tryz.func55,Tryz.ntmps55
 go_upto_region 1 with fail
 have XB:=two_box1 w #[.int .i64 freq,.int .i64 itv,.int .i64 cnt,.int .i64 til,.int .i64 wkst,.bool ends,.slice a6 n6 c6,.slice a7 n7 c7,.slice a8 n8 c8,.slice a9 n9 c9,.slice a10 n10 c10,.slice a11 n11 c11,.slice a12 n12 c12,.slice a13 n13 c13,.slice a14 n14 c14] zero15 25
 have BW:=two_below w (.cells #[.int .i64 freq,.int .i64 itv,.int .i64 cnt,.int .i64 til,.int .i64 wkst,.bool ends,.slice a6 n6 c6,.slice a7 n7 c7,.slice a8 n8 c8,.slice a9 n9 c9,.slice a10 n10 c10,.slice a11 n11 c11,.slice a12 n12 c12,.slice a13 n13 c13,.slice a14 n14 c14] 25) (.cells zero15 25)
 have XZ:=two_box2 w #[.int .i64 freq,.int .i64 itv,.int .i64 cnt,.int .i64 til,.int .i64 wkst,.bool ends,.slice a6 n6 c6,.slice a7 n7 c7,.slice a8 n8 c8,.slice a9 n9 c9,.slice a10 n10 c10,.slice a11 n11 c11,.slice a12 n12 c12,.slice a13 n13 c13,.slice a14 n14 c14] zero15 25
 have FZ:=hid (show ∀k,((w.alloc (.cells #[.int .i64 freq,.int .i64 itv,.int .i64 cnt,.int .i64 til,.int .i64 wkst,.bool ends,.slice a6 n6 c6,.slice a7 n7 c7,.slice a8 n8 c8,.slice a9 n9 c9,.slice a10 n10 c10,.slice a11 n11 c11,.slice a12 n12 c12,.slice a13 n13 c13,.slice a14 n14 c14] 25)).alloc (.cells zero15 25)).frozen? ⟨w.heap.size,k,none⟩=false from fun k=>by simp[go_sem])
 have FZ2:=hid (show ∀k,((w.alloc (.cells #[.int .i64 freq,.int .i64 itv,.int .i64 cnt,.int .i64 til,.int .i64 wkst,.bool ends,.slice a6 n6 c6,.slice a7 n7 c7,.slice a8 n8 c8,.slice a9 n9 c9,.slice a10 n10 c10,.slice a11 n11 c11,.slice a12 n12 c12,.slice a13 n13 c13,.slice a14 n14 c14] 25)).alloc (.cells zero15 25)).frozen? ⟨w.heap.size+1,k,none⟩=false from fun k=>by simp[go_sem])
 unfold zero15 at XB BW XZ FZ FZ2
 generalize (w.alloc _).alloc _=w0 at *
 have IS6:=hid (fun (v:World) (q:Below w0.heap.size w0 v)=>RA.out.h6.below (BW.trans (q.mono BW.size)))
 have IS7:=hid (fun (v:World) (q:Below w0.heap.size w0 v)=>RA.out.h7.below (BW.trans (q.mono BW.size)))
 have IS8:=hid (fun (v:World) (q:Below w0.heap.size w0 v)=>RA.out.h8.below (BW.trans (q.mono BW.size)))
 have IS9:=hid (fun (v:World) (q:Below w0.heap.size w0 v)=>RA.out.h9.below (BW.trans (q.mono BW.size)))
 go_cut [3] (fun s wx=>FourB w0 w.heap.size (fun v6 v7 v8 v9 => #[.int .i64 freq,.int .i64 itv,.int .i64 cnt,.int .i64 til,.int .i64 wkst,.bool ends,v6,v7,v8,v9,.slice a10 n10 c10,.slice a11 n11 c11,.slice a12 n12 c12,.slice a13 n13 c13,.slice a14 n14 c14]) mon week yday mday wx)
 case first=>
  refine wp_region_late (fun j=>decide (12<j)) (fun w'=>w'.cell? ⟨w.heap.size,6,none⟩=some (.slice a6 n6 c6)/\w'.cell? ⟨w.heap.size,7,none⟩=some (.slice a7 n7 c7)/\w'.cell? ⟨w.heap.size,8,none⟩=some (.slice a8 n8 c8)/\w'.cell? ⟨w.heap.size,9,none⟩=some (.slice a9 n9 c9)) (by kernel_rfl) ?_;have hS:w0.drew.cell? ⟨w.heap.size,6,none⟩=some (.slice a6 n6 c6)/\w0.drew.cell? ⟨w.heap.size,7,none⟩=some (.slice a7 n7 c7)/\w0.drew.cell? ⟨w.heap.size,8,none⟩=some (.slice a8 n8 c8)/\w0.drew.cell? ⟨w.heap.size,9,none⟩=some (.slice a9 n9 c9):=⟨XB.at_ 6 _ rfl,XB.at_ 7 _ rfl,XB.at_ 8 _ rfl,XB.at_ 9 _ rfl⟩
  refine Late.take 0 (.pointer (some ⟨w.heap.size,6,none⟩)) rfl (by kernel_rfl) (by kernel_rfl) (by kernel_rfl) (by kernel_rfl) (fun _ _ _ h=>h) (.inl ⟨rfl,fun w' hs => ?_⟩) hS ?_
  ·go_simp
  refine Late.take 1 (.slice a6 n6 c6) rfl (by kernel_rfl) (by kernel_rfl) (by kernel_rfl) (by kernel_rfl) (fun _ _ _ h=>h) (.inl ⟨rfl,fun w' hs => ?_⟩) hS ?_
  ·obtain⟨s0,s1,s2,s3⟩:=hs
   go_simp
  refine Late.take 3 (.pointer (some ⟨w.heap.size,7,none⟩)) rfl (by kernel_rfl) (by kernel_rfl) (by kernel_rfl) (by kernel_rfl) (fun _ _ _ h=>h) (.inl ⟨rfl,fun w' hs => ?_⟩) hS ?_
  ·go_simp
  refine Late.take 4 (.slice a7 n7 c7) rfl (by kernel_rfl) (by kernel_rfl) (by kernel_rfl) (by kernel_rfl) (fun _ _ _ h=>h) (.inl ⟨rfl,fun w' hs => ?_⟩) hS ?_
  ·obtain⟨s0,s1,s2,s3⟩:=hs
   go_simp
  refine Late.take 6 (.pointer (some ⟨w.heap.size,8,none⟩)) rfl (by kernel_rfl) (by kernel_rfl) (by kernel_rfl) (by kernel_rfl) (fun _ _ _ h=>h) (.inl ⟨rfl,fun w' hs => ?_⟩) hS ?_
  ·go_simp
  refine Late.take 7 (.slice a8 n8 c8) rfl (by kernel_rfl) (by kernel_rfl) (by kernel_rfl) (by kernel_rfl) (fun _ _ _ h=>h) (.inl ⟨rfl,fun w' hs => ?_⟩) hS ?_
  ·obtain⟨s0,s1,s2,s3⟩:=hs
   go_simp
  refine Late.take 9 (.pointer (some ⟨w.heap.size,9,none⟩)) rfl (by kernel_rfl) (by kernel_rfl) (by kernel_rfl) (by kernel_rfl) (fun _ _ _ h=>h) (.inl ⟨rfl,fun w' hs => ?_⟩) hS ?_
  ·go_simp
  refine Late.take 10 (.slice a9 n9 c9) rfl (by kernel_rfl) (by kernel_rfl) (by kernel_rfl) (by kernel_rfl) (fun _ _ _ h=>h) (.inl ⟨rfl,fun w' hs => ?_⟩) hS ?_
  ·obtain⟨s0,s1,s2,s3⟩:=hs
   go_simp
  have D0:Below w0.heap.size w0 w0.drew:=(Below.refl _ _).drew
  refine Late.one 2 rfl (by kernel_rfl) rfl ?_
  go_simp
  refine(copyI_is _ a6 n6 c6 mon (IS6.out _ D0) (by omega) Y6.out).mono ?_;rintro e x1 ⟨v1,rfl,o1,b1⟩;have D1:=D0.trans (b1.mono D0.size);have hS1:x1.cell? ⟨w.heap.size,6,none⟩=some (.slice a6 n6 c6)/\x1.cell? ⟨w.heap.size,7,none⟩=some (.slice a7 n7 c7)/\x1.cell? ⟨w.heap.size,8,none⟩=some (.slice a8 n8 c8)/\x1.cell? ⟨w.heap.size,9,none⟩=some (.slice a9 n9 c9):=⟨(XB.below D1).at_ 6 _ rfl,(XB.below D1).at_ 7 _ rfl,(XB.below D1).at_ 8 _ rfl,(XB.below D1).at_ 9 _ rfl⟩
  obtain⟨A1,q1,rfl,-,-,-⟩:=o1.at_;refine⟨hS1,?_⟩;refine Late.take 12 (.pointer (some ⟨w.heap.size,6,none⟩)) rfl (by kernel_rfl) (by kernel_rfl) (by kernel_rfl) (by kernel_rfl) (fun _ _ _ h=>h) (.inl ⟨rfl,fun w' hs => ?_⟩) hS1 ?_
  ·go_simp
  refine Late.one 5 rfl (by kernel_rfl) rfl ?_
  go_simp
  refine(copyI_is _ a7 n7 c7 week (IS7.out _ D1) (by omega) Y7.out).mono ?_;rintro e x2 ⟨v2,rfl,o2,b2⟩;have D2:=D1.trans (b2.mono D1.size);have hS2:x2.cell? ⟨w.heap.size,6,none⟩=some (.slice a6 n6 c6)/\x2.cell? ⟨w.heap.size,7,none⟩=some (.slice a7 n7 c7)/\x2.cell? ⟨w.heap.size,8,none⟩=some (.slice a8 n8 c8)/\x2.cell? ⟨w.heap.size,9,none⟩=some (.slice a9 n9 c9):=⟨(XB.below D2).at_ 6 _ rfl,(XB.below D2).at_ 7 _ rfl,(XB.below D2).at_ 8 _ rfl,(XB.below D2).at_ 9 _ rfl⟩
  obtain⟨A2,q2,rfl,-,-,-⟩:=o2.at_;refine⟨hS2,?_⟩;refine Late.one 8 rfl (by kernel_rfl) rfl ?_
  go_simp
  refine(copyI_is _ a8 n8 c8 yday (IS8.out _ D2) (by omega) Y8.out).mono ?_;rintro e x3 ⟨v3,rfl,o3,b3⟩;have D3:=D2.trans (b3.mono D2.size);have hS3:x3.cell? ⟨w.heap.size,6,none⟩=some (.slice a6 n6 c6)/\x3.cell? ⟨w.heap.size,7,none⟩=some (.slice a7 n7 c7)/\x3.cell? ⟨w.heap.size,8,none⟩=some (.slice a8 n8 c8)/\x3.cell? ⟨w.heap.size,9,none⟩=some (.slice a9 n9 c9):=⟨(XB.below D3).at_ 6 _ rfl,(XB.below D3).at_ 7 _ rfl,(XB.below D3).at_ 8 _ rfl,(XB.below D3).at_ 9 _ rfl⟩
  obtain⟨A3,q3,rfl,-,-,-⟩:=o3.at_;refine⟨hS3,?_⟩;refine Late.one 11 rfl (by kernel_rfl) rfl ?_
  go_simp
  refine(copyI_is _ a9 n9 c9 mday (IS9.out _ D3) (by omega) Y9.out).mono ?_;rintro e x4 ⟨v4,rfl,o4,b4⟩;have D4:=D3.trans (b4.mono D3.size);have hS4:x4.cell? ⟨w.heap.size,6,none⟩=some (.slice a6 n6 c6)/\x4.cell? ⟨w.heap.size,7,none⟩=some (.slice a7 n7 c7)/\x4.cell? ⟨w.heap.size,8,none⟩=some (.slice a8 n8 c8)/\x4.cell? ⟨w.heap.size,9,none⟩=some (.slice a9 n9 c9):=⟨(XB.below D4).at_ 6 _ rfl,(XB.below D4).at_ 7 _ rfl,(XB.below D4).at_ 8 _ rfl,(XB.below D4).at_ 9 _ rfl⟩
  obtain⟨A4,q4,rfl,-,-,-⟩:=o4.at_;refine⟨hS4,?_⟩;have XB4:=XB.below D4;have e6:=XB4.at_ 6 _ rfl;have f6:x4.frozen? ⟨w.heap.size,6,none⟩=false:=(D4.frozen (p:=⟨w.heap.size,6,none⟩) XB.1).trans (FZ.out 6)
  have e7:=XB4.at_ 7 _ rfl;have f7:x4.frozen? ⟨w.heap.size,7,none⟩=false:=(D4.frozen (p:=⟨w.heap.size,7,none⟩) XB.1).trans (FZ.out 7)
  have e8:=XB4.at_ 8 _ rfl;have f8:x4.frozen? ⟨w.heap.size,8,none⟩=false:=(D4.frozen (p:=⟨w.heap.size,8,none⟩) XB.1).trans (FZ.out 8)
  have e9:=XB4.at_ 9 _ rfl;have f9:x4.frozen? ⟨w.heap.size,9,none⟩=false:=(D4.frozen (p:=⟨w.heap.size,9,none⟩) XB.1).trans (FZ.out 9)
  refine Late.one 13 rfl (by kernel_rfl) rfl ?_
  go_simp
  refine Late.one 14 rfl (by kernel_rfl) rfl ?_
  go_simp
  refine Late.one 15 rfl (by kernel_rfl) rfl ?_
  go_simp
  refine Late.one 16 rfl (by kernel_rfl) rfl ?_
  go_simp
  refine Late.one 17 rfl (by kernel_rfl) rfl ?_
  go_simp
  refine Late.one 18 rfl (by kernel_rfl) rfl ?_
  go_simp
  refine Late.one 19 rfl (by kernel_rfl) rfl ?_
  go_simp
  refine Late.done (by kernel_rfl) ?_;go_wp2
  go_meet
  have g0:w.heap.size<w0.heap.size:=XB.1
  exact⟨_,_,_,_,_,_,_,_,x1.heap.size,x2.heap.size,x3.heap.size,D1.size,b2.size,b3.size,by simpa using b4.size,
   (((OwnI.b o1).on b2).on b3).on b4 |>.gr (gr_set (gr_set (gr_set (gr_set (World.grownBy.refl _ _))))) g0,
   ((OwnI.b o2).on b3).on b4 |>.gr (gr_set (gr_set (gr_set (gr_set (World.grownBy.refl _ _))))) (Nat.lt_of_lt_of_le g0 D1.size),
   (OwnI.b o3).on b4 |>.gr (gr_set (gr_set (gr_set (gr_set (World.grownBy.refl _ _))))) (Nat.lt_of_lt_of_le g0 D2.size),
   by simpa using (OwnI.b o4).gr (gr_set (gr_set (gr_set (gr_set (World.grownBy.refl _ _))))) (Nat.lt_of_lt_of_le g0 D3.size),
   (((XB4.put 6 _ (show 6<15 by decide)).put 7 _ (show 7<15 by decide)).put 8 _ (show 8<15 by decide)).put 9 _ (show 9<15 by decide),
   fun k=>by simpa using (D4.frozen (p:=⟨w.heap.size,k,none⟩) g0).trans (FZ.out k),
   gr_set (gr_set (gr_set (gr_set (gr_below D4))))⟩
 case rest=>
  obtain⟨A6,A7,A8,A9,q6,q7,q8,q9,k1,k2,k3,hu0,hu1,hu2,hu3,o6,o7,o8,o9,XC,FC,G1⟩:=hcut;generalize wc=w1 at *;have XC2:Box w1 w.heap.size #[.int .i64 freq,.int .i64 itv,.int .i64 cnt,.int .i64 til,.int .i64 wkst,.bool ends,.slice A6 mon.length q6,.slice A7 week.length q7,.slice A8 yday.length q8,.slice A9 mday.length q9,.slice a10 n10 c10,.slice a11 n11 c11,.slice a12 n12 c12,.slice a13 n13 c13,.slice a14 n14 c14]:=XC
  clear XC IS6 IS7 IS8 IS9 XB;have g0:w.heap.size<w0.heap.size:=Nat.lt_of_lt_of_le (Nat.lt_succ_self _) (Nat.le_of_lt_succ (Nat.lt_succ_of_lt XZ.1))
  have BC:=BW.grown G1 BW.size (fun k hk=>by injection hk with hk;exact Nat.le_of_eq hk);have ID:=hid (show DyAt w1 a10 n10 day from RA.out.h10.below BC);have e10:w1.cell? ⟨w.heap.size,10,none⟩=some (.slice a10 n10 c10):=XC2.at_ 10 _ rfl
  have f10z:=FC 10;have gl:w.heap.size<w1.heap.size:=XC2.1
  go_upto_region 2 with fail
  go_cut [19] (fun s wx=>DaysB w1 w.heap.size (fun v10 => #[.int .i64 freq,.int .i64 itv,.int .i64 cnt,.int .i64 til,.int .i64 wkst,.bool ends,.slice A6 mon.length q6,.slice A7 week.length q7,.slice A8 yday.length q8,.slice A9 mday.length q9,v10,.slice a11 n11 c11,.slice a12 n12 c12,.slice a13 n13 c13,.slice a14 n14 c14]) day wx)
  case first=>
   obtain⟨i0,hi,hz0,hz1,hz2⟩:=info_parts info_dy;have LIT:=hid (lit_none w1 109 2)
   cases a10 with
   |none=>
    obtain rfl:n10=0:=by
     rcases Nat.eq_zero_or_pos n10 with z|z
     ·exact z
     ·obtain⟨b,off,e,-⟩:=ID.out.2 z;cases e
    obtain rfl:c10=0:=Y10.out rfl
    obtain rfl:day=[]:=List.length_eq_zero_iff.1 ID.out.1.symm
    go_wp2_with (at_builtin;refine wpList_append_own_none rfl _ _ 23 rfl w1.heap.size 109 i0 2 Tryz.underlying23 hi _ 0 [] rfl LIT.out rfl ?_)
    go_wp2
    go_meet
    have cm:=World.setCell_alloc_past (w:=w1) (.cells #[] 109) w.heap.size 10 (.slice (some ⟨w1.heap.size,0,none⟩) 0 0) gl;rw[<-cm];exact daysB_of (F:=fun v10 => #[.int .i64 freq,.int .i64 itv,.int .i64 cnt,.int .i64 til,.int .i64 wkst,.bool ends,.slice A6 mon.length q6,.slice A7 week.length q7,.slice A8 yday.length q8,.slice A9 mday.length q9,v10,.slice a11 n11 c11,.slice a12 n12 c12,.slice a13 n13 c13,.slice a14 n14 c14]) (w1:=w1) (wx:=w1.alloc (.cells #[] 109)) (A:=some ⟨w1.heap.size,0,none⟩) (c:=0) (l:= []) gl XC2 (show 10<15 by decide) rfl FC ⟨LIT.out,fun g q=>by have q:some w1.heap.size=some g:=q;injection q with q;rw[<-q];simp⟩ (alloc_below _ _)
   |some ad=>
    obtain⟨b,off,sp⟩:=ad;have LEN:=hid (show (dyCells day).length=n10*2 by rw[dyCells_len,ID.out.1]);have ONE:=hid (dyCells_one day)
    have GET:=hid (fun j u (q:(dyCells day)[j]? = some u)=>show (w1.alloc (.cells #[] 109)).cell? ((⟨b,off,sp⟩:Addr).add j)=some u by
     obtain⟨i,hi,hc⟩:=dyCells_at q;obtain⟨b',off',e,hb,hcc⟩:=ID.out.2 (by rw[ID.out.1];omega);cases e
     have z:=hcc i (by rw[ID.out.1];exact hi);rw[addr_off];refine((alloc_below w1 _).cell (p:=⟨b,off+j,none⟩) hb).trans ?_
     rcases hc with ⟨rfl,rfl⟩|⟨rfl,rfl⟩
     ·exact z.1
     ·exact z.2)
    have NL:=hid ID.out.1;have SZ:=hid (show 0+n10<=maxLen by unfold maxLen;omega)
    go_wp2_with (at_builtin;refine wpList_append_own _ rfl _ _ 23 rfl w1.heap.size 109 i0 (.agg #[.int .i64 0,.int .i64 0]) 2 16 Tryz.underlying23 hi hz0 hz1 hz2 rfl (by decide) _ 0 [] rfl LIT.out ⟨b,off,sp⟩ n10 c10 (dyCells day) rfl LEN.out GET.out ONE.out SZ.out (by omega) (by simp) ?_)
    intro v' x1 hown hg hnil;have hown2:x1.ownsRow w1.heap.size 109 2 v' day.length (dyCells day):=by rw[<-NL.out];simpa using hown
    rcases hown2.2 with ⟨q,-⟩|⟨g2,cap2,cur2,rfl,-⟩
    ·exact(hnil q).elim
    have bx:=(alloc_below w1 (.cells #[] 109)).grown hg (by simp) (fun k hk=>by injection hk with hk;exact Nat.le_of_eq hk);have e11:=(bx.cell (p:=⟨w.heap.size,10,none⟩) gl).trans e10;have f11:=(bx.frozen (p:=⟨w.heap.size,10,none⟩) gl).trans f10z;have HO:=hid hown2;clear hown hown2 hnil hg;go_wp2
    go_meet
    exact daysB_of gl XC2 (show 10<15 by decide) rfl FC ⟨HO.out,fun g q=>(World.ownsRow.lt HO.out g q).2⟩ bx
  case rest=>
   obtain⟨A10,q10,o10,XD,FD,G2⟩:=hcut;generalize wc=w2 at *;have XB:Box w2 w.heap.size #[.int .i64 freq,.int .i64 itv,.int .i64 cnt,.int .i64 til,.int .i64 wkst,.bool ends,.slice A6 mon.length q6,.slice A7 week.length q7,.slice A8 yday.length q8,.slice A9 mday.length q9,.slice A10 day.length q10,.slice a11 n11 c11,.slice a12 n12 c12,.slice a13 n13 c13,.slice a14 n14 c14]:=XD
   have FZ3:=FZ;clear XD XC2 FC FZ e10 f10z;have FZ:=hid FD;have BW2:=BC.grown G2 BC.size (fun k hk=>by injection hk with hk;exact Nat.le_of_eq hk);have IS11:=hid (fun (v:World) (q:Below w2.heap.size w2 v)=>RA.out.h11.below (BW2.trans (q.mono BW2.size)));have IS12:=hid (fun (v:World) (q:Below w2.heap.size w2 v)=>RA.out.h12.below (BW2.trans (q.mono BW2.size)));have IS13:=hid (fun (v:World) (q:Below w2.heap.size w2 v)=>RA.out.h13.below (BW2.trans (q.mono BW2.size)));have IS14:=hid (fun (v:World) (q:Below w2.heap.size w2 v)=>RA.out.h14.below (BW2.trans (q.mono BW2.size)))
   go_upto_region 3 with fail
   go_cut [24] (fun s wx=>FourB w2 w.heap.size (fun v11 v12 v13 v14 => #[.int .i64 freq,.int .i64 itv,.int .i64 cnt,.int .i64 til,.int .i64 wkst,.bool ends,.slice A6 mon.length q6,.slice A7 week.length q7,.slice A8 yday.length q8,.slice A9 mday.length q9,.slice A10 day.length q10,v11,v12,v13,v14]) hour minu sec pos wx)
   case first=>
    refine wp_region_late (fun j=>decide (12<j)) (fun w'=>w'.cell? ⟨w.heap.size,11,none⟩=some (.slice a11 n11 c11)/\w'.cell? ⟨w.heap.size,12,none⟩=some (.slice a12 n12 c12)/\w'.cell? ⟨w.heap.size,13,none⟩=some (.slice a13 n13 c13)/\w'.cell? ⟨w.heap.size,14,none⟩=some (.slice a14 n14 c14)) (by kernel_rfl) ?_;have hS:w2.drew.cell? ⟨w.heap.size,11,none⟩=some (.slice a11 n11 c11)/\w2.drew.cell? ⟨w.heap.size,12,none⟩=some (.slice a12 n12 c12)/\w2.drew.cell? ⟨w.heap.size,13,none⟩=some (.slice a13 n13 c13)/\w2.drew.cell? ⟨w.heap.size,14,none⟩=some (.slice a14 n14 c14):=⟨XB.at_ 11 _ rfl,XB.at_ 12 _ rfl,XB.at_ 13 _ rfl,XB.at_ 14 _ rfl⟩
    refine Late.take 0 (.pointer (some ⟨w.heap.size,11,none⟩)) rfl (by kernel_rfl) (by kernel_rfl) (by kernel_rfl) (by kernel_rfl) (fun _ _ _ h=>h) (.inl ⟨rfl,fun w' hs => ?_⟩) hS ?_
    ·go_simp
    refine Late.take 1 (.slice a11 n11 c11) rfl (by kernel_rfl) (by kernel_rfl) (by kernel_rfl) (by kernel_rfl) (fun _ _ _ h=>h) (.inl ⟨rfl,fun w' hs => ?_⟩) hS ?_
    ·obtain⟨s0,s1,s2,s3⟩:=hs
     go_simp
    refine Late.take 3 (.pointer (some ⟨w.heap.size,12,none⟩)) rfl (by kernel_rfl) (by kernel_rfl) (by kernel_rfl) (by kernel_rfl) (fun _ _ _ h=>h) (.inl ⟨rfl,fun w' hs => ?_⟩) hS ?_
    ·go_simp
    refine Late.take 4 (.slice a12 n12 c12) rfl (by kernel_rfl) (by kernel_rfl) (by kernel_rfl) (by kernel_rfl) (fun _ _ _ h=>h) (.inl ⟨rfl,fun w' hs => ?_⟩) hS ?_
    ·obtain⟨s0,s1,s2,s3⟩:=hs
     go_simp
    refine Late.take 6 (.pointer (some ⟨w.heap.size,13,none⟩)) rfl (by kernel_rfl) (by kernel_rfl) (by kernel_rfl) (by kernel_rfl) (fun _ _ _ h=>h) (.inl ⟨rfl,fun w' hs => ?_⟩) hS ?_
    ·go_simp
    refine Late.take 7 (.slice a13 n13 c13) rfl (by kernel_rfl) (by kernel_rfl) (by kernel_rfl) (by kernel_rfl) (fun _ _ _ h=>h) (.inl ⟨rfl,fun w' hs => ?_⟩) hS ?_
    ·obtain⟨s0,s1,s2,s3⟩:=hs
     go_simp
    refine Late.take 9 (.pointer (some ⟨w.heap.size,14,none⟩)) rfl (by kernel_rfl) (by kernel_rfl) (by kernel_rfl) (by kernel_rfl) (fun _ _ _ h=>h) (.inl ⟨rfl,fun w' hs => ?_⟩) hS ?_
    ·go_simp
    refine Late.take 10 (.slice a14 n14 c14) rfl (by kernel_rfl) (by kernel_rfl) (by kernel_rfl) (by kernel_rfl) (fun _ _ _ h=>h) (.inl ⟨rfl,fun w' hs => ?_⟩) hS ?_
    ·obtain⟨s0,s1,s2,s3⟩:=hs
     go_simp
    have D0:Below w2.heap.size w2 w2.drew:=(Below.refl _ _).drew
    refine Late.one 2 rfl (by kernel_rfl) rfl ?_
    go_simp
    refine(copyI_is _ a11 n11 c11 hour (IS11.out _ D0) (by omega) Y11.out).mono ?_;rintro e x1 ⟨v1,rfl,o1,b1⟩;have D1:=D0.trans (b1.mono D0.size);have hS1:x1.cell? ⟨w.heap.size,11,none⟩=some (.slice a11 n11 c11)/\x1.cell? ⟨w.heap.size,12,none⟩=some (.slice a12 n12 c12)/\x1.cell? ⟨w.heap.size,13,none⟩=some (.slice a13 n13 c13)/\x1.cell? ⟨w.heap.size,14,none⟩=some (.slice a14 n14 c14):=⟨(XB.below D1).at_ 11 _ rfl,(XB.below D1).at_ 12 _ rfl,(XB.below D1).at_ 13 _ rfl,(XB.below D1).at_ 14 _ rfl⟩
    obtain⟨A1,q1,rfl,-,-,-⟩:=o1.at_;refine⟨hS1,?_⟩;refine Late.take 12 (.pointer (some ⟨w.heap.size,11,none⟩)) rfl (by kernel_rfl) (by kernel_rfl) (by kernel_rfl) (by kernel_rfl) (fun _ _ _ h=>h) (.inl ⟨rfl,fun w' hs => ?_⟩) hS1 ?_
    ·go_simp
    refine Late.one 5 rfl (by kernel_rfl) rfl ?_
    go_simp
    refine(copyI_is _ a12 n12 c12 minu (IS12.out _ D1) (by omega) Y12.out).mono ?_;rintro e x2 ⟨v2,rfl,o2,b2⟩;have D2:=D1.trans (b2.mono D1.size);have hS2:x2.cell? ⟨w.heap.size,11,none⟩=some (.slice a11 n11 c11)/\x2.cell? ⟨w.heap.size,12,none⟩=some (.slice a12 n12 c12)/\x2.cell? ⟨w.heap.size,13,none⟩=some (.slice a13 n13 c13)/\x2.cell? ⟨w.heap.size,14,none⟩=some (.slice a14 n14 c14):=⟨(XB.below D2).at_ 11 _ rfl,(XB.below D2).at_ 12 _ rfl,(XB.below D2).at_ 13 _ rfl,(XB.below D2).at_ 14 _ rfl⟩
    obtain⟨A2,q2,rfl,-,-,-⟩:=o2.at_;refine⟨hS2,?_⟩;refine Late.one 8 rfl (by kernel_rfl) rfl ?_
    go_simp
    refine(copyI_is _ a13 n13 c13 sec (IS13.out _ D2) (by omega) Y13.out).mono ?_;rintro e x3 ⟨v3,rfl,o3,b3⟩;have D3:=D2.trans (b3.mono D2.size);have hS3:x3.cell? ⟨w.heap.size,11,none⟩=some (.slice a11 n11 c11)/\x3.cell? ⟨w.heap.size,12,none⟩=some (.slice a12 n12 c12)/\x3.cell? ⟨w.heap.size,13,none⟩=some (.slice a13 n13 c13)/\x3.cell? ⟨w.heap.size,14,none⟩=some (.slice a14 n14 c14):=⟨(XB.below D3).at_ 11 _ rfl,(XB.below D3).at_ 12 _ rfl,(XB.below D3).at_ 13 _ rfl,(XB.below D3).at_ 14 _ rfl⟩
    obtain⟨A3,q3,rfl,-,-,-⟩:=o3.at_;refine⟨hS3,?_⟩;refine Late.one 11 rfl (by kernel_rfl) rfl ?_
    go_simp
    refine(copyI_is _ a14 n14 c14 pos (IS14.out _ D3) (by omega) Y14.out).mono ?_;rintro e x4 ⟨v4,rfl,o4,b4⟩;have D4:=D3.trans (b4.mono D3.size);have hS4:x4.cell? ⟨w.heap.size,11,none⟩=some (.slice a11 n11 c11)/\x4.cell? ⟨w.heap.size,12,none⟩=some (.slice a12 n12 c12)/\x4.cell? ⟨w.heap.size,13,none⟩=some (.slice a13 n13 c13)/\x4.cell? ⟨w.heap.size,14,none⟩=some (.slice a14 n14 c14):=⟨(XB.below D4).at_ 11 _ rfl,(XB.below D4).at_ 12 _ rfl,(XB.below D4).at_ 13 _ rfl,(XB.below D4).at_ 14 _ rfl⟩
    obtain⟨A4,q4,rfl,-,-,-⟩:=o4.at_;refine⟨hS4,?_⟩;have XB4:=XB.below D4;have e11:=XB4.at_ 11 _ rfl;have f11:x4.frozen? ⟨w.heap.size,11,none⟩=false:=(D4.frozen (p:=⟨w.heap.size,11,none⟩) XB.1).trans (FZ.out 11)
    have e12:=XB4.at_ 12 _ rfl;have f12:x4.frozen? ⟨w.heap.size,12,none⟩=false:=(D4.frozen (p:=⟨w.heap.size,12,none⟩) XB.1).trans (FZ.out 12)
    have e13:=XB4.at_ 13 _ rfl;have f13:x4.frozen? ⟨w.heap.size,13,none⟩=false:=(D4.frozen (p:=⟨w.heap.size,13,none⟩) XB.1).trans (FZ.out 13)
    have e14:=XB4.at_ 14 _ rfl;have f14:x4.frozen? ⟨w.heap.size,14,none⟩=false:=(D4.frozen (p:=⟨w.heap.size,14,none⟩) XB.1).trans (FZ.out 14)
    refine Late.one 13 rfl (by kernel_rfl) rfl ?_
    go_simp
    refine Late.one 14 rfl (by kernel_rfl) rfl ?_
    go_simp
    refine Late.one 15 rfl (by kernel_rfl) rfl ?_
    go_simp
    refine Late.one 16 rfl (by kernel_rfl) rfl ?_
    go_simp
    refine Late.one 17 rfl (by kernel_rfl) rfl ?_
    go_simp
    refine Late.one 18 rfl (by kernel_rfl) rfl ?_
    go_simp
    refine Late.one 19 rfl (by kernel_rfl) rfl ?_
    go_simp
    refine Late.done (by kernel_rfl) ?_;go_wp2
    go_meet
    have g0:w.heap.size<w2.heap.size:=XB.1
    exact⟨_,_,_,_,_,_,_,_,x1.heap.size,x2.heap.size,x3.heap.size,D1.size,b2.size,b3.size,by simpa using b4.size,
     (((OwnI.b o1).on b2).on b3).on b4 |>.gr (gr_set (gr_set (gr_set (gr_set (World.grownBy.refl _ _))))) g0,
     ((OwnI.b o2).on b3).on b4 |>.gr (gr_set (gr_set (gr_set (gr_set (World.grownBy.refl _ _))))) (Nat.lt_of_lt_of_le g0 D1.size),
     (OwnI.b o3).on b4 |>.gr (gr_set (gr_set (gr_set (gr_set (World.grownBy.refl _ _))))) (Nat.lt_of_lt_of_le g0 D2.size),
     by simpa using (OwnI.b o4).gr (gr_set (gr_set (gr_set (gr_set (World.grownBy.refl _ _))))) (Nat.lt_of_lt_of_le g0 D3.size),
     (((XB4.put 11 _ (show 11<15 by decide)).put 12 _ (show 12<15 by decide)).put 13 _ (show 13<15 by decide)).put 14 _ (show 14<15 by decide),
     fun k=>by simpa using (D4.frozen (p:=⟨w.heap.size,k,none⟩) g0).trans (FZ.out k),
     gr_set (gr_set (gr_set (gr_set (gr_below D4))))⟩
   case rest=>
    obtain⟨A11,A12,A13,A14,q11,q12,q13,q14,k4,k5,k6,hu4,hu5,hu6,hu7,o11,o12,o13,o14,XE,FE,G3⟩:=hcut;generalize wc=w3 at *;have XF:Box w3 w.heap.size #[.int .i64 freq,.int .i64 itv,.int .i64 cnt,.int .i64 til,.int .i64 wkst,.bool ends,.slice A6 mon.length q6,.slice A7 week.length q7,.slice A8 yday.length q8,.slice A9 mday.length q9,.slice A10 day.length q10,.slice A11 hour.length q11,.slice A12 minu.length q12,.slice A13 sec.length q13,.slice A14 pos.length q14]:=XE
    have gz:w.heap.size+1<w0.heap.size:=XZ.1
    have ne1:some (w.heap.size+1)≠some w.heap.size:=by simp
    have s1:=G1.size;have s2:=G2.size;have BW3:=BW2.grown G3 BW2.size (fun k hk=>by injection hk with hk;exact Nat.le_of_eq hk)
    have ZC:=hid (fun (k:Nat) (u:Value) (z:(#[.int .i64 0,.int .i64 0,.int .i64 0,.int .i64 0,.int .i64 0,.bool false,.slice none 0 0,.slice none 0 0,.slice none 0 0,.slice none 0 0,.slice none 0 0,.slice none 0 0,.slice none 0 0,.slice none 0 0,.slice none 0 0]:Array Value)[k]? = some u)=>show w3.cell? ⟨w.heap.size+1,k,none⟩=some u from
     ((G3.cell_far ⟨w.heap.size+1,k,none⟩ (by show w.heap.size+1<_;omega) ne1).trans ((G2.cell_far ⟨w.heap.size+1,k,none⟩ (by show w.heap.size+1<_;omega) ne1).trans (G1.cell_far ⟨w.heap.size+1,k,none⟩ gz ne1))).trans (XZ.2 k u z))
    have ZF:=hid (fun (k:Nat)=>show w3.frozen? ⟨w.heap.size+1,k,none⟩=false from
     ((G3.frozen_far ⟨w.heap.size+1,k,none⟩ (by show w.heap.size+1<_;omega) ne1).trans ((G2.frozen_far ⟨w.heap.size+1,k,none⟩ (by show w.heap.size+1<_;omega) ne1).trans (G1.frozen_far ⟨w.heap.size+1,k,none⟩ gz ne1))).trans (FZ2.out k))
    have p6:=(((o6.gr G2 g0).gr G3 g0):OwnB _ _ w3 _ mon);have lt0:w.heap.size<w1.heap.size:=Nat.lt_of_lt_of_le g0 s1
    have p7:=((o7.gr G2 (by omega)).gr G3 (by omega):OwnB _ _ w3 _ week);have p8:=((o8.gr G2 (by omega)).gr G3 (by omega):OwnB _ _ w3 _ yday);have p9:=((o9.gr G2 (by omega)).gr G3 (by omega):OwnB _ _ w3 _ mday);have p10:=(o10.gr G3 lt0:OwnDB _ _ w3 _ day);have m6:mon.length<=400:=by have a:=RA.out.h6.1;simp only at a;omega
    have m7:week.length<=400:=by have a:=RA.out.h7.1;simp only at a;omega
    have m8:yday.length<=400:=by have a:=RA.out.h8.1;simp only at a;omega
    have m9:mday.length<=400:=by have a:=RA.out.h9.1;simp only at a;omega
    have m10:day.length<=400:=by have a:=RA.out.h10.1;simp only at a;omega
    have m11:hour.length<=400:=by have a:=RA.out.h11.1;simp only at a;omega
    have m12:minu.length<=400:=by have a:=RA.out.h12.1;simp only at a;omega
    have m13:sec.length<=400:=by have a:=RA.out.h13.1;simp only at a;omega
    have m14:pos.length<=400:=by have a:=RA.out.h14.1;simp only at a;omega
    have RF:=hid (show RuAt w3 ⟨A6,mon.length,q6,A7,week.length,q7,A8,yday.length,q8,A9,mday.length,q9,A10,day.length,q10,A11,hour.length,q11,A12,minu.length,q12,A13,sec.length,q13,A14,pos.length,q14⟩ ⟨freq,itv,cnt,til,wkst,ends,mon,week,yday,mday,day,hour,minu,sec,pos⟩ from
     ⟨own_at p6.1,own_at p7.1,own_at p8.1,own_at p9.1,own_atD p10.1,own_at o11.1,own_at o12.1,own_at o13.1,own_at o14.1,Nat.le_trans m6 (by decide),Nat.le_trans m7 (by decide),Nat.le_trans m8 (by decide),Nat.le_trans m9 (by decide),Nat.le_trans m10 (by decide),Nat.le_trans m11 (by decide),Nat.le_trans m12 (by decide),Nat.le_trans m13 (by decide),Nat.le_trans m14 (by decide)⟩)
    have FR:=hid (show RFar ⟨A6,mon.length,q6,A7,week.length,q7,A8,yday.length,q8,A9,mday.length,q9,A10,day.length,q10,A11,hour.length,q11,A12,minu.length,q12,A13,sec.length,q13,A14,pos.length,q14⟩ (w.heap.size+1) from
     ⟨own_far p6.1 gz,own_far p7.1 (by omega),own_far p8.1 (by omega),own_far p9.1 (by omega),own_far p10.1 (by omega),own_far o11.1 (by omega),own_far o12.1 (by omega),own_far o13.1 (by omega),own_far o14.1 (by omega)⟩)
    have OX:=hid (fun (wz:World) (z:w3.grownBy wz (some (w.heap.size+1)))=>show OwnsR w.heap.size wz ⟨A6,mon.length,q6,A7,week.length,q7,A8,yday.length,q8,A9,mday.length,q9,A10,day.length,q10,A11,hour.length,q11,A12,minu.length,q12,A13,sec.length,q13,A14,pos.length,q14⟩ ⟨freq,itv,cnt,til,wkst,ends,mon,week,yday,mday,day,hour,minu,sec,pos⟩ from
     ⟨k1,k2,k3,w1.heap.size,w2.heap.size,k4,k5,k6,w3.heap.size,Nat.le_trans (Nat.le_of_lt g0) hu0,hu1,hu2,hu3,s2,hu4,hu5,hu6,hu7,z.size,
      ⟨(p6.gr z gz).1.mono (Nat.le_of_lt g0),p6.2⟩,p7.gr z (by omega),p8.gr z (by omega),p9.gr z (by omega),p10.gr z (by omega),o11.gr z (by omega),o12.gr z (by omega),o13.gr z (by omega),o14.gr z (by omega)⟩)
    have z0:w3.cell? ⟨w.heap.size,0,none⟩=some (.int .i64 freq):=XF.at_ 0 _ rfl
    have e0:w3.cell? ⟨w.heap.size+1,0,none⟩=some (.int .i64 0):=ZC.out 0 _ rfl
    have f0:w3.frozen? ⟨w.heap.size+1,0,none⟩=false:=ZF.out 0
    have z1:w3.cell? ⟨w.heap.size,1,none⟩=some (.int .i64 itv):=XF.at_ 1 _ rfl
    have e1:w3.cell? ⟨w.heap.size+1,1,none⟩=some (.int .i64 0):=ZC.out 1 _ rfl
    have f1:w3.frozen? ⟨w.heap.size+1,1,none⟩=false:=ZF.out 1
    have z2:w3.cell? ⟨w.heap.size,2,none⟩=some (.int .i64 cnt):=XF.at_ 2 _ rfl
    have e2:w3.cell? ⟨w.heap.size+1,2,none⟩=some (.int .i64 0):=ZC.out 2 _ rfl
    have f2:w3.frozen? ⟨w.heap.size+1,2,none⟩=false:=ZF.out 2
    have z3:w3.cell? ⟨w.heap.size,3,none⟩=some (.int .i64 til):=XF.at_ 3 _ rfl
    have e3:w3.cell? ⟨w.heap.size+1,3,none⟩=some (.int .i64 0):=ZC.out 3 _ rfl
    have f3:w3.frozen? ⟨w.heap.size+1,3,none⟩=false:=ZF.out 3
    have z4:w3.cell? ⟨w.heap.size,4,none⟩=some (.int .i64 wkst):=XF.at_ 4 _ rfl
    have e4:w3.cell? ⟨w.heap.size+1,4,none⟩=some (.int .i64 0):=ZC.out 4 _ rfl
    have f4:w3.frozen? ⟨w.heap.size+1,4,none⟩=false:=ZF.out 4
    have z5:w3.cell? ⟨w.heap.size,5,none⟩=some (.bool ends):=XF.at_ 5 _ rfl
    have e5:w3.cell? ⟨w.heap.size+1,5,none⟩=some (.bool false):=ZC.out 5 _ rfl
    have f5:w3.frozen? ⟨w.heap.size+1,5,none⟩=false:=ZF.out 5
    have z6:w3.cell? ⟨w.heap.size,6,none⟩=some (.slice A6 mon.length q6):=XF.at_ 6 _ rfl
    have e6:w3.cell? ⟨w.heap.size+1,6,none⟩=some (.slice none 0 0):=ZC.out 6 _ rfl
    have f6:w3.frozen? ⟨w.heap.size+1,6,none⟩=false:=ZF.out 6
    have z7:w3.cell? ⟨w.heap.size,7,none⟩=some (.slice A7 week.length q7):=XF.at_ 7 _ rfl
    have e7:w3.cell? ⟨w.heap.size+1,7,none⟩=some (.slice none 0 0):=ZC.out 7 _ rfl
    have f7:w3.frozen? ⟨w.heap.size+1,7,none⟩=false:=ZF.out 7
    have z8:w3.cell? ⟨w.heap.size,8,none⟩=some (.slice A8 yday.length q8):=XF.at_ 8 _ rfl
    have e8:w3.cell? ⟨w.heap.size+1,8,none⟩=some (.slice none 0 0):=ZC.out 8 _ rfl
    have f8:w3.frozen? ⟨w.heap.size+1,8,none⟩=false:=ZF.out 8
    have z9:w3.cell? ⟨w.heap.size,9,none⟩=some (.slice A9 mday.length q9):=XF.at_ 9 _ rfl
    have e9:w3.cell? ⟨w.heap.size+1,9,none⟩=some (.slice none 0 0):=ZC.out 9 _ rfl
    have f9:w3.frozen? ⟨w.heap.size+1,9,none⟩=false:=ZF.out 9
    have z10:w3.cell? ⟨w.heap.size,10,none⟩=some (.slice A10 day.length q10):=XF.at_ 10 _ rfl
    have e10:w3.cell? ⟨w.heap.size+1,10,none⟩=some (.slice none 0 0):=ZC.out 10 _ rfl
    have f10:w3.frozen? ⟨w.heap.size+1,10,none⟩=false:=ZF.out 10
    have z11:w3.cell? ⟨w.heap.size,11,none⟩=some (.slice A11 hour.length q11):=XF.at_ 11 _ rfl
    have e11:w3.cell? ⟨w.heap.size+1,11,none⟩=some (.slice none 0 0):=ZC.out 11 _ rfl
    have f11:w3.frozen? ⟨w.heap.size+1,11,none⟩=false:=ZF.out 11
    have z12:w3.cell? ⟨w.heap.size,12,none⟩=some (.slice A12 minu.length q12):=XF.at_ 12 _ rfl
    have e12:w3.cell? ⟨w.heap.size+1,12,none⟩=some (.slice none 0 0):=ZC.out 12 _ rfl
    have f12:w3.frozen? ⟨w.heap.size+1,12,none⟩=false:=ZF.out 12
    have z13:w3.cell? ⟨w.heap.size,13,none⟩=some (.slice A13 sec.length q13):=XF.at_ 13 _ rfl
    have e13:w3.cell? ⟨w.heap.size+1,13,none⟩=some (.slice none 0 0):=ZC.out 13 _ rfl
    have f13:w3.frozen? ⟨w.heap.size+1,13,none⟩=false:=ZF.out 13
    have z14:w3.cell? ⟨w.heap.size,14,none⟩=some (.slice A14 pos.length q14):=XF.at_ 14 _ rfl
    have e14:w3.cell? ⟨w.heap.size+1,14,none⟩=some (.slice none 0 0):=ZC.out 14 _ rfl
    have f14:w3.frozen? ⟨w.heap.size+1,14,none⟩=false:=ZF.out 14
    go_wp2;exact bodyPost_ret (resC (cs:=#[.int .i64 0,.int .i64 0,.int .i64 0,.int .i64 0,.int .i64 0,.bool false,.slice none 0 0,.slice none 0 0,.slice none 0 0,.slice none 0 0,.slice none 0 0,.slice none 0 0,.slice none 0 0,.slice none 0 0,.slice none 0 0]) (Nat.le_refl _) ZC.out rfl) rfl ⟨_,rfl,RF.out.on15 FR.out,below15 (Nat.le_succ _) BW3,OX.out _ gr_set15⟩
end Go.Proofs.YtddnnljfgfcplaaGreatDoor.Ru
