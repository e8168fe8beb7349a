/- MeX7 -/
import Derived.Test.YtddnnljfgfcplaaGreatDoorMeIn
import Derived.Test.YtddnnljfgfcplaaGreatDoorMePp
set_option maxHeartbeats 8000000
set_option linter.unusedVariables false
namespace Go.Proofs.YtddnnljfgfcplaaGreatDoor.Me
open Lib (hid)
open Go.RowKit Cv St Ru Dd Mb Ex
theorem box_mid {w:World} {g:Nat} {a0 a1 a2 a3 a4 a5 a6 a7 a8 a9 a10 a11 a12 a13 a14 a15 a16 a17 a18 a19 a20:Value} (X:Box w g #[a0,a1,a2,a3,a4,a5,a6,a7,a8,a9,a10,a11,a12,a13,a14,a15,a16,a17,a18,a19,a20]) (b0 b1 b2 b3 b4 b5 b6 b7 b8 b9 b10 b11 b12 b13 b14:Value):
  Box (w.setCells g 4 [b0,b1,b2,b3,b4,b5,b6,b7,b8,b9,b10,b11,b12,b13,b14]) g #[a0,a1,a2,a3,b0,b1,b2,b3,b4,b5,b6,b7,b8,b9,b10,b11,b12,b13,b14,a19,a20]:=by
 have h:=(((((((((((((((X.put 4 b0 (by simp)).put 5 b1 (by simp)).put 6 b2 (by simp)).put 7 b3 (by simp)).put 8 b4 (by simp)).put 9 b5 (by simp)).put 10 b6 (by simp)).put 11 b7 (by simp)).put 12 b8 (by simp)).put 13 b9 (by simp)).put 14 b10 (by simp)).put 15 b11 (by simp)).put 16 b12 (by simp)).put 17 b13 (by simp)).put 18 b14 (by simp))
 exact cast (by kernel_rfl) h
theorem gr_cells {w:World} {g:Nat}:∀(l:List Value) (i:Nat) (w':World),w.grownBy w' (some g)->w.grownBy (w'.setCells g i l) (some g)
 | [],_,_,h=>h
 |u::l,i,w',h=>gr_cells l (i+1) _ (gr_set h)
theorem far_up {B C g n c:Nat} {w:World} {A:Option Addr} {l:List Int} (h:OwnB B C w (.slice A n c) l) (hg:C<=g):Far A g:=fun b off q=>by
 subst q
 rcases h.1.2 with ⟨h0,-⟩|⟨g',cap,cur,h0,-⟩
 ·cases h0
 ·injection h0 with h1 h2 h3
  injection h1 with h1;injection h1 with h1 h4;subst h1;subst h4
  have:=h.2 b rfl
  omega
theorem far_upD {B C g n c:Nat} {w:World} {A:Option Addr} {l:List Dy} (h:OwnDB B C w (.slice A n c) l) (hg:C<=g):Far A g:=fun b off q=>by
 subst q
 rcases h.1.2 with ⟨h0,-⟩|⟨g',cap,cur,h0,-⟩
 ·cases h0
 ·injection h0 with h1 h2 h3
  injection h1 with h1;injection h1 with h1 h4;subst h1;subst h4
  have:=h.2 b rfl
  omega
theorem far_lo {B C g n c:Nat} {w:World} {A:Option Addr} {l:List Int} (h:OwnB B C w (.slice A n c) l) (hg:g<B):Far A g:=fun b off q=>by
 subst q
 rcases h.1.2 with ⟨h0,-⟩|⟨g',cap,cur,h0,-⟩
 ·cases h0
 ·injection h0 with h1 h2 h3
  injection h1 with h1;injection h1 with h1 h4;subst h1;subst h4
  have:=(World.ownsRow.lt h.1 b rfl).1
  omega
theorem far_loD {B C g n c:Nat} {w:World} {A:Option Addr} {l:List Dy} (h:OwnDB B C w (.slice A n c) l) (hg:g<B):Far A g:=fun b off q=>by
 subst q
 rcases h.1.2 with ⟨h0,-⟩|⟨g',cap,cur,h0,-⟩
 ·cases h0
 ·injection h0 with h1 h2 h3
  injection h1 with h1;injection h1 with h1 h4;subst h1;subst h4
  have:=(World.ownsRow.lt h.1 b rfl).1
  omega
theorem owns_low {B g:Nat} {w:World} {S:RS} {r:Ru} (h:OwnsR B w S r) (hg:g<B):RFar S g:=by
 obtain⟨u1,u2,u3,u4,u5,u6,u7,u8,u9,h0,h1,h2,h3,h4,h5,h6,h7,h8,h9,o1,o2,o3,o4,o5,o6,o7,o8,o9⟩:=h
 exact⟨far_lo o1 hg,far_lo o2 (by omega),far_lo o3 (by omega),far_lo o4 (by omega),far_loD o5 (by omega),far_lo o6 (by omega),far_lo o7 (by omega),far_lo o8 (by omega),far_lo o9 (by omega)⟩
theorem owns_high {B g:Nat} {w:World} {S:RS} {r:Ru} (h:OwnsR B w S r) (hg:w.heap.size<=g):RFar S g:=by
 obtain⟨u1,u2,u3,u4,u5,u6,u7,u8,u9,h0,h1,h2,h3,h4,h5,h6,h7,h8,h9,o1,o2,o3,o4,o5,o6,o7,o8,o9⟩:=h
 exact⟨far_up o1 (by omega),far_up o2 (by omega),far_up o3 (by omega),far_up o4 (by omega),far_upD o5 (by omega),far_up o6 (by omega),far_up o7 (by omega),far_up o8 (by omega),far_up o9 (by omega)⟩
structure CpM (w:World) (S:MS) (m:Mt) (gB gC gD:Nat) (w':World):Prop where
 rule:RuAt w' S.R m.rule
 far:∀g,gB<=g->RFar S.R g
 b0:w.heap.size<=gB
 dates:OwnB gB gC w' (.slice S.ad m.dates.length S.cd) m.dates
 c1:gB<=gC
 exc:OwnB gC gD w' (.slice S.ae m.exc.length S.ce) m.exc
 c2:gC<=gD
 c3:gD<=w'.heap.size
 nd:S.nd=m.dates.length
 ne:S.ne=m.exc.length
 at_:Below w.heap.size w w'
def CopyM (w:World) (m:Mt) (e:Ending) (w':World):Prop:=∃S gB gC gD,e= .returned (.agg (mcells S m).toArray)/\CpM w S m gB gC gD w'
theorem results_cell1 {fn:Func} {p:Tmp} {ty:TypeId} (h:fn.results = #[.cell p ty]) (tmps:Array Value) (P:Program) (w:World):
  (results fn tmps).run P w=((asAddr (tmps.getD p undef)).run P w).andThen fun a w₁=>(loadVar ty a).run P w₁:=by
 simp only[results,h]
 simp[Sem.run_bind,Result.andThen]
theorem res_copy {tm:Array Value} {w:World} {g:Nat} {S:MS} {m:Mt} (hr:w.rangeAt g 0 (mcells S m)) (t2:tm[2]? = some (.pointer (some ⟨g,0,none⟩))):
  (results Tryz.f20 tm).run Tryz.prog w= .ok (.agg (mcells S m).toArray) w:=by
 have:=run_loadVar_mid w g 0 27 (mcells S m) _ hr Tryz.underlying27 rfl (info_mt21' S m)
 rw[results_cell1 Tryz.results20,getD_of t2]
 simp only[asAddr,Sem.run_pure,Result.andThen_ok,this]
def zero21:Array Value:=#[.int .i64 0,.int .i64 0,.int .i64 0,.bool false,.int .i64 0,.int .i64 0,.int .i64 0,.int .i64 0,.int .i64 0,.bool false,.slice none 0 0,.slice none 0 0,.slice none 0 0,.slice none 0 0,.slice none 0 0,.slice none 0 0,.slice none 0 0,.slice none 0 0,.slice none 0 0,.slice none 0 0,.slice none 0 0]
set_option maxRecDepth 100000 in
theorem copyM_is (w:World) (S:MS) (m:Mt) (h:MtIn w S m) (hf:fewM S=true):Calls Tryz.prog 20 #[.agg (mcells S m).toArray] w (CopyM w m):=by
 have HI:=hid h
 have hf2:=hf
 unfold fewM at hf2
 rw[Bool.and_eq_true] at hf2
 obtain⟨fr,fd⟩:=hf2
 obtain⟨n5,n6⟩:=of_decide_eq_true fd
 have FR:=hid fr
 clear h hf fr fd
 obtain⟨R,ad,nd,cd,ae,ne,ce⟩:=S
 obtain⟨zone,start,dur,recs,rule,dates,exc⟩:=m
 simp only at n5 n6 FR
 have Y5:=hid HI.out.zd
 have Y6:=hid HI.out.ze
 show Calls Tryz.prog 20 #[.agg #[.int .i64 zone,.int .i64 start,.int .i64 dur,.bool recs,.int .i64 rule.freq,.int .i64 rule.itv,.int .i64 rule.cnt,.int .i64 rule.til,.int .i64 rule.wkst,.bool rule.ends,.slice R.a6 R.n6 R.c6,.slice R.a7 R.n7 R.c7,.slice R.a8 R.n8 R.c8,.slice R.a9 R.n9 R.c9,.slice R.a10 R.n10 R.c10,.slice R.a11 R.n11 R.c11,.slice R.a12 R.n12 R.c12,.slice R.a13 R.n13 R.c13,.slice R.a14 R.n14 R.c14,.slice ad nd cd,.slice ae ne ce]] w _
 go_enter Tryz.func20,Tryz.ntmps20
 go_upto_region 1 with fail
 have XB:=two_box1 w #[.int .i64 zone,.int .i64 start,.int .i64 dur,.bool recs,.int .i64 rule.freq,.int .i64 rule.itv,.int .i64 rule.cnt,.int .i64 rule.til,.int .i64 rule.wkst,.bool rule.ends,.slice R.a6 R.n6 R.c6,.slice R.a7 R.n7 R.c7,.slice R.a8 R.n8 R.c8,.slice R.a9 R.n9 R.c9,.slice R.a10 R.n10 R.c10,.slice R.a11 R.n11 R.c11,.slice R.a12 R.n12 R.c12,.slice R.a13 R.n13 R.c13,.slice R.a14 R.n14 R.c14,.slice ad nd cd,.slice ae ne ce] zero21 27
 have BW:=two_below w (.cells #[.int .i64 zone,.int .i64 start,.int .i64 dur,.bool recs,.int .i64 rule.freq,.int .i64 rule.itv,.int .i64 rule.cnt,.int .i64 rule.til,.int .i64 rule.wkst,.bool rule.ends,.slice R.a6 R.n6 R.c6,.slice R.a7 R.n7 R.c7,.slice R.a8 R.n8 R.c8,.slice R.a9 R.n9 R.c9,.slice R.a10 R.n10 R.c10,.slice R.a11 R.n11 R.c11,.slice R.a12 R.n12 R.c12,.slice R.a13 R.n13 R.c13,.slice R.a14 R.n14 R.c14,.slice ad nd cd,.slice ae ne ce] 27) (.cells zero21 27)
 have XZ:=two_box2 w #[.int .i64 zone,.int .i64 start,.int .i64 dur,.bool recs,.int .i64 rule.freq,.int .i64 rule.itv,.int .i64 rule.cnt,.int .i64 rule.til,.int .i64 rule.wkst,.bool rule.ends,.slice R.a6 R.n6 R.c6,.slice R.a7 R.n7 R.c7,.slice R.a8 R.n8 R.c8,.slice R.a9 R.n9 R.c9,.slice R.a10 R.n10 R.c10,.slice R.a11 R.n11 R.c11,.slice R.a12 R.n12 R.c12,.slice R.a13 R.n13 R.c13,.slice R.a14 R.n14 R.c14,.slice ad nd cd,.slice ae ne ce] zero21 27
 have FZ:=hid (show ∀g k,g=w.heap.size\/g=w.heap.size+1->((w.alloc (.cells #[.int .i64 zone,.int .i64 start,.int .i64 dur,.bool recs,.int .i64 rule.freq,.int .i64 rule.itv,.int .i64 rule.cnt,.int .i64 rule.til,.int .i64 rule.wkst,.bool rule.ends,.slice R.a6 R.n6 R.c6,.slice R.a7 R.n7 R.c7,.slice R.a8 R.n8 R.c8,.slice R.a9 R.n9 R.c9,.slice R.a10 R.n10 R.c10,.slice R.a11 R.n11 R.c11,.slice R.a12 R.n12 R.c12,.slice R.a13 R.n13 R.c13,.slice R.a14 R.n14 R.c14,.slice ad nd cd,.slice ae ne ce] 27)).alloc (.cells zero21 27)).frozen? ⟨g,k,none⟩=false from fun g k e=>by
  rcases e with rfl|rfl<;>simp[go_sem])
 unfold zero21 at XB BW XZ FZ
 generalize (w.alloc _).alloc _=w0 at *
 have TH1:=hid (show w0.there w.heap.size 4 15 from fun j hj=>⟨by
  have hc:4+j<21:=by omega
  rw[XB.at_ (4+j) _ (Array.getElem?_eq_getElem hc)];rfl,FZ.out _ _ (.inl rfl)⟩)
 have TH2:=hid (show w0.there (w.heap.size+1) 0 21 from fun j hj=>⟨by
  have hc:0+j<21:=by omega
  rw[XZ.at_ (0+j) _ (Array.getElem?_eq_getElem hc)];rfl,FZ.out _ _ (.inr rfl)⟩)
 have g1:w.heap.size<w0.heap.size:=XB.1
 have g2:w.heap.size+1<w0.heap.size:=XZ.1
 have CR:=hid (show Calls Tryz.prog 55 #[.agg #[.int .i64 rule.freq,.int .i64 rule.itv,.int .i64 rule.cnt,.int .i64 rule.til,.int .i64 rule.wkst,.bool rule.ends,.slice R.a6 R.n6 R.c6,.slice R.a7 R.n7 R.c7,.slice R.a8 R.n8 R.c8,.slice R.a9 R.n9 R.c9,.slice R.a10 R.n10 R.c10,.slice R.a11 R.n11 R.c11,.slice R.a12 R.n12 R.c12,.slice R.a13 R.n13 R.c13,.slice R.a14 R.n14 R.c14]] w0 _ from copyR_own w0 R rule (RuIn.on HI.out.rule BW) FR.out)
 go_wp2_with (first|(refine load25 rfl _ rfl _ rfl XB ?_)|fail)
 refine CR.out.mono ?_
 rintro e w1 ⟨R2,he,ra,b1,ow⟩
 replace he:e= .returned (.agg (R2.cells rule)):=he
 subst he
 have TH3:=hid (there_below TH1.out g1 b1)
 have TH4:=hid (there_below TH2.out g2 b1)
 obtain⟨w2,hw2⟩:∃w2:World,w2=w1.setCells w.heap.size 4 (R2.cells rule).toList:=⟨_,rfl⟩
 have K2:=(Kg.cells (g:=w.heap.size) (R2.cells rule).toList 4 w1)
 rw[<-hw2] at K2
 have X2:Box w2 w.heap.size #[.int .i64 zone,.int .i64 start,.int .i64 dur,.bool recs,.int .i64 rule.freq,.int .i64 rule.itv,.int .i64 rule.cnt,.int .i64 rule.til,.int .i64 rule.wkst,.bool rule.ends,.slice R2.a6 R2.n6 R2.c6,.slice R2.a7 R2.n7 R2.c7,.slice R2.a8 R2.n8 R2.c8,.slice R2.a9 R2.n9 R2.c9,.slice R2.a10 R2.n10 R2.c10,.slice R2.a11 R2.n11 R2.c11,.slice R2.a12 R2.n12 R2.c12,.slice R2.a13 R2.n13 R2.c13,.slice R2.a14 R2.n14 R2.c14,.slice ad nd cd,.slice ae ne ce]:=by
  rw[hw2];exact box_mid (XB.below b1) _ _ _ _ _ _ _ _ _ _ _ _ _ _ _
 have RA:=hid (show RuAt w2 R2 rule by rw[hw2];exact RuAt.cells (owns_low ow g1) _ _ _ ra)
 have FH:=hid (show ∀g,w2.heap.size<=g->RFar R2 g from fun g hg=>owns_high ow (Nat.le_trans K2.size hg))
 have F1:=hid (owns_low ow g1)
 have F2:=hid (owns_low ow g2)
 have B2:=hid (show Below w.heap.size w w2 from (BW.trans (b1.mono (Nat.le_of_lt g1))).trans (K2.below (Nat.le_trans (Nat.le_of_lt g1) b1.size) (Nat.le_refl _)))
 have S2:=hid (Nat.le_trans b1.size K2.size)
 have FZ2:=hid (show ∀k,w2.frozen? ⟨w.heap.size,k,none⟩=false from fun k=>by
  rw[hw2,World.frozen?_setCells,b1.frozen (p:=⟨w.heap.size,k,none⟩) g1];exact FZ.out _ _ (.inl rfl))
 have TH5:=hid (show w2.there (w.heap.size+1) 0 21 by rw[hw2];exact World.there_setCells TH4.out _ _ _)
 clear ra ow b1 XB XZ BW FZ TH1 TH2 TH4 CR K2
 go_wp2_with (first|(refine wpList_store_mid rfl 25 _ _ rfl w.heap.size 4 (R2.cells rule) rfl rfl TH3.out (info_ru15 R2 rule) (rcells_one R2 rule) ?_;rw[<-hw2];clear hw2)|fail)
 clear TH3
 have I5:=hid (fun (v:World) (q:Below w2.heap.size w2 v)=>HI.out.dates.below (B2.out.trans (q.mono B2.out.size)))
 have I6:=hid (fun (v:World) (q:Below w2.heap.size w2 v)=>HI.out.exc.below (B2.out.trans (q.mono B2.out.size)))
 refine wp_region_late (fun j=>decide (6<j)) (fun w'=>w'.cell? ⟨w.heap.size,19,none⟩=some (.slice ad nd cd)/\w'.cell? ⟨w.heap.size,20,none⟩=some (.slice ae ne ce)) (by kernel_rfl) ?_
 have hS:w2.drew.cell? ⟨w.heap.size,19,none⟩=some (.slice ad nd cd)/\w2.drew.cell? ⟨w.heap.size,20,none⟩=some (.slice ae ne ce):=⟨X2.at_ 19 _ rfl,X2.at_ 20 _ rfl⟩
 refine Late.take 0 (.pointer (some ⟨w.heap.size,19,none⟩)) rfl (by kernel_rfl) (by kernel_rfl) (by kernel_rfl) (by kernel_rfl) (fun _ _ _ h=>h) (.inl ⟨rfl,fun w' hs => ?_⟩) hS ?_
 ·go_simp
 refine Late.take 1 (.slice ad nd cd) rfl (by kernel_rfl) (by kernel_rfl) (by kernel_rfl) (by kernel_rfl) (fun _ _ _ h=>h) (.inl ⟨rfl,fun w' hs => ?_⟩) hS ?_
 ·obtain⟨s0,s1⟩:=hs
  go_simp
 refine Late.take 3 (.pointer (some ⟨w.heap.size,20,none⟩)) rfl (by kernel_rfl) (by kernel_rfl) (by kernel_rfl) (by kernel_rfl) (fun _ _ _ h=>h) (.inl ⟨rfl,fun w' hs => ?_⟩) hS ?_
 ·go_simp
 refine Late.take 4 (.slice ae ne ce) rfl (by kernel_rfl) (by kernel_rfl) (by kernel_rfl) (by kernel_rfl) (fun _ _ _ h=>h) (.inl ⟨rfl,fun w' hs => ?_⟩) hS ?_
 ·obtain⟨s0,s1⟩:=hs
  go_simp
 have D0:Below w2.heap.size w2 w2.drew:=(Below.refl _ _).drew
 refine Late.one 2 rfl (by kernel_rfl) rfl ?_
 go_simp
 refine(copyI_is _ ad nd cd dates (I5.out _ D0) (by omega) Y5.out).mono ?_
 rintro e x1 ⟨v1,rfl,o1,b1⟩
 have D1:=D0.trans (b1.mono D0.size)
 have hS1:x1.cell? ⟨w.heap.size,19,none⟩=some (.slice ad nd cd)/\x1.cell? ⟨w.heap.size,20,none⟩=some (.slice ae ne ce):=⟨(X2.below D1).at_ 19 _ rfl,(X2.below D1).at_ 20 _ rfl⟩
 obtain⟨A1,q1,rfl,-,-,-⟩:=o1.at_
 refine⟨hS1,?_⟩
 refine Late.take 6 (.pointer (some ⟨w.heap.size,19,none⟩)) rfl (by kernel_rfl) (by kernel_rfl) (by kernel_rfl) (by kernel_rfl) (fun _ _ _ h=>h) (.inl ⟨rfl,fun w' hs => ?_⟩) hS1 ?_
 ·go_simp
 refine Late.one 5 rfl (by kernel_rfl) rfl ?_
 go_simp
 refine(copyI_is _ ae ne ce exc (I6.out _ D1) (by omega) Y6.out).mono ?_
 rintro e x2 ⟨v2,rfl,o2,b2⟩
 have D2:=D1.trans (b2.mono D1.size)
 have hS2:x2.cell? ⟨w.heap.size,19,none⟩=some (.slice ad nd cd)/\x2.cell? ⟨w.heap.size,20,none⟩=some (.slice ae ne ce):=⟨(X2.below D2).at_ 19 _ rfl,(X2.below D2).at_ 20 _ rfl⟩
 obtain⟨A2,q2,rfl,-,-,-⟩:=o2.at_
 refine⟨hS2,?_⟩
 have X3:=X2.below D2
 have gw:w.heap.size<w2.heap.size:=X2.1
 have e19:=X3.at_ 19 _ rfl
 have f19:x2.frozen? ⟨w.heap.size,19,none⟩=false:=(D2.frozen (p:=⟨w.heap.size,19,none⟩) gw).trans (FZ2.out 19)
 have e20:=X3.at_ 20 _ rfl
 have f20:x2.frozen? ⟨w.heap.size,20,none⟩=false:=(D2.frozen (p:=⟨w.heap.size,20,none⟩) gw).trans (FZ2.out 20)
 refine Late.one 7 rfl (by kernel_rfl) rfl ?_
 go_simp
 refine Late.one 8 rfl (by kernel_rfl) rfl ?_
 go_simp
 refine Late.one 9 rfl (by kernel_rfl) rfl ?_
 go_simp
 refine Late.done (by kernel_rfl) ?_
 obtain⟨w4,hw4⟩:∃w4:World,w4=(x2.setCell ⟨w.heap.size,19,none⟩ (.slice A1 dates.length q1)).setCell ⟨w.heap.size,20,none⟩ (.slice A2 exc.length q2):=⟨_,rfl⟩
 have gr:x2.grownBy w4 (some w.heap.size):=by rw[hw4];exact gr_set (gr_set (World.grownBy.refl _ _))
 have X4:Box w4 w.heap.size (mcells ⟨R2,A1,dates.length,q1,A2,exc.length,q2⟩ ⟨zone,start,dur,recs,rule,dates,exc⟩).toArray:=by
  rw[hw4];exact(X3.put 19 _ (show 19<21 by decide)).put 20 _ (show 20<21 by decide)
 have O1:=hid (((OwnI.b o1).on b2).gr gr gw)
 have O2:=hid ((OwnI.b o2).gr gr (Nat.lt_of_lt_of_le gw D1.size))
 have RA4:=hid (show RuAt w4 R2 rule by rw[hw4];exact((RA.out.below D2).set F1.out).set F1.out)
 have TH6:=hid (show w4.there (w.heap.size+1) 0 21 by
  rw[hw4]
  exact World.there_setCells (World.there_setCells (there_below TH5.out (Nat.lt_of_lt_of_le g2 S2.out) D2) w.heap.size 19 [_]) w.heap.size 20 [_])
 have B4:=hid (show Below w.heap.size w w4 by
  rw[hw4]
  exact((B2.out.trans (D2.mono B2.out.size)).setCell (p:=⟨w.heap.size,19,none⟩) (Nat.le_refl _) _).setCell (p:=⟨w.heap.size,20,none⟩) (Nat.le_refl _) _)
 have U1:=hid D1.size
 have U2:=hid b2.size
 have U3:=hid gr.size
 have DS:=hid (show w2.drew.heap.size=w2.heap.size from rfl)
 rw[<-hw4]
 obtain⟨S2',hS2'⟩:∃S2':MS,(⟨R2,A1,dates.length,q1,A2,exc.length,q2⟩:MS)=S2':=⟨_,rfl⟩
 obtain⟨m2,hm2⟩:∃m2:Mt,(⟨zone,start,dur,recs,rule,dates,exc⟩:Mt)=m2:=⟨_,rfl⟩
 rw[hS2',hm2] at X4
 have HM:=hid (show Ending.returned (.agg (mcells S2' m2).toArray)=Ending.returned (.agg (mcells S2' ⟨zone,start,dur,recs,rule,dates,exc⟩).toArray) by rw[hm2])
 have FIN:=hid (show ∀w5,w5=w4.setCells (w.heap.size+1) 0 (mcells S2' m2)->CpM w S2' ⟨zone,start,dur,recs,rule,dates,exc⟩ w2.heap.size x1.heap.size x2.heap.size w5 from fun w5 h5=>by
  subst hS2' hm2;have g5:w4.grownBy w5 (some (w.heap.size+1)):=by rw[h5];exact gr_cells _ _ _ (World.grownBy.refl _ _)
  have gw2:w.heap.size+1<w2.heap.size:=Nat.lt_of_lt_of_le g2 S2.out
  refine⟨by rw[h5];exact RuAt.cells F2.out _ _ _ RA4.out,FH.out,B2.out.size,?_,U1.out,O2.out.gr g5 (Nat.lt_of_lt_of_le gw2 U1.out),U2.out,Nat.le_trans U3.out g5.size,rfl,rfl,by rw[h5];exact cells_below (Nat.le_succ _) _ _ _ B4.out⟩
  exact O1.out.gr g5 gw2)
 clear hw4 gr o1 o2 b1 b2 D0 D1 D2 hS hS1 hS2 X2 X3 e19 e20 f19 f20 I5 I6 FZ2 S2 FH F1 F2 RA HI hS2' hm2
 have cz:(mcells S2' m2).toArray.size=21:=rfl
 have TH7:=hid (show w4.there (w.heap.size+1) 0 (mcells S2' m2).toArray.size from TH6.out)
 go_wp2_with (first|(refine load27 rfl _ rfl _ rfl _ X4 cz ?_)|(refine wpList_store_mid rfl 27 _ _ rfl (w.heap.size+1) 0 (mcells S2' m2).toArray rfl rfl TH7.out (info_mt21 S2' m2) (mcells_one S2' m2) ?_))
 refine bodyPost_ret (v:= .agg (mcells S2' m2).toArray) (res_copy (S:=S2') (m:=m2) (World.rangeAt_setCells_same _ _ _ _ TH6.out) ?_) ?_ ⟨S2',w2.heap.size,x1.heap.size,x2.heap.size,HM.out,FIN.out _ rfl⟩
 ·go_simp
 ·go_simp
end Go.Proofs.YtddnnljfgfcplaaGreatDoor.Me
namespace Go.Proofs.YtddnnljfgfcplaaGreatDoor.Me
open Go.RowKit Cv St Ru Dd Mb Ex
def putI (l:List Int) (t:Int):List Int:=sortU iltB (l++[t])
theorem putI_spec (l:List Int) (t:Int):(putI l t).Pairwise (· < ·)/\(putI l t).length<=l.length+1/\∀y,y∈putI l t↔y=t\/y∈l:=by
 have:=sort_spec ilt_tri ilt_tr (l:=l++[t]) (a:= []) List.Pairwise.nil
 obtain⟨h1,h2,h3⟩:=this
 refine⟨h1.imp fun {a b} h=>of_decide_eq_true h,by simpa [putI,sortU] using h2,fun y => ?_⟩
 have:=h3 y
 simp only[List.mem_append,List.mem_singleton] at this
 unfold putI sortU
 rw[this]
 constructor
 ·rintro(h|h|h)
  ·cases h
  ·exact .inr h
  ·exact .inl h
 ·rintro(h|h)
  ·exact .inr (.inr h)
  ·exact .inr (.inl h)
theorem cnt_take:∀ {l:List Int} {e:Int},l.Pairwise (· < ·)->l.take (cntR e l)=l.filter fun y=>decide (y<e)
 | [],_,_=>by simp[cntR]
 |x::l,e,h=>by
  obtain⟨h1,h2⟩:=List.pairwise_cons.1 h;have ih:=cnt_take (e:=e) h2;unfold cntR at *
  by_cases q:x<e
  ·rw[List.countP_cons_of_pos (by simpa using q),List.take_succ_cons,List.filter_cons_of_pos (by simpa using q),ih]
  ·have z:∀y∈l,¬y<e:=fun y hy=>by have:=h1 y hy;omega
   have c0:l.countP (fun y=>decide (y<e))=0:=List.countP_eq_zero.2 fun y hy=>by simpa using z y hy
   rw[List.countP_cons_of_neg (by simpa using q),c0,List.take_zero,List.filter_cons_of_neg (by simpa using q),List.filter_eq_nil_iff.2 fun y hy=>by simpa using z y hy]
theorem cnt_len {l:List Int} {e:Int} (h:l.Pairwise (· < ·)):cntR e l=(l.filter fun y=>decide (y<e)).length:=by
 unfold cntR;exact List.countP_eq_length_filter
theorem local_mem {m:Mt} {e:Int} {l:List Int} (h:localR m e=(l,0)):mayM m=true/\(toldR m e).2=0/\l.Pairwise (· < ·)/\l.length<=4096/\∀x,x∈l↔(x∈(toldR m e).1\/x∈m.dates)/\x ∉ m.exc/\x<e:=by
 unfold localR at h
 split at h
 ·have:=(Prod.mk.inj h).2;omega
 rename_i c1
 split at h
 ·rename_i c2;exact absurd (Prod.mk.inj h).2 c2
 rename_i c2
 split at h
 ·have:=(Prod.mk.inj h).2;omega
 rename_i c3
 have hm:mayM m=true:=by simpa using c1
 have e0:(toldR m e).2=0:=by simpa using c2
 obtain⟨u,-⟩:=all_up (l:=(toldR m e).1) hm (show toldR m e=((toldR m e).1,(toldR m e).2) from rfl)
 have hl:=(Prod.mk.inj h).1
 rw[cnt_take u] at hl
 rw[cnt_len u,hl] at c3
 obtain⟨-,-,-,-,d1,d2⟩:=may_parts hm
 obtain⟨u1,-⟩:=dates_up d1
 obtain⟨u2,-⟩:=dates_up d2
 obtain⟨-,u3⟩:=told_le (show toldR m e=((toldR m e).1,(toldR m e).2) from rfl)
 refine⟨hm,e0,by rw[<-hl];exact u.filter _,by omega,fun x => ?_⟩
 rw[<-hl,List.mem_filter]
 unfold allR
 rw[with_is _ _ (merge_rise _ _ u3 u1) u2,List.mem_filter,mem_merge]
 simp only[decide_eq_true_eq]
 constructor
 ·rintro⟨⟨h1,h2⟩,h3⟩;exact⟨h1,h2,h3⟩
 ·rintro⟨h1,h2,h3⟩;exact⟨⟨h1,h2⟩,h3⟩
theorem local_of {m:Mt} {e:Int} {l:List Int} (hm:mayM m=true) (h0:(toldR m e).2=0) (u:l.Pairwise (· < ·)) (n:l.length<=4096) (hx:∀x,x∈l↔(x∈(toldR m e).1\/x∈m.dates)/\x ∉ m.exc/\x<e):localR m e=(l,0):=by
 obtain⟨up,-⟩:=all_up (l:=(toldR m e).1) hm (show toldR m e=((toldR m e).1,(toldR m e).2) from rfl)
 obtain⟨-,-,-,-,d1,d2⟩:=may_parts hm
 obtain⟨u1,-⟩:=dates_up d1
 obtain⟨u2,-⟩:=dates_up d2
 obtain⟨-,u3⟩:=told_le (show toldR m e=((toldR m e).1,(toldR m e).2) from rfl)
 have el:((allR m (toldR m e).1).filter fun y=>decide (y<e))=l:=by
  refine Mb.rise_ext (up.filter _) u fun x => ?_
  rw[List.mem_filter,hx];unfold allR;rw[with_is _ _ (merge_rise _ _ u3 u1) u2,List.mem_filter,mem_merge];simp only[decide_eq_true_eq];constructor
  ·rintro⟨⟨h1,h2⟩,h3⟩;exact⟨h1,h2,h3⟩
  ·rintro⟨h1,h2,h3⟩;exact⟨⟨h1,h2⟩,h3⟩
 unfold localR
 rw[if_neg (by rw[hm];decide),if_neg (by rw[h0];simp),if_neg (by rw[cnt_len up,el];omega),cnt_take up,el]
theorem local_more {m:Mt} {e t:Int} {l:List Int} (h:localR m e=(l,0)) (hl:l.length<=4000) (hp:mayM { m with dates:=putI m.dates t }=true):
  localR { m with dates:=putI m.dates t } e=(if t∈m.exc\/e<=t then l else putI l t,0):=by
 obtain⟨hm,h0,u,-,hx⟩:=local_mem h
 obtain⟨q1,q2,q3⟩:=putI_spec l t
 obtain⟨-,-,d3⟩:=putI_spec m.dates t
 have e1:toldR { m with dates:=putI m.dates t } e=toldR m e:=rfl
 by_cases c:t∈m.exc\/e<=t
 ·rw[if_pos c]
  refine local_of hp (by rw[e1];exact h0) u (by omega) fun x => ?_
  rw[hx,e1]
  show _↔(_\/x∈putI m.dates t)/\x ∉ m.exc/\x<e
  rw[d3];constructor
  ·rintro⟨h1|h1,h2⟩
   ·exact⟨.inl h1,h2⟩
   ·exact⟨.inr (.inr h1),h2⟩
  ·rintro⟨h1|rfl|h1,h2,h3⟩
   ·exact⟨.inl h1,h2,h3⟩
   ·rcases c with c|c
    ·exact absurd c h2
    ·omega
   ·exact⟨.inr h1,h2,h3⟩
 ·rw[if_neg c]
  simp only[not_or] at c
  refine local_of hp (by rw[e1];exact h0) q1 (by omega) fun x => ?_
  rw[q3,hx,e1]
  show _↔(_\/x∈putI m.dates t)/\x ∉ m.exc/\x<e
  rw[d3];constructor
  ·rintro(rfl|⟨h1|h1,h2⟩)
   ·exact⟨.inr (.inl rfl),c.1,by omega⟩
   ·exact⟨.inl h1,h2⟩
   ·exact⟨.inr (.inr h1),h2⟩
  ·rintro⟨h1|rfl|h1,h2⟩
   ·exact .inr ⟨.inl h1,h2⟩
   ·exact .inl rfl
   ·exact .inr ⟨.inr h1,h2⟩
theorem local_less1 {m:Mt} {e t:Int} {l:List Int} (h:localR m e=(l,0)) (hq:mayM { m with exc:=putI m.exc t }=true):
  localR { m with exc:=putI m.exc t } e=(l.filter fun x=>decide (x≠t),0):=by
 obtain⟨hm,h0,u,n,hx⟩:=local_mem h
 obtain⟨-,-,d3⟩:=putI_spec m.exc t
 have e1:toldR { m with exc:=putI m.exc t } e=toldR m e:=rfl
 refine local_of hq (by rw[e1];exact h0) (u.filter _) (Nat.le_trans (List.length_filter_le _ _) n) fun x => ?_
 rw[List.mem_filter,hx,e1]
 show _↔_/\x ∉ putI m.exc t/\x<e
 rw[d3]
 simp only[decide_eq_true_eq,not_or,ne_eq]
 constructor
 ·rintro⟨⟨h1,h2,h3⟩,h4⟩;exact⟨h1,⟨h4,h2⟩,h3⟩
 ·rintro⟨h1,⟨h4,h2⟩,h3⟩;exact⟨⟨h1,h2,h3⟩,h4⟩
theorem put_back (l:List Int) (t:Int):putI (l.filter fun x=>decide (x≠t)) t=putI l t:=by
 obtain⟨a1,-,a3⟩:=putI_spec (l.filter fun x=>decide (x≠t)) t
 obtain⟨b1,-,b3⟩:=putI_spec l t
 refine Mb.rise_ext a1 b1 fun x => ?_
 rw[a3,b3,List.mem_filter]
 simp only[decide_eq_true_eq]
 constructor
 ·rintro(h|⟨h,-⟩)
  ·exact .inl h
  ·exact .inr h
 ·rintro(h|h)
  ·exact .inl h
  ·by_cases e:x=t
   ·exact .inl e
   ·exact .inr ⟨h,e⟩
theorem dates_has {m:Mt} {e t:Int} {l:List Int} (h:localR m e=(l,0)):decide (t∈(if t∈m.exc\/e<=t then l else putI l t)) = !(decide (t∈m.exc)||decide (e<=t)):=by
 obtain⟨-,-,-,-,hx⟩:=local_mem h
 by_cases c:t∈m.exc\/e<=t
 ·rw[if_pos c]
  have:t ∉ l:=fun q=>by
   obtain⟨-,h2,h3⟩:=(hx t).1 q
   rcases c with c|c
   ·exact h2 c
   ·omega
  rw[decide_eq_false this]
  rcases c with c|c
  ·rw[decide_eq_true c];rfl
  ·rw[decide_eq_true c,Bool.or_true];rfl
 ·rw[if_neg c,decide_eq_true (((putI_spec l t).2.2 t).2 (.inl rfl))]
  simp only[not_or] at c;rw[decide_eq_false c.1,decide_eq_false c.2];rfl
end Go.Proofs.YtddnnljfgfcplaaGreatDoor.Me
namespace Go.Proofs.YtddnnljfgfcplaaGreatDoor.Me
open Go.RowKit Cv St Ru Dd Mb Ex
theorem append_oneG {ops:Array Oper} {rest:List Oper} {o:Oper} {a:Act} {Q:Exit->Act->World->Prop} {B:Nat} {w:World} (hgd:Region.wanted o (yielded ops a.tmps)=true) (s x:Operand)
  (ho:o.op= .call { callee:= .builtin .append,args:=#[s,x],argTypes:=#[22,22] })
  (v:Value) (l:List Int) (hs:a.eval s=v) (hown:w.ownsRow B 3 1 v l.length (l.map (Value.int .i64))) (hB:B<=w.heap.size) (t:Int) (T:TypeId) (c:Nat)
  (hx:a.eval x= .slice (some ⟨w.heap.size,0,none⟩) 1 c) (hl:l.length<=1000000)
  (h:∀v' w',w'.ownsRow B 3 1 v' (l++[t]).length ((l++[t]).map (Value.int .i64))->w.grownBy w' v.ownBlock->wpList Tryz.prog ops Q rest (a.put o.dst v') w'):wpList Tryz.prog ops Q (o::rest) a (w.alloc (.cells #[.int .i64 t] T)):=by
 obtain⟨i0,hi,hz0,hz1,hz2⟩:=info_parts info_int
 refine list_met hgd fun K hK=>wp_append_own (K:=K) _ s x 22 ho B 3 i0 (.int .i64 0) 1 8 Tryz.underlying22 hi hz0 hz1 hz2 rfl (by decide) v l.length (l.map (Value.int .i64)) hs (World.ownsRow.alloc hown _)
  ⟨w.heap.size,0,none⟩ 1 c [.int .i64 t] hx rfl ?_ (by intro u hu;obtain rfl:u= .int .i64 t:=by simpa using hu
                                                       rfl) (by unfold maxLen;omega) (by omega) (by simp;omega) ?_
 ·intro j u hj
  cases j with
  |zero=>obtain rfl:Value.int .i64 t=u:=by simpa using hj
         show (w.alloc (.cells #[.int .i64 t] T)).cell? ⟨w.heap.size,0,none⟩=_
         rw[World.cell?_alloc_new];rfl
  |succ j=>simp at hj
 ·intro v' w' hown' hg _
  have b:=Ru.alloc_below w (.cells #[.int .i64 t] T);refine hK _ _ (h v' w' ?_ ⟨hg.os.trans b.os,hg.tape.trans b.tape,hg.output.trans b.output,Nat.le_trans b.size hg.size,fun k hk e=>(hg.block k (Nat.lt_of_lt_of_le hk b.size) e).trans (b.block k hk)⟩);rw[List.length_append,List.map_append];exact hown'
section
variable {w w':World} {r0:Option Nat}
theorem is_gr {A:Option Addr} {n:Nat} {l:List Int} (h:IsAt w A n l) (hg:w.grownBy w' r0) (f:∀g,r0=some g->Far A g):IsAt w' A n l:=
 ⟨h.1,fun h0=>by
  obtain⟨b,off,e,hlt,hc⟩:=h.2 h0
  exact⟨b,off,e,Nat.lt_of_lt_of_le hlt hg.size,fun j hj=>(World.cell?_of_block (w:=w) (hg.block b hlt fun q=>f b q.symm b off e rfl)).trans (hc j hj)⟩⟩
theorem dy_gr {A:Option Addr} {n:Nat} {l:List Dy} (h:DyAt w A n l) (hg:w.grownBy w' r0) (f:∀g,r0=some g->Far A g):DyAt w' A n l:=
 ⟨h.1,fun h0=>by
  obtain⟨b,off,e,hlt,hc⟩:=h.2 h0
  exact⟨b,off,e,Nat.lt_of_lt_of_le hlt hg.size,fun j hj=>⟨(World.cell?_of_block (w:=w) (hg.block b hlt fun q=>f b q.symm b off e rfl)).trans (hc j hj).1,(World.cell?_of_block (w:=w) (hg.block b hlt fun q=>f b q.symm b off e rfl)).trans (hc j hj).2⟩⟩⟩
theorem ru_gr {S:RS} {r:Ru} (h:RuAt w S r) (hg:w.grownBy w' r0) (f:∀g,r0=some g->RFar S g):RuAt w' S r:=
 ⟨is_gr h.h6 hg fun g q=>(f g q).f6,is_gr h.h7 hg fun g q=>(f g q).f7,is_gr h.h8 hg fun g q=>(f g q).f8,is_gr h.h9 hg fun g q=>(f g q).f9,dy_gr h.h10 hg fun g q=>(f g q).f10,is_gr h.h11 hg fun g q=>(f g q).f11,is_gr h.h12 hg fun g q=>(f g q).f12,is_gr h.h13 hg fun g q=>(f g q).f13,is_gr h.h14 hg fun g q=>(f g q).f14,h.l6,h.l7,h.l8,h.l9,h.l10,h.l11,h.l12,h.l13,h.l14⟩
theorem box_gr {g:Nat} {cs:Array Value} (h:Box w g cs) (hg:w.grownBy w' r0) (f:∀k,r0=some k->k≠g):Box w' g cs:=
 ⟨Nat.lt_of_lt_of_le h.1 hg.size,fun k u hk=>(World.cell?_of_block (w:=w) (hg.block g h.1 fun q=>f g q.symm rfl)).trans (h.2 k u hk)⟩
theorem frozen_of {g:Nat} (h:w'.heap[g]? = w.heap[g]?) (j:Nat):w'.frozen? ⟨g,j,none⟩=w.frozen? ⟨g,j,none⟩:=by
 simp only[World.frozen?,h]
theorem gr_low {B:Nat} (hg:w.grownBy w' r0) (hB:B<=w.heap.size) (f:∀k,r0=some k->B<=k):Below B w w':=
 ⟨hg.os,hg.tape,hg.output,hg.size,fun k hk=>hg.block k (by omega) fun q=>by have:=f k q.symm;omega⟩
end
section
variable {w0 w w':World} {S:MS} {m:Mt} {gB gC gD:Nat}
theorem CpM.below (h:CpM w0 S m gB gC gD w) (b:Below w.heap.size w w'):CpM w0 S m gB gC gD w':=
 ⟨h.rule.below b,h.far,h.b0,h.dates.on b,h.c1,h.exc.on b,h.c2,Nat.le_trans h.c3 b.size,h.nd,h.ne,h.at_.trans (b.mono h.at_.size)⟩
theorem CpM.mt (h:CpM w0 S m gB gC gD w):IsAt w S.ad m.dates.length m.dates/\IsAt w S.ae m.exc.length m.exc:=⟨own_at h.dates.1,own_at h.exc.1⟩
theorem own_cap {B C n c:Nat} {A:Option Addr} {l:List Int} (h:OwnB B C w (.slice A n c) l):n<=c/\(A=none->c=0)/\n<=maxLen:=by
 rcases h.1.2 with ⟨h0,-⟩|⟨g',cap,cur,h0,hb,hg,hnc,hcm,-⟩
 ·injection h0 with h1 h2 h3
  subst h1 h2 h3;exact⟨Nat.le_refl _,fun _=>rfl,by decide⟩
 ·injection h0 with h1 h2 h3
  subst h1 h2 h3;exact⟨hnc,(fun q=>by cases q),by omega⟩
theorem CpM.more {w1 w2:World} {v':Value} {g:Nat} {d:List Int} (h:CpM w0 S m gB gC gD w) (X:Box w g (mcells S m).toArray) (hg:gD<=g) (gr:w.grownBy w1 (Value.slice S.ad m.dates.length S.cd).ownBlock) (b:Below w1.heap.size w1 w2) (o:OwnI w1 w2 v' d):
  ∃A c,v'= .slice A d.length c/\Below w0.heap.size w0 (w2.setCell ⟨g,19,none⟩ v')/\(Box w2 g (mcells S m).toArray/\∀j,w2.frozen? ⟨g,j,none⟩=w.frozen? ⟨g,j,none⟩)/\
   Hid (∃S2:MS,Box (w2.setCell ⟨g,19,none⟩ v') g (mcells S2 { m with dates:=d }).toArray/\MtAt (w2.setCell ⟨g,19,none⟩ v') S2 { m with dates:=d }):=by
 obtain⟨A,c,rfl,ia,ic,iz⟩:∃A c,v'= .slice A d.length c/\IsAt w2 A d.length d/\d.length<=c/\(A=none->c=0):=by
  obtain⟨A,c,h1,h2,-,h3,h4⟩:=ownC o;exact⟨A,c,h1,h2,h3,h4⟩
 have fd:∀k,(Value.slice S.ad m.dates.length S.cd).ownBlock=some k->gB<=k/\k<gC:=fun k q=>⟨(World.ownsRow.lt h.dates.1 k q).1,h.dates.2 k q⟩
 have c1:=h.c1
 have c2:=h.c2
 have c3:=h.c3
 have b0:=h.b0
 have lg:=X.1
 have X2:=(box_gr X gr fun k q e=>by have:=(fd k q).2;omega).below b
 have F2:∀j,w2.frozen? ⟨g,j,none⟩=w.frozen? ⟨g,j,none⟩:=frozen_of ((b.block g (Nat.lt_of_lt_of_le lg gr.size)).trans (gr.block g lg fun q=>by have:=(fd g q.symm).2;omega))
 have R2:=(ru_gr h.rule gr fun k q=>h.far k (fd k q).1).below b
 have E2:IsAt w2 S.ae m.exc.length m.exc:=(is_gr h.mt.2 gr fun k q=>fun b' off e=>by
  have:=own_far h.exc.1 (g:=k) (by
   have:=(fd k q).2
   exact Nat.lt_of_lt_of_le this (Nat.le_refl _))
  exact this b' off e).below b
 have ec:=own_cap h.exc
 have fA:Far A g:=Far.fresh o.fresh (Nat.lt_of_lt_of_le lg gr.size)
 have rf:RFar S.R g:=h.far g (by omega)
 have fE:Far S.ae g:=far_up h.exc hg
 have s0:w0.heap.size<=g:=by omega
 refine⟨A,c,rfl,?_,⟨X2,F2⟩,Lib.hid ⟨⟨S.R,A,d.length,c,S.ae,S.ne,S.ce⟩,?_,⟨R2.set rf,ia.set fA,?_,?_,?_,ic,?_,iz⟩⟩⟩
 ·exact((h.at_.trans (gr_low gr h.at_.size fun k q=>Nat.le_trans b0 (fd k q).1)).trans (b.mono (Nat.le_trans h.at_.size gr.size))).setCell (p:=⟨g,19,none⟩) s0 _
 ·exact X2.put 19 _ (show 19<21 by decide)
 ·rw[show (⟨S.R,A,d.length,c,S.ae,S.ne,S.ce⟩:MS).ne=m.exc.length from h.ne];exact E2.set fE
 ·have:=(World.ownsRow.lt o);have e:=(ownC o);show d.length<=_;have:=o.at_;obtain⟨_,_,_,_,_,q⟩:=this;unfold maxLen at q;omega
 ·show S.ne<=_;rw[h.ne];have:=ec.2.2;unfold maxLen at this;omega
 ·show S.ne<=S.ce;rw[h.ne];exact ec.1
theorem CpM.less {w1 w2:World} {v':Value} {g:Nat} {d:List Int} (h:CpM w0 S m gB gC gD w) (X:Box w g (mcells S m).toArray) (hg:gD<=g) (gr:w.grownBy w1 (Value.slice S.ae m.exc.length S.ce).ownBlock) (b:Below w1.heap.size w1 w2) (o:OwnI w1 w2 v' d):
  ∃A c,v'= .slice A d.length c/\Below w0.heap.size w0 (w2.setCell ⟨g,20,none⟩ v')/\(Box w2 g (mcells S m).toArray/\∀j,w2.frozen? ⟨g,j,none⟩=w.frozen? ⟨g,j,none⟩)/\
   Hid (∃S2:MS,Box (w2.setCell ⟨g,20,none⟩ v') g (mcells S2 { m with exc:=d }).toArray/\MtAt (w2.setCell ⟨g,20,none⟩ v') S2 { m with exc:=d }):=by
 obtain⟨A,c,rfl,ia,ic,iz⟩:∃A c,v'= .slice A d.length c/\IsAt w2 A d.length d/\d.length<=c/\(A=none->c=0):=by
  obtain⟨A,c,h1,h2,-,h3,h4⟩:=ownC o;exact⟨A,c,h1,h2,h3,h4⟩
 have fd:∀k,(Value.slice S.ae m.exc.length S.ce).ownBlock=some k->gC<=k/\k<gD:=fun k q=>⟨(World.ownsRow.lt h.exc.1 k q).1,h.exc.2 k q⟩
 have c1:=h.c1
 have c2:=h.c2
 have c3:=h.c3
 have b0:=h.b0
 have lg:=X.1
 have X2:=(box_gr X gr fun k q e=>by have:=(fd k q).2;omega).below b
 have F2:∀j,w2.frozen? ⟨g,j,none⟩=w.frozen? ⟨g,j,none⟩:=frozen_of ((b.block g (Nat.lt_of_lt_of_le lg gr.size)).trans (gr.block g lg fun q=>by have:=(fd g q.symm).2;omega))
 have R2:=(ru_gr h.rule gr fun k q=>h.far k (by have:=(fd k q).1;omega)).below b
 have D2:IsAt w2 S.ad m.dates.length m.dates:=(is_gr h.mt.1 gr fun k q=>far_up h.dates (fd k q).1).below b
 have dc:=own_cap h.dates
 have fA:Far A g:=Far.fresh o.fresh (Nat.lt_of_lt_of_le lg gr.size)
 have rf:RFar S.R g:=h.far g (by omega)
 have fD:Far S.ad g:=far_up h.dates (by omega)
 have s0:w0.heap.size<=g:=by omega
 refine⟨A,c,rfl,?_,⟨X2,F2⟩,Lib.hid ⟨⟨S.R,S.ad,S.nd,S.cd,A,d.length,c⟩,?_,⟨R2.set rf,?_,ia.set fA,?_,?_,?_,ic,?_⟩⟩⟩
 ·exact((h.at_.trans (gr_low gr h.at_.size fun k q=>by have:=(fd k q).1;omega)).trans (b.mono (Nat.le_trans h.at_.size gr.size))).setCell (p:=⟨g,20,none⟩) s0 _
 ·exact X2.put 20 _ (show 20<21 by decide)
 ·rw[show (⟨S.R,S.ad,S.nd,S.cd,A,d.length,c⟩:MS).nd=m.dates.length from h.nd];exact D2.set fD
 ·show S.nd<=_;rw[h.nd];have:=dc.2.2;unfold maxLen at this;omega
 ·show d.length<=_;have:=o.at_;obtain⟨_,_,_,_,_,q⟩:=this;unfold maxLen at q;omega
 ·show S.nd<=S.cd;rw[h.nd];exact dc.1
 ·exact dc.2.1
end
end Go.Proofs.YtddnnljfgfcplaaGreatDoor.Me
namespace Go.Proofs.YtddnnljfgfcplaaGreatDoor.Me
open Lib (hid)
open Go.RowKit Cv St Ru
def hasN (l:List Int) (x:Int) (k:Nat):Prop:=∀j,j<k->iat l j≠x
theorem hasN.succ {l:List Int} {x:Int} {k:Nat} (h:hasN l x k) (e:iat l k≠x):hasN l x (k+1):=fun j hj=>by
 by_cases c:j=k
 ·subst c;exact e
 ·exact h j (by omega)
theorem vhas_is (w:World) (A:Option Addr) (n c:Nat) (l:List Int) (x:Int) (hl:IsAt w A n l) (h1:n<=9223372036854775807) (p:Bool) (hp:decide (x∈l)=p):
  Calls Tryz.prog 19 #[.slice A n c,.int .i64 x] w fun e w'=>e= .returned (.bool p)/\Below w.heap.size w w':=by
 obtain⟨en,hc⟩:=hl
 have EN:=hid en
 have HP:=hid hp
 clear en hp
 go_enter Tryz.func19,Tryz.ntmps19
 go_wp2
 go_loopw [5] (fun i wr=>∃t:Nat,t<=n/\i= .int .i64 t/\Hid (hasN l x t)/\∃q:Nat,wr=w.drewN q) (fun i _=>n-(intOf i).toNat)
 case atStart=>exact⟨0,Nat.zero_le _,rfl,hid (fun j hj=>absurd hj (by omega)),0,rfl⟩
 case round=>
  obtain⟨t,ht,rfl,D,q,rfl⟩:=hrel
  by_cases hlt:t<n
  ·obtain⟨bl,off,rfl,hb,hcc⟩:=hc (by omega)
   have c0:=hcc t hlt
   have Y:=hid (fun (h:iat l t=x)=>show true=p by
    rw[<-HP.out];have hk:t<l.length:=by rw[<-EN.out];exact hlt
    rw[iat_lt hk] at h
    exact(decide_eq_true (h ▸ List.getElem_mem hk)).symm)
   have X:=hid (fun (e1:iat l t≠x)=>D.out.succ e1);clear hc hcc D
   by_cases p1:iat l t=x
   ·have e1:((iat l t:Int)==x)=true:=by rw[beq_iff_eq];exact p1
    have F:=hid (Y.out p1);clear p1 X Y;generalize iat l t=s at *;go_wp2;go_ret;exact⟨ret_bool F.out,Below.drewN' _ _ _⟩
   ·have e1:((iat l t:Int)==x)=false:=by rw[beq_eq_false_iff_ne];exact p1
    have F:=hid (X.out p1);clear p1 X Y;generalize iat l t=s at *;go_wp2
    go_roundw
    case rel=>exact⟨t+1,by omega,by go_num,F,_,rfl⟩
    case measure=>simp[intOf];omega
  ·obtain rfl:n=t:=by omega
   have F:=hid (show false=p by
    rw[<-HP.out];refine(decide_eq_false fun g => ?_).symm;obtain⟨j,hj,e⟩:=List.getElem_of_mem g
    exact D.out j (by rw[EN.out];exact hj) (by rw[iat_lt hj];exact e))
   go_wp2;go_ret;exact⟨ret_bool F.out,Below.drewN' _ _ _⟩
end Go.Proofs.YtddnnljfgfcplaaGreatDoor.Me
