/- The walk of package expand's List, with the list's capacity. -/
import Derived.Test.YtddnnljfgfcplaaGreatDoorExH
set_option linter.unusedVariables false
namespace Go.Proofs.YtddnnljfgfcplaaGreatDoor.Ex
open Lib (hid)
open Go Go.RowKit Go.Shelf Cv St Ru Dd Mb
attribute [local go_sem] Oper.semAt_some
theorem row_atc {w:World} {B:Nat} {v:Value} {l:List Int} (h:w.ownsRow B 3 1 v l.length (l.map (Value.int .i64))):∃A c,v= .slice A l.length c/\IsAt w A l.length l/\Fresh B A/\l.length<=c/\(A=none->c=0):=by
 rcases h.2 with ⟨rfl,h0⟩|⟨g,cap,cur,rfl,hb,hg,hnc,hcm,-⟩
 ·have e:l=[]:=List.length_eq_zero_iff.1 h0
  subst e;exact⟨none,0,rfl,IsAt.nil _ _,fun b off e=>(by cases e),Nat.le_refl _,fun _=>rfl⟩
 ·refine⟨some ⟨g,0,none⟩,cap,rfl,⟨rfl,fun h0=>⟨g,0,rfl,(World.ownsRow.lt h g rfl).2,fun j hj => ?_⟩⟩,fun b off e=>(by cases e;exact⟨hb,rfl⟩),hnc,fun e=>(by cases e)⟩
  rw[Nat.zero_add,World.ownsRow.cellAt h j (by omega),iat_lt hj]
  simp[hj]
def ListC (w:World) (p:List Int×Int) (e:Ending) (w':World):Prop:=∃A c,e= .returned (.tuple #[.slice A p.1.length c,.int .i64 p.2])/\IsAt w' A p.1.length p.1/\p.1.length<=c/\(A=none->c=0)/\Below w.heap.size w w'
theorem listC_nil {w w':World} {p:List Int×Int} {x:Int} (h:([],x)=p) (hb:Below w.heap.size w w'):ListC w p (.returned (.tuple #[.slice none 0 0,.int .i64 x])) w':=by
 subst h
 exact⟨none,0,rfl,IsAt.nil _ _,Nat.le_refl _,fun _=>rfl,hb⟩
set_option maxRecDepth 100000 in
set_option maxHeartbeats 16000000 in
theorem listC_is (w:World) (S:RS) (r:Ru) (start end_ most:Int) (q:List Int×Int) (h:RuAt w S r) (hx:listR r start end_ most=q):
  Calls Tryz.prog 50 #[S.val r,.int .i64 start,.int .i64 end_,.int .i64 most] w (ListC w q):=by
 have RA:=hid h
 obtain⟨m,hm⟩:∃m,mayE r start end_ most=m:=⟨_,rfl⟩
 obtain⟨XS,hXS⟩:∃l,momL r start start end_=l:=⟨_,rfl⟩
 have X0:=hid (fun (e:m=false)=>show ([],1)=q by rw[<-hx];unfold listR;rw[if_pos (hm.trans e)])
 have X1:=hid (fun (e:m=true) (g:most<XS.length)=>show ([],10)=q by rw[<-hx];unfold listR;rw[hXS,if_neg (by rw[hm,e];decide),if_pos g])
 have X2:=hid (fun (e:m=true) (g:¬most<XS.length)=>show (XS,0)=q by rw[<-hx];unfold listR;rw[hXS,if_neg (by rw[hm,e];decide),if_neg g])
 have XM:=hid (fun (e:m=true)=>show mayR r=true/\St.may start=true/\St.may end_=true/\1<=most/\most<=4096 by
  have u:=hm.trans e;unfold mayE at u;simp only[Bool.and_eq_true,decide_eq_true_eq] at u
  exact⟨u.1.1.1.1,u.1.1.1.2,u.1.1.2,u.2.1,u.2.2⟩)
 have HM:=hid hm
 have HXS:=hid hXS
 clear h hx hm hXS
 obtain⟨n,hn⟩:∃n:Nat,9<=n:=⟨9,Nat.le_refl _⟩
 refine(callsIn_wide (n:=n)).1 ?_
 obtain⟨ra6,rn6,rc6,ra7,rn7,rc7,ra8,rn8,rc8,ra9,rn9,rc9,ra10,rn10,rc10,ra11,rn11,rc11,ra12,rn12,rc12,ra13,rn13,rc13,ra14,rn14,rc14⟩:=S
 obtain⟨rfreq,ritv,rcnt,rtil,rwkst,rends,rmon,rweek,ryday,rmday,rday,rhour,rminu,rsec,rpos⟩:=r
 show CallsIn Fence.wide n Tryz.prog 50 #[.agg #[.int .i64 rfreq,.int .i64 ritv,.int .i64 rcnt,.int .i64 rtil,.int .i64 rwkst,.bool rends,.slice ra6 rn6 rc6,.slice ra7 rn7 rc7,.slice ra8 rn8 rc8,.slice ra9 rn9 rc9,.slice ra10 rn10 rc10,.slice ra11 rn11 rc11,.slice ra12 rn12 rc12,.slice ra13 rn13 rc13,.slice ra14 rn14 rc14],.int .i64 start,.int .i64 end_,.int .i64 most] w _
 refine callsIn_of_wp_marks Tryz.func50 rfl trivial ?_ rfl
 simp only[Tryz.ntmps50,List.size_toArray,List.length_cons,List.length_nil,Nat.reduceAdd,Nat.reduceSub,Array.replicate_succ,Array.replicate_zero,List.push_toArray,List.append_toArray,List.nil_append,List.cons_append]
 refine wpIn_wide.2 ?_
 go_upto_region 1 with fail
 obtain⟨Xr0,⟨m1,m2,m3⟩,⟨f2,f3⟩,B0,E0⟩:=four_cells w #[.int .i64 rfreq,.int .i64 ritv,.int .i64 rcnt,.int .i64 rtil,.int .i64 rwkst,.bool rends,.slice ra6 rn6 rc6,.slice ra7 rn7 rc7,.slice ra8 rn8 rc8,.slice ra9 rn9 rc9,.slice ra10 rn10 rc10,.slice ra11 rn11 rc11,.slice ra12 rn12 rc12,.slice ra13 rn13 rc13,.slice ra14 rn14 rc14] (.int .i64 most) (.slice none 0 0) (.int .i64 0) 25 3 22 31 _ rfl
 generalize (((w.alloc (.cells #[.int .i64 rfreq,.int .i64 ritv,.int .i64 rcnt,.int .i64 rtil,.int .i64 rwkst,.bool rends,.slice ra6 rn6 rc6,.slice ra7 rn7 rc7,.slice ra8 rn8 rc8,.slice ra9 rn9 rc9,.slice ra10 rn10 rc10,.slice ra11 rn11 rc11,.slice ra12 rn12 rc12,.slice ra13 rn13 rc13,.slice ra14 rn14 rc14] 25)).alloc (.cells #[.int .i64 most] 3)).alloc (.cells #[.slice none 0 0] 22)).alloc (.cells #[.int .i64 0] 31)=w0 at *
 obtain⟨rz0,rz1,rz2,rz3,rz4,rz5,rz6,rz7,rz8,rz9,rz10,rz11,rz12,rz13,rz14⟩:=cells15 Xr0
 go_wp2_with fail
 refine(emay_is _ ⟨ra6,rn6,rc6,ra7,rn7,rc7,ra8,rn8,rc8,ra9,rn9,rc9,ra10,rn10,rc10,ra11,rn11,rc11,ra12,rn12,rc12,ra13,rn13,rc13,ra14,rn14,rc14⟩ ⟨rfreq,ritv,rcnt,rtil,rwkst,rends,rmon,rweek,ryday,rmday,rday,rhour,rminu,rsec,rpos⟩ start end_ most m (RA.out.below B0) HM.out).mono ?_
 rintro e w1 ⟨rfl,b1⟩
 clear rz0 rz1 rz2 rz3 rz4 rz5 rz6 rz7 rz8 rz9 rz10 rz11 rz12 rz13 rz14
 have B1:=B0.trans (b1.mono B0.size)
 have Xr1:=Xr0.below b1
 have E1:=b1.size
 have m11:=(b1.cell (p:=⟨w.heap.size+1,0,none⟩) (by simp;omega)).trans m1
 have m21:=(b1.cell (p:=⟨w.heap.size+1+1,0,none⟩) (by simp;omega)).trans m2
 have m31:=(b1.cell (p:=⟨w.heap.size+1+1+1,0,none⟩) (by simp;omega)).trans m3
 have f21:=(b1.frozen (p:=⟨w.heap.size+1+1,0,none⟩) (by simp;omega)).trans f2
 have f31:=(b1.frozen (p:=⟨w.heap.size+1+1+1,0,none⟩) (by simp;omega)).trans f3
 clear b1 B0 Xr0 m1 m2 m3 f2 f3
 cases m
 ·have E:=hid (X0.out rfl)
  have q2:((w1.setCell ⟨w.heap.size+1+1,0,none⟩ (.slice none 0 0)).setCell ⟨w.heap.size+1+1+1,0,none⟩ (.int .i64 1)).cell? ⟨w.heap.size+1+1,0,none⟩=some (.slice none 0 0):=by rw[World.cell?_setCell_other _ _ _ _ (by simp)];exact World.cell?_setCell_same' _ _ _ (by rw[m21];rfl)
  have q3:((w1.setCell ⟨w.heap.size+1+1,0,none⟩ (.slice none 0 0)).setCell ⟨w.heap.size+1+1+1,0,none⟩ (.int .i64 1)).cell? ⟨w.heap.size+1+1+1,0,none⟩=some (.int .i64 1):=World.cell?_setCell_same' _ _ _ (by rw[World.cell?_setCell_other _ _ _ _ (by simp),m31];rfl)
  have BF:=(B1.setCell (p:=⟨w.heap.size+1+1,0,none⟩) (by simp<;>omega) (.slice none 0 0)).setCell (p:=⟨w.heap.size+1+1+1,0,none⟩) (by simp<;>omega) (.int .i64 1);go_wp2;exact⟨.tuple #[.slice none 0 0,.int .i64 1],by simp[results,Tryz.f50,go_sem,q2,q3],listC_nil E.out BF⟩
 ·obtain⟨c1,c2,c3,c4,c5⟩:=XM.out rfl
  have Z1:=hid (show most<(XS.length:Int)->(([]:List Int),(10:Int))=q from fun g=>X1.out rfl g);have Z2:=hid (show (XS.length:Int)<=most->(XS,(0:Int))=q from fun g=>by first|exact X2.out rfl g|exact X2.out rfl (Int.not_lt.2 g));clear X0 XM X1 X2
  go_upto_region 4 with fail
  have y2:=alloc_below w1 (.cells #[.slice none 0 0] 22);have g4:(w1.alloc (.cells #[.slice none 0 0] 22)).cell? ⟨w1.heap.size,0,none⟩=some (.slice none 0 0):=by rw[World.cell?_alloc_new];rfl
  have f4:(w1.alloc (.cells #[.slice none 0 0] 22)).frozen? ⟨w1.heap.size,0,none⟩=false:=by simp[go_sem]
  have E2:(w1.alloc (.cells #[.slice none 0 0] 22)).heap.size=w1.heap.size+1:=by simp
  generalize w1.alloc (.cells #[.slice none 0 0] 22)=w2 at *;have B2:=B1.trans (y2.mono B1.size);have Xr2:=Xr1.below y2;obtain⟨rz0,rz1,rz2,rz3,rz4,rz5,rz6,rz7,rz8,rz9,rz10,rz11,rz12,rz13,rz14⟩:=cells15 Xr2;go_wp2_with fail;refine(moments_is _ ⟨ra6,rn6,rc6,ra7,rn7,rc7,ra8,rn8,rc8,ra9,rn9,rc9,ra10,rn10,rc10,ra11,rn11,rc11,ra12,rn12,rc12,ra13,rn13,rc13,ra14,rn14,rc14⟩ ⟨rfreq,ritv,rcnt,rtil,rwkst,rends,rmon,rweek,ryday,rmday,rday,rhour,rminu,rsec,rpos⟩ start start end_ c1).mono ?_;rintro e w3 ⟨he,F4,b3⟩;clear rz0 rz1 rz2 rz3 rz4 rz5 rz6 rz7 rz8 rz9 rz10 rz11 rz12 rz13 rz14;have b23:=y2.trans (b3.mono y2.size);have m1:=(b23.cell (p:=⟨w.heap.size+1,0,none⟩) (by simp;omega)).trans m11;have m2:=(b23.cell (p:=⟨w.heap.size+1+1,0,none⟩) (by simp;omega)).trans m21;have m3:=(b23.cell (p:=⟨w.heap.size+1+1+1,0,none⟩) (by simp;omega)).trans m31;have f2:=(b23.frozen (p:=⟨w.heap.size+1+1,0,none⟩) (by simp;omega)).trans f21;have f3:=(b23.frozen (p:=⟨w.heap.size+1+1+1,0,none⟩) (by simp;omega)).trans f31;have g43:=(b3.cell (p:=⟨w1.heap.size,0,none⟩) (by simp;omega)).trans g4;have f43:=(b3.frozen (p:=⟨w1.heap.size,0,none⟩) (by simp;omega)).trans f4;have B3:=B2.trans (b3.mono B2.size);have lt4:=F4.lt;have hb:=hi_bd c1 c3
  obtain⟨gf,lb,hv,hg,SEQ⟩:∃gf lb,MomV w2.heap.size= .func (.func gf) #[] lb/\(∀args w,(callFunc gf args).run Tryz.prog w= .ok (.enter gf args) w)/\SeqX Fence.wide (n-1) Tryz.prog gf lb (setC w w2.heap.size) (InC w w2.heap.size ⟨ra6,rn6,rc6,ra7,rn7,rc7,ra8,rn8,rc8,ra9,rn9,rc9,ra10,rn10,rc10,ra11,rn11,rc11,ra12,rn12,rc12,ra13,rn13,rc13,ra14,rn14,rc14⟩ ⟨rfreq,ritv,rcnt,rtil,rwkst,rends,rmon,rweek,ryday,rmday,rday,rhour,rminu,rsec,rpos⟩ start start (hiR ⟨rfreq,ritv,rcnt,rtil,rwkst,rends,rmon,rweek,ryday,rmday,rday,rhour,rminu,rsec,rpos⟩ end_)) XS:=
   ⟨_,_,rfl,enters_of Tryz.func135 (by kernel_rfl) rfl,by rw[<-HXS.out];exact mom_seq w _ _ start start end_ w2.heap.size (n-1) (by omega) RA.out c1 c2 c2 (Int.le_refl _) hb.1 hb.2⟩
  rw[hv] at he;subst he;clear hv;obtain⟨hi,hhi⟩:∃x,hiR ⟨rfreq,ritv,rcnt,rtil,rwkst,rends,rmon,rweek,ryday,rmday,rday,rhour,rminu,rsec,rpos⟩ end_=x:=⟨_,rfl⟩;rw[hhi] at SEQ F4;have IC:InC w w2.heap.size ⟨ra6,rn6,rc6,ra7,rn7,rc7,ra8,rn8,rc8,ra9,rn9,rc9,ra10,rn10,rc10,ra11,rn11,rc11,ra12,rn12,rc12,ra13,rn13,rc13,ra14,rn14,rc14⟩ ⟨rfreq,ritv,rcnt,rtil,rwkst,rends,rmon,rweek,ryday,rmday,rday,rhour,rminu,rsec,rpos⟩ start start hi w3:=⟨B2.size,B3,F4⟩
  have E3:=b3.size;have SB:=B1.size;clear hhi hb m11 m21 m31 f21 f31 g4 f4 b23 y2 b3 B1 B2 Xr1 Xr2 F4 HXS;go_wp2;refine wpIn_wide (n:=n).1 ?_
  refine wpIn_rangeX (n:=n) rfl (by omega) (gf:=gf) (lb:=lb) rfl trivial hg SEQ (fun k hk=>by
    rcases hk with h|h<;>omega) (fun W' hk=>IC.keeps hk fun k hc=>by
    rcases hc with h|h<;>omega)
   (ListI w most w1.heap.size w3.heap.size) (ListX w most XS) (listI_foot (by omega) (by omega)) listX_foot
   ⟨B3,fun _ _ h=>h,Nat.le_refl _,m1,m2,m3,f2,f3,⟨_,g43,World.ownsRow_nil _ _ _ _,fun g e=>by cases e⟩,f43,by simp;omega⟩
   (fun x=>{ tmps:=#[.agg #[.int .i64 rfreq,.int .i64 ritv,.int .i64 rcnt,.int .i64 rtil,.int .i64 rwkst,.bool rends,.slice ra6 rn6 rc6,.slice ra7 rn7 rc7,.slice ra8 rn8 rc8,.slice ra9 rn9 rc9,.slice ra10 rn10 rc10,.slice ra11 rn11 rc11,.slice ra12 rn12 rc12,.slice ra13 rn13 rc13,.slice ra14 rn14 rc14],.int .i64 start,.int .i64 end_,.int .i64 most,.pointer (some ⟨w.heap.size,0,none⟩),undef,undef,.pointer (some ⟨w.heap.size+1,0,none⟩),.pointer (some ⟨w.heap.size+1+1,0,none⟩),.pointer (some ⟨w.heap.size+1+1+1,0,none⟩),.pointer (some ⟨w1.heap.size,0,none⟩),.int .i64 x,.agg #[.int .i64 rfreq,.int .i64 ritv,.int .i64 rcnt,.int .i64 rtil,.int .i64 rwkst,.bool rends,.slice ra6 rn6 rc6,.slice ra7 rn7 rc7,.slice ra8 rn8 rc8,.slice ra9 rn9 rc9,.slice ra10 rn10 rc10,.slice ra11 rn11 rc11,.slice ra12 rn12 rc12,.slice ra13 rn13 rc13,.slice ra14 rn14 rc14],.int .i64 start,.int .i64 end_,.int .i64 most,.bool true,.bool false,.agg #[.int .i64 rfreq,.int .i64 ritv,.int .i64 rcnt,.int .i64 rtil,.int .i64 rwkst,.bool rends,.slice ra6 rn6 rc6,.slice ra7 rn7 rc7,.slice ra8 rn8 rc8,.slice ra9 rn9 rc9,.slice ra10 rn10 rc10,.slice ra11 rn11 rc11,.slice ra12 rn12 rc12,.slice ra13 rn13 rc13,.slice ra14 rn14 rc14],.int .i64 start,.int .i64 start,.int .i64 end_,.func (.func gf) #[] lb,.int .i64 x,undef,undef,undef,undef,undef,undef,undef,undef,undef],defers:= [] }) ?assign ?body ?done ?stop
  case assign=>
   intro l0 x W2 K hK
   gi_wp2
   exact hK
  case body=>
   rintro l0 X pre x W2 M hX hXC hXD hXL hpre;obtain⟨v,v1,v2,v3⟩:=M.v;obtain⟨A,c,rfl,ia,fr⟩:=row_at v2;have mm:=M.m;have mr2:=M.r2;have mr3:=M.r3;have mf2:=M.f2;have mf3:=M.f3;have mf4:=M.f4;have sz:=M.size;have LE:=M.le;have n2:=M.far (w.heap.size+1+1) (.inl (by omega));have n3:=M.far (w.heap.size+1+1+1) (.inl (by omega));have n4:=M.far w1.heap.size (.inr rfl);obtain⟨k,hk⟩:∃k,pre.length=k:=⟨_,rfl⟩;have HK:=hid hk;rw[hk] at v1 LE;have V2:=hid v2;have IA:=hid ia;have V3:=hid v3;have MM:=hid M
   have LONG:=hid (fun (q:(k:Int)=most)=>show most<XS.length by
    have:=hpre.length_le
    rw[List.length_append,hk] at this;simp at this
    omega)
   clear v2 ia v3 M hk fr
   by_cases hc:(k:Int)=most
   ·have t0:((k:Int)==most)=true:=by rw[beq_iff_eq];exact hc
    have L:=hid (LONG.out hc);clear LONG hc;have q2:((W2.setCell ⟨w.heap.size+1+1,0,none⟩ (.slice none 0 0)).setCell ⟨w.heap.size+1+1+1,0,none⟩ (.int .i64 10)).cell? ⟨w.heap.size+1+1,0,none⟩=some (.slice none 0 0):=by rw[World.cell?_setCell_other _ _ _ _ (by simp)];exact World.cell?_setCell_same' _ _ _ (by rw[mr2];rfl)
    have q3:((W2.setCell ⟨w.heap.size+1+1,0,none⟩ (.slice none 0 0)).setCell ⟨w.heap.size+1+1+1,0,none⟩ (.int .i64 10)).cell? ⟨w.heap.size+1+1+1,0,none⟩=some (.int .i64 10):=World.cell?_setCell_same' _ _ _ (by rw[World.cell?_setCell_other _ _ _ _ (by simp),mr3];rfl)
    have BF:=(MM.out.below.setCell (p:=⟨w.heap.size+1+1,0,none⟩) (by simp<;>omega) (.slice none 0 0)).setCell (p:=⟨w.heap.size+1+1+1,0,none⟩) (by simp<;>omega) (.int .i64 10)
    have nC:∀j,j<w1.heap.size+1->w.heap.size<=j->¬setC w w2.heap.size j:=fun j a b h=>by rcases h with h|h<;>omega
    have KF:Keeps (fun k=>X k\/setC w w2.heap.size k) W2 ((W2.setCell ⟨w.heap.size+1+1,0,none⟩ (.slice none 0 0)).setCell ⟨w.heap.size+1+1+1,0,none⟩ (.int .i64 10)):=
     (Keeps.setCell _ _ _ (fun h=>h.elim n2 (nC _ (by simp;omega) (by simp;omega)))).trans (Keeps.setCell _ _ _ (fun h=>h.elim n3 (nC _ (by simp;omega) (by simp;omega))))
    have FR:=MM.out.far;have SZ:w.heap.size+4<=((W2.setCell ⟨w.heap.size+1+1,0,none⟩ (.slice none 0 0)).setCell ⟨w.heap.size+1+1+1,0,none⟩ (.int .i64 10)).heap.size:=by simp;omega
    gi_wp2
    exact⟨KF,rfl,BF,SZ,fun k h=>FR k (.inl h),q2,q3,L.out⟩
   ·have t0:((k:Int)==most)=false:=by rw[beq_eq_false_iff_ne];exact hc
    have L:=hid (show ((pre++[x]).length:Int)<=most by rw[List.length_append,HK.out];simp;omega);clear LONG hc
    gi_wp2_with (gi_at_builtin;refine wpListIn_append_x _ rfl _ _ rfl w3.heap.size _ pre (by rw[HK.out];rfl) (World.ownsRow.alloc V2.out _) ⟨W2.heap.size,0,none⟩ 1 x rfl (cell_one_new _ _ _) (by simp;omega) (by have:=HK.out;omega) ?_;intro v' w5 hown' hgrow hnew;obtain⟨g',cap',rfl⟩:=ownsRow_succ (k:=k) (by have q:=hown';rw[List.length_append,HK.out] at q;exact q);have K5:Keeps (fun j=>X j\/j<w3.heap.size) W2 w5:=(Keeps.alloc W2 _).trans (Keeps.grown hgrow (fun b e h=>h.elim (V3.out b e) (fun h=>by have:=(World.ownsRow.lt V2.out b e).1;omega)));have G5:=K5.cell (p:=⟨w1.heap.size,0,none⟩) (.inr (by simp;omega)) v1;have F5:=K5.frozen (p:=⟨w1.heap.size,0,none⟩) (.inr (by simp;omega)) v1 mf4;have HN:=hid hnew;have HO:=hid hown';clear hnew hown' hgrow)
    have KF:Keeps (fun k=>X k\/setC w w2.heap.size k) W2 (w5.setCell ⟨w1.heap.size,0,none⟩ (.slice (some ⟨g',0,none⟩) (k+1) cap')):=
     (K5.mono (Y:=fun k=>X k\/setC w w2.heap.size k) fun j h=>by
      rcases h with h|h|h
      ·exact .inl h
      ·exact .inr (by omega)
      ·exact .inr (by omega)).trans (Keeps.setCell _ _ _ (fun h=>by
      rcases h with h|h|h
      ·exact n4 h
      ·simp at h;omega
      ·simp at h;omega))
    have RW:w5.ownsRow w3.heap.size 3 1 (.slice (some ⟨g',0,none⟩) (k+1) cap') (pre++[x]).length ((pre++[x]).map (Value.int .i64)):=HO.out
    have SK:=K5.size;refine⟨KF,⟨(MM.out.below.trans ((K5.mono (Y:=fun j=>j<w.heap.size) (fun j h => .inr (by omega))).below MM.out.below.size)).setCell (p:=⟨w1.heap.size,0,none⟩) (by simp;omega) _,MM.out.far,by simp;omega,?_,?_,?_,?_,?_,⟨_,World.cell?_setCell_same' _ _ _ (by rw[G5];rfl),row_keeps RW fun b o e ho=>(Below.heap_setCell _ _ _ _ (by have:=(World.ownsRow.lt RW b e).1;simp;omega)).trans ho,fun b e hb => ?_⟩,by rw[World.frozen?_setCell];exact F5,L.out⟩⟩
    ·rw[World.cell?_setCell_other _ _ _ _ (by simp<;>omega)];exact K5.cell (.inr (by simp;omega)) mm
    ·rw[World.cell?_setCell_other _ _ _ _ (by simp<;>omega)];exact K5.cell (.inr (by simp;omega)) mr2
    ·rw[World.cell?_setCell_other _ _ _ _ (by simp<;>omega)];exact K5.cell (.inr (by simp;omega)) mr3
    ·rw[World.frozen?_setCell];exact K5.frozen (.inr (by simp;omega)) mr2 mf2
    ·rw[World.frozen?_setCell];exact K5.frozen (.inr (by simp;omega)) mr3 mf3
    ·rcases HN.out b e with q|q
     ·exact V3.out b q hb
     ·have:=hX b hb
      simp at q
      omega
  case done=>
   rintro D W3 hD M hK;obtain⟨v,v1,v2,v3⟩:=M.v;obtain⟨A,c,rfl,-,-,cap,nn⟩:=row_atc v2;have LE:=M.le;have E:=hid (Z2.out LE);have mr2:=M.r2;have mr3:=M.r3;have mf2:=M.f2;have mf3:=M.f3;have sz:=M.size;have DL:=(Array.getElem?_eq_some_iff.1 hK).1;obtain⟨W4,h4⟩:∃W4,(W3.setCell ⟨w.heap.size+1+1,0,none⟩ (.slice A XS.length c)).setCell ⟨w.heap.size+1+1+1,0,none⟩ (.int .i64 0)=W4:=⟨_,rfl⟩
   have hK4:W4.heap[D]? = some (.deferred (some [])):=by
    rw[<-h4];exact(Below.heap_setCell _ _ _ _ (by simp;omega)).trans ((Below.heap_setCell _ _ _ _ (by simp;omega)).trans hK)
   have q2:(W4.putObj D (.deferred none)).cell? ⟨w.heap.size+1+1,0,none⟩=some (.slice A XS.length c):=by
    refine(World.cell?_of_block (w:=W4) (World.putObj_heap_other (by simp;omega))).trans ?_;rw[<-h4,World.cell?_setCell_other _ _ _ _ (by simp)];exact World.cell?_setCell_same' _ _ _ (by rw[mr2];rfl)
   have q3:(W4.putObj D (.deferred none)).cell? ⟨w.heap.size+1+1+1,0,none⟩=some (.int .i64 0):=by
    refine(World.cell?_of_block (w:=W4) (World.putObj_heap_other (by simp;omega))).trans ?_;rw[<-h4];exact World.cell?_setCell_same' _ _ _ (by rw[World.cell?_setCell_other _ _ _ _ (by simp),mr3];rfl)
   have RW:=row_keeps (w':=W4.putObj D (.deferred none)) v2 fun b o e ho=>by
    have lo:=(World.ownsRow.lt v2 b e).1;have nd:b≠D:=v3 b e
    rw[World.putObj_heap_other nd,<-h4];exact(Below.heap_setCell _ _ _ _ (by simp;omega)).trans ((Below.heap_setCell _ _ _ _ (by simp;omega)).trans ho)
   obtain⟨A2,c2,e2,ia,-⟩:=row_at RW;injection e2 with e3 _ e4;subst e3 e4
   have BF:Below w.heap.size w (W4.putObj D (.deferred none)):=by
    have b4:Below w.heap.size w W4:=by
     rw[<-h4];exact(M.below.setCell (p:=⟨w.heap.size+1+1,0,none⟩) (by simp<;>omega) _).setCell (p:=⟨w.heap.size+1+1+1,0,none⟩) (by simp<;>omega) _
    exact b4.trans ((Keeps.putObj (X:=fun k=>k<w.heap.size) W4 D _ (by omega)).below b4.size)
   have IA:=hid ia;clear ia v2 v3 RW M;go_wp2;refine⟨by simp,.inl ⟨_,_,rfl,run_takeDeferred hK4,?_⟩⟩;have eq:=E.out;subst eq;exact⟨.tuple #[.slice A XS.length c,.int .i64 0],by simp[results,Tryz.f50,go_sem,q2,q3],A,c,rfl,IA.out,cap,nn,BF⟩
  case stop=>
   rintro D cc pre W3 hD hpre M hK;obtain rfl:=M.e
   have E:=hid (Z1.out M.long);have sz:=M.size;have q2:(W3.putObj D (.deferred none)).cell? ⟨w.heap.size+1+1,0,none⟩=some (.slice none 0 0):=(World.cell?_of_block (w:=W3) (World.putObj_heap_other (by simp;omega))).trans M.r2
   have q3:(W3.putObj D (.deferred none)).cell? ⟨w.heap.size+1+1+1,0,none⟩=some (.int .i64 10):=(World.cell?_of_block (w:=W3) (World.putObj_heap_other (by simp;omega))).trans M.r3
   have BF:Below w.heap.size w (W3.putObj D (.deferred none)):=M.below.trans ((Keeps.putObj (X:=fun k=>k<w.heap.size) W3 D _ (by omega)).below M.below.size)
   clear M
   gi_wp2
   refine⟨by simp,.inl ⟨_,_,rfl,run_takeDeferred hK,?_⟩⟩;exact⟨.tuple #[.slice none 0 0,.int .i64 10],by simp[results,Tryz.f50,go_sem,q2,q3],listC_nil E.out BF⟩
end Go.Proofs.YtddnnljfgfcplaaGreatDoor.Ex
