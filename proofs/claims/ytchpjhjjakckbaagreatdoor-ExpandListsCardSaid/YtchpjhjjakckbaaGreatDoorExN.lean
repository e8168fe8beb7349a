/- The walk of package expand's Next. -/
import Derived.Test.YtchpjhjjakckbaaGreatDoorExH
import Derived.Test.YtchpjhjjakckbaaGreatDoorExM
import Derived.RangeFuncNested
import Derived.RangeFuncBound
import Derived.RangeFuncCalls
import Derived.RangeFuncLeaves
import Derived.Shelf.Abstract
import Derived.Shelf.RegionOpen
import Derived.OwnWalkIn
import Derived.TacticsInMore
import Derived.LoopNIn
import Derived.LoopIn
set_option linter.unusedVariables false
namespace Go.Proofs.YtchpjhjjakckbaaGreatDoor.Ex
open Go Go.RowKit Go.Shelf Cv St Ru Dd Mb
attribute [local go_sem] Oper.semAt_some
structure NextI (w:World) (after:Int) (E:Nat) (X:Nat→Prop) (pre:List Int) (W:World):Prop where
 below:Below w.heap.size w W
 far:∀k,k<w.heap.size+4→¬X k
 size:E≤W.heap.size
 a:W.cell? ⟨w.heap.size+1,0,none⟩=some (.int .i64 after)
 r2:W.cell? ⟨w.heap.size+1+1,0,none⟩=some (.int .i64 0)
 r3:W.cell? ⟨w.heap.size+1+1+1,0,none⟩=some (.bool false)
 f2:W.frozen? ⟨w.heap.size+1+1,0,none⟩=false
 f3:W.frozen? ⟨w.heap.size+1+1+1,0,none⟩=false
 le:∀y∈pre,y≤after
theorem nextI_foot {w:World} {after:Int} {E:Nat} (hE:w.heap.size+4≤E):Foot (NextI w after E):=by
 intro X X' s W W' h hk hx
 have n1:=h.far (w.heap.size+1) (by omega)
 have n2:=h.far (w.heap.size+1+1) (by omega)
 have n3:=h.far (w.heap.size+1+1+1) (by omega)
 refine⟨h.below.trans ((hk.mono (Y:=fun k=>k<w.heap.size) fun k hk=>h.far k (by omega)).below h.below.size),?_,Nat.le_trans h.size hk.size,hk.cell n1 h.a,hk.cell n2 h.r2,hk.cell n3 h.r3,hk.frozen n2 h.r2 h.f2,hk.frozen n3 h.r3 h.f3,h.le⟩
 intro k hk' q
 have:=h.size
 rcases hx k q with q|q
 ·exact h.far k hk' q
 ·omega
structure NextX (w:World) (z:Int×Bool) (c:Code) (X:Nat→Prop) (pre:List Int) (W:World):Prop where
 e:c= .ret
 below:Below w.heap.size w W
 size:w.heap.size+4≤W.heap.size
 far:∀k,k<w.heap.size+4→¬X k
 r2:W.cell? ⟨w.heap.size+1+1,0,none⟩=some (.int .i64 z.1)
 r3:W.cell? ⟨w.heap.size+1+1+1,0,none⟩=some (.bool z.2)
theorem nextX_foot {w:World} {z:Int×Bool} (c:Code):Foot (NextX w z c):=by
 intro X X' s W W' h hk hx
 have n2:=h.far (w.heap.size+1+1) (by omega)
 have n3:=h.far (w.heap.size+1+1+1) (by omega)
 refine⟨h.e,h.below.trans ((hk.mono (Y:=fun k=>k<w.heap.size) fun k hk=>h.far k (by omega)).below h.below.size),Nat.le_trans h.size hk.size,?_,hk.cell n2 h.r2,hk.cell n3 h.r3⟩
 intro k hk' q
 have:=h.size
 rcases hx k q with q|q
 ·exact h.far k hk' q
 ·omega
theorem next_hit {r:Ru} {start after end_ x:Int} {pre:List Int} (h:mayE r start end_ 1=true) (ha:after<end_) (hp:pre++[x] <+: momL r start (nextFrom r start after) end_) (hl:∀y∈pre,y≤after) (hx:after<x):nextR r start after end_=(x,true):=by
 obtain⟨t,ht⟩:=hp
 unfold nextR
 rw[if_neg (by rw[h];simp;omega),←ht,List.append_assoc,List.filter_append,List.filter_append]
 have e:pre.filter (fun y=>decide (after<y))=[]:=by
  rw[List.filter_eq_nil_iff]
  intro y hy
  have:=hl y hy
  simp
  omega
 rw[e]
 simp[hx]
theorem next_miss {r:Ru} {start after end_:Int} (hl:∀y∈momL r start (nextFrom r start after) end_,y≤after):nextR r start after end_=(0,false):=by
 unfold nextR
 split
 ·rfl
 ·have e:(momL r start (nextFrom r start after) end_).filter (fun y=>decide (after<y))=[]:=by
   rw[List.filter_eq_nil_iff]
   intro y hy
   have:=hl y hy
   simp
   omega
  rw[e]
set_option maxRecDepth 100000 in
set_option maxHeartbeats 16000000 in
theorem next_is (w:World) (S:RS) (r:Ru) (start after end_:Int) (x:Int) (y:Bool) (h:RuAt w S r) (la:-9223372036854775808≤after) (hx:nextR r start after end_=(x,y)):
  Calls Tryz.prog 42 #[S.val r,.int .i64 start,.int .i64 after,.int .i64 end_] w fun e w'=>e= .returned (.tuple #[.int .i64 x,.bool y])∧Below w.heap.size w w':=by
 have RA:=Lib.hid h
 obtain⟨m,hm⟩:∃m,mayE r start end_ 1=m:=⟨_,rfl⟩
 have X0:=Lib.hid (fun (e:m=false∨end_≤after)=>show ((0:Int),false)=(x,y) by rw[←hx];unfold nextR;rw[if_pos (by rw[hm];exact e)])
 obtain⟨f,hf⟩:∃f,nextFrom r start after=f:=⟨_,rfl⟩
 obtain⟨XS,hXS⟩:∃l,momL r start f end_=l:=⟨_,rfl⟩
 have XH:=Lib.hid (fun (e:m=true) (ha:after<end_) (pre:List Int) (z:Int) (hp:pre++[z] <+: XS) (hl:∀y∈pre,y≤after) (hz:after<z)=>show (z,true)=(x,y) by
  rw[←hx,next_hit (hm.trans e) ha (by rw[hf,hXS];exact hp) hl hz])
 have XN:=Lib.hid (fun (hl:∀y∈XS,y≤after)=>show ((0:Int),false)=(x,y) by rw[←hx,next_miss (by rw[hf,hXS];exact hl)])
 have XM:=Lib.hid (fun (e:m=true)=>show mayR r=true∧St.may start=true∧St.may end_=true by
  have u:=hm.trans e
  unfold mayE at u
  simp only[Bool.and_eq_true,decide_eq_true_eq] at u
  exact⟨u.1.1.1.1,u.1.1.1.2,u.1.1.2⟩)
 have HF:=Lib.hid (show (r.cnt=0→max start (after+1)=f)∧(r.cnt≠0→start=f) from ⟨fun q=>by rw[←hf];unfold nextFrom;rw[if_pos q],fun q=>by rw[←hf];unfold nextFrom;rw[if_neg q]⟩)
 have HM:=Lib.hid hm
 have HXS:=Lib.hid hXS
 clear h hx hm hXS hf
 obtain⟨n,hn⟩:∃n:Nat,9≤n:=⟨9,Nat.le_refl _⟩
 refine(callsIn_wide (n:=n)).1 ?_
 obtain⟨ra6,rn6,rc6,ra7,rn7,rc7,ra8,rn8,rc8,ra9,rn9,rc9,ra10,rn10,rc10,ra11,rn11,rc11,ra12,rn12,rc12,ra13,rn13,rc13,ra14,rn14,rc14⟩:=S
 obtain⟨rfreq,ritv,rcnt,rtil,rwkst,rends,rmon,rweek,ryday,rmday,rday,rhour,rminu,rsec,rpos⟩:=r
 show CallsIn Fence.wide n Tryz.prog 42 #[.agg #[.int .i64 rfreq,.int .i64 ritv,.int .i64 rcnt,.int .i64 rtil,.int .i64 rwkst,.bool rends,.slice ra6 rn6 rc6,.slice ra7 rn7 rc7,.slice ra8 rn8 rc8,.slice ra9 rn9 rc9,.slice ra10 rn10 rc10,.slice ra11 rn11 rc11,.slice ra12 rn12 rc12,.slice ra13 rn13 rc13,.slice ra14 rn14 rc14],.int .i64 start,.int .i64 after,.int .i64 end_] w _
 refine callsIn_of_wp_marks Tryz.func42 rfl trivial ?_ rfl
 simp only[Tryz.ntmps42,List.size_toArray,List.length_cons,List.length_nil,Nat.reduceAdd,Nat.reduceSub,Array.replicate_succ,Array.replicate_zero,List.push_toArray,List.append_toArray,List.nil_append,List.cons_append]
 refine wpIn_wide.2 ?_
 go_upto_region 1 with fail
 obtain⟨Xr0,⟨m1,m2,m3⟩,⟨f2,f3⟩,B0,E0⟩:=four_cells w #[.int .i64 rfreq,.int .i64 ritv,.int .i64 rcnt,.int .i64 rtil,.int .i64 rwkst,.bool rends,.slice ra6 rn6 rc6,.slice ra7 rn7 rc7,.slice ra8 rn8 rc8,.slice ra9 rn9 rc9,.slice ra10 rn10 rc10,.slice ra11 rn11 rc11,.slice ra12 rn12 rc12,.slice ra13 rn13 rc13,.slice ra14 rn14 rc14] (.int .i64 after) (.int .i64 0) (.bool false) 25 3 3 4 _ rfl
 generalize (((w.alloc (.cells #[.int .i64 rfreq,.int .i64 ritv,.int .i64 rcnt,.int .i64 rtil,.int .i64 rwkst,.bool rends,.slice ra6 rn6 rc6,.slice ra7 rn7 rc7,.slice ra8 rn8 rc8,.slice ra9 rn9 rc9,.slice ra10 rn10 rc10,.slice ra11 rn11 rc11,.slice ra12 rn12 rc12,.slice ra13 rn13 rc13,.slice ra14 rn14 rc14] 25)).alloc (.cells #[.int .i64 after] 3)).alloc (.cells #[.int .i64 0] 3)).alloc (.cells #[.bool false] 4)=w0 at *
 obtain⟨rz0,rz1,rz2,rz3,rz4,rz5,rz6,rz7,rz8,rz9,rz10,rz11,rz12,rz13,rz14⟩:=cells15 Xr0
 go_wp2_with fail
 refine(emay_is _ ⟨ra6,rn6,rc6,ra7,rn7,rc7,ra8,rn8,rc8,ra9,rn9,rc9,ra10,rn10,rc10,ra11,rn11,rc11,ra12,rn12,rc12,ra13,rn13,rc13,ra14,rn14,rc14⟩ ⟨rfreq,ritv,rcnt,rtil,rwkst,rends,rmon,rweek,ryday,rmday,rday,rhour,rminu,rsec,rpos⟩ start end_ 1 m (RA.out.below B0) HM.out).mono ?_
 rintro e w1 ⟨rfl,b1⟩
 clear rz0 rz1 rz2 rz3 rz4 rz5 rz6 rz7 rz8 rz9 rz10 rz11 rz12 rz13 rz14
 have B1:=B0.trans (b1.mono B0.size)
 have Xr1:=Xr0.below b1
 have E1:=b1.size
 have m11:=(b1.cell (p:=⟨w.heap.size+1,0,none⟩) (by simp;omega)).trans m1
 have m21:=(b1.cell (p:=⟨w.heap.size+1+1,0,none⟩) (by simp;omega)).trans m2
 have m31:=(b1.cell (p:=⟨w.heap.size+1+1+1,0,none⟩) (by simp;omega)).trans m3
 have f21:=(b1.frozen (p:=⟨w.heap.size+1+1,0,none⟩) (by simp;omega)).trans f2
 have f31:=(b1.frozen (p:=⟨w.heap.size+1+1+1,0,none⟩) (by simp;omega)).trans f3
 clear b1 B0 Xr0 m1 m2 m3 f2 f3
 cases m
 ·have E:=Lib.hid (X0.out (.inl rfl))
  clear X0 XH XN XM HF HXS
  have q2:((w1.setCell ⟨w.heap.size+1+1,0,none⟩ (.int .i64 0)).setCell ⟨w.heap.size+1+1+1,0,none⟩ (.bool false)).cell? ⟨w.heap.size+1+1,0,none⟩=some (.int .i64 0):=by rw[World.cell?_setCell_other _ _ _ _ (by simp)];exact World.cell?_setCell_same' _ _ _ (by rw[m21];rfl)
  have q3:((w1.setCell ⟨w.heap.size+1+1,0,none⟩ (.int .i64 0)).setCell ⟨w.heap.size+1+1+1,0,none⟩ (.bool false)).cell? ⟨w.heap.size+1+1+1,0,none⟩=some (.bool false):=World.cell?_setCell_same' _ _ _ (by rw[World.cell?_setCell_other _ _ _ _ (by simp),m31];rfl)
  have BF:=(B1.setCell (p:=⟨w.heap.size+1+1,0,none⟩) (by simp<;>omega) (.int .i64 0)).setCell (p:=⟨w.heap.size+1+1+1,0,none⟩) (by simp<;>omega) (.bool false)
  go_wp2
  obtain⟨e1,e2⟩:=Prod.mk.inj E.out
  subst e1 e2
  exact⟨.tuple #[.int .i64 0,.bool false],by simp[results,Tryz.f42,go_sem,q2,q3],rfl,BF⟩
 ·by_cases ha:end_≤after
  ·have t1:decide (end_≤after)=true:=decide_eq_true ha
   have E:=Lib.hid (X0.out (.inr ha))
   clear X0 XH XN XM HF HXS
   have q2:((w1.setCell ⟨w.heap.size+1+1,0,none⟩ (.int .i64 0)).setCell ⟨w.heap.size+1+1+1,0,none⟩ (.bool false)).cell? ⟨w.heap.size+1+1,0,none⟩=some (.int .i64 0):=by rw[World.cell?_setCell_other _ _ _ _ (by simp)];exact World.cell?_setCell_same' _ _ _ (by rw[m21];rfl)
   have q3:((w1.setCell ⟨w.heap.size+1+1,0,none⟩ (.int .i64 0)).setCell ⟨w.heap.size+1+1+1,0,none⟩ (.bool false)).cell? ⟨w.heap.size+1+1+1,0,none⟩=some (.bool false):=World.cell?_setCell_same' _ _ _ (by rw[World.cell?_setCell_other _ _ _ _ (by simp),m31];rfl)
   have BF:=(B1.setCell (p:=⟨w.heap.size+1+1,0,none⟩) (by simp<;>omega) (.int .i64 0)).setCell (p:=⟨w.heap.size+1+1+1,0,none⟩) (by simp<;>omega) (.bool false)
   go_wp2
   obtain⟨e1,e2⟩:=Prod.mk.inj E.out
   subst e1 e2
   exact⟨.tuple #[.int .i64 0,.bool false],by simp[results,Tryz.f42,go_sem,q2,q3],rfl,BF⟩
  ·have t1:decide (end_≤after)=false:=decide_eq_false ha
   obtain⟨c1,c2,c3⟩:=XM.out rfl
   have ZH:=Lib.hid (show ∀(pre:List Int) (z:Int),pre++[z] <+: XS→(∀y∈pre,y≤after)→after<z→(z,true)=(x,y) from fun pre z a b c=>XH.out rfl (Int.not_le.1 ha) pre z a b c)
   have s1:=of_decide_eq_true c2
   have s2:=of_decide_eq_true c3
   have hb:=hi_bd c1 c3
   have W1':IntKind.i64.wrap (after+1)=after+1:=IntWalk.i64_in _ (by omega)
   have FB:start≤f∧St.may f=true:=by
    have q:=HF.out
    by_cases c:rcnt=0
    ·have e:=q.1 c
     exact⟨by omega,decide_eq_true (by omega)⟩
    ·have e:=q.2 c
     rw[←e]
     exact⟨Int.le_refl _,c2⟩
   clear X0 XM XH
   have rz2:w1.cell? ⟨w.heap.size,2,none⟩=some (.int .i64 rcnt):=Xr1.at_ 2 _ rfl
   go_upto_if 25 with fail
   go_cut [10] from 26 to 30 (fun v wx=>v= .int .i64 f∧wx=w1)
   case first=>
    by_cases c:rcnt=0
    ·have t2:((rcnt:Int)==0)=true:=by rw[beq_iff_eq];exact c
     have E:=Lib.hid (HF.out.1 c)
     clear c
     go_wp2
     all_goals
      go_meet
      exact⟨by rw[←E.out],rfl⟩
    ·have t2:((rcnt:Int)==0)=false:=by rw[beq_eq_false_iff_ne];exact c
     have E:=Lib.hid (HF.out.2 c)
     clear c
     go_wp2
     go_meet
     exact⟨by rw[←E.out],rfl⟩
   case rest=>
    obtain⟨rfl,rfl⟩:=hcut
    clear rz2
    obtain⟨rz0,rz1,rz2,rz3,rz4,rz5,rz6,rz7,rz8,rz9,rz10,rz11,rz12,rz13,rz14⟩:=cells15 Xr1
    go_wp2_with fail
    refine(moments_is _ ⟨ra6,rn6,rc6,ra7,rn7,rc7,ra8,rn8,rc8,ra9,rn9,rc9,ra10,rn10,rc10,ra11,rn11,rc11,ra12,rn12,rc12,ra13,rn13,rc13,ra14,rn14,rc14⟩ ⟨rfreq,ritv,rcnt,rtil,rwkst,rends,rmon,rweek,ryday,rmday,rday,rhour,rminu,rsec,rpos⟩ start f end_ c1).mono ?_
    rintro e w3 ⟨he,F4,b3⟩
    clear rz0 rz1 rz2 rz3 rz4 rz5 rz6 rz7 rz8 rz9 rz10 rz11 rz12 rz13 rz14
    have SB:=B1.size
    have a1:=(b3.cell (p:=⟨w.heap.size+1,0,none⟩) (by simp;omega)).trans m11
    have a2:=(b3.cell (p:=⟨w.heap.size+1+1,0,none⟩) (by simp;omega)).trans m21
    have a3:=(b3.cell (p:=⟨w.heap.size+1+1+1,0,none⟩) (by simp;omega)).trans m31
    have g2:=(b3.frozen (p:=⟨w.heap.size+1+1,0,none⟩) (by simp;omega)).trans f21
    have g3:=(b3.frozen (p:=⟨w.heap.size+1+1+1,0,none⟩) (by simp;omega)).trans f31
    have B3:=B1.trans (b3.mono B1.size)
    have lt4:=F4.lt
    have E3:=b3.size
    obtain⟨gf,lb,hv,hg,SEQ⟩:∃gf lb,MomV wc.heap.size= .func (.func gf) #[] lb∧(∀args w,(callFunc gf args).run Tryz.prog w= .ok (.enter gf args) w)∧SeqX Fence.wide (n-1) Tryz.prog gf lb (setC w wc.heap.size) (InC w wc.heap.size ⟨ra6,rn6,rc6,ra7,rn7,rc7,ra8,rn8,rc8,ra9,rn9,rc9,ra10,rn10,rc10,ra11,rn11,rc11,ra12,rn12,rc12,ra13,rn13,rc13,ra14,rn14,rc14⟩ ⟨rfreq,ritv,rcnt,rtil,rwkst,rends,rmon,rweek,ryday,rmday,rday,rhour,rminu,rsec,rpos⟩ start f (hiR ⟨rfreq,ritv,rcnt,rtil,rwkst,rends,rmon,rweek,ryday,rmday,rday,rhour,rminu,rsec,rpos⟩ end_)) XS:=
     ⟨_,_,rfl,enters_of Tryz.func143 (by kernel_rfl) rfl,by rw[←HXS.out];exact mom_seq w _ _ start f end_ wc.heap.size (n-1) (by omega) RA.out c1 c2 FB.2 FB.1 hb.1 hb.2⟩
    rw[hv] at he
    subst he
    clear hv
    obtain⟨hi,hhi⟩:∃x,hiR ⟨rfreq,ritv,rcnt,rtil,rwkst,rends,rmon,rweek,ryday,rmday,rday,rhour,rminu,rsec,rpos⟩ end_=x:=⟨_,rfl⟩
    rw[hhi] at SEQ F4
    have IC:InC w wc.heap.size ⟨ra6,rn6,rc6,ra7,rn7,rc7,ra8,rn8,rc8,ra9,rn9,rc9,ra10,rn10,rc10,ra11,rn11,rc11,ra12,rn12,rc12,ra13,rn13,rc13,ra14,rn14,rc14⟩ ⟨rfreq,ritv,rcnt,rtil,rwkst,rends,rmon,rweek,ryday,rmday,rday,rhour,rminu,rsec,rpos⟩ start f hi w3:=⟨B1.size,B3,F4⟩
    clear hhi hb m11 m21 m31 f21 f31 b3 B1 Xr1 F4 HXS HF FB c1 c2 c3 s1 s2 W1'
    go_wp2
    refine wpIn_wide (n:=n).1 ?_
    refine wpIn_rangeX (n:=n) rfl (by omega) (gf:=gf) (lb:=lb) rfl trivial hg SEQ (fun k hk=>by
      rcases hk with h|h<;>omega) (fun W' hk=>IC.keeps hk fun k hc=>by
      rcases hc with h|h<;>omega)
     (NextI w after w3.heap.size) (NextX w (x,y)) (nextI_foot (by omega)) nextX_foot
     ⟨B3,fun _ _ h=>h,Nat.le_refl _,a1,a2,a3,g2,g3,fun _ h=>by cases h⟩
     (fun z=>{ tmps:=#[.agg #[.int .i64 rfreq,.int .i64 ritv,.int .i64 rcnt,.int .i64 rtil,.int .i64 rwkst,.bool rends,.slice ra6 rn6 rc6,.slice ra7 rn7 rc7,.slice ra8 rn8 rc8,.slice ra9 rn9 rc9,.slice ra10 rn10 rc10,.slice ra11 rn11 rc11,.slice ra12 rn12 rc12,.slice ra13 rn13 rc13,.slice ra14 rn14 rc14],.int .i64 start,.int .i64 after,.int .i64 end_,.pointer (some ⟨w.heap.size,0,none⟩),undef,.pointer (some ⟨w.heap.size+1,0,none⟩),undef,.pointer (some ⟨w.heap.size+1+1,0,none⟩),.pointer (some ⟨w.heap.size+1+1+1,0,none⟩),.int .i64 f,.int .i64 z,.agg #[.int .i64 rfreq,.int .i64 ritv,.int .i64 rcnt,.int .i64 rtil,.int .i64 rwkst,.bool rends,.slice ra6 rn6 rc6,.slice ra7 rn7 rc7,.slice ra8 rn8 rc8,.slice ra9 rn9 rc9,.slice ra10 rn10 rc10,.slice ra11 rn11 rc11,.slice ra12 rn12 rc12,.slice ra13 rn13 rc13,.slice ra14 rn14 rc14],.int .i64 start,.int .i64 end_,.bool true,.bool false,.bool false,.int .i64 after,.int .i64 end_,.bool false,.bool false,.int .i64 start,.pointer (some ⟨w.heap.size,2,none⟩),.int .i64 rcnt,.bool (rcnt==0),u26,u27,u28,u29,.agg #[.int .i64 rfreq,.int .i64 ritv,.int .i64 rcnt,.int .i64 rtil,.int .i64 rwkst,.bool rends,.slice ra6 rn6 rc6,.slice ra7 rn7 rc7,.slice ra8 rn8 rc8,.slice ra9 rn9 rc9,.slice ra10 rn10 rc10,.slice ra11 rn11 rc11,.slice ra12 rn12 rc12,.slice ra13 rn13 rc13,.slice ra14 rn14 rc14],.int .i64 start,.int .i64 f,.int .i64 end_,.func (.func gf) #[] lb,.int .i64 z,undef,undef,undef,undef],defers:= [] }) ?assign ?body ?done ?stop
    case assign=>
     intro l0 x W2 K hK
     gi_wp2
     exact hK
    case body=>
     rintro l0 X pre z W2 M hX hXC hXD hXL hpre
     have mm:=M.a
     have mr2:=M.r2
     have mr3:=M.r3
     have mf2:=M.f2
     have mf3:=M.f3
     have sz:=M.size
     have LE:=Lib.hid M.le
     have n2:=M.far (w.heap.size+1+1) (by omega)
     have n3:=M.far (w.heap.size+1+1+1) (by omega)
     have MM:=Lib.hid M
     clear M
     by_cases hc:after<z
     ·have t0:decide (after<z)=true:=decide_eq_true hc
      have E:=Lib.hid (ZH.out pre z hpre LE.out hc)
      clear hc
      have q2:((W2.setCell ⟨w.heap.size+1+1,0,none⟩ (.int .i64 z)).setCell ⟨w.heap.size+1+1+1,0,none⟩ (.bool true)).cell? ⟨w.heap.size+1+1,0,none⟩=some (.int .i64 z):=by rw[World.cell?_setCell_other _ _ _ _ (by simp)];exact World.cell?_setCell_same' _ _ _ (by rw[mr2];rfl)
      have q3:((W2.setCell ⟨w.heap.size+1+1,0,none⟩ (.int .i64 z)).setCell ⟨w.heap.size+1+1+1,0,none⟩ (.bool true)).cell? ⟨w.heap.size+1+1+1,0,none⟩=some (.bool true):=World.cell?_setCell_same' _ _ _ (by rw[World.cell?_setCell_other _ _ _ _ (by simp),mr3];rfl)
      have BF:=(MM.out.below.setCell (p:=⟨w.heap.size+1+1,0,none⟩) (by simp<;>omega) (.int .i64 z)).setCell (p:=⟨w.heap.size+1+1+1,0,none⟩) (by simp<;>omega) (.bool true)
      have nC:∀j,j<wc.heap.size→w.heap.size≤j→¬setC w wc.heap.size j:=fun j a b h=>by rcases h with h|h<;>omega
      have KF:Keeps (fun k=>X k∨setC w wc.heap.size k) W2 ((W2.setCell ⟨w.heap.size+1+1,0,none⟩ (.int .i64 z)).setCell ⟨w.heap.size+1+1+1,0,none⟩ (.bool true)):=
       (Keeps.setCell _ _ _ (fun h=>h.elim n2 (nC _ (by simp;omega) (by simp;omega)))).trans (Keeps.setCell _ _ _ (fun h=>h.elim n3 (nC _ (by simp;omega) (by simp;omega))))
      have FR:=MM.out.far
      have SZ:w.heap.size+4≤((W2.setCell ⟨w.heap.size+1+1,0,none⟩ (.int .i64 z)).setCell ⟨w.heap.size+1+1+1,0,none⟩ (.bool true)).heap.size:=by simp;omega
      gi_wp2
      obtain⟨e1,e2⟩:=Prod.mk.inj E.out
      subst e1 e2
      exact⟨KF,rfl,BF,SZ,fun k h=>FR k h,q2,q3⟩
     ·have t0:decide (after<z)=false:=decide_eq_false hc
      have L:=Lib.hid (show ∀y∈pre++[z],y≤after from fun y hy=>by
       rcases List.mem_append.1 hy with h|h
       ·exact LE.out y h
       ·rw[List.mem_singleton.1 h];omega)
      clear hc
      gi_wp2
      exact⟨Keeps.refl _ _,MM.out.below,MM.out.far,MM.out.size,mm,mr2,mr3,mf2,mf3,L.out⟩
    case done=>
     rintro D W3 hD M hK
     have E:=Lib.hid (XN.out M.le)
     have mr2:=M.r2
     have mr3:=M.r3
     have mf2:=M.f2
     have mf3:=M.f3
     have sz:=M.size
     have DL:=(Array.getElem?_eq_some_iff.1 hK).1
     obtain⟨W4,h4⟩:∃W4,(W3.setCell ⟨w.heap.size+1+1,0,none⟩ (.int .i64 0)).setCell ⟨w.heap.size+1+1+1,0,none⟩ (.bool false)=W4:=⟨_,rfl⟩
     have hK4:W4.heap[D]? = some (.deferred (some [])):=by
      rw[←h4]
      exact(Below.heap_setCell _ _ _ _ (by simp;omega)).trans ((Below.heap_setCell _ _ _ _ (by simp;omega)).trans hK)
     have q2:(W4.putObj D (.deferred none)).cell? ⟨w.heap.size+1+1,0,none⟩=some (.int .i64 0):=by
      refine(World.cell?_of_block (w:=W4) (World.putObj_heap_other (by simp;omega))).trans ?_
      rw[←h4,World.cell?_setCell_other _ _ _ _ (by simp)]
      exact World.cell?_setCell_same' _ _ _ (by rw[mr2];rfl)
     have q3:(W4.putObj D (.deferred none)).cell? ⟨w.heap.size+1+1+1,0,none⟩=some (.bool false):=by
      refine(World.cell?_of_block (w:=W4) (World.putObj_heap_other (by simp;omega))).trans ?_
      rw[←h4]
      exact World.cell?_setCell_same' _ _ _ (by rw[World.cell?_setCell_other _ _ _ _ (by simp),mr3];rfl)
     have BF:Below w.heap.size w (W4.putObj D (.deferred none)):=by
      have b4:Below w.heap.size w W4:=by
       rw[←h4]
       exact(M.below.setCell (p:=⟨w.heap.size+1+1,0,none⟩) (by simp<;>omega) _).setCell (p:=⟨w.heap.size+1+1+1,0,none⟩) (by simp<;>omega) _
      exact b4.trans ((Keeps.putObj (X:=fun k=>k<w.heap.size) W4 D _ (by omega)).below b4.size)
     clear M
     go_wp2
     refine⟨by simp,.inl ⟨_,_,rfl,run_takeDeferred hK4,?_⟩⟩
     obtain⟨e1,e2⟩:=Prod.mk.inj E.out
     subst e1 e2
     exact⟨.tuple #[.int .i64 0,.bool false],by simp[results,Tryz.f42,go_sem,q2,q3],rfl,BF⟩
    case stop=>
     rintro D cc pre W3 hD hpre M hK
     obtain rfl:=M.e
     have sz:=M.size
     have q2:(W3.putObj D (.deferred none)).cell? ⟨w.heap.size+1+1,0,none⟩=some (.int .i64 x):=(World.cell?_of_block (w:=W3) (World.putObj_heap_other (by simp;omega))).trans M.r2
     have q3:(W3.putObj D (.deferred none)).cell? ⟨w.heap.size+1+1+1,0,none⟩=some (.bool y):=(World.cell?_of_block (w:=W3) (World.putObj_heap_other (by simp;omega))).trans M.r3
     have BF:Below w.heap.size w (W3.putObj D (.deferred none)):=M.below.trans ((Keeps.putObj (X:=fun k=>k<w.heap.size) W3 D _ (by omega)).below M.below.size)
     clear M
     gi_wp2
     refine⟨by simp,.inl ⟨_,_,rfl,run_takeDeferred hK,?_⟩⟩
     exact⟨.tuple #[.int .i64 x,.bool y],by simp[results,Tryz.f42,go_sem,q2,q3],rfl,BF⟩
end Go.Proofs.YtchpjhjjakckbaaGreatDoor.Ex
