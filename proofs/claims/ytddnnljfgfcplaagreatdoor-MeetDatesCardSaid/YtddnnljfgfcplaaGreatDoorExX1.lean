/- ExX1 -/
import Derived.Test.YtddnnljfgfcplaaGreatDoorExRange
import Derived.Test.YtddnnljfgfcplaaGreatDoorExW
set_option maxRecDepth 100000
set_option maxHeartbeats 8000000
set_option linter.unusedVariables false
namespace Go.Proofs.YtddnnljfgfcplaaGreatDoor.Ex
open Lib (hid)
open Go.RowKit Cv St Ru Dd Mb
structure Four (w:World) (p:Nat) (S:RS) (r:Ru) (a b c:Int):Prop where
 x:Box w p (S.cells r)
 a:w.cell? ⟨p+1,0,none⟩=some (.int .i64 a)
 b:w.cell? ⟨p+2,0,none⟩=some (.int .i64 b)
 c:w.cell? ⟨p+3,0,none⟩=some (.int .i64 c)
 lt:p+3<w.heap.size
theorem Four.keeps {X:Nat->Prop} {w w':World} {p:Nat} {S:RS} {r:Ru} {a b c:Int} (h:Four w p S r a b c) (hk:Keeps X w w') (hX:∀k,p<=k->k<=p+3->X k):Four w' p S r a b c:=
 ⟨⟨Nat.lt_of_lt_of_le h.x.1 hk.size,fun k u hu=>hk.cell (p:=⟨p,k,none⟩) (hX p (by omega) (by omega)) (h.x.2 k u hu)⟩,hk.cell (hX _ (by simp) (by simp)) h.a,hk.cell (hX _ (by simp) (by simp)) h.b,hk.cell (hX _ (by simp) (by simp)) h.c,Nat.lt_of_lt_of_le h.lt hk.size⟩
theorem Four.below {w w':World} {p:Nat} {S:RS} {r:Ru} {a b c:Int} (h:Four w p S r a b c) (hb:Below w.heap.size w w'):Four w' p S r a b c:=h.keeps (Keeps.of_below (X:=fun _=>True) hb) (fun _ _ _=>trivial)
theorem four_new (w:World) (S:RS) (r:Ru) (a b c:Int) (T:TypeId):Four ((((w.alloc (.cells (S.cells r) T)).alloc (.cells #[.int .i64 a] 3)).alloc (.cells #[.int .i64 b] 3)).alloc (.cells #[.int .i64 c] 3)) w.heap.size S r a b c:=by
 have one:∀(v:World) (x:Int),(v.alloc (.cells #[.int .i64 x] 3)).cell? ⟨v.heap.size,0,none⟩=some (.int .i64 x):=fun v x=>by rw[World.cell?_alloc_new];rfl
 have X0:=Box.new w (S.cells r) T
 have b1:=alloc_below (w.alloc (.cells (S.cells r) T)) (.cells #[.int .i64 a] 3)
 have b2:=alloc_below ((w.alloc (.cells (S.cells r) T)).alloc (.cells #[.int .i64 a] 3)) (.cells #[.int .i64 b] 3)
 have b3:=alloc_below (((w.alloc (.cells (S.cells r) T)).alloc (.cells #[.int .i64 a] 3)).alloc (.cells #[.int .i64 b] 3)) (.cells #[.int .i64 c] 3)
 have a1:=one (w.alloc (.cells (S.cells r) T)) a
 have a2:=one ((w.alloc (.cells (S.cells r) T)).alloc (.cells #[.int .i64 a] 3)) b
 have a3:=one (((w.alloc (.cells (S.cells r) T)).alloc (.cells #[.int .i64 a] 3)).alloc (.cells #[.int .i64 b] 3)) c
 refine⟨((X0.below b1).below b2).below b3,?_,?_,?_,by simp⟩
 ·refine(b3.cell (p:=⟨_,_,none⟩) (by simp<;>omega)).trans ((b2.cell (p:=⟨_,_,none⟩) (by simp)).trans ?_)
  simp
 ·refine(b3.cell (p:=⟨_,_,none⟩) (by simp)).trans ?_
  simpa using a2
 ·simpa using a3
theorem four_frozen (w:World) (A B C:Obj) (v:Value):((((w.alloc A).alloc B).alloc C).alloc (.cells #[v] 3)).frozen? ⟨w.heap.size+1+1+1,0,none⟩=false:=by
 have:(((w.alloc A).alloc B).alloc C).heap.size=w.heap.size+1+1+1:=by simp
 rw[<-this]
 simp[go_sem]
theorem four_below (w:World) (A B C D:Obj):Below w.heap.size w ((((w.alloc A).alloc B).alloc C).alloc D):=
 (((alloc_below w A).trans ((alloc_below _ B).mono (by simp))).trans ((alloc_below _ C).mono (by simp<;>omega))).trans ((alloc_below _ D).mono (by simp<;>omega))
abbrev at0 (p:Nat):Value:= .pointer (some ⟨p,0,none⟩)
def DaysV (p:Nat):Value:= .func (.func 218) #[] #[at0 p,at0 (p+1),at0 (p+2),at0 (p+3)]
def PersV (p:Nat):Value:= .func (.func 214) #[] #[at0 (p+2),at0 (p+3),at0 p,at0 (p+1)]
def MomV (p:Nat):Value:= .func (.func 135) #[] #[at0 p,at0 (p+1),at0 (p+2),at0 (p+3)]
theorem inDays_is (w:World) (S:RS) (r:Ru) (a b c:Int):
  Calls Tryz.prog 179 #[S.val r,.int .i64 a,.int .i64 b,.int .i64 c] w fun e w'=>e= .returned (DaysV w.heap.size)/\Four w' w.heap.size S r a b c/\Below w.heap.size w w':=by
 obtain⟨ra6,rn6,rc6,ra7,rn7,rc7,ra8,rn8,rc8,ra9,rn9,rc9,ra10,rn10,rc10,ra11,rn11,rc11,ra12,rn12,rc12,ra13,rn13,rc13,ra14,rn14,rc14⟩:=S
 obtain⟨rfreq,ritv,rcnt,rtil,rwkst,rends,rmon,rweek,ryday,rmday,rday,rhour,rminu,rsec,rpos⟩:=r
 show Calls Tryz.prog 179 #[.agg #[.int .i64 rfreq,.int .i64 ritv,.int .i64 rcnt,.int .i64 rtil,.int .i64 rwkst,.bool rends,.slice ra6 rn6 rc6,.slice ra7 rn7 rc7,.slice ra8 rn8 rc8,.slice ra9 rn9 rc9,.slice ra10 rn10 rc10,.slice ra11 rn11 rc11,.slice ra12 rn12 rc12,.slice ra13 rn13 rc13,.slice ra14 rn14 rc14],.int .i64 a,.int .i64 b,.int .i64 c] w _
 go_enter Tryz.func179,Tryz.ntmps179
 go_wp2
 go_ret
 exact⟨rfl,four_new w ⟨ra6,rn6,rc6,ra7,rn7,rc7,ra8,rn8,rc8,ra9,rn9,rc9,ra10,rn10,rc10,ra11,rn11,rc11,ra12,rn12,rc12,ra13,rn13,rc13,ra14,rn14,rc14⟩ ⟨rfreq,ritv,rcnt,rtil,rwkst,rends,rmon,rweek,ryday,rmday,rday,rhour,rminu,rsec,rpos⟩ a b c _,four_below w _ _ _ _⟩
theorem inPeriods_is (w:World) (S:RS) (r:Ru) (a b c:Int):
  Calls Tryz.prog 178 #[S.val r,.int .i64 a,.int .i64 b,.int .i64 c] w fun e w'=>e= .returned (PersV w.heap.size)/\Four w' w.heap.size S r a b c/\Below w.heap.size w w':=by
 obtain⟨ra6,rn6,rc6,ra7,rn7,rc7,ra8,rn8,rc8,ra9,rn9,rc9,ra10,rn10,rc10,ra11,rn11,rc11,ra12,rn12,rc12,ra13,rn13,rc13,ra14,rn14,rc14⟩:=S
 obtain⟨rfreq,ritv,rcnt,rtil,rwkst,rends,rmon,rweek,ryday,rmday,rday,rhour,rminu,rsec,rpos⟩:=r
 show Calls Tryz.prog 178 #[.agg #[.int .i64 rfreq,.int .i64 ritv,.int .i64 rcnt,.int .i64 rtil,.int .i64 rwkst,.bool rends,.slice ra6 rn6 rc6,.slice ra7 rn7 rc7,.slice ra8 rn8 rc8,.slice ra9 rn9 rc9,.slice ra10 rn10 rc10,.slice ra11 rn11 rc11,.slice ra12 rn12 rc12,.slice ra13 rn13 rc13,.slice ra14 rn14 rc14],.int .i64 a,.int .i64 b,.int .i64 c] w _
 go_enter Tryz.func178,Tryz.ntmps178
 go_wp2
 go_ret
 exact⟨rfl,four_new w ⟨ra6,rn6,rc6,ra7,rn7,rc7,ra8,rn8,rc8,ra9,rn9,rc9,ra10,rn10,rc10,ra11,rn11,rc11,ra12,rn12,rc12,ra13,rn13,rc13,ra14,rn14,rc14⟩ ⟨rfreq,ritv,rcnt,rtil,rwkst,rends,rmon,rweek,ryday,rmday,rday,rhour,rminu,rsec,rpos⟩ a b c _,four_below w _ _ _ _⟩
theorem moments_is (w:World) (S:RS) (r:Ru) (start from_ end_:Int) (hm:mayR r=true):
  Calls Tryz.prog 91 #[S.val r,.int .i64 start,.int .i64 from_,.int .i64 end_] w fun e w'=>e= .returned (MomV w.heap.size)/\Four w' w.heap.size S r start from_ (hiR r end_)/\Below w.heap.size w w':=by
 have TB:=hid (fun (e:r.ends=true)=>show -62135596800<=r.til/\r.til<=253402300799 by
  have f:=(mayR_of hm).2.1;unfold endB at f;rw[if_pos e] at f;simp only[Bool.and_eq_true] at f
  exact of_decide_eq_true f.2)
 have HI:=hid (show (r.ends=true->hiR r end_=min end_ (r.til+1))/\(r.ends=false->hiR r end_=end_) from ⟨fun e=>by unfold hiR;rw[if_pos e],fun e=>by unfold hiR;rw[if_neg (by rw[e];decide)]⟩)
 clear hm
 obtain⟨ra6,rn6,rc6,ra7,rn7,rc7,ra8,rn8,rc8,ra9,rn9,rc9,ra10,rn10,rc10,ra11,rn11,rc11,ra12,rn12,rc12,ra13,rn13,rc13,ra14,rn14,rc14⟩:=S
 obtain⟨rfreq,ritv,rcnt,rtil,rwkst,rends,rmon,rweek,ryday,rmday,rday,rhour,rminu,rsec,rpos⟩:=r
 obtain⟨hi,hhi⟩:∃hi,hiR ⟨rfreq,ritv,rcnt,rtil,rwkst,rends,rmon,rweek,ryday,rmday,rday,rhour,rminu,rsec,rpos⟩ end_=hi:=⟨_,rfl⟩
 rw[hhi] at HI ⊢
 clear hhi
 show Calls Tryz.prog 91 #[.agg #[.int .i64 rfreq,.int .i64 ritv,.int .i64 rcnt,.int .i64 rtil,.int .i64 rwkst,.bool rends,.slice ra6 rn6 rc6,.slice ra7 rn7 rc7,.slice ra8 rn8 rc8,.slice ra9 rn9 rc9,.slice ra10 rn10 rc10,.slice ra11 rn11 rc11,.slice ra12 rn12 rc12,.slice ra13 rn13 rc13,.slice ra14 rn14 rc14],.int .i64 start,.int .i64 from_,.int .i64 end_] w _
 go_enter Tryz.func91,Tryz.ntmps91
 go_upto_region 1 with fail
 have B0:=four_below w (.cells #[.int .i64 rfreq,.int .i64 ritv,.int .i64 rcnt,.int .i64 rtil,.int .i64 rwkst,.bool rends,.slice ra6 rn6 rc6,.slice ra7 rn7 rc7,.slice ra8 rn8 rc8,.slice ra9 rn9 rc9,.slice ra10 rn10 rc10,.slice ra11 rn11 rc11,.slice ra12 rn12 rc12,.slice ra13 rn13 rc13,.slice ra14 rn14 rc14] 25) (.cells #[.int .i64 start] 3) (.cells #[.int .i64 from_] 3) (.cells #[.int .i64 end_] 3)
 have X0:=four_new w ⟨ra6,rn6,rc6,ra7,rn7,rc7,ra8,rn8,rc8,ra9,rn9,rc9,ra10,rn10,rc10,ra11,rn11,rc11,ra12,rn12,rc12,ra13,rn13,rc13,ra14,rn14,rc14⟩ ⟨rfreq,ritv,rcnt,rtil,rwkst,rends,rmon,rweek,ryday,rmday,rday,rhour,rminu,rsec,rpos⟩ start from_ end_ 25
 have SZ:((((w.alloc (.cells #[.int .i64 rfreq,.int .i64 ritv,.int .i64 rcnt,.int .i64 rtil,.int .i64 rwkst,.bool rends,.slice ra6 rn6 rc6,.slice ra7 rn7 rc7,.slice ra8 rn8 rc8,.slice ra9 rn9 rc9,.slice ra10 rn10 rc10,.slice ra11 rn11 rc11,.slice ra12 rn12 rc12,.slice ra13 rn13 rc13,.slice ra14 rn14 rc14] 25)).alloc (.cells #[.int .i64 start] 3)).alloc (.cells #[.int .i64 from_] 3)).alloc (.cells #[.int .i64 end_] 3)).heap.size=w.heap.size+4:=by simp
 replace X0:Four ((((w.alloc (.cells #[.int .i64 rfreq,.int .i64 ritv,.int .i64 rcnt,.int .i64 rtil,.int .i64 rwkst,.bool rends,.slice ra6 rn6 rc6,.slice ra7 rn7 rc7,.slice ra8 rn8 rc8,.slice ra9 rn9 rc9,.slice ra10 rn10 rc10,.slice ra11 rn11 rc11,.slice ra12 rn12 rc12,.slice ra13 rn13 rc13,.slice ra14 rn14 rc14] 25)).alloc (.cells #[.int .i64 start] 3)).alloc (.cells #[.int .i64 from_] 3)).alloc (.cells #[.int .i64 end_] 3)) w.heap.size ⟨ra6,rn6,rc6,ra7,rn7,rc7,ra8,rn8,rc8,ra9,rn9,rc9,ra10,rn10,rc10,ra11,rn11,rc11,ra12,rn12,rc12,ra13,rn13,rc13,ra14,rn14,rc14⟩ ⟨rfreq,ritv,rcnt,rtil,rwkst,rends,rmon,rweek,ryday,rmday,rday,rhour,rminu,rsec,rpos⟩ start from_ end_:=X0
 have ZF:=four_frozen w (.cells #[.int .i64 rfreq,.int .i64 ritv,.int .i64 rcnt,.int .i64 rtil,.int .i64 rwkst,.bool rends,.slice ra6 rn6 rc6,.slice ra7 rn7 rc7,.slice ra8 rn8 rc8,.slice ra9 rn9 rc9,.slice ra10 rn10 rc10,.slice ra11 rn11 rc11,.slice ra12 rn12 rc12,.slice ra13 rn13 rc13,.slice ra14 rn14 rc14] 25) (.cells #[.int .i64 start] 3) (.cells #[.int .i64 from_] 3) (.int .i64 end_)
 generalize (((w.alloc (.cells #[.int .i64 rfreq,.int .i64 ritv,.int .i64 rcnt,.int .i64 rtil,.int .i64 rwkst,.bool rends,.slice ra6 rn6 rc6,.slice ra7 rn7 rc7,.slice ra8 rn8 rc8,.slice ra9 rn9 rc9,.slice ra10 rn10 rc10,.slice ra11 rn11 rc11,.slice ra12 rn12 rc12,.slice ra13 rn13 rc13,.slice ra14 rn14 rc14] 25)).alloc (.cells #[.int .i64 start] 3)).alloc (.cells #[.int .i64 from_] 3)).alloc (.cells #[.int .i64 end_] 3)=w0 at *
 have z5:w0.cell? ⟨w.heap.size,5,none⟩=some (.bool rends):=X0.x.2 5 _ rfl
 have z3:w0.cell? ⟨w.heap.size,3,none⟩=some (.int .i64 rtil):=X0.x.2 3 _ rfl
 have ze:w0.cell? ⟨w.heap.size+1+1+1,0,none⟩=some (.int .i64 end_):=X0.c
 cases rends
 ·have E:=hid (HI.out.2 rfl)
  clear HI TB;go_wp2;go_ret;exact⟨rfl,by rw[E.out];exact X0,B0⟩
 ·obtain⟨t1,t2⟩:=show -62135596800<=rtil/\rtil<=253402300799 from TB.out rfl
  have E:=hid (show hi=min end_ (rtil+1) from HI.out.1 rfl);clear HI TB;have W0:IntKind.i64.wrap (rtil+1)=rtil+1:=IntWalk.i64_in _ (by omega)
  have x0:=X0.lt;go_wp2;go_ret;have e:=E.out;subst e;exact⟨rfl,⟨⟨by simp<;>omega,fun k u hu=>by rw[World.cell?_setCell_other _ _ _ _ (by simp<;>omega)];exact X0.x.2 k u hu⟩,by rw[World.cell?_setCell_other _ _ _ _ (by simp)];exact X0.a,by rw[World.cell?_setCell_other _ _ _ _ (by simp)];exact X0.b,World.cell?_setCell_same' _ _ _ (by rw[ze];rfl),by simp<;>omega⟩,B0.setCell (p:=⟨w.heap.size+1+1+1,0,none⟩) (by simp<;>omega) _⟩
def ArndIs (w:World) (S:RS) (r:Ru) (start from_ hi:Int) (e:Ending) (w':World):Prop:=
 ∃p,((r.freq<=3/\r.pos≠[]/\e= .returned (PersV p))\/(¬(r.freq<=3/\r.pos≠[])/\e= .returned (DaysV p)))/\w.heap.size<=p/\Four w' p S r start (from_ / 86400) ((hi-1) / 86400)/\Below w.heap.size w w'
theorem around_is (w:World) (S:RS) (r:Ru) (start from_ hi:Int) (h:RuAt w S r) (f1:-63000000000<=from_) (f2:from_<=254000000000) (h1:-63000000000<=hi) (h2:hi<=254000000000):
  Calls Tryz.prog 136 #[S.val r,.int .i64 start,.int .i64 from_,.int .i64 hi] w (ArndIs w S r start from_ hi):=by
 have L14:=hid h.h14.1
 have l14:=h.l14
 clear h
 obtain⟨ra6,rn6,rc6,ra7,rn7,rc7,ra8,rn8,rc8,ra9,rn9,rc9,ra10,rn10,rc10,ra11,rn11,rc11,ra12,rn12,rc12,ra13,rn13,rc13,ra14,rn14,rc14⟩:=S
 obtain⟨rfreq,ritv,rcnt,rtil,rwkst,rends,rmon,rweek,ryday,rmday,rday,rhour,rminu,rsec,rpos⟩:=r
 have L14:=hid (show rn14=rpos.length from L14.out)
 replace l14:rn14<=140737488355328:=l14
 show Calls Tryz.prog 136 #[.agg #[.int .i64 rfreq,.int .i64 ritv,.int .i64 rcnt,.int .i64 rtil,.int .i64 rwkst,.bool rends,.slice ra6 rn6 rc6,.slice ra7 rn7 rc7,.slice ra8 rn8 rc8,.slice ra9 rn9 rc9,.slice ra10 rn10 rc10,.slice ra11 rn11 rc11,.slice ra12 rn12 rc12,.slice ra13 rn13 rc13,.slice ra14 rn14 rc14],.int .i64 start,.int .i64 from_,.int .i64 hi] w _
 go_enter Tryz.func136,Tryz.ntmps136
 go_upto_region 1 with fail
 obtain⟨B0,Xr0⟩:=box_new w #[.int .i64 rfreq,.int .i64 ritv,.int .i64 rcnt,.int .i64 rtil,.int .i64 rwkst,.bool rends,.slice ra6 rn6 rc6,.slice ra7 rn7 rc7,.slice ra8 rn8 rc8,.slice ra9 rn9 rc9,.slice ra10 rn10 rc10,.slice ra11 rn11 rc11,.slice ra12 rn12 rc12,.slice ra13 rn13 rc13,.slice ra14 rn14 rc14] 25
 generalize w.alloc _=w0 at *
 have W0:IntKind.i64.wrap (hi-1)=hi-1:=IntWalk.i64_in _ (by omega)
 go_wp2_with fail
 refine(day_any from_ _ (by omega) (by omega)).mono ?_
 rintro e w' ⟨rfl,rfl⟩
 go_wp2_with fail
 refine(day_any (hi-1) _ (by omega) (by omega)).mono ?_
 rintro e w' ⟨rfl,rfl⟩
 obtain⟨da,hda⟩:∃x,from_ / 86400=x:=⟨_,rfl⟩
 obtain⟨db,hdb⟩:∃x,(hi-1) / 86400=x:=⟨_,rfl⟩
 have HA:=hid hda
 have HB:=hid hdb
 rw[hda,hdb]
 clear hda hdb f1 f2 h1 h2 W0
 obtain⟨rz0,rz1,rz2,rz3,rz4,rz5,rz6,rz7,rz8,rz9,rz10,rz11,rz12,rz13,rz14⟩:=cells15 Xr0
 by_cases c3:rfreq<=3
 ·have t3:decide (rfreq<=3)=true:=decide_eq_true c3
  by_cases c14:0<rn14
  ·have t14:decide ((0:Int)<(rn14:Int))=true:=decide_eq_true (by omega)
   have t15:decide (0<rn14)=true:=decide_eq_true c14
   have PN:=hid (show rpos≠[] by rintro rfl;have:=L14.out;simp at this;omega);have C3:=hid c3;clear c3 c14;go_wp2_with fail;refine(inPeriods_is _ ⟨ra6,rn6,rc6,ra7,rn7,rc7,ra8,rn8,rc8,ra9,rn9,rc9,ra10,rn10,rc10,ra11,rn11,rc11,ra12,rn12,rc12,ra13,rn13,rc13,ra14,rn14,rc14⟩ ⟨rfreq,ritv,rcnt,rtil,rwkst,rends,rmon,rweek,ryday,rmday,rday,rhour,rminu,rsec,rpos⟩ start da db).mono ?_;rintro e w1 ⟨rfl,f4,b1⟩;go_wp2;go_ret;exact⟨_,.inl ⟨C3.out,PN.out,rfl⟩,B0.size,by rw[HA.out,HB.out];exact f4,B0.trans (b1.mono B0.size)⟩
  ·have t14:decide ((0:Int)<(rn14:Int))=false:=decide_eq_false (by omega)
   have t15:decide (0<rn14)=false:=decide_eq_false c14
   have PN:=hid (show rpos=[] by have:=L14.out;exact List.length_eq_zero_iff.1 (by omega));clear c3 c14;go_wp2_with fail;refine(inDays_is _ ⟨ra6,rn6,rc6,ra7,rn7,rc7,ra8,rn8,rc8,ra9,rn9,rc9,ra10,rn10,rc10,ra11,rn11,rc11,ra12,rn12,rc12,ra13,rn13,rc13,ra14,rn14,rc14⟩ ⟨rfreq,ritv,rcnt,rtil,rwkst,rends,rmon,rweek,ryday,rmday,rday,rhour,rminu,rsec,rpos⟩ start da db).mono ?_;rintro e w1 ⟨rfl,f4,b1⟩;go_wp2;go_ret;exact⟨_,.inr ⟨fun q=>q.2 PN.out,rfl⟩,B0.size,by rw[HA.out,HB.out];exact f4,B0.trans (b1.mono B0.size)⟩
 ·have t3:decide (rfreq<=3)=false:=decide_eq_false c3
  have C3:=hid c3;clear c3;go_wp2_with fail;refine(inDays_is _ ⟨ra6,rn6,rc6,ra7,rn7,rc7,ra8,rn8,rc8,ra9,rn9,rc9,ra10,rn10,rc10,ra11,rn11,rc11,ra12,rn12,rc12,ra13,rn13,rc13,ra14,rn14,rc14⟩ ⟨rfreq,ritv,rcnt,rtil,rwkst,rends,rmon,rweek,ryday,rmday,rday,rhour,rminu,rsec,rpos⟩ start da db).mono ?_;rintro e w1 ⟨rfl,f4,b1⟩;go_wp2;go_ret;exact⟨_,.inr ⟨fun q=>by have u:=C3.out;have v:=q.1;have v:rfreq<=3:=v;omega,rfl⟩,B0.size,by rw[HA.out,HB.out];exact f4,B0.trans (b1.mono B0.size)⟩
theorem emay_is (w:World) (S:RS) (r:Ru) (start end_ most:Int) (x:Bool) (h:RuAt w S r) (hx:mayE r start end_ most=x):
  Calls Tryz.prog 90 #[S.val r,.int .i64 start,.int .i64 end_,.int .i64 most] w fun e w'=>e= .returned (.bool x)/\Below w.heap.size w w':=by
 have RA:=hid h
 obtain⟨m,hm⟩:∃m,mayR r=m:=⟨_,rfl⟩
 obtain⟨a,ha⟩:∃m,St.may start=m:=⟨_,rfl⟩
 obtain⟨b,hb⟩:∃m,St.may end_=m:=⟨_,rfl⟩
 have HX:=hid (show (m&&a&&b&&decide (end_-start<=316224000)&&decide (1<=most/\most<=4096))=x by rw[<-hm,<-ha,<-hb];exact hx)
 have HM:=hid hm
 have HA:=hid ha
 have HB:=hid hb
 clear h hx hm ha hb
 obtain⟨ra6,rn6,rc6,ra7,rn7,rc7,ra8,rn8,rc8,ra9,rn9,rc9,ra10,rn10,rc10,ra11,rn11,rc11,ra12,rn12,rc12,ra13,rn13,rc13,ra14,rn14,rc14⟩:=S
 obtain⟨rfreq,ritv,rcnt,rtil,rwkst,rends,rmon,rweek,ryday,rmday,rday,rhour,rminu,rsec,rpos⟩:=r
 show Calls Tryz.prog 90 #[.agg #[.int .i64 rfreq,.int .i64 ritv,.int .i64 rcnt,.int .i64 rtil,.int .i64 rwkst,.bool rends,.slice ra6 rn6 rc6,.slice ra7 rn7 rc7,.slice ra8 rn8 rc8,.slice ra9 rn9 rc9,.slice ra10 rn10 rc10,.slice ra11 rn11 rc11,.slice ra12 rn12 rc12,.slice ra13 rn13 rc13,.slice ra14 rn14 rc14],.int .i64 start,.int .i64 end_,.int .i64 most] w _
 go_enter Tryz.func90,Tryz.ntmps90
 go_upto_region 1 with fail
 obtain⟨B0,Xr0⟩:=box_new w #[.int .i64 rfreq,.int .i64 ritv,.int .i64 rcnt,.int .i64 rtil,.int .i64 rwkst,.bool rends,.slice ra6 rn6 rc6,.slice ra7 rn7 rc7,.slice ra8 rn8 rc8,.slice ra9 rn9 rc9,.slice ra10 rn10 rc10,.slice ra11 rn11 rc11,.slice ra12 rn12 rc12,.slice ra13 rn13 rc13,.slice ra14 rn14 rc14] 25
 generalize w.alloc _=w0 at *
 obtain⟨rz0,rz1,rz2,rz3,rz4,rz5,rz6,rz7,rz8,rz9,rz10,rz11,rz12,rz13,rz14⟩:=cells15 Xr0
 go_wp2_with fail
 refine(may_r _ ⟨ra6,rn6,rc6,ra7,rn7,rc7,ra8,rn8,rc8,ra9,rn9,rc9,ra10,rn10,rc10,ra11,rn11,rc11,ra12,rn12,rc12,ra13,rn13,rc13,ra14,rn14,rc14⟩ ⟨rfreq,ritv,rcnt,rtil,rwkst,rends,rmon,rweek,ryday,rmday,rday,rhour,rminu,rsec,rpos⟩ m (RA.out.below B0) HM.out).mono ?_
 rintro e w1 ⟨rfl,b1⟩
 clear rz0 rz1 rz2 rz3 rz4 rz5 rz6 rz7 rz8 rz9 rz10 rz11 rz12 rz13 rz14
 have B1:=B0.trans (b1.mono B0.size)
 have Xr1:=Xr0.below b1
 clear B0 Xr0
 clear b1
 cases m
 ·have E:=hid (show false=x by have:=HX.out;simpa using this)
  go_wp2;go_ret;exact⟨ret_bool E.out,B1⟩
 ·cases a
  ·go_wp2_with fail
   refine(may_no start _ HA.out).mono ?_;rintro e w' ⟨rfl,rfl⟩;have E:=hid (show false=x by have:=HX.out;simpa using this);go_wp2;go_ret;exact⟨ret_bool E.out,B1⟩
  ·go_wp2_with fail
   refine(may_yes start _ HA.out).mono ?_;rintro e w' ⟨rfl,rfl⟩;cases b
   ·go_wp2_with fail
    refine(may_no end_ _ HB.out).mono ?_;rintro e w' ⟨rfl,rfl⟩;have E:=hid (show false=x by have:=HX.out;simpa using this);go_wp2;go_ret;exact⟨ret_bool E.out,B1⟩
   ·go_wp2_with fail
    refine(may_yes end_ _ HB.out).mono ?_;rintro e w' ⟨rfl,rfl⟩;have s1:=of_decide_eq_true HA.out;have s2:=of_decide_eq_true HB.out;have W0:IntKind.i64.wrap (end_-start)=end_-start:=IntWalk.i64_in _ (by omega)
    by_cases c1:end_-start<=316224000
    ·have t1:decide (end_-start<=316224000)=true:=decide_eq_true c1
     by_cases c2:1<=most
     ·have t2:decide (1<=most)=true:=decide_eq_true c2
      by_cases c3:most<=4096
      ·have t3:decide (most<=4096)=true:=decide_eq_true c3
       have E:=hid (show true=x by have:=HX.out;simpa [c1,c2,c3] using this);clear c1 c2 c3;go_wp2;go_ret;exact⟨ret_bool E.out,B1⟩
      ·have t3:decide (most<=4096)=false:=decide_eq_false c3
       have E:=hid (show false=x by have:=HX.out;simpa [c1,c2,c3] using this);clear c1 c2 c3;go_wp2;go_ret;exact⟨ret_bool E.out,B1⟩
     ·have t2:decide (1<=most)=false:=decide_eq_false c2
      have E:=hid (show false=x by have:=HX.out;simpa [c1,c2] using this);clear c1 c2;go_wp2;go_ret;exact⟨ret_bool E.out,B1⟩
    ·have t1:decide (end_-start<=316224000)=false:=decide_eq_false c1
     have E:=hid (show false=x by have:=HX.out;simpa [c1] using this);clear c1;go_wp2;go_ret;exact⟨ret_bool E.out,B1⟩
end Go.Proofs.YtddnnljfgfcplaaGreatDoor.Ex
namespace Go.Proofs.YtddnnljfgfcplaaGreatDoor.Ex
open Go Go.RowKit Cv St Ru Dd Mb
structure InC (W0:World) (p:Nat) (S:RS) (r:Ru) (a b c:Int) (W:World):Prop where
 size:W0.heap.size<=p
 below:Below W0.heap.size W0 W
 four:Four W p S r a b c
def setC (W0:World) (p:Nat):Nat->Prop:=fun k=>k<W0.heap.size\/(p<=k/\k<=p+3)
theorem InC.keeps {W0:World} {p:Nat} {S:RS} {r:Ru} {a b c:Int} {X:Nat->Prop} {W W':World} (h:InC W0 p S r a b c W) (hk:Keeps X W W') (hX:∀k,setC W0 p k->X k):InC W0 p S r a b c W':=
 ⟨h.size,h.below.trans ((hk.mono (Y:=fun k=>k<W0.heap.size) fun k hk=>hX k (.inl hk)).below h.below.size),h.four.keeps hk fun k h1 h2=>hX k (.inr ⟨h1,h2⟩)⟩
theorem InC.on {W0:World} {p:Nat} {S:RS} {r:Ru} {a b c:Int} {W W':World} (h:InC W0 p S r a b c W) (hb:Below W.heap.size W W'):InC W0 p S r a b c W':=h.keeps (Keeps.of_below (X:=fun _=>True) hb) fun _ _=>trivial
theorem is_keeps {X:Nat->Prop} {w w':World} {A:Option Addr} {n B:Nat} {l:List Int} (h:IsAt w A n l) (f:Fresh B A) (hk:Keeps X w w') (hX:∀k,B<=k->k<w.heap.size->X k):IsAt w' A n l:=
 ⟨h.1,fun h0=>by
  obtain⟨b,off,e,hlt,hc⟩:=h.2 h0
  exact⟨b,off,e,Nat.lt_of_lt_of_le hlt hk.size,fun j hj=>hk.cell (p:=⟨b,_,none⟩) (hX b (f b off e).1 hlt) (hc j hj)⟩⟩
theorem Foot.on {J:(Nat->Prop)->List Int->World->Prop} (hJ:Foot J) {X:Nat->Prop} {s:List Int} {W W':World} (h:J X s W) (hb:Below W.heap.size W W'):J X s W':=hJ X X s W W' h (Keeps.of_below hb) fun _ h => .inl h
theorem pos_may {r:Ru} (h:mayR r=true):(∀p∈r.pos,-366<=p/\p<=366)/\r.pos.length<=60:=by
 have l:=(mayR_of h).2.2.1
 unfold listB at l
 simp only[Bool.and_eq_true] at l
 obtain⟨⟨⟨⟨⟨⟨⟨⟨_,_⟩,_⟩,_⟩,a⟩,_⟩,_⟩,_⟩,_⟩:=l
 unfold inB at a
 simp only[Bool.and_eq_true] at a
 have a1:=of_decide_eq_true a.1.1
 exact⟨fun p hp=>⟨(a1 p hp).1,(a1 p hp).2.1⟩,of_decide_eq_true a.1.2⟩
theorem days_none {r:Ru} {start first last:Int} (h:mayR r=true) (hs:St.may start=true) (h4:4<=r.freq\/r.pos=[]) (e:reachL r start (begL r start)=[]\/pickL r.pos (witL r start)=[]):daysL r start first last=[]:=by
 refine List.eq_nil_iff_forall_not_mem.2 fun x hx => ?_
 have q:=(mem_sel.1 hx).2.2
 have d:x∈dayC r start (x / 86400):=by rw[day_eq h hs h4];exact mem_sel.2 ⟨by omega,by omega,q⟩
 unfold dayC at d
 split at d
 ·obtain⟨s,hs',d⟩:=List.mem_flatMap.1 d
  rcases e with e|e
  ·rw[e] at hs';cases hs'
  ·rw[e] at d;unfold unitC at d;simp at d
 ·cases d
theorem day_pre {r:Ru} {start first last n:Int} (h:mayR r=true) (hs:St.may start=true) (h4:4<=r.freq\/r.pos=[]) (n1:first<=n) (n2:n<=last) {a:List Int} (ha:a <+: dayC r start n):
  selL (inA r start) (first*86400) (n*86400)++a <+: daysL r start first last:=by
 rw[day_eq h hs h4] at ha
 obtain⟨b,hb⟩:=ha
 refine⟨b++selL (inA r start) ((n+1)*86400) ((last+1)*86400),?_⟩
 rw[List.append_assoc,<-List.append_assoc a,hb,<-List.append_assoc,sel_cat (by omega) (by omega),sel_cat (by omega) (by omega)]
 rfl
theorem flat_take {f:Int->List Int} {R:List Int} {t:Nat} (ht:t<R.length):(R.take (t+1)).flatMap f=(R.take t).flatMap f++f (iat R t):=by
 rw[take_at ht,List.flatMap_append];simp
theorem flat_pre {f:Int->List Int} {R:List Int} {t:Nat} (ht:t<R.length) {a:List Int} (ha:a <+: f (iat R t)):(R.take t).flatMap f++a <+: R.flatMap f:=by
 obtain⟨b,hb⟩:=ha
 refine⟨b++(R.drop (t+1)).flatMap f,?_⟩
 have e:R=R.take (t+1)++R.drop (t+1):=(List.take_append_drop _ _).symm
 conv=>rhs;rw[e,List.flatMap_append,flat_take ht,<-hb]
 simp
theorem map_take {f:Int->Int} {P:List Int} {t:Nat} (ht:t<P.length):(P.take (t+1)).map f=(P.take t).map f++[f (iat P t)]:=by
 rw[take_at ht,List.map_append];rfl
theorem map_pre {f:Int->Int} {P:List Int} {t:Nat} (ht:t<P.length):(P.take t).map f++[f (iat P t)] <+: P.map f:=by
 rw[<-map_take ht]
 exact⟨(P.drop (t+1)).map f,by rw[<-List.map_append,List.take_append_drop]⟩
end Go.Proofs.YtddnnljfgfcplaaGreatDoor.Ex
namespace Go.Proofs.YtddnnljfgfcplaaGreatDoor.Ex
open Cv St Ru Dd Mb
theorem days_end {r:Ru} {n m:Int} (h:mayR r=true) (hn:isday n=true) (hm:isday m=true) (h1:n<=m) (h2:m<=(daysR r (n*86400)).2):(daysR r (m*86400)).2=(daysR r (n*86400)).2:=by
 have a:=days_in h hn
 have e:=(days_same h hn hm).2 ⟨by omega,h2⟩
 have p1:=p_in r n
 have p2:=p_in r m
 have q1:perD r (plast r n)=perD r m:=by rw[e];exact p_iff.2 ⟨by omega,Int.le_refl _⟩
 have q2:perD r (plast r m)=perD r n:=by rw[<-e];exact p_iff.2 ⟨by omega,Int.le_refl _⟩
 have u1:=p_iff.1 q1
 have u2:=p_iff.1 q2
 rw[days_eq h hn,days_eq h hm]
 simp only
 omega
theorem days_mono {r:Ru} {n m:Int} (h:mayR r=true) (hn:isday n=true) (hm:isday m=true) (h1:n<=m):(daysR r (n*86400)).2<=(daysR r (m*86400)).2:=by
 have a:=days_in h hn
 have b:=days_in h hm
 by_cases c:m<=(daysR r (n*86400)).2
 ·rw[days_end h hn hm h1 c];exact Int.le_refl _
 ·omega
theorem days_mono1 {r:Ru} {n m:Int} (h:mayR r=true) (hn:isday n=true) (hm:isday m=true) (h1:n<=m):(daysR r (n*86400)).1<=(daysR r (m*86400)).1:=by
 have a:=days_in h hn
 have b:=days_in h hm
 by_cases c:m<=(daysR r (n*86400)).2
 ·have e:=(days_same h hn hm).2 ⟨by omega,c⟩
  have p1:=p_in r n;have p2:=p_in r m;have q2:perD r (pfirst r m)=perD r n:=by rw[<-e];exact p_iff.2 ⟨Int.le_refl _,by omega⟩
  have u2:=p_iff.1 q2;rw[days_eq h hn,days_eq h hm];simp only
  omega
 ·have p1:=p_in r n
  have p2:=p_in r m
  have:(daysR r (n*86400)).2<(daysR r (m*86400)).1:=by
   by_cases g:(daysR r (m*86400)).1<=(daysR r (n*86400)).2
   ·have d:isday (daysR r (n*86400)).2=true:=decide_eq_true (by omega)
    have e1:=(days_same h hm d).2 ⟨g,by omega⟩;have e2:=(days_same h hn d).2 ⟨by omega,Int.le_refl _⟩;have e3:=(days_same h hn hm).1 (by rw[<-e1,e2]);omega
   ·omega
  omega
def perA (r:Ru) (start first n:Int):List Int:=selL (inA r start) ((daysR r (first*86400)).1*86400) ((daysR r (n*86400)).1*86400)
theorem perA_0 (r:Ru) (start first:Int):perA r start first first=[]:=sel_nil (Int.le_refl _)
theorem perA_pre {r:Ru} {start first last n:Int} (h:mayR r=true) (hs:St.may start=true) (h3:r.freq<=4) (hp:r.pos≠[]) (hf:isday first=true) (hl:isday last=true) (hn:isday n=true) (n1:first<=n) (n2:n<=last) {a:List Int} (ha:a <+: pickL r.pos (setR r start (n*86400) 100000).1):
  perA r start first n++a <+: persL r start first last:=by
 rw[per_eq h hs h3 hp hn] at ha
 obtain⟨b,hb⟩:=ha
 have m1:=days_mono1 h hf hn n1
 have m2:=days_mono h hn hl n2
 have i:=days_in h hn
 unfold perA persL
 rw[if_pos (by omega)]
 refine⟨b++selL (inA r start) (((daysR r (n*86400)).2+1)*86400) (((daysR r (last*86400)).2+1)*86400),?_⟩
 rw[List.append_assoc,<-List.append_assoc a,hb,<-List.append_assoc,sel_cat (by omega) (by omega),sel_cat (by omega) (by omega)]
theorem perA_next {r:Ru} {start first n:Int} (h:mayR r=true) (hs:St.may start=true) (h3:r.freq<=4) (hp:r.pos≠[]) (hf:isday first=true) (hn:isday n=true) (n1:first<=n) (hb:isday ((daysR r (n*86400)).2+1)=true):
  perA r start first n++pickL r.pos (setR r start (n*86400) 100000).1=perA r start first ((daysR r (n*86400)).2+1):=by
 have m1:=days_mono1 h hf hn n1
 have i:=days_in h hn
 unfold perA
 rw[per_eq h hs h3 hp hn,sel_cat (by omega) (by omega),days_next h hn hb]
theorem perA_last {r:Ru} {start first last n:Int} (h:mayR r=true) (hs:St.may start=true) (h3:r.freq<=4) (hp:r.pos≠[]) (hf:isday first=true) (hl:isday last=true) (hn:isday n=true) (n1:first<=n) (n2:n<=last) (hb:last<(daysR r (n*86400)).2+1):
  perA r start first n++pickL r.pos (setR r start (n*86400) 100000).1=persL r start first last:=by
 have m1:=days_mono1 h hf hn n1
 have i:=days_in h hn
 unfold perA persL
 rw[per_eq h hs h3 hp hn,sel_cat (by omega) (by omega),if_pos (by omega),days_end h hn hl n2 (by omega)]
end Go.Proofs.YtddnnljfgfcplaaGreatDoor.Ex
