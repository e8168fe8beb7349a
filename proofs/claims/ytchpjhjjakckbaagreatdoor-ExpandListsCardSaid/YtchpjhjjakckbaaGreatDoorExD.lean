/- The walks of package expand's may, inDays, inPeriods, around, moments (what hands back iterators). -/
import Derived.Test.YtchpjhjjakckbaaGreatDoorRuBx
import Derived.Test.YtchpjhjjakckbaaGreatDoorRpFG
import Derived.Test.YtchpjhjjakckbaaGreatDoorExM
import Derived.Test.YtchpjhjjakckbaaGreatDoorExRange
set_option linter.unusedVariables false
namespace Go.Proofs.YtchpjhjjakckbaaGreatDoor.Ex
open Go.RowKit Cv St Ru Dd Mb
structure Four (w:World) (p:Nat) (S:RS) (r:Ru) (a b c:Int):Prop where
 x:Box w p (S.cells r)
 a:w.cell? ⟨p+1,0,none⟩=some (.int .i64 a)
 b:w.cell? ⟨p+2,0,none⟩=some (.int .i64 b)
 c:w.cell? ⟨p+3,0,none⟩=some (.int .i64 c)
 lt:p+3<w.heap.size
theorem Four.keeps {X:Nat→Prop} {w w':World} {p:Nat} {S:RS} {r:Ru} {a b c:Int} (h:Four w p S r a b c) (hk:Keeps X w w') (hX:∀k,p≤k→k≤p+3→X k):Four w' p S r a b c:=
 ⟨⟨Nat.lt_of_lt_of_le h.x.1 hk.size,fun k u hu=>hk.cell (p:=⟨p,k,none⟩) (hX p (by omega) (by omega)) (h.x.2 k u hu)⟩,hk.cell (hX _ (by simp) (by simp)) h.a,hk.cell (hX _ (by simp) (by simp)) h.b,hk.cell (hX _ (by simp) (by simp)) h.c,Nat.lt_of_lt_of_le h.lt hk.size⟩
theorem Four.below {w w':World} {p:Nat} {S:RS} {r:Ru} {a b c:Int} (h:Four w p S r a b c) (hb:Below w.heap.size w w'):Four w' p S r a b c:=h.keeps (Keeps.of_below (X:=fun _=>True) hb) (fun _ _ _=>trivial)
theorem four_new (w:World) (S:RS) (r:Ru) (a b c:Int) (T:TypeId):Four ((((w.alloc (.cells (S.cells r) T)).alloc (.cells #[.int .i64 a] 3)).alloc (.cells #[.int .i64 b] 3)).alloc (.cells #[.int .i64 c] 3)) w.heap.size S r a b c:=by
 have one:∀(v:World) (x:Int),(v.alloc (.cells #[.int .i64 x] 3)).cell? ⟨v.heap.size,0,none⟩=some (.int .i64 x):=fun v x=>by rw[World.cell?_alloc_new];rfl
 have X0:=Box.new w (S.cells r) T
 have b1:=alloc_below (w.alloc (.cells (S.cells r) T)) (.cells #[.int .i64 a] 3)
 have b2:=alloc_below ((w.alloc (.cells (S.cells r) T)).alloc (.cells #[.int .i64 a] 3)) (.cells #[.int .i64 b] 3)
 have b3:=alloc_below (((w.alloc (.cells (S.cells r) T)).alloc (.cells #[.int .i64 a] 3)).alloc (.cells #[.int .i64 b] 3)) (.cells #[.int .i64 c] 3)
 have a1:=one (w.alloc (.cells (S.cells r) T)) a
 have a2:=one ((w.alloc (.cells (S.cells r) T)).alloc (.cells #[.int .i64 a] 3)) b
 have a3:=one (((w.alloc (.cells (S.cells r) T)).alloc (.cells #[.int .i64 a] 3)).alloc (.cells #[.int .i64 b] 3)) c
 refine⟨((X0.below b1).below b2).below b3,?_,?_,?_,by simp⟩
 ·refine(b3.cell (p:=⟨_,_,none⟩) (by simp<;>omega)).trans ((b2.cell (p:=⟨_,_,none⟩) (by simp)).trans ?_)
  simp
 ·refine(b3.cell (p:=⟨_,_,none⟩) (by simp)).trans ?_
  simpa using a2
 ·simpa using a3
theorem four_frozen (w:World) (A B C:Obj) (v:Value):((((w.alloc A).alloc B).alloc C).alloc (.cells #[v] 3)).frozen? ⟨w.heap.size+1+1+1,0,none⟩=false:=by
 have:(((w.alloc A).alloc B).alloc C).heap.size=w.heap.size+1+1+1:=by simp
 rw[←this]
 simp[go_sem]
theorem four_below (w:World) (A B C D:Obj):Below w.heap.size w ((((w.alloc A).alloc B).alloc C).alloc D):=
 (((alloc_below w A).trans ((alloc_below _ B).mono (by simp))).trans ((alloc_below _ C).mono (by simp<;>omega))).trans ((alloc_below _ D).mono (by simp<;>omega))
abbrev at0 (p:Nat):Value:= .pointer (some ⟨p,0,none⟩)
def DaysV (p:Nat):Value:= .func (.func 263) #[] #[at0 p,at0 (p+1),at0 (p+2),at0 (p+3)]
def PersV (p:Nat):Value:= .func (.func 259) #[] #[at0 (p+2),at0 (p+3),at0 p,at0 (p+1)]
def MomV (p:Nat):Value:= .func (.func 143) #[] #[at0 p,at0 (p+1),at0 (p+2),at0 (p+3)]
set_option maxRecDepth 100000 in
set_option maxHeartbeats 8000000 in
theorem inDays_is (w:World) (S:RS) (r:Ru) (a b c:Int):
  Calls Tryz.prog 211 #[S.val r,.int .i64 a,.int .i64 b,.int .i64 c] w fun e w'=>e= .returned (DaysV w.heap.size)∧Four w' w.heap.size S r a b c∧Below w.heap.size w w':=by
 obtain⟨ra6,rn6,rc6,ra7,rn7,rc7,ra8,rn8,rc8,ra9,rn9,rc9,ra10,rn10,rc10,ra11,rn11,rc11,ra12,rn12,rc12,ra13,rn13,rc13,ra14,rn14,rc14⟩:=S
 obtain⟨rfreq,ritv,rcnt,rtil,rwkst,rends,rmon,rweek,ryday,rmday,rday,rhour,rminu,rsec,rpos⟩:=r
 show Calls Tryz.prog 211 #[.agg #[.int .i64 rfreq,.int .i64 ritv,.int .i64 rcnt,.int .i64 rtil,.int .i64 rwkst,.bool rends,.slice ra6 rn6 rc6,.slice ra7 rn7 rc7,.slice ra8 rn8 rc8,.slice ra9 rn9 rc9,.slice ra10 rn10 rc10,.slice ra11 rn11 rc11,.slice ra12 rn12 rc12,.slice ra13 rn13 rc13,.slice ra14 rn14 rc14],.int .i64 a,.int .i64 b,.int .i64 c] w _
 go_enter Tryz.func211,Tryz.ntmps211
 go_wp2
 go_ret
 exact⟨rfl,four_new w ⟨ra6,rn6,rc6,ra7,rn7,rc7,ra8,rn8,rc8,ra9,rn9,rc9,ra10,rn10,rc10,ra11,rn11,rc11,ra12,rn12,rc12,ra13,rn13,rc13,ra14,rn14,rc14⟩ ⟨rfreq,ritv,rcnt,rtil,rwkst,rends,rmon,rweek,ryday,rmday,rday,rhour,rminu,rsec,rpos⟩ a b c _,four_below w _ _ _ _⟩
set_option maxRecDepth 100000 in
set_option maxHeartbeats 8000000 in
theorem inPeriods_is (w:World) (S:RS) (r:Ru) (a b c:Int):
  Calls Tryz.prog 210 #[S.val r,.int .i64 a,.int .i64 b,.int .i64 c] w fun e w'=>e= .returned (PersV w.heap.size)∧Four w' w.heap.size S r a b c∧Below w.heap.size w w':=by
 obtain⟨ra6,rn6,rc6,ra7,rn7,rc7,ra8,rn8,rc8,ra9,rn9,rc9,ra10,rn10,rc10,ra11,rn11,rc11,ra12,rn12,rc12,ra13,rn13,rc13,ra14,rn14,rc14⟩:=S
 obtain⟨rfreq,ritv,rcnt,rtil,rwkst,rends,rmon,rweek,ryday,rmday,rday,rhour,rminu,rsec,rpos⟩:=r
 show Calls Tryz.prog 210 #[.agg #[.int .i64 rfreq,.int .i64 ritv,.int .i64 rcnt,.int .i64 rtil,.int .i64 rwkst,.bool rends,.slice ra6 rn6 rc6,.slice ra7 rn7 rc7,.slice ra8 rn8 rc8,.slice ra9 rn9 rc9,.slice ra10 rn10 rc10,.slice ra11 rn11 rc11,.slice ra12 rn12 rc12,.slice ra13 rn13 rc13,.slice ra14 rn14 rc14],.int .i64 a,.int .i64 b,.int .i64 c] w _
 go_enter Tryz.func210,Tryz.ntmps210
 go_wp2
 go_ret
 exact⟨rfl,four_new w ⟨ra6,rn6,rc6,ra7,rn7,rc7,ra8,rn8,rc8,ra9,rn9,rc9,ra10,rn10,rc10,ra11,rn11,rc11,ra12,rn12,rc12,ra13,rn13,rc13,ra14,rn14,rc14⟩ ⟨rfreq,ritv,rcnt,rtil,rwkst,rends,rmon,rweek,ryday,rmday,rday,rhour,rminu,rsec,rpos⟩ a b c _,four_below w _ _ _ _⟩
set_option maxRecDepth 100000 in
set_option maxHeartbeats 8000000 in
theorem moments_is (w:World) (S:RS) (r:Ru) (start from_ end_:Int) (hm:mayR r=true):
  Calls Tryz.prog 87 #[S.val r,.int .i64 start,.int .i64 from_,.int .i64 end_] w fun e w'=>e= .returned (MomV w.heap.size)∧Four w' w.heap.size S r start from_ (hiR r end_)∧Below w.heap.size w w':=by
 have TB:=Lib.hid (fun (e:r.ends=true)=>show -62135596800≤r.til∧r.til≤253402300799 by
  have f:=(mayR_of hm).2.1
  unfold endB at f
  rw[if_pos e] at f
  simp only[Bool.and_eq_true] at f
  exact of_decide_eq_true f.2)
 have HI:=Lib.hid (show (r.ends=true→hiR r end_=min end_ (r.til+1))∧(r.ends=false→hiR r end_=end_) from ⟨fun e=>by unfold hiR;rw[if_pos e],fun e=>by unfold hiR;rw[if_neg (by rw[e];decide)]⟩)
 clear hm
 obtain⟨ra6,rn6,rc6,ra7,rn7,rc7,ra8,rn8,rc8,ra9,rn9,rc9,ra10,rn10,rc10,ra11,rn11,rc11,ra12,rn12,rc12,ra13,rn13,rc13,ra14,rn14,rc14⟩:=S
 obtain⟨rfreq,ritv,rcnt,rtil,rwkst,rends,rmon,rweek,ryday,rmday,rday,rhour,rminu,rsec,rpos⟩:=r
 obtain⟨hi,hhi⟩:∃hi,hiR ⟨rfreq,ritv,rcnt,rtil,rwkst,rends,rmon,rweek,ryday,rmday,rday,rhour,rminu,rsec,rpos⟩ end_=hi:=⟨_,rfl⟩
 rw[hhi] at HI ⊢
 clear hhi
 show Calls Tryz.prog 87 #[.agg #[.int .i64 rfreq,.int .i64 ritv,.int .i64 rcnt,.int .i64 rtil,.int .i64 rwkst,.bool rends,.slice ra6 rn6 rc6,.slice ra7 rn7 rc7,.slice ra8 rn8 rc8,.slice ra9 rn9 rc9,.slice ra10 rn10 rc10,.slice ra11 rn11 rc11,.slice ra12 rn12 rc12,.slice ra13 rn13 rc13,.slice ra14 rn14 rc14],.int .i64 start,.int .i64 from_,.int .i64 end_] w _
 go_enter Tryz.func87,Tryz.ntmps87
 go_upto_region 1 with fail
 have B0:=four_below w (.cells #[.int .i64 rfreq,.int .i64 ritv,.int .i64 rcnt,.int .i64 rtil,.int .i64 rwkst,.bool rends,.slice ra6 rn6 rc6,.slice ra7 rn7 rc7,.slice ra8 rn8 rc8,.slice ra9 rn9 rc9,.slice ra10 rn10 rc10,.slice ra11 rn11 rc11,.slice ra12 rn12 rc12,.slice ra13 rn13 rc13,.slice ra14 rn14 rc14] 25) (.cells #[.int .i64 start] 3) (.cells #[.int .i64 from_] 3) (.cells #[.int .i64 end_] 3)
 have X0:=four_new w ⟨ra6,rn6,rc6,ra7,rn7,rc7,ra8,rn8,rc8,ra9,rn9,rc9,ra10,rn10,rc10,ra11,rn11,rc11,ra12,rn12,rc12,ra13,rn13,rc13,ra14,rn14,rc14⟩ ⟨rfreq,ritv,rcnt,rtil,rwkst,rends,rmon,rweek,ryday,rmday,rday,rhour,rminu,rsec,rpos⟩ start from_ end_ 25
 have SZ:((((w.alloc (.cells #[.int .i64 rfreq,.int .i64 ritv,.int .i64 rcnt,.int .i64 rtil,.int .i64 rwkst,.bool rends,.slice ra6 rn6 rc6,.slice ra7 rn7 rc7,.slice ra8 rn8 rc8,.slice ra9 rn9 rc9,.slice ra10 rn10 rc10,.slice ra11 rn11 rc11,.slice ra12 rn12 rc12,.slice ra13 rn13 rc13,.slice ra14 rn14 rc14] 25)).alloc (.cells #[.int .i64 start] 3)).alloc (.cells #[.int .i64 from_] 3)).alloc (.cells #[.int .i64 end_] 3)).heap.size=w.heap.size+4:=by simp
 replace X0:Four ((((w.alloc (.cells #[.int .i64 rfreq,.int .i64 ritv,.int .i64 rcnt,.int .i64 rtil,.int .i64 rwkst,.bool rends,.slice ra6 rn6 rc6,.slice ra7 rn7 rc7,.slice ra8 rn8 rc8,.slice ra9 rn9 rc9,.slice ra10 rn10 rc10,.slice ra11 rn11 rc11,.slice ra12 rn12 rc12,.slice ra13 rn13 rc13,.slice ra14 rn14 rc14] 25)).alloc (.cells #[.int .i64 start] 3)).alloc (.cells #[.int .i64 from_] 3)).alloc (.cells #[.int .i64 end_] 3)) w.heap.size ⟨ra6,rn6,rc6,ra7,rn7,rc7,ra8,rn8,rc8,ra9,rn9,rc9,ra10,rn10,rc10,ra11,rn11,rc11,ra12,rn12,rc12,ra13,rn13,rc13,ra14,rn14,rc14⟩ ⟨rfreq,ritv,rcnt,rtil,rwkst,rends,rmon,rweek,ryday,rmday,rday,rhour,rminu,rsec,rpos⟩ start from_ end_:=X0
 have ZF:=four_frozen w (.cells #[.int .i64 rfreq,.int .i64 ritv,.int .i64 rcnt,.int .i64 rtil,.int .i64 rwkst,.bool rends,.slice ra6 rn6 rc6,.slice ra7 rn7 rc7,.slice ra8 rn8 rc8,.slice ra9 rn9 rc9,.slice ra10 rn10 rc10,.slice ra11 rn11 rc11,.slice ra12 rn12 rc12,.slice ra13 rn13 rc13,.slice ra14 rn14 rc14] 25) (.cells #[.int .i64 start] 3) (.cells #[.int .i64 from_] 3) (.int .i64 end_)
 generalize (((w.alloc (.cells #[.int .i64 rfreq,.int .i64 ritv,.int .i64 rcnt,.int .i64 rtil,.int .i64 rwkst,.bool rends,.slice ra6 rn6 rc6,.slice ra7 rn7 rc7,.slice ra8 rn8 rc8,.slice ra9 rn9 rc9,.slice ra10 rn10 rc10,.slice ra11 rn11 rc11,.slice ra12 rn12 rc12,.slice ra13 rn13 rc13,.slice ra14 rn14 rc14] 25)).alloc (.cells #[.int .i64 start] 3)).alloc (.cells #[.int .i64 from_] 3)).alloc (.cells #[.int .i64 end_] 3)=w0 at *
 have z5:w0.cell? ⟨w.heap.size,5,none⟩=some (.bool rends):=X0.x.2 5 _ rfl
 have z3:w0.cell? ⟨w.heap.size,3,none⟩=some (.int .i64 rtil):=X0.x.2 3 _ rfl
 have ze:w0.cell? ⟨w.heap.size+1+1+1,0,none⟩=some (.int .i64 end_):=X0.c
 cases rends
 ·have E:=Lib.hid (HI.out.2 rfl)
  clear HI TB
  go_wp2
  go_ret
  exact⟨rfl,by rw[E.out];exact X0,B0⟩
 ·obtain⟨t1,t2⟩:=show -62135596800≤rtil∧rtil≤253402300799 from TB.out rfl
  have E:=Lib.hid (show hi=min end_ (rtil+1) from HI.out.1 rfl)
  clear HI TB
  have W0:IntKind.i64.wrap (rtil+1)=rtil+1:=IntWalk.i64_in _ (by omega)
  have x0:=X0.lt
  go_wp2
  go_ret
  have e:=E.out
  subst e
  exact⟨rfl,⟨⟨by simp<;>omega,fun k u hu=>by rw[World.cell?_setCell_other _ _ _ _ (by simp<;>omega)];exact X0.x.2 k u hu⟩,by rw[World.cell?_setCell_other _ _ _ _ (by simp)];exact X0.a,by rw[World.cell?_setCell_other _ _ _ _ (by simp)];exact X0.b,World.cell?_setCell_same' _ _ _ (by rw[ze];rfl),by simp<;>omega⟩,B0.setCell (p:=⟨w.heap.size+1+1+1,0,none⟩) (by simp<;>omega) _⟩
def ArndIs (w:World) (S:RS) (r:Ru) (start from_ hi:Int) (e:Ending) (w':World):Prop:=
 ∃p,((r.freq≤3∧r.pos≠[]∧e= .returned (PersV p))∨(¬(r.freq≤3∧r.pos≠[])∧e= .returned (DaysV p)))∧w.heap.size≤p∧Four w' p S r start (from_ / 86400) ((hi-1) / 86400)∧Below w.heap.size w w'
set_option maxRecDepth 100000 in
set_option maxHeartbeats 8000000 in
theorem around_is (w:World) (S:RS) (r:Ru) (start from_ hi:Int) (h:RuAt w S r) (f1:-63000000000≤from_) (f2:from_≤254000000000) (h1:-63000000000≤hi) (h2:hi≤254000000000):
  Calls Tryz.prog 144 #[S.val r,.int .i64 start,.int .i64 from_,.int .i64 hi] w (ArndIs w S r start from_ hi):=by
 have L14:=Lib.hid h.h14.1
 have l14:=h.l14
 clear h
 obtain⟨ra6,rn6,rc6,ra7,rn7,rc7,ra8,rn8,rc8,ra9,rn9,rc9,ra10,rn10,rc10,ra11,rn11,rc11,ra12,rn12,rc12,ra13,rn13,rc13,ra14,rn14,rc14⟩:=S
 obtain⟨rfreq,ritv,rcnt,rtil,rwkst,rends,rmon,rweek,ryday,rmday,rday,rhour,rminu,rsec,rpos⟩:=r
 have L14:=Lib.hid (show rn14=rpos.length from L14.out)
 replace l14:rn14≤140737488355328:=l14
 show Calls Tryz.prog 144 #[.agg #[.int .i64 rfreq,.int .i64 ritv,.int .i64 rcnt,.int .i64 rtil,.int .i64 rwkst,.bool rends,.slice ra6 rn6 rc6,.slice ra7 rn7 rc7,.slice ra8 rn8 rc8,.slice ra9 rn9 rc9,.slice ra10 rn10 rc10,.slice ra11 rn11 rc11,.slice ra12 rn12 rc12,.slice ra13 rn13 rc13,.slice ra14 rn14 rc14],.int .i64 start,.int .i64 from_,.int .i64 hi] w _
 go_enter Tryz.func144,Tryz.ntmps144
 go_upto_region 1 with fail
 obtain⟨B0,Xr0⟩:=box_new w #[.int .i64 rfreq,.int .i64 ritv,.int .i64 rcnt,.int .i64 rtil,.int .i64 rwkst,.bool rends,.slice ra6 rn6 rc6,.slice ra7 rn7 rc7,.slice ra8 rn8 rc8,.slice ra9 rn9 rc9,.slice ra10 rn10 rc10,.slice ra11 rn11 rc11,.slice ra12 rn12 rc12,.slice ra13 rn13 rc13,.slice ra14 rn14 rc14] 25
 generalize w.alloc _=w0 at *
 have W0:IntKind.i64.wrap (hi-1)=hi-1:=IntWalk.i64_in _ (by omega)
 go_wp2_with fail
 refine(day_any from_ _ (by omega) (by omega)).mono ?_
 rintro e w' ⟨rfl,rfl⟩
 go_wp2_with fail
 refine(day_any (hi-1) _ (by omega) (by omega)).mono ?_
 rintro e w' ⟨rfl,rfl⟩
 obtain⟨da,hda⟩:∃x,from_ / 86400=x:=⟨_,rfl⟩
 obtain⟨db,hdb⟩:∃x,(hi-1) / 86400=x:=⟨_,rfl⟩
 have HA:=Lib.hid hda
 have HB:=Lib.hid hdb
 rw[hda,hdb]
 clear hda hdb f1 f2 h1 h2 W0
 obtain⟨rz0,rz1,rz2,rz3,rz4,rz5,rz6,rz7,rz8,rz9,rz10,rz11,rz12,rz13,rz14⟩:=cells15 Xr0
 by_cases c3:rfreq≤3
 ·have t3:decide (rfreq≤3)=true:=decide_eq_true c3
  by_cases c14:0<rn14
  ·have t14:decide ((0:Int)<(rn14:Int))=true:=decide_eq_true (by omega)
   have t15:decide (0<rn14)=true:=decide_eq_true c14
   have PN:=Lib.hid (show rpos≠[] by rintro rfl;have:=L14.out;simp at this;omega)
   have C3:=Lib.hid c3
   clear c3 c14
   go_wp2_with fail
   refine(inPeriods_is _ ⟨ra6,rn6,rc6,ra7,rn7,rc7,ra8,rn8,rc8,ra9,rn9,rc9,ra10,rn10,rc10,ra11,rn11,rc11,ra12,rn12,rc12,ra13,rn13,rc13,ra14,rn14,rc14⟩ ⟨rfreq,ritv,rcnt,rtil,rwkst,rends,rmon,rweek,ryday,rmday,rday,rhour,rminu,rsec,rpos⟩ start da db).mono ?_
   rintro e w1 ⟨rfl,f4,b1⟩
   go_wp2
   go_ret
   exact⟨_,.inl ⟨C3.out,PN.out,rfl⟩,B0.size,by rw[HA.out,HB.out];exact f4,B0.trans (b1.mono B0.size)⟩
  ·have t14:decide ((0:Int)<(rn14:Int))=false:=decide_eq_false (by omega)
   have t15:decide (0<rn14)=false:=decide_eq_false c14
   have PN:=Lib.hid (show rpos=[] by have:=L14.out;exact List.length_eq_zero_iff.1 (by omega))
   clear c3 c14
   go_wp2_with fail
   refine(inDays_is _ ⟨ra6,rn6,rc6,ra7,rn7,rc7,ra8,rn8,rc8,ra9,rn9,rc9,ra10,rn10,rc10,ra11,rn11,rc11,ra12,rn12,rc12,ra13,rn13,rc13,ra14,rn14,rc14⟩ ⟨rfreq,ritv,rcnt,rtil,rwkst,rends,rmon,rweek,ryday,rmday,rday,rhour,rminu,rsec,rpos⟩ start da db).mono ?_
   rintro e w1 ⟨rfl,f4,b1⟩
   go_wp2
   go_ret
   exact⟨_,.inr ⟨fun q=>q.2 PN.out,rfl⟩,B0.size,by rw[HA.out,HB.out];exact f4,B0.trans (b1.mono B0.size)⟩
 ·have t3:decide (rfreq≤3)=false:=decide_eq_false c3
  have C3:=Lib.hid c3
  clear c3
  go_wp2_with fail
  refine(inDays_is _ ⟨ra6,rn6,rc6,ra7,rn7,rc7,ra8,rn8,rc8,ra9,rn9,rc9,ra10,rn10,rc10,ra11,rn11,rc11,ra12,rn12,rc12,ra13,rn13,rc13,ra14,rn14,rc14⟩ ⟨rfreq,ritv,rcnt,rtil,rwkst,rends,rmon,rweek,ryday,rmday,rday,rhour,rminu,rsec,rpos⟩ start da db).mono ?_
  rintro e w1 ⟨rfl,f4,b1⟩
  go_wp2
  go_ret
  exact⟨_,.inr ⟨fun q=>by have u:=C3.out;have v:=q.1;have v:rfreq≤3:=v;omega,rfl⟩,B0.size,by rw[HA.out,HB.out];exact f4,B0.trans (b1.mono B0.size)⟩
set_option maxRecDepth 100000 in
set_option maxHeartbeats 8000000 in
theorem emay_is (w:World) (S:RS) (r:Ru) (start end_ most:Int) (x:Bool) (h:RuAt w S r) (hx:mayE r start end_ most=x):
  Calls Tryz.prog 86 #[S.val r,.int .i64 start,.int .i64 end_,.int .i64 most] w fun e w'=>e= .returned (.bool x)∧Below w.heap.size w w':=by
 have RA:=Lib.hid h
 obtain⟨m,hm⟩:∃m,mayR r=m:=⟨_,rfl⟩
 obtain⟨a,ha⟩:∃m,St.may start=m:=⟨_,rfl⟩
 obtain⟨b,hb⟩:∃m,St.may end_=m:=⟨_,rfl⟩
 have HX:=Lib.hid (show (m&&a&&b&&decide (end_-start≤316224000)&&decide (1≤most∧most≤4096))=x by rw[←hm,←ha,←hb];exact hx)
 have HM:=Lib.hid hm
 have HA:=Lib.hid ha
 have HB:=Lib.hid hb
 clear h hx hm ha hb
 obtain⟨ra6,rn6,rc6,ra7,rn7,rc7,ra8,rn8,rc8,ra9,rn9,rc9,ra10,rn10,rc10,ra11,rn11,rc11,ra12,rn12,rc12,ra13,rn13,rc13,ra14,rn14,rc14⟩:=S
 obtain⟨rfreq,ritv,rcnt,rtil,rwkst,rends,rmon,rweek,ryday,rmday,rday,rhour,rminu,rsec,rpos⟩:=r
 show Calls Tryz.prog 86 #[.agg #[.int .i64 rfreq,.int .i64 ritv,.int .i64 rcnt,.int .i64 rtil,.int .i64 rwkst,.bool rends,.slice ra6 rn6 rc6,.slice ra7 rn7 rc7,.slice ra8 rn8 rc8,.slice ra9 rn9 rc9,.slice ra10 rn10 rc10,.slice ra11 rn11 rc11,.slice ra12 rn12 rc12,.slice ra13 rn13 rc13,.slice ra14 rn14 rc14],.int .i64 start,.int .i64 end_,.int .i64 most] w _
 go_enter Tryz.func86,Tryz.ntmps86
 go_upto_region 1 with fail
 obtain⟨B0,Xr0⟩:=box_new w #[.int .i64 rfreq,.int .i64 ritv,.int .i64 rcnt,.int .i64 rtil,.int .i64 rwkst,.bool rends,.slice ra6 rn6 rc6,.slice ra7 rn7 rc7,.slice ra8 rn8 rc8,.slice ra9 rn9 rc9,.slice ra10 rn10 rc10,.slice ra11 rn11 rc11,.slice ra12 rn12 rc12,.slice ra13 rn13 rc13,.slice ra14 rn14 rc14] 25
 generalize w.alloc _=w0 at *
 obtain⟨rz0,rz1,rz2,rz3,rz4,rz5,rz6,rz7,rz8,rz9,rz10,rz11,rz12,rz13,rz14⟩:=cells15 Xr0
 go_wp2_with fail
 refine(may_r _ ⟨ra6,rn6,rc6,ra7,rn7,rc7,ra8,rn8,rc8,ra9,rn9,rc9,ra10,rn10,rc10,ra11,rn11,rc11,ra12,rn12,rc12,ra13,rn13,rc13,ra14,rn14,rc14⟩ ⟨rfreq,ritv,rcnt,rtil,rwkst,rends,rmon,rweek,ryday,rmday,rday,rhour,rminu,rsec,rpos⟩ m (RA.out.below B0) HM.out).mono ?_
 rintro e w1 ⟨rfl,b1⟩
 clear rz0 rz1 rz2 rz3 rz4 rz5 rz6 rz7 rz8 rz9 rz10 rz11 rz12 rz13 rz14
 have B1:=B0.trans (b1.mono B0.size)
 have Xr1:=Xr0.below b1
 clear B0 Xr0
 clear b1
 cases m
 ·have E:=Lib.hid (show false=x by have:=HX.out;simpa using this)
  go_wp2
  go_ret
  exact⟨ret_bool E.out,B1⟩
 ·cases a
  ·go_wp2_with fail
   refine(may_no start _ HA.out).mono ?_
   rintro e w' ⟨rfl,rfl⟩
   have E:=Lib.hid (show false=x by have:=HX.out;simpa using this)
   go_wp2
   go_ret
   exact⟨ret_bool E.out,B1⟩
  ·go_wp2_with fail
   refine(may_yes start _ HA.out).mono ?_
   rintro e w' ⟨rfl,rfl⟩
   cases b
   ·go_wp2_with fail
    refine(may_no end_ _ HB.out).mono ?_
    rintro e w' ⟨rfl,rfl⟩
    have E:=Lib.hid (show false=x by have:=HX.out;simpa using this)
    go_wp2
    go_ret
    exact⟨ret_bool E.out,B1⟩
   ·go_wp2_with fail
    refine(may_yes end_ _ HB.out).mono ?_
    rintro e w' ⟨rfl,rfl⟩
    have s1:=of_decide_eq_true HA.out
    have s2:=of_decide_eq_true HB.out
    have W0:IntKind.i64.wrap (end_-start)=end_-start:=IntWalk.i64_in _ (by omega)
    by_cases c1:end_-start≤316224000
    ·have t1:decide (end_-start≤316224000)=true:=decide_eq_true c1
     by_cases c2:1≤most
     ·have t2:decide (1≤most)=true:=decide_eq_true c2
      by_cases c3:most≤4096
      ·have t3:decide (most≤4096)=true:=decide_eq_true c3
       have E:=Lib.hid (show true=x by have:=HX.out;simpa [c1,c2,c3] using this)
       clear c1 c2 c3
       go_wp2
       go_ret
       exact⟨ret_bool E.out,B1⟩
      ·have t3:decide (most≤4096)=false:=decide_eq_false c3
       have E:=Lib.hid (show false=x by have:=HX.out;simpa [c1,c2,c3] using this)
       clear c1 c2 c3
       go_wp2
       go_ret
       exact⟨ret_bool E.out,B1⟩
     ·have t2:decide (1≤most)=false:=decide_eq_false c2
      have E:=Lib.hid (show false=x by have:=HX.out;simpa [c1,c2] using this)
      clear c1 c2
      go_wp2
      go_ret
      exact⟨ret_bool E.out,B1⟩
    ·have t1:decide (end_-start≤316224000)=false:=decide_eq_false c1
     have E:=Lib.hid (show false=x by have:=HX.out;simpa [c1] using this)
     clear c1
     go_wp2
     go_ret
     exact⟨ret_bool E.out,B1⟩
end Go.Proofs.YtchpjhjjakckbaaGreatDoor.Ex
