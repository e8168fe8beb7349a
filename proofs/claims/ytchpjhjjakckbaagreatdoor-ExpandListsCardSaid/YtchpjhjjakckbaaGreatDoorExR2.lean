/- The walks of vokref6's upTo, times and Times, with the lists that they tell. The walk of vokref6's ofDay. -/
import Derived.Test.YtchpjhjjakckbaaGreatDoorRuBx
import Derived.Test.YtchpjhjjakckbaaGreatDoorExR1
import Derived.Test.YtchpjhjjakckbaaGreatDoorExRfits
set_option linter.unusedVariables false
namespace Go.Proofs.YtchpjhjjakckbaaGreatDoor.Ex
open Go.RowKit Cv St Ru Dd Mb
def ShortL (w:World) (l:List Int) (e:Ending) (w':World):Prop:=∃A c,e= .returned (.slice A l.length c)∧IsAt w' A l.length l∧Below w.heap.size w w'
def ThreeL (w:World) (H M S:List Int) (e:Ending) (w':World):Prop:=∃A a B b C c,e= .returned (.tuple #[.slice A H.length a,.slice B M.length b,.slice C S.length c])∧IsAt w' A H.length H∧IsAt w' B M.length M∧IsAt w' C S.length S∧Below w.heap.size w w'
set_option maxRecDepth 100000 in
set_option maxHeartbeats 8000000 in
theorem upToL_is (w:World) (m:Nat) (hm:m≤60):Calls Tryz.prog 219 #[.int .i64 m] w (ShortL w ((List.range m).map Int.ofNat)):=by
 go_enter Tryz.func219,Tryz.ntmps219
 go_wp2
 go_loopw [3,4] (fun ov i wr=>∃(v:Value) (t:Nat) (acc:List Int),t≤m∧v=ov∧i= .int .i64 t∧OwnI w wr v acc∧Hid (acc=(List.range t).map Int.ofNat)∧Below w.heap.size w wr) (fun _ i _=>m-(intOf i).toNat)
 case atStart=>exact⟨_,0,[],Nat.zero_le _,rfl,rfl,OwnI.nil _ _,Lib.hid rfl,Below.refl _ _⟩
 case round=>
  obtain⟨v0,t,acc,ht,rfl,rfl,ov,hl,hB⟩:=hrel
  have OV:=Lib.hid ov
  clear ov
  by_cases hlt:t<m
  ·have SZ:acc.length≤1000000:=by rw[hl.out];simp;omega
   go_wp2_with (at_builtin;refine append_num rfl _ _ rfl _ acc rfl OV.out hB _ _ _ rfl SZ ?_)
   intro v4 w4 ow4 hb4
   have OW:=Lib.hid ow4
   clear ow4
   go_wp2
   go_roundw
   case rel=>exact⟨v4,t+1,_,by omega,rfl,by go_num,OW.out,Lib.hid (by rw[hl.out,List.range_succ,List.map_append];rfl),hb4⟩
   case measure=>simp[intOf];omega
  ·obtain rfl:m=t:=by omega
   go_wp2
   go_ret
   obtain⟨A,c,rfl,ia,-,-⟩:=OV.out.at_
   have e:=hl.out
   subst e
   exact⟨A,c,rfl,ia,hB⟩
theorem upToZ_is (w:World) (m:Nat) (hm:m≤60) (z:List Int) (hz:(List.range m).map Int.ofNat=z):Calls Tryz.prog 219 #[.int .i64 m] w (ShortL w z):=hz ▸ upToL_is w m hm
set_option maxRecDepth 100000 in
set_option maxHeartbeats 8000000 in
theorem times6L_is (w:World) (A:Option Addr) (n c:Nat) (l:List Int) (own:Bool) (mine:Int) (all:Nat) (x:List Int) (hx:timB l own mine all=x) (hl:IsAt w A n l) (hn:n≤60) (ha:all≤60):
  Calls Tryz.prog 153 #[.slice A n c,.bool own,.int .i64 mine,.int .i64 all] w (ShortL w x):=by
 have HL:=Lib.hid hl
 have HX:=Lib.hid hx
 obtain⟨z,hz⟩:∃z,(List.range all).map Int.ofNat=z:=⟨_,rfl⟩
 have ZZ:=Lib.hid hz
 clear hx hz
 clear hl
 go_enter Tryz.func153,Tryz.ntmps153
 by_cases h0:0<n
 ·go_wp2_with fail
  refine(copyI_is _ A n c l HL.out (by omega) (fun e=>by
   obtain⟨b,o,q,-⟩:=HL.out.2 h0
   rw[e] at q;cases q)).mono ?_
  rintro e w1 ⟨v,rfl,ov,hB⟩
  have LN:=HL.out.1
  obtain⟨A',c',rfl,ia,-,-⟩:=ov.at_
  have X:l=x:=by rw[←HX.out];exact(if_pos (fun e=>by rw[e] at LN;simp at LN;omega)).symm
  subst X
  have IA:=Lib.hid ia
  clear ia
  clear ov
  go_wp2
  go_ret
  exact⟨A',c',rfl,IA.out,hB⟩
 ·have L0:l=[]:=List.length_eq_zero_iff.1 (by have:=HL.out.1;omega)
  cases own
  ·go_wp2_with fail
   refine(upToZ_is _ all ha z ZZ.out).mono ?_
   rintro e w1 ⟨A',c',rfl,ia,hB⟩
   have IA:=Lib.hid ia
   clear ia
   go_wp2
   go_ret
   have X:z=x:=by rw[←HX.out,←ZZ.out];unfold timB;rw[if_neg (by simp[L0])];rfl
   rw[←X]
   exact⟨A',c',rfl,IA.out,hB⟩
  ·go_wp2
   go_ret
   have X:[mine]=x:=by rw[←HX.out];unfold timB;rw[if_neg (by simp[L0])];rfl
   rw[←X]
   exact⟨_,1,rfl,⟨rfl,fun _=>⟨_,0,rfl,by simp,fun j hj=>by
    obtain rfl:j=0:=by simp at hj;omega
    simp[go_sem,iat]⟩⟩,alloc_below _ _⟩
set_option maxRecDepth 100000 in
set_option maxHeartbeats 8000000 in
theorem times7L_is (w:World) (S:RS) (r:Ru) (start:Int) (h:RuAt w S r) (hm:mayR r=true) (hs:St.may start=true):
  Calls Tryz.prog 98 #[S.val r,.int .i64 start] w (ThreeL w (timH r start) (timM r start) (timS r start)):=by
 have RA:=Lib.hid h
 have H11:=Lib.hid h.h11
 have H12:=Lib.hid h.h12
 have H13:=Lib.hid h.h13
 obtain⟨u11,u12,u13⟩:=lens_of (mayR_of hm).2.2.1
 have e11:=h.h11.1
 have e12:=h.h12.1
 have e13:=h.h13.1
 have q11:S.n11≤60:=by omega
 have q12:S.n12≤60:=by omega
 have q13:S.n13≤60:=by omega
 have HM:=Lib.hid hm
 obtain⟨q,hq⟩:∃q,St.may start=q:=⟨_,rfl⟩
 obtain rfl:true=q:=hs.symm.trans hq
 obtain⟨xh,hxh⟩:∃x,timH r start=x:=⟨_,rfl⟩
 obtain⟨xm,hxm⟩:∃x,timM r start=x:=⟨_,rfl⟩
 obtain⟨xs,hxs⟩:∃x,timS r start=x:=⟨_,rfl⟩
 rw[hxh,hxm,hxs]
 have XH:=Lib.hid (show timB r.hour (decide (r.freq≤4)) (start % 86400 / 3600) 24=xh from hxh)
 have XM:=Lib.hid (show timB r.minu (decide (r.freq≤5)) (start % 86400 / 60 % 60) 60=xm by rw[←hxm];unfold timM;congr 1;omega)
 have XS:=Lib.hid (show timB r.sec (decide (r.freq≤6)) (start % 86400 % 60) 60=xs from hxs)
 clear hxh hxm hxs hs
 have HQ:=Lib.hid hq
 have SB:=Lib.hid (fun (e:true=true)=>show -62135596800≤start∧start≤253402300799 from of_decide_eq_true hq)
 clear h hm hq u11 u12 u13 e11 e12 e13
 obtain⟨ra6,rn6,rc6,ra7,rn7,rc7,ra8,rn8,rc8,ra9,rn9,rc9,ra10,rn10,rc10,ra11,rn11,rc11,ra12,rn12,rc12,ra13,rn13,rc13,ra14,rn14,rc14⟩:=S
 obtain⟨rfreq,ritv,rcnt,rtil,rwkst,rends,rmon,rweek,ryday,rmday,rday,rhour,rminu,rsec,rpos⟩:=r
 have XH:=Lib.hid (show timB rhour (decide (rfreq≤4)) (start % 86400 / 3600) 24=xh from XH.out)
 have XM:=Lib.hid (show timB rminu (decide (rfreq≤5)) (start % 86400 / 60 % 60) 60=xm from XM.out)
 have XS:=Lib.hid (show timB rsec (decide (rfreq≤6)) (start % 86400 % 60) 60=xs from XS.out)
 replace q11:rn11≤60:=q11
 replace q12:rn12≤60:=q12
 replace q13:rn13≤60:=q13
 show Calls Tryz.prog 98 #[.agg #[.int .i64 rfreq,.int .i64 ritv,.int .i64 rcnt,.int .i64 rtil,.int .i64 rwkst,.bool rends,.slice ra6 rn6 rc6,.slice ra7 rn7 rc7,.slice ra8 rn8 rc8,.slice ra9 rn9 rc9,.slice ra10 rn10 rc10,.slice ra11 rn11 rc11,.slice ra12 rn12 rc12,.slice ra13 rn13 rc13,.slice ra14 rn14 rc14],.int .i64 start] w _
 go_enter Tryz.func98,Tryz.ntmps98
 go_upto_region 1 with fail
 obtain⟨B0,Xr0⟩:=box_new w #[.int .i64 rfreq,.int .i64 ritv,.int .i64 rcnt,.int .i64 rtil,.int .i64 rwkst,.bool rends,.slice ra6 rn6 rc6,.slice ra7 rn7 rc7,.slice ra8 rn8 rc8,.slice ra9 rn9 rc9,.slice ra10 rn10 rc10,.slice ra11 rn11 rc11,.slice ra12 rn12 rc12,.slice ra13 rn13 rc13,.slice ra14 rn14 rc14] 25
 generalize w.alloc _=w0 at *
 obtain⟨rz0,rz1,rz2,rz3,rz4,rz5,rz6,rz7,rz8,rz9,rz10,rz11,rz12,rz13,rz14⟩:=cells15 Xr0
 go_wp2_with fail
 refine(right7_is _ ⟨ra6,rn6,rc6,ra7,rn7,rc7,ra8,rn8,rc8,ra9,rn9,rc9,ra10,rn10,rc10,ra11,rn11,rc11,ra12,rn12,rc12,ra13,rn13,rc13,ra14,rn14,rc14⟩ ⟨rfreq,ritv,rcnt,rtil,rwkst,rends,rmon,rweek,ryday,rmday,rday,rhour,rminu,rsec,rpos⟩ start true true (RA.out.below B0) HM.out HQ.out).mono ?_
 rintro e w1 ⟨rfl,b1⟩
 clear rz0 rz1 rz2 rz3 rz4 rz5 rz6 rz7 rz8 rz9 rz10 rz11 rz12 rz13 rz14
 have B1:=B0.trans (b1.mono B0.size)
 have Xr1:=Xr0.below b1
 clear B0 Xr0
 clear b1
 ·obtain⟨sl,sh⟩:=SB.out trivial
  go_wp2_with fail
  refine(rday_any start _ (by omega) (by omega)).mono ?_
  rintro e w' ⟨rfl,rfl⟩
  obtain⟨s,hs⟩:∃s,start % 86400=s:=⟨_,rfl⟩
  have g1:0≤s∧s<86400:=by omega
  rw[hs]
  rw[hs] at XH XM XS
  clear sl sh hs SB
  have d1:IntKind.i64.wrap (s.tdiv 3600)=s / 3600:=by rw[Int.tdiv_eq_ediv_of_nonneg g1.1];exact IntWalk.i64_in _ (by omega)
  have d2:IntKind.i64.wrap (s.tdiv 60)=s / 60:=by rw[Int.tdiv_eq_ediv_of_nonneg g1.1];exact IntWalk.i64_in _ (by omega)
  have d3:(s / 60).tmod 60=s / 60 % 60:=Int.tmod_eq_emod_of_nonneg (by omega)
  have d4:s.tmod 60=s % 60:=Int.tmod_eq_emod_of_nonneg g1.1
  go_upto_region 4 with fail
  refine wp_region_late (fun _=>false) (fun w'=>w'.cell? ⟨w.heap.size,0,none⟩=some (.int .i64 rfreq)∧w'.cell? ⟨w.heap.size,11,none⟩=some (.slice ra11 rn11 rc11)∧w'.cell? ⟨w.heap.size,12,none⟩=some (.slice ra12 rn12 rc12)∧w'.cell? ⟨w.heap.size,13,none⟩=some (.slice ra13 rn13 rc13)) (by kernel_rfl) ?_
  have hS:w1.drew.cell? ⟨w.heap.size,0,none⟩=some (.int .i64 rfreq)∧w1.drew.cell? ⟨w.heap.size,11,none⟩=some (.slice ra11 rn11 rc11)∧w1.drew.cell? ⟨w.heap.size,12,none⟩=some (.slice ra12 rn12 rc12)∧w1.drew.cell? ⟨w.heap.size,13,none⟩=some (.slice ra13 rn13 rc13):=⟨Xr1.at_ 0 _ rfl,Xr1.at_ 11 _ rfl,Xr1.at_ 12 _ rfl,Xr1.at_ 13 _ rfl⟩
  refine Late.take 0 (.pointer (some ⟨w.heap.size,11,none⟩)) rfl (by kernel_rfl) (by kernel_rfl) (by kernel_rfl) (by kernel_rfl) (fun _ _ _ h=>h) (.inl ⟨rfl,fun w' hs => ?_⟩) hS ?_
  ·go_simp
  refine Late.take 1 (.slice ra11 rn11 rc11) rfl (by kernel_rfl) (by kernel_rfl) (by kernel_rfl) (by kernel_rfl) (fun _ _ _ h=>h) (.inl ⟨rfl,fun w' hs => ?_⟩) hS ?_
  ·obtain⟨s0,s1,s2,s3⟩:=hs
   go_simp
  refine Late.take 2 (.pointer (some ⟨w.heap.size,0,none⟩)) rfl (by kernel_rfl) (by kernel_rfl) (by kernel_rfl) (by kernel_rfl) (fun _ _ _ h=>h) (.inl ⟨rfl,fun w' hs => ?_⟩) hS ?_
  ·go_simp
  refine Late.take 3 (.int .i64 rfreq) rfl (by kernel_rfl) (by kernel_rfl) (by kernel_rfl) (by kernel_rfl) (fun _ _ _ h=>h) (.inl ⟨rfl,fun w' hs => ?_⟩) hS ?_
  ·obtain⟨s0,s1,s2,s3⟩:=hs
   go_simp
  refine Late.take 4 (.bool (decide (rfreq≤4))) rfl (by kernel_rfl) (by kernel_rfl) (by kernel_rfl) (by kernel_rfl) (fun _ _ _ h=>h) (.inl ⟨rfl,fun w' hs => ?_⟩) hS ?_
  ·go_simp
  refine Late.take 5 (.int .i64 s) rfl (by kernel_rfl) (by kernel_rfl) (by kernel_rfl) (by kernel_rfl) (fun _ _ _ h=>h) (.inl ⟨rfl,fun w' hs => ?_⟩) hS ?_
  ·go_simp
  refine Late.take 6 (.int .i64 (s / 3600)) rfl (by kernel_rfl) (by kernel_rfl) (by kernel_rfl) (by kernel_rfl) (fun _ _ _ h=>h) (.inl ⟨rfl,fun w' hs => ?_⟩) hS ?_
  ·go_simp
  refine Late.take 8 (.pointer (some ⟨w.heap.size,12,none⟩)) rfl (by kernel_rfl) (by kernel_rfl) (by kernel_rfl) (by kernel_rfl) (fun _ _ _ h=>h) (.inl ⟨rfl,fun w' hs => ?_⟩) hS ?_
  ·go_simp
  refine Late.take 9 (.slice ra12 rn12 rc12) rfl (by kernel_rfl) (by kernel_rfl) (by kernel_rfl) (by kernel_rfl) (fun _ _ _ h=>h) (.inl ⟨rfl,fun w' hs => ?_⟩) hS ?_
  ·obtain⟨s0,s1,s2,s3⟩:=hs
   go_simp
  refine Late.take 10 (.pointer (some ⟨w.heap.size,0,none⟩)) rfl (by kernel_rfl) (by kernel_rfl) (by kernel_rfl) (by kernel_rfl) (fun _ _ _ h=>h) (.inl ⟨rfl,fun w' hs => ?_⟩) hS ?_
  ·go_simp
  refine Late.take 11 (.int .i64 rfreq) rfl (by kernel_rfl) (by kernel_rfl) (by kernel_rfl) (by kernel_rfl) (fun _ _ _ h=>h) (.inl ⟨rfl,fun w' hs => ?_⟩) hS ?_
  ·obtain⟨s0,s1,s2,s3⟩:=hs
   go_simp
  refine Late.take 12 (.bool (decide (rfreq≤5))) rfl (by kernel_rfl) (by kernel_rfl) (by kernel_rfl) (by kernel_rfl) (fun _ _ _ h=>h) (.inl ⟨rfl,fun w' hs => ?_⟩) hS ?_
  ·go_simp
  refine Late.take 13 (.int .i64 s) rfl (by kernel_rfl) (by kernel_rfl) (by kernel_rfl) (by kernel_rfl) (fun _ _ _ h=>h) (.inl ⟨rfl,fun w' hs => ?_⟩) hS ?_
  ·go_simp
  refine Late.take 14 (.int .i64 (s / 60)) rfl (by kernel_rfl) (by kernel_rfl) (by kernel_rfl) (by kernel_rfl) (fun _ _ _ h=>h) (.inl ⟨rfl,fun w' hs => ?_⟩) hS ?_
  ·go_simp
  refine Late.take 15 (.int .i64 (s / 60 % 60)) rfl (by kernel_rfl) (by kernel_rfl) (by kernel_rfl) (by kernel_rfl) (fun _ _ _ h=>h) (.inl ⟨rfl,fun w' hs => ?_⟩) hS ?_
  ·go_simp
  refine Late.take 17 (.pointer (some ⟨w.heap.size,13,none⟩)) rfl (by kernel_rfl) (by kernel_rfl) (by kernel_rfl) (by kernel_rfl) (fun _ _ _ h=>h) (.inl ⟨rfl,fun w' hs => ?_⟩) hS ?_
  ·go_simp
  refine Late.take 18 (.slice ra13 rn13 rc13) rfl (by kernel_rfl) (by kernel_rfl) (by kernel_rfl) (by kernel_rfl) (fun _ _ _ h=>h) (.inl ⟨rfl,fun w' hs => ?_⟩) hS ?_
  ·obtain⟨s0,s1,s2,s3⟩:=hs
   go_simp
  refine Late.take 19 (.pointer (some ⟨w.heap.size,0,none⟩)) rfl (by kernel_rfl) (by kernel_rfl) (by kernel_rfl) (by kernel_rfl) (fun _ _ _ h=>h) (.inl ⟨rfl,fun w' hs => ?_⟩) hS ?_
  ·go_simp
  refine Late.take 20 (.int .i64 rfreq) rfl (by kernel_rfl) (by kernel_rfl) (by kernel_rfl) (by kernel_rfl) (fun _ _ _ h=>h) (.inl ⟨rfl,fun w' hs => ?_⟩) hS ?_
  ·obtain⟨s0,s1,s2,s3⟩:=hs
   go_simp
  refine Late.take 21 (.bool (decide (rfreq≤6))) rfl (by kernel_rfl) (by kernel_rfl) (by kernel_rfl) (by kernel_rfl) (fun _ _ _ h=>h) (.inl ⟨rfl,fun w' hs => ?_⟩) hS ?_
  ·go_simp
  refine Late.take 22 (.int .i64 s) rfl (by kernel_rfl) (by kernel_rfl) (by kernel_rfl) (by kernel_rfl) (fun _ _ _ h=>h) (.inl ⟨rfl,fun w' hs => ?_⟩) hS ?_
  ·go_simp
  refine Late.take 23 (.int .i64 (s % 60)) rfl (by kernel_rfl) (by kernel_rfl) (by kernel_rfl) (by kernel_rfl) (fun _ _ _ h=>h) (.inl ⟨rfl,fun w' hs => ?_⟩) hS ?_
  ·go_simp
  have D0:Below w1.heap.size w1 w1.drew:=(Below.refl _ _).drew
  have C0:=B1.trans (D0.mono B1.size)
  refine Late.one 7 rfl (by kernel_rfl) rfl ?_
  go_simp
  refine(times6L_is _ ra11 rn11 rc11 rhour (decide (rfreq≤4)) (s / 3600) 24 xh XH.out (H11.out.below C0) q11 (by omega)).mono ?_
  rintro e x1 ⟨P1,p1,rfl,o1,b1⟩
  have O1:=Lib.hid o1
  clear o1
  have D1:=D0.trans (b1.mono D0.size)
  have C1:=B1.trans (D1.mono B1.size)
  have hS1:x1.cell? ⟨w.heap.size,0,none⟩=some (.int .i64 rfreq)∧x1.cell? ⟨w.heap.size,11,none⟩=some (.slice ra11 rn11 rc11)∧x1.cell? ⟨w.heap.size,12,none⟩=some (.slice ra12 rn12 rc12)∧x1.cell? ⟨w.heap.size,13,none⟩=some (.slice ra13 rn13 rc13):=⟨(Xr1.below D1).at_ 0 _ rfl,(Xr1.below D1).at_ 11 _ rfl,(Xr1.below D1).at_ 12 _ rfl,(Xr1.below D1).at_ 13 _ rfl⟩
  refine⟨hS1,?_⟩
  refine Late.one 16 rfl (by kernel_rfl) rfl ?_
  go_simp
  refine(times6L_is _ ra12 rn12 rc12 rminu (decide (rfreq≤5)) (s / 60 % 60) 60 xm XM.out (H12.out.below C1) q12 (by omega)).mono ?_
  rintro e x2 ⟨P2,p2,rfl,o2,b2⟩
  have O2:=Lib.hid o2
  clear o2
  have D2:=D1.trans (b2.mono D1.size)
  have C2:=B1.trans (D2.mono B1.size)
  have hS2:x2.cell? ⟨w.heap.size,0,none⟩=some (.int .i64 rfreq)∧x2.cell? ⟨w.heap.size,11,none⟩=some (.slice ra11 rn11 rc11)∧x2.cell? ⟨w.heap.size,12,none⟩=some (.slice ra12 rn12 rc12)∧x2.cell? ⟨w.heap.size,13,none⟩=some (.slice ra13 rn13 rc13):=⟨(Xr1.below D2).at_ 0 _ rfl,(Xr1.below D2).at_ 11 _ rfl,(Xr1.below D2).at_ 12 _ rfl,(Xr1.below D2).at_ 13 _ rfl⟩
  refine⟨hS2,?_⟩
  refine Late.one 24 rfl (by kernel_rfl) rfl ?_
  go_simp
  refine(times6L_is _ ra13 rn13 rc13 rsec (decide (rfreq≤6)) (s % 60) 60 xs XS.out (H13.out.below C2) q13 (by omega)).mono ?_
  rintro e x3 ⟨P3,p3,rfl,o3,b3⟩
  have O3:=Lib.hid o3
  clear o3
  have D3:=D2.trans (b3.mono D2.size)
  have C3:=B1.trans (D3.mono B1.size)
  have hS3:x3.cell? ⟨w.heap.size,0,none⟩=some (.int .i64 rfreq)∧x3.cell? ⟨w.heap.size,11,none⟩=some (.slice ra11 rn11 rc11)∧x3.cell? ⟨w.heap.size,12,none⟩=some (.slice ra12 rn12 rc12)∧x3.cell? ⟨w.heap.size,13,none⟩=some (.slice ra13 rn13 rc13):=⟨(Xr1.below D3).at_ 0 _ rfl,(Xr1.below D3).at_ 11 _ rfl,(Xr1.below D3).at_ 12 _ rfl,(Xr1.below D3).at_ 13 _ rfl⟩
  refine⟨hS3,?_⟩
  refine Late.take 25 (.slice P1 xh.length p1) rfl (by kernel_rfl) (by kernel_rfl) (by kernel_rfl) (by kernel_rfl) (fun _ _ _ h=>h) (.inl ⟨rfl,fun w' hs => ?_⟩) hS3 ?_
  ·go_simp
  refine Late.take 26 (.slice P2 xm.length p2) rfl (by kernel_rfl) (by kernel_rfl) (by kernel_rfl) (by kernel_rfl) (fun _ _ _ h=>h) (.inl ⟨rfl,fun w' hs => ?_⟩) hS3 ?_
  ·go_simp
  refine Late.take 27 (.slice P3 xs.length p3) rfl (by kernel_rfl) (by kernel_rfl) (by kernel_rfl) (by kernel_rfl) (fun _ _ _ h=>h) (.inl ⟨rfl,fun w' hs => ?_⟩) hS3 ?_
  ·go_simp
  refine Late.done (by kernel_rfl) ?_
  go_wp2
  go_ret3
  exact⟨P1,p1,P2,p2,P3,p3,rfl,(O1.out.below b2).below b3,O2.out.below b3,O3.out,C3⟩
end Go.Proofs.YtchpjhjjakckbaaGreatDoor.Ex
namespace Go.Proofs.YtchpjhjjakckbaaGreatDoor.Ex
open Go.RowKit Cv St Ru Dd Mb
theorem take_nx {l:List Int} {t:Nat} (h:t<l.length):l.take (t+1)=l.take t++[iat l t]:=take_at h
theorem flat_nx {F:Int→List Int} {l:List Int} {t:Nat} (h:t<l.length):(l.take (t+1)).flatMap F=(l.take t).flatMap F++F (iat l t):=by
 rw[take_nx h,List.flatMap_append]
 simp
theorem flat_le {F:Int→List Int} {l:List Int} {t:Nat} (h:t<l.length) {k:Nat} (hk:k≤(F (iat l t)).length):((l.take t).flatMap F).length+k≤(l.flatMap F).length:=by
 have e:l.flatMap F=(l.take t).flatMap F++(l.drop t).flatMap F:=by rw[←List.flatMap_append,List.take_append_drop]
 rw[e,List.length_append,List.drop_eq_getElem_cons h,List.flatMap_cons,List.length_append]
 rw[iat_lt h] at hk
 omega
theorem ofDay_len {r:Ru} {start n:Int} (hm:mayR r=true) (hs:St.may start=true) (hn:isday n=true):(ofDayL r start n).length≤86400:=by
 rw[ofDay_eq hm hs hn]
 unfold selL
 refine Nat.le_trans (List.length_filter_le _ _) ?_
 rw[span_len]
 omega
def minP (r:Ru) (start b:Int) (l:List Int):List Int:=(l.map fun c=>b+c).filter (alB r start)
theorem minP_nx {r:Ru} {start b:Int} {l:List Int} {t:Nat} (h:t<l.length):minP r start b (l.take (t+1))=minP r start b (l.take t)++(if alB r start (b+iat l t)=true then [b+iat l t] else []):=by
 unfold minP
 rw[take_nx h,List.map_append,List.filter_append]
 congr 1
 simp only[List.map_cons,List.map_nil,List.filter_cons,List.filter_nil]
theorem minP_le {r:Ru} {start b:Int} {l:List Int} (t:Nat):(minP r start b (l.take t)).length≤(minP r start b l).length:=by
 have e:minP r start b l=minP r start b (l.take t)++minP r start b (l.drop t):=by
  unfold minP
  rw[←List.filter_append,←List.map_append,List.take_append_drop]
 rw[e,List.length_append]
 omega
structure OfOk (r:Ru) (start n:Int) (x:List Int):Prop where
 eq:(timH r start).flatMap (fun h=>(timM r start).flatMap fun m=>ofMin r start n h m)=x
 len:x.length≤86400
 bH:∀h∈timH r start,0≤h∧h≤23
 bM:∀h∈timM r start,0≤h∧h≤59
 bS:∀h∈timS r start,0≤h∧h≤59
set_option maxRecDepth 100000 in
set_option maxHeartbeats 16000000 in
theorem ofDay_is (w:World) (S:RS) (r:Ru) (start n most:Int) (x:List Int) (h:RuAt w S r) (hm:mayR r=true) (hs:St.may start=true) (hd:isday n=true) (h9:90000≤most) (hx:ofDayL r start n=x):
  Calls Tryz.prog 146 #[S.val r,.int .i64 start,.int .i64 n,.int .i64 most] w fun e w'=>ListF w x e w':=by
 have RA:=Lib.hid h
 clear h
 obtain⟨d1,d2⟩:=of_decide_eq_true hd
 have HM:=Lib.hid hm
 have HS:=Lib.hid hs
 have HD:=Lib.hid hd
 have LX:=Lib.hid (hx ▸ ofDay_len (start:=start) hm hs hd)
 have MT:=Lib.hid (fun (h m c:Int) (h0:0≤h∧h≤23) (h1:0≤m∧m≤59) (h2:0≤c∧c≤59)=>show St.may (n*86400+3600*h+60*m+c)=true from decide_eq_true (by omega))
 have M0:=Lib.hid (show St.may (n*86400)=true from decide_eq_true (by omega))
 obtain⟨fb,hfb⟩:∃c,fitB r start n=c:=⟨_,rfl⟩
 obtain⟨a0,ha0⟩:∃c,alB r start (n*86400)=c:=⟨_,rfl⟩
 have HF:=Lib.hid hfb
 have HA:=Lib.hid ha0
 have N1:=Lib.hid (fun (e:fb=false∨(r.freq≤4∧a0=false))=>show x=[] by rw[←hx];unfold ofDayL;rw[hfb,ha0,if_pos e])
 have OK:=Lib.hid (fun (e:¬(fb=false∨(r.freq≤4∧a0=false)))=>show OfOk r start n x from ⟨by rw[←hx];unfold ofDayL;rw[hfb,ha0,if_neg e],LX.out,(timH_ok start hm).bd,(timM_ok start hm).bd,(timS_ok start hm).bd⟩)
 have T1:=Lib.hid (timH_ok start hm).len
 have T2:=Lib.hid (timM_ok start hm).len
 have T3:=Lib.hid (timS_ok start hm).len
 have W1:IntKind.i64.wrap (n*86400)=n*86400:=IntWalk.i64_in _ (by omega)
 clear hm hs hd hx hfb ha0
 obtain⟨ra6,rn6,rc6,ra7,rn7,rc7,ra8,rn8,rc8,ra9,rn9,rc9,ra10,rn10,rc10,ra11,rn11,rc11,ra12,rn12,rc12,ra13,rn13,rc13,ra14,rn14,rc14⟩:=S
 obtain⟨rfreq,ritv,rcnt,rtil,rwkst,rends,rmon,rweek,ryday,rmday,rday,rhour,rminu,rsec,rpos⟩:=r
 have N1:=Lib.hid (show fb=false∨(rfreq≤4∧a0=false)→x=[] from N1.out)
 have OK:=Lib.hid (show ¬(fb=false∨(rfreq≤4∧a0=false))→OfOk ⟨rfreq,ritv,rcnt,rtil,rwkst,rends,rmon,rweek,ryday,rmday,rday,rhour,rminu,rsec,rpos⟩ start n x from OK.out)
 have NIL:=Lib.hid (fun (e:Ending) (w':World) (q:x=[]) (he:e= .returned (.slice none 0 0)) (hb:Below w.heap.size w w')=>show ListF w x e w' by subst q;exact⟨none,0,he,IsAt.nil _ _,fun b off z=>(by cases z),hb⟩)
 show Calls Tryz.prog 146 #[.agg #[.int .i64 rfreq,.int .i64 ritv,.int .i64 rcnt,.int .i64 rtil,.int .i64 rwkst,.bool rends,.slice ra6 rn6 rc6,.slice ra7 rn7 rc7,.slice ra8 rn8 rc8,.slice ra9 rn9 rc9,.slice ra10 rn10 rc10,.slice ra11 rn11 rc11,.slice ra12 rn12 rc12,.slice ra13 rn13 rc13,.slice ra14 rn14 rc14],.int .i64 start,.int .i64 n,.int .i64 most] w _
 go_enter Tryz.func146,Tryz.ntmps146
 go_upto_region 2 with fail
 obtain⟨B0,Xr0⟩:=box_new w #[.int .i64 rfreq,.int .i64 ritv,.int .i64 rcnt,.int .i64 rtil,.int .i64 rwkst,.bool rends,.slice ra6 rn6 rc6,.slice ra7 rn7 rc7,.slice ra8 rn8 rc8,.slice ra9 rn9 rc9,.slice ra10 rn10 rc10,.slice ra11 rn11 rc11,.slice ra12 rn12 rc12,.slice ra13 rn13 rc13,.slice ra14 rn14 rc14] 25
 generalize w.alloc _=w0 at *
 obtain⟨bad,hbad⟩:∃c,(!fb||(decide (rfreq≤4) && !a0))=c:=⟨_,rfl⟩
 have BAD:=Lib.hid hbad
 have N1:=Lib.hid (fun (e:bad=true)=>N1.out (by
  rw[←hbad] at e
  cases fb
  ·exact .inl rfl
  ·cases a0
   ·exact .inr ⟨by simpa using e,rfl⟩
   ·simp at e))
 have OK:=Lib.hid (fun (e:bad=false)=>OK.out (by
  rw[←hbad] at e
  rintro(q|⟨q1,q2⟩)
  ·rw[q] at e;simp at e
  ·rw[q2,decide_eq_true q1] at e;simp at e))
 clear hbad
 go_cut [34] from 17 to 34 (fun s wx=>s= .bool bad∧Below w0.heap.size w0 wx)
 case first=>
  obtain⟨z0,z1,z2,z3,z4,z5,z6,z7,z8,z9,z10,z11,z12,z13,z14⟩:=cells15 Xr0
  go_wp2_with fail
  refine(fits6_is _ ⟨ra6,rn6,rc6,ra7,rn7,rc7,ra8,rn8,rc8,ra9,rn9,rc9,ra10,rn10,rc10,ra11,rn11,rc11,ra12,rn12,rc12,ra13,rn13,rc13,ra14,rn14,rc14⟩ ⟨rfreq,ritv,rcnt,rtil,rwkst,rends,rmon,rweek,ryday,rmday,rday,rhour,rminu,rsec,rpos⟩ start n fb (RA.out.below B0) HM.out HS.out HD.out HF.out).mono ?_
  rintro e w1 ⟨rfl,b1⟩
  clear z0 z1 z2 z3 z4 z5 z6 z7 z8 z9 z10 z11 z12 z13 z14
  cases fb
  ·have E:=Lib.hid (show true=bad by rw[←BAD.out];rfl)
   go_wp2
   go_meet
   exact⟨by rw[←E.out],b1⟩
  obtain⟨z0,z1,z2,z3,z4,z5,z6,z7,z8,z9,z10,z11,z12,z13,z14⟩:=cells15 (Xr0.below b1)
  by_cases c4:rfreq≤4
  ·have s4:decide (rfreq≤4)=true:=decide_eq_true c4
   go_wp2_with fail
   refine(aligned_is _ ⟨ra6,rn6,rc6,ra7,rn7,rc7,ra8,rn8,rc8,ra9,rn9,rc9,ra10,rn10,rc10,ra11,rn11,rc11,ra12,rn12,rc12,ra13,rn13,rc13,ra14,rn14,rc14⟩ ⟨rfreq,ritv,rcnt,rtil,rwkst,rends,rmon,rweek,ryday,rmday,rday,rhour,rminu,rsec,rpos⟩ start (n*86400) a0 (RA.out.below (B0.trans (b1.mono B0.size))) HM.out HS.out M0.out HA.out).mono ?_
   rintro e w2 ⟨rfl,b2⟩
   have E:=Lib.hid (show (!a0)=bad by rw[←BAD.out,s4];rfl)
   go_wp2
   go_meet
   exact⟨by rw[←E.out],b1.trans (b2.mono b1.size)⟩
  ·have s4:decide (rfreq≤4)=false:=decide_eq_false c4
   have E:=Lib.hid (show false=bad by rw[←BAD.out,s4];rfl)
   go_wp2
   go_meet
   exact⟨by rw[←E.out],b1⟩
 case rest=>
  obtain⟨rfl,b1⟩:=hcut
  rename World=>w1
  have B1:=B0.trans (b1.mono B0.size)
  have Xr1:=Xr0.below b1
  clear B0 Xr0
  clear b1 BAD
  cases bad
  rotate_left
  ·have XN:=Lib.hid (N1.out (by first|rfl|trivial))
   go_wp2
   go_ret
   exact NIL.out _ _ XN.out rfl B1
  obtain⟨EQ,-,bH,bM,bS⟩:=OK.out (by first|rfl|trivial)
  obtain⟨H,hH⟩:∃l,timH ⟨rfreq,ritv,rcnt,rtil,rwkst,rends,rmon,rweek,ryday,rmday,rday,rhour,rminu,rsec,rpos⟩ start=l:=⟨_,rfl⟩
  obtain⟨M,hM⟩:∃l,timM ⟨rfreq,ritv,rcnt,rtil,rwkst,rends,rmon,rweek,ryday,rmday,rday,rhour,rminu,rsec,rpos⟩ start=l:=⟨_,rfl⟩
  obtain⟨Sc,hSc⟩:∃l,timS ⟨rfreq,ritv,rcnt,rtil,rwkst,rends,rmon,rweek,ryday,rmday,rday,rhour,rminu,rsec,rpos⟩ start=l:=⟨_,rfl⟩
  have OM:=Lib.hid (fun h m=>show ofMin ⟨rfreq,ritv,rcnt,rtil,rwkst,rends,rmon,rweek,ryday,rmday,rday,rhour,rminu,rsec,rpos⟩ start n h m=if rfreq≤6∧alB ⟨rfreq,ritv,rcnt,rtil,rwkst,rends,rmon,rweek,ryday,rmday,rday,rhour,rminu,rsec,rpos⟩ start (n*86400+3600*h+60*m)=false then [] else minP ⟨rfreq,ritv,rcnt,rtil,rwkst,rends,rmon,rweek,ryday,rmday,rday,rhour,rminu,rsec,rpos⟩ start (n*86400+3600*h+60*m) Sc by unfold ofMin minP;rw[hSc])
  have TI:=Lib.hid (fun w0 h=>times7L_is w0 ⟨ra6,rn6,rc6,ra7,rn7,rc7,ra8,rn8,rc8,ra9,rn9,rc9,ra10,rn10,rc10,ra11,rn11,rc11,ra12,rn12,rc12,ra13,rn13,rc13,ra14,rn14,rc14⟩ ⟨rfreq,ritv,rcnt,rtil,rwkst,rends,rmon,rweek,ryday,rmday,rday,rhour,rminu,rsec,rpos⟩ start h HM.out HS.out)
  rw[hH,hM,hSc] at TI
  rw[hH] at EQ bH
  rw[hM] at EQ bM
  rw[hSc] at bS
  have t1:=T1.out
  have t2:=T2.out
  have t3:=T3.out
  rw[show timH ⟨rfreq,ritv,rcnt,rtil,rwkst,rends,rmon,rweek,ryday,rmday,rday,rhour,rminu,rsec,rpos⟩ start=H from hH] at t1
  rw[show timM ⟨rfreq,ritv,rcnt,rtil,rwkst,rends,rmon,rweek,ryday,rmday,rday,rhour,rminu,rsec,rpos⟩ start=M from hM] at t2
  rw[show timS ⟨rfreq,ritv,rcnt,rtil,rwkst,rends,rmon,rweek,ryday,rmday,rday,rhour,rminu,rsec,rpos⟩ start=Sc from hSc] at t3
  have EQ:=Lib.hid EQ
  have BH:=Lib.hid bH
  have BM:=Lib.hid bM
  have BS:=Lib.hid bS
  clear hH hM hSc bH bM bS OK N1 NIL T1 T2 T3 HF HA M0
  obtain⟨rz0,rz1,rz2,rz3,rz4,rz5,rz6,rz7,rz8,rz9,rz10,rz11,rz12,rz13,rz14⟩:=cells15 Xr1
  go_wp2_with fail
  refine(TI.out _ (RA.out.below B1)).mono ?_
  rintro e w2 ⟨A1,p1,A2,p2,A3,p3,rfl,o1,o2,o3,b2⟩
  clear rz0 rz1 rz2 rz3 rz4 rz5 rz6 rz7 rz8 rz9 rz10 rz11 rz12 rz13 rz14
  have B2:=B1.trans (b2.mono B1.size)
  have Xr2:=Xr1.below b2
  clear B1 Xr1
  have K1:=Lib.hid o1
  have K2:=Lib.hid o2
  have K3:=Lib.hid o3
  obtain⟨nh,hnh⟩:∃k,H.length=k:=⟨_,rfl⟩
  obtain⟨nm,hnm⟩:∃k,M.length=k:=⟨_,rfl⟩
  obtain⟨ns,hns⟩:∃k,Sc.length=k:=⟨_,rfl⟩
  rw[hnh] at K1 t1 ⊢
  rw[hnm] at K2 t2 ⊢
  rw[hns] at K3 t3 ⊢
  have LH:=Lib.hid hnh
  have LM:=Lib.hid hnm
  have LS:=Lib.hid hns
  clear o1 o2 o3 b2 hnh hnm hns TI
  have FM:=Lib.hid (fun (h:Int) (t1 t2 p:Nat) (e:t1<H.length) (e2:h=iat H t1) (f:t2<M.length) (g:p≤(ofMin ⟨rfreq,ritv,rcnt,rtil,rwkst,rends,rmon,rweek,ryday,rmday,rday,rhour,rminu,rsec,rpos⟩ start n h (iat M t2)).length)=>show ((H.take t1).flatMap fun h=>M.flatMap fun m=>ofMin ⟨rfreq,ritv,rcnt,rtil,rwkst,rends,rmon,rweek,ryday,rmday,rday,rhour,rminu,rsec,rpos⟩ start n h m).length+((M.take t2).flatMap fun m=>ofMin ⟨rfreq,ritv,rcnt,rtil,rwkst,rends,rmon,rweek,ryday,rmday,rday,rhour,rminu,rsec,rpos⟩ start n h m).length+p≤86400 by
   have a:=flat_le (F:=fun m=>ofMin ⟨rfreq,ritv,rcnt,rtil,rwkst,rends,rmon,rweek,ryday,rmday,rday,rhour,rminu,rsec,rpos⟩ start n h m) f g
   have b:=flat_le (F:=fun h=>M.flatMap fun m=>ofMin ⟨rfreq,ritv,rcnt,rtil,rwkst,rends,rmon,rweek,ryday,rmday,rday,rhour,rminu,rsec,rpos⟩ start n h m) (l:=H) e (k:=((M.take t2).flatMap fun m=>ofMin ⟨rfreq,ritv,rcnt,rtil,rwkst,rends,rmon,rweek,ryday,rmday,rday,rhour,rminu,rsec,rpos⟩ start n h m).length+p) (by rw[←e2];exact a)
   rw[EQ.out] at b
   have:=LX.out
   omega)
  focus
   go_wp2
   go_loopw [9,13] (fun ov i wr=>∃(v:Value) (t1:Nat) (acc:List Int),t1≤nh∧v=ov∧i= .int .i64 t1∧OwnI w2 wr v acc∧Hid ((H.take t1).flatMap (fun h=>M.flatMap fun m=>ofMin ⟨rfreq,ritv,rcnt,rtil,rwkst,rends,rmon,rweek,ryday,rmday,rday,rhour,rminu,rsec,rpos⟩ start n h m)=acc)∧Below w2.heap.size w2 wr) (fun _ i _=>nh-(intOf i).toNat)
   case atStart=>exact⟨_,0,[],Nat.zero_le _,rfl,rfl,OwnI.nil _ _,Lib.hid (by simp),Below.refl _ _⟩
   case round=>
    obtain⟨v1,t1,acc1,ht1,rfl,rfl,ov1,D1,q1⟩:=hrel
    rename World=>w3
    have OV1:=Lib.hid ov1
    clear ov1
    by_cases hlt1:t1<nh
    rotate_left
    ·obtain rfl:nh=t1:=by omega
     have s0:decide ((nh:Int)<nh)=false:=decide_eq_false (by omega)
     have E1:=Lib.hid (show x=acc1 by rw[←EQ.out,←D1.out,List.take_of_length_le (by rw[LH.out];exact Nat.le_refl _)])
     have BF:=B2.trans (q1.mono B2.size)
     go_wp2
     go_ret
     obtain⟨A,c,rfl,ia,-,-⟩:=OV1.out.at_
     have e:=E1.out
     subst e
     exact⟨A,c,rfl,ia,fresh_mono OV1.out.fresh B2.size,BF⟩
    have s1:decide ((t1:Int)<nh)=true:=decide_eq_true (by omega)
    have s11:decide (t1<nh)=true:=decide_eq_true hlt1
    obtain⟨bh,bH⟩:=BH.out (iat H t1) (by rw[iat_lt (by rw[LH.out];exact hlt1)];exact List.getElem_mem _)
    have N1:=Lib.hid (flat_nx (F:=(fun h=>M.flatMap fun m=>ofMin ⟨rfreq,ritv,rcnt,rtil,rwkst,rends,rmon,rweek,ryday,rmday,rday,rhour,rminu,rsec,rpos⟩ start n h m)) (l:=H) (t:=t1) (by rw[LH.out];exact hlt1))
    have HL:=Lib.hid (show t1<H.length by rw[LH.out];exact hlt1)
    have TL:=Lib.hid hlt1
    obtain⟨g,hg⟩:∃g,iat H t1=g:=⟨_,rfl⟩
    have GG:=Lib.hid hg
    rw[hg] at bh bH N1
    clear hg
    go_wp2
    go_loopw [9,14] (fun ov i wr=>∃(v:Value) (t2:Nat) (acc:List Int),t2≤nm∧v=ov∧i= .int .i64 t2∧OwnI w2 wr v acc∧Hid (acc1++(M.take t2).flatMap (fun m=>ofMin ⟨rfreq,ritv,rcnt,rtil,rwkst,rends,rmon,rweek,ryday,rmday,rday,rhour,rminu,rsec,rpos⟩ start n g m)=acc)∧Below w2.heap.size w2 wr) (fun _ i _=>nm-(intOf i).toNat)
    case atStart=>exact⟨_,0,acc1,Nat.zero_le _,rfl,rfl,OV1.out,Lib.hid (by simp),q1⟩
    case round=>
     obtain⟨v2,t2,acc2,ht2,rfl,rfl,ov2,D2,q2⟩:=hrel
     rename World=>w4
     have OV2:=Lib.hid ov2
     clear ov2
     by_cases hlt2:t2<nm
     rotate_left
     ·obtain rfl:nm=t2:=by omega
      have s2:decide ((nm:Int)<nm)=false:=decide_eq_false (by omega)
      have E2:=Lib.hid (show acc1++M.flatMap (fun m=>ofMin ⟨rfreq,ritv,rcnt,rtil,rwkst,rends,rmon,rweek,ryday,rmday,rday,rhour,rminu,rsec,rpos⟩ start n g m)=acc2 by rw[←D2.out,List.take_of_length_le (by rw[LM.out];exact Nat.le_refl _)])
      go_wp2
      go_roundw
      case rel=>exact⟨v2,t1+1,acc2,by omega,rfl,by go_num,OV2.out,Lib.hid (by rw[N1.out,D1.out];exact E2.out),q2⟩
      case measure=>simp[intOf];omega
     have s2:decide ((t2:Int)<nm)=true:=decide_eq_true (by omega)
     have s22:decide (t2<nm)=true:=decide_eq_true hlt2
     obtain⟨m0,m1⟩:=BM.out (iat M t2) (by rw[iat_lt (by rw[LM.out];exact hlt2)];exact List.getElem_mem _)
     have N2:=Lib.hid (flat_nx (F:=fun m=>ofMin ⟨rfreq,ritv,rcnt,rtil,rwkst,rends,rmon,rweek,ryday,rmday,rday,rhour,rminu,rsec,rpos⟩ start n g m) (l:=M) (t:=t2) (by rw[LM.out];exact hlt2))
     have RM:=Lib.hid (fun (p:Nat) (f:p≤(ofMin ⟨rfreq,ritv,rcnt,rtil,rwkst,rends,rmon,rweek,ryday,rmday,rday,rhour,rminu,rsec,rpos⟩ start n g (iat M t2)).length)=>FM.out g t1 t2 p HL.out GG.out.symm (by rw[LM.out];exact hlt2) f)
     obtain⟨bl1,of1,ea1,hl1,hc1⟩:=K1.out.2 (show 0<nh by omega)
     subst ea1
     obtain⟨bl2,of2,ea2,hl2,hc2⟩:=K2.out.2 (show 0<nm by omega)
     subst ea2
     have CH:=Lib.hid (show w2.cell? ⟨bl1,of1+t1,none⟩=some (.int .i64 g) by rw[←GG.out];exact hc1 t1 TL.out)
     have LH1:=Lib.hid hl1
     have LM1:=Lib.hid hl2
     obtain⟨f,hf⟩:∃f,iat M t2=f:=⟨_,rfl⟩
     have CM:=Lib.hid (show w2.cell? ⟨bl2,of2+t2,none⟩=some (.int .i64 f) by rw[←hf];exact hc2 t2 hlt2)
     rw[hf] at m0 m1 N2 RM
     clear hc1 hc2 hf hl1 hl2
     have V1:IntKind.i64.wrap (3600*g)=3600*g:=IntWalk.i64_in _ (by omega)
     have V2:IntKind.i64.wrap (n*86400+3600*g)=n*86400+3600*g:=IntWalk.i64_in _ (by omega)
     have V3:IntKind.i64.wrap (60*f)=60*f:=IntWalk.i64_in _ (by omega)
     obtain⟨b,hb⟩:∃b,n*86400+3600*g+60*f=b:=⟨_,rfl⟩
     have V4:IntKind.i64.wrap (n*86400+3600*g+60*f)=b:=by rw[←hb];exact IntWalk.i64_in _ (by omega)
     have bb:n*86400≤b∧b≤n*86400+86340:=by omega
     have MB:=Lib.hid (show St.may b=true from decide_eq_true (by omega))
     obtain⟨am,ham⟩:∃c,alB ⟨rfreq,ritv,rcnt,rtil,rwkst,rends,rmon,rweek,ryday,rmday,rday,rhour,rminu,rsec,rpos⟩ start b=c:=⟨_,rfl⟩
     have HAM:=Lib.hid ham
     obtain⟨c6,hc6⟩:∃c,decide (rfreq≤6)=c:=⟨_,rfl⟩
     obtain⟨e6,he6⟩:∃c,(c6 && !am)=c:=⟨_,rfl⟩
     have HE6:=Lib.hid he6
     have O0:=Lib.hid (fun (z:e6=true)=>show ofMin ⟨rfreq,ritv,rcnt,rtil,rwkst,rends,rmon,rweek,ryday,rmday,rday,rhour,rminu,rsec,rpos⟩ start n g f=[] by
      rw[OM.out,hb,ham,if_pos]
      rw[←he6,←hc6,Bool.and_eq_true] at z
      exact⟨of_decide_eq_true z.1,by simpa using z.2⟩)
     have O1:=Lib.hid (fun (z:e6=false)=>show ofMin ⟨rfreq,ritv,rcnt,rtil,rwkst,rends,rmon,rweek,ryday,rmday,rday,rhour,rminu,rsec,rpos⟩ start n g f=minP ⟨rfreq,ritv,rcnt,rtil,rwkst,rends,rmon,rweek,ryday,rmday,rday,rhour,rminu,rsec,rpos⟩ start b Sc by
      rw[OM.out,hb,ham,if_neg]
      rintro⟨z1,z2⟩
      rw[←he6,←hc6,z2,decide_eq_true z1] at z
      cases z)
     clear ham he6 hb
     have BM1:=B2.trans (q2.mono B2.size)
     have XM:=Xr2.below q2
     have u1:decide (nh≤t1)=false:=decide_eq_false (by have:=TL.out;omega)
     have u2:decide (nm≤t2)=false:=decide_eq_false (by omega)
     have u3:(t1:Int)<nh:=by have:=TL.out;omega
     have u4:(t2:Int)<nm:=by omega
     have Q2:=Lib.hid q2
     go_upto_region 11 with fail
     refine wp_region_late (fun _=>false) (fun v=>Below w4.heap.size w4 v) (by kernel_rfl) ?_
     have D0:Below w4.heap.size w4 w4.drew:=(Below.refl _ _).drew
     generalize w4.drew=v0 at *
     refine tk 0 rfl (.pointer (some ⟨w.heap.size,0,none⟩)) (.inl ⟨by kernel_rfl,fun w' hs=>by
       go_simp⟩) D0 ?_
     refine tk 1 rfl (.int .i64 rfreq) (.inl ⟨by kernel_rfl,fun w' hs=>by
       have zz:w'.cell? ⟨w.heap.size,0,none⟩=some (.int .i64 rfreq):=(XM.below hs).at_ 0 _ rfl
       go_simp⟩) D0 ?_
     refine tk 2 rfl (.bool c6) (.inl ⟨by kernel_rfl,fun w' hs=>by
       go_simp⟩) D0 ?_
     refine tk 3 rfl (.bool c6) (.inl ⟨by kernel_rfl,fun w' hs=>by
       go_simp⟩) D0 ?_
     refine tk 4 rfl ((bif c6 then .agg #[.int .i64 rfreq,.int .i64 ritv,.int .i64 rcnt,.int .i64 rtil,.int .i64 rwkst,.bool rends,.slice ra6 rn6 rc6,.slice ra7 rn7 rc7,.slice ra8 rn8 rc8,.slice ra9 rn9 rc9,.slice ra10 rn10 rc10,.slice ra11 rn11 rc11,.slice ra12 rn12 rc12,.slice ra13 rn13 rc13,.slice ra14 rn14 rc14] else undef)) (by
      cases c6<;>first|exact .inr ⟨by kernel_rfl,rfl⟩|exact .inl ⟨by kernel_rfl,fun w' hs=>by
       obtain⟨z0,z1,z2,z3,z4,z5,z6,z7,z8,z9,z10,z11,z12,z13,z14⟩:=cells15 (XM.below hs)
       go_simp⟩) D0 ?_
     refine tk 5 rfl ((bif c6 then .int .i64 start else undef)) (by
      cases c6<;>first|exact .inr ⟨by kernel_rfl,rfl⟩|exact .inl ⟨by kernel_rfl,fun w' hs=>by
       go_simp⟩) D0 ?_
     refine tk 6 rfl ((bif c6 then .int .i64 n else undef)) (by
      cases c6<;>first|exact .inr ⟨by kernel_rfl,rfl⟩|exact .inl ⟨by kernel_rfl,fun w' hs=>by
       go_simp⟩) D0 ?_
     refine tk 7 rfl ((bif c6 then .int .i64 (n*86400) else undef)) (by
      cases c6<;>first|exact .inr ⟨by kernel_rfl,rfl⟩|exact .inl ⟨by kernel_rfl,fun w' hs=>by
       go_simp⟩) D0 ?_
     refine tk 8 rfl ((bif c6 then .slice (some ⟨bl1,of1,none⟩) nh p1 else undef)) (by
      cases c6<;>first|exact .inr ⟨by kernel_rfl,rfl⟩|exact .inl ⟨by kernel_rfl,fun w' hs=>by
       go_simp⟩) D0 ?_
     refine tk 9 rfl ((bif c6 then .int .i64 (t1:Int) else undef)) (by
      cases c6<;>first|exact .inr ⟨by kernel_rfl,rfl⟩|exact .inl ⟨by kernel_rfl,fun w' hs=>by
       go_simp⟩) D0 ?_
     refine tk 10 rfl ((bif c6 then .pointer (some ⟨bl1,of1+t1,none⟩) else undef)) (by
      cases c6<;>first|exact .inr ⟨by kernel_rfl,rfl⟩|exact .inl ⟨by kernel_rfl,fun w' hs=>by
       go_simp⟩) D0 ?_
     refine tk 11 rfl ((bif c6 then .int .i64 g else undef)) (by
      cases c6<;>first|exact .inr ⟨by kernel_rfl,rfl⟩|exact .inl ⟨by kernel_rfl,fun w' hs=>by
       have zz:w'.cell? ⟨bl1,of1+t1,none⟩=some (.int .i64 g):=((Q2.out.trans (hs.mono Q2.out.size)).cell (p:=⟨bl1,_,none⟩) LH1.out).trans CH.out
       go_simp⟩) D0 ?_
     refine tk 12 rfl ((bif c6 then .int .i64 (3600*g) else undef)) (by
      cases c6<;>first|exact .inr ⟨by kernel_rfl,rfl⟩|exact .inl ⟨by kernel_rfl,fun w' hs=>by
       go_simp⟩) D0 ?_
     refine tk 13 rfl ((bif c6 then .int .i64 (n*86400+3600*g) else undef)) (by
      cases c6<;>first|exact .inr ⟨by kernel_rfl,rfl⟩|exact .inl ⟨by kernel_rfl,fun w' hs=>by
       go_simp⟩) D0 ?_
     go_simp
     refine tk 14 rfl ((bif c6 then .slice (some ⟨bl2,of2,none⟩) nm p2 else undef)) (by
      cases c6<;>first|exact .inr ⟨by kernel_rfl,rfl⟩|exact .inl ⟨by kernel_rfl,fun w' hs=>by
       go_simp⟩) D0 ?_
     refine tk 15 rfl ((bif c6 then .int .i64 (t2:Int) else undef)) (by
      cases c6<;>first|exact .inr ⟨by kernel_rfl,rfl⟩|exact .inl ⟨by kernel_rfl,fun w' hs=>by
       go_simp⟩) D0 ?_
     refine tk 16 rfl ((bif c6 then .pointer (some ⟨bl2,of2+t2,none⟩) else undef)) (by
      cases c6<;>first|exact .inr ⟨by kernel_rfl,rfl⟩|exact .inl ⟨by kernel_rfl,fun w' hs=>by
       go_simp⟩) D0 ?_
     refine tk 17 rfl ((bif c6 then .int .i64 f else undef)) (by
      cases c6<;>first|exact .inr ⟨by kernel_rfl,rfl⟩|exact .inl ⟨by kernel_rfl,fun w' hs=>by
       have zz:w'.cell? ⟨bl2,of2+t2,none⟩=some (.int .i64 f):=((Q2.out.trans (hs.mono Q2.out.size)).cell (p:=⟨bl2,_,none⟩) LM1.out).trans CM.out
       go_simp⟩) D0 ?_
     refine tk 18 rfl ((bif c6 then .int .i64 (60*f) else undef)) (by
      cases c6<;>first|exact .inr ⟨by kernel_rfl,rfl⟩|exact .inl ⟨by kernel_rfl,fun w' hs=>by
       go_simp⟩) D0 ?_
     refine tk 19 rfl ((bif c6 then .int .i64 b else undef)) (by
      cases c6<;>first|exact .inr ⟨by kernel_rfl,rfl⟩|exact .inl ⟨by kernel_rfl,fun w' hs=>by
       go_simp⟩) D0 ?_
     go_simp
     refine late_call 20 (c6) (.bool am) rfl (by kernel_rfl) (by cases c6<;>kernel_rfl) (fun hc => ?_) D0 (fun x1 Y1 => ?_)
     ·cases c6<;>first|(exact absurd hc (by decide))|skip
      have C:=BM1.trans (D0.mono BM1.size)
      go_simp
      refine(aligned_is _ ⟨ra6,rn6,rc6,ra7,rn7,rc7,ra8,rn8,rc8,ra9,rn9,rc9,ra10,rn10,rc10,ra11,rn11,rc11,ra12,rn12,rc12,ra13,rn13,rc13,ra14,rn14,rc14⟩ ⟨rfreq,ritv,rcnt,rtil,rwkst,rends,rmon,rweek,ryday,rmday,rday,rhour,rminu,rsec,rpos⟩ start b am (RA.out.below C) HM.out HS.out MB.out HAM.out).mono ?_
      rintro e w' ⟨rfl,y⟩
      exact⟨rfl,D0.trans (y.mono D0.size)⟩
     refine tk 21 rfl ((bif c6 then .bool (!am) else undef)) (by
      cases c6<;>first|exact .inr ⟨by kernel_rfl,rfl⟩|exact .inl ⟨by kernel_rfl,fun w' hs=>by
       go_simp⟩) Y1 ?_
     refine tk 22 rfl (.bool (c6 && !am)) (by
      cases c6<;>first|exact .inr ⟨by kernel_rfl,rfl⟩|exact .inl ⟨by kernel_rfl,fun w' hs=>by
       go_simp⟩) Y1 ?_
     rw[HE6.out]
     go_simp
     refine Late.done (by kernel_rfl) ?_
     have q3:=Q2.out.trans (Y1.mono Q2.out.size)
     clear s1 s11 s2 s22 hc6 D0
     cases e6
     rotate_left
     ·have E2:=Lib.hid (show acc1++(M.take (t2+1)).flatMap (fun m=>ofMin ⟨rfreq,ritv,rcnt,rtil,rwkst,rends,rmon,rweek,ryday,rmday,rday,rhour,rminu,rsec,rpos⟩ start n g m)=acc2 by rw[N2.out,O0.out (by first|rfl|trivial),List.append_nil];exact D2.out)
      have OV3:=Lib.hid (OV2.out.on Y1)
      go_wp2
      go_roundw
      case rel=>exact⟨v2,t2+1,acc2,by omega,rfl,by go_num,OV3.out,E2,q3⟩
      case measure=>simp[intOf];omega
     have OV3:=Lib.hid (OV2.out.on Y1)
     generalize x1=w5 at *
     focus
      go_wp2
      go_loopw [9,15] (fun ov i wr=>∃(v:Value) (t3:Nat) (acc:List Int),t3≤ns∧v=ov∧i= .int .i64 t3∧OwnI w2 wr v acc∧Hid (acc2++minP ⟨rfreq,ritv,rcnt,rtil,rwkst,rends,rmon,rweek,ryday,rmday,rday,rhour,rminu,rsec,rpos⟩ start b (Sc.take t3)=acc)∧Below w2.heap.size w2 wr) (fun _ i _=>ns-(intOf i).toNat)
      case atStart=>exact⟨_,0,acc2,Nat.zero_le _,rfl,rfl,OV3.out,Lib.hid (by simp[minP]),q3⟩
      case round=>
       obtain⟨v4,t3,acc3,ht3,rfl,rfl,ov4,D3,q4⟩:=hrel
       rename World=>w6
       have OV4:=Lib.hid ov4
       clear ov4
       have B4:=B2.trans (q4.mono B2.size)
       have X4:=Xr2.below q4
       by_cases hlt3:t3<ns
       rotate_left
       ·obtain rfl:ns=t3:=by omega
        have s3:decide ((ns:Int)<ns)=false:=decide_eq_false (by omega)
        have E2:=Lib.hid (show acc1++(M.take (t2+1)).flatMap (fun m=>ofMin ⟨rfreq,ritv,rcnt,rtil,rwkst,rends,rmon,rweek,ryday,rmday,rday,rhour,rminu,rsec,rpos⟩ start n g m)=acc3 by
         have e:=D3.out
         rw[List.take_of_length_le (l:=Sc) (by rw[LS.out];exact Nat.le_refl _)] at e
         rw[N2.out,O1.out (by first|rfl|trivial),←e,←D2.out,List.append_assoc])
        go_wp2
        go_roundw
        case rel=>exact⟨v4,t2+1,acc3,by omega,rfl,by go_num,OV4.out,E2,q4⟩
        case measure=>simp[intOf];omega
       have s3:decide ((t3:Int)<ns)=true:=decide_eq_true (by omega)
       have s33:decide (t3<ns)=true:=decide_eq_true hlt3
       obtain⟨z0,z1⟩:=BS.out (iat Sc t3) (by rw[iat_lt (by rw[LS.out];exact hlt3)];exact List.getElem_mem _)
       have N3:=Lib.hid (minP_nx (r:=⟨rfreq,ritv,rcnt,rtil,rwkst,rends,rmon,rweek,ryday,rmday,rday,rhour,rminu,rsec,rpos⟩) (start:=start) (b:=b) (l:=Sc) (t:=t3) (by rw[LS.out];exact hlt3))
       have R3:=RM.out _ (show (minP ⟨rfreq,ritv,rcnt,rtil,rwkst,rends,rmon,rweek,ryday,rmday,rday,rhour,rminu,rsec,rpos⟩ start b (Sc.take (t3+1))).length≤(ofMin ⟨rfreq,ritv,rcnt,rtil,rwkst,rends,rmon,rweek,ryday,rmday,rday,rhour,rminu,rsec,rpos⟩ start n g f).length by rw[O1.out (by first|rfl|trivial)];exact minP_le (t3+1))
       rw[D1.out,N3.out,List.length_append] at R3
       have L3:acc3.length=acc1.length+((M.take t2).flatMap fun m=>ofMin ⟨rfreq,ritv,rcnt,rtil,rwkst,rends,rmon,rweek,ryday,rmday,rday,rhour,rminu,rsec,rpos⟩ start n g m).length+(minP ⟨rfreq,ritv,rcnt,rtil,rwkst,rends,rmon,rweek,ryday,rmday,rday,rhour,rminu,rsec,rpos⟩ start b (Sc.take t3)).length:=by rw[←D3.out,←D2.out,List.length_append,List.length_append]
       obtain⟨bl3,of3,ea3,hl3,hc3⟩:=K3.out.2 (show 0<ns by omega)
       subst ea3
       have LS1:=Lib.hid hl3
       obtain⟨q,hq⟩:∃q,iat Sc t3=q:=⟨_,rfl⟩
       have CS:=Lib.hid (show w2.cell? ⟨bl3,of3+t3,none⟩=some (.int .i64 q) by rw[←hq];exact hc3 t3 hlt3)
       rw[hq] at z0 z1 N3 R3
       clear hc3 hq hl3
       have V5:IntKind.i64.wrap (b+q)=b+q:=IntWalk.i64_in _ (by omega)
       have MY:=Lib.hid (show St.may (b+q)=true from decide_eq_true (by omega))
       obtain⟨y,hy⟩:∃c,alB ⟨rfreq,ritv,rcnt,rtil,rwkst,rends,rmon,rweek,ryday,rmday,rday,rhour,rminu,rsec,rpos⟩ start (b+q)=c:=⟨_,rfl⟩
       have HY:=Lib.hid hy
       rw[hy] at N3 R3
       clear hy
       have R4:=Lib.hid R3
       have N4:=Lib.hid L3
       have u5:decide (ns≤t3)=false:=decide_eq_false (by omega)
       have u6:(t3:Int)<ns:=by omega
       have Q4:=Lib.hid q4
       clear R3 L3
       go_upto_region 15 with fail
       refine wp_region_late (fun _=>false) (fun v=>Below w6.heap.size w6 v) (by kernel_rfl) ?_
       have D0:Below w6.heap.size w6 w6.drew:=(Below.refl _ _).drew
       generalize w6.drew=v0 at *
       refine tk 0 rfl (.int .i64 n) (.inl ⟨by kernel_rfl,fun w' hs=>by
         go_simp⟩) D0 ?_
       refine tk 1 rfl (.int .i64 (n*86400)) (.inl ⟨by kernel_rfl,fun w' hs=>by
         go_simp⟩) D0 ?_
       refine tk 2 rfl (.slice (some ⟨bl1,of1,none⟩) nh p1) (.inl ⟨by kernel_rfl,fun w' hs=>by
         go_simp⟩) D0 ?_
       refine tk 3 rfl (.int .i64 (t1:Int)) (.inl ⟨by kernel_rfl,fun w' hs=>by
         go_simp⟩) D0 ?_
       refine tk 4 rfl (.pointer (some ⟨bl1,of1+t1,none⟩)) (.inl ⟨by kernel_rfl,fun w' hs=>by
         go_simp⟩) D0 ?_
       refine tk 5 rfl (.int .i64 g) (.inl ⟨by kernel_rfl,fun w' hs=>by
         have zz:w'.cell? ⟨bl1,of1+t1,none⟩=some (.int .i64 g):=((Q4.out.trans (hs.mono Q4.out.size)).cell (p:=⟨bl1,_,none⟩) LH1.out).trans CH.out
         go_simp⟩) D0 ?_
       refine tk 6 rfl (.int .i64 (3600*g)) (.inl ⟨by kernel_rfl,fun w' hs=>by
         go_simp⟩) D0 ?_
       refine tk 7 rfl (.int .i64 (n*86400+3600*g)) (.inl ⟨by kernel_rfl,fun w' hs=>by
         go_simp⟩) D0 ?_
       refine tk 8 rfl (.slice (some ⟨bl2,of2,none⟩) nm p2) (.inl ⟨by kernel_rfl,fun w' hs=>by
         go_simp⟩) D0 ?_
       go_simp
       refine tk 9 rfl (.int .i64 (t2:Int)) (.inl ⟨by kernel_rfl,fun w' hs=>by
         go_simp⟩) D0 ?_
       refine tk 10 rfl (.pointer (some ⟨bl2,of2+t2,none⟩)) (.inl ⟨by kernel_rfl,fun w' hs=>by
         go_simp⟩) D0 ?_
       refine tk 11 rfl (.int .i64 f) (.inl ⟨by kernel_rfl,fun w' hs=>by
         have zz:w'.cell? ⟨bl2,of2+t2,none⟩=some (.int .i64 f):=((Q4.out.trans (hs.mono Q4.out.size)).cell (p:=⟨bl2,_,none⟩) LM1.out).trans CM.out
         go_simp⟩) D0 ?_
       refine tk 12 rfl (.int .i64 (60*f)) (.inl ⟨by kernel_rfl,fun w' hs=>by
         go_simp⟩) D0 ?_
       refine tk 13 rfl (.int .i64 b) (.inl ⟨by kernel_rfl,fun w' hs=>by
         go_simp⟩) D0 ?_
       refine tk 14 rfl (.slice (some ⟨bl3,of3,none⟩) ns p3) (.inl ⟨by kernel_rfl,fun w' hs=>by
         go_simp⟩) D0 ?_
       refine tk 15 rfl (.int .i64 (t3:Int)) (.inl ⟨by kernel_rfl,fun w' hs=>by
         go_simp⟩) D0 ?_
       refine tk 16 rfl (.pointer (some ⟨bl3,of3+t3,none⟩)) (.inl ⟨by kernel_rfl,fun w' hs=>by
         go_simp⟩) D0 ?_
       refine tk 17 rfl (.int .i64 q) (.inl ⟨by kernel_rfl,fun w' hs=>by
         have zz:w'.cell? ⟨bl3,of3+t3,none⟩=some (.int .i64 q):=((Q4.out.trans (hs.mono Q4.out.size)).cell (p:=⟨bl3,_,none⟩) LS1.out).trans CS.out
         go_simp⟩) D0 ?_
       refine tk 18 rfl (.int .i64 (b+q)) (.inl ⟨by kernel_rfl,fun w' hs=>by
         go_simp⟩) D0 ?_
       refine tk 19 rfl (.int .i64 (b+q)) (.inl ⟨by kernel_rfl,fun w' hs=>by
         go_simp⟩) D0 ?_
       go_simp
       refine Late.done (by kernel_rfl) ?_
       have q5:=Q4.out.trans (D0.mono Q4.out.size)
       have B5:=B2.trans (q5.mono B2.size)
       have X5:=Xr2.below q5
       have OV5:=Lib.hid (OV4.out.on D0)
       clear D0 B4 X4
       generalize v0=w7 at *
       obtain⟨z0,z1,z2,z3,z4,z5,z6,z7,z8,z9,z10,z11,z12,z13,z14⟩:=cells15 X5
       go_wp2_with fail
       refine(aligned_is _ ⟨ra6,rn6,rc6,ra7,rn7,rc7,ra8,rn8,rc8,ra9,rn9,rc9,ra10,rn10,rc10,ra11,rn11,rc11,ra12,rn12,rc12,ra13,rn13,rc13,ra14,rn14,rc14⟩ ⟨rfreq,ritv,rcnt,rtil,rwkst,rends,rmon,rweek,ryday,rmday,rday,rhour,rminu,rsec,rpos⟩ start (b+q) y (RA.out.below B5) HM.out HS.out MY.out HY.out).mono ?_
       rintro e w8 ⟨rfl,b9⟩
       have q9:=q5.trans (b9.mono q5.size)
       have OV9:=Lib.hid (OV5.out.on b9)
       clear z0 z1 z2 z3 z4 z5 z6 z7 z8 z9 z10 z11 z12 z13 z14 b9
       cases y
       ·have E3:=Lib.hid (show acc2++minP ⟨rfreq,ritv,rcnt,rtil,rwkst,rends,rmon,rweek,ryday,rmday,rday,rhour,rminu,rsec,rpos⟩ start b (Sc.take (t3+1))=acc3 by rw[N3.out,if_neg (by decide),List.append_nil];exact D3.out)
        have lk:=R4.out
        rw[if_neg (by decide)] at lk
        have n4:=N4.out
        simp only[List.length_nil] at lk
        obtain⟨A,c,ev,-,-,-⟩:=OV9.out.at_
        subst ev
        obtain⟨k,hk⟩:∃k,acc3.length=k:=⟨_,rfl⟩
        have HK:=Lib.hid hk
        rw[hk] at OV9 ⊢
        have s6:decide (most<(k:Int))=false:=decide_eq_false (by omega)
        clear hk
        go_wp2
        go_roundw
        case rel=>exact⟨_,t3+1,acc3,by omega,rfl,by go_num,OV9.out,E3,q9⟩
        case measure=>simp[intOf];omega
       ·have E3:=Lib.hid (show acc2++minP ⟨rfreq,ritv,rcnt,rtil,rwkst,rends,rmon,rweek,ryday,rmday,rday,rhour,rminu,rsec,rpos⟩ start b (Sc.take (t3+1))=acc3++[b+q] by rw[N3.out,if_pos rfl,←List.append_assoc,D3.out])
        have lk:=R4.out
        rw[if_pos rfl] at lk
        have n4:=N4.out
        simp only[List.length_cons,List.length_nil] at lk
        have R:acc3.length≤1000000:=by omega
        go_wp2_with (at_builtin;refine append_num rfl _ _ rfl _ acc3 rfl OV9.out q9 _ _ _ rfl R ?_)
        intro v6 w6 ow6 hb6
        have OW:=Lib.hid ow6
        obtain⟨A,c,ev,-,-,-⟩:=ow6.at_
        clear ow6
        subst ev
        obtain⟨k,hk⟩:∃k,(acc3++[b+q]).length=k:=⟨_,rfl⟩
        have hk2:=hk
        rw[List.length_append] at hk2
        simp only[List.length_cons,List.length_nil] at hk2
        rw[hk] at OW ⊢
        have s6:decide (most<(k:Int))=false:=decide_eq_false (by omega)
        clear hk
        go_wp2
        go_roundw
        case rel=>exact⟨_,t3+1,acc3++[b+q],by omega,rfl,by go_num,OW.out,E3,hb6⟩
        case measure=>simp[intOf];omega
end Go.Proofs.YtchpjhjjakckbaaGreatDoor.Ex
