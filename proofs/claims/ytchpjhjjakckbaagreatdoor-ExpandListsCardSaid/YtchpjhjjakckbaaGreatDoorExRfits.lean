/- The walk of vokref6's fits. -/
import Derived.Test.YtchpjhjjakckbaaGreatDoorRuBx
import Derived.Test.YtchpjhjjakckbaaGreatDoorExR1
set_option linter.unusedVariables false
namespace Go.Proofs.YtchpjhjjakckbaaGreatDoor.Ex
open Go.RowKit Cv St Ru Dd Mb
section
variable {P:Program} {ops:Array Oper} {Q:Exit→Act→World→Prop} {md:Region.Mode} {S:World→Prop} {late:Nat→Bool}
theorem late_call (i:Nat) {o:Oper} (c:Bool) (b:Value) {g:Nat} {listed:Array Bool} {a:Act} {w:World} (ho:ops[i]? = some o) (hr:Region.ready md ops listed=[i]) (hw:Region.wanted o (yielded ops a.tmps)=c)
  (hcall:c=true→Oper.wp P o a w (fun a' w'=>a'=a.put o.dst b∧S w') Q) (hS:S w)
  (rest:∀w',S w'→Late P md ops Q S late g (listed.setIfInBounds i true) (a.put o.dst (bif c then b else undef)) w'):Late P md ops Q S late (g+1) listed a w:=by
 unfold Late
 refine⟨fun e=>absurd (hr ▸ e) (by simp),fun k hk => ?_⟩
 rw[hr] at hk
 obtain rfl:=List.mem_singleton.1 hk
 have key:wpOp P ops Q k (fun b v=>(late k=true∨S v)∧Late P md ops Q S late g (listed.setIfInBounds k true) b v) a w:=by
  cases c
  ·unfold wpOp
   simp only[ho]
   rw[if_neg (by rw[hw];decide)]
   exact⟨.inr hS,rest w hS⟩
  ·have h2:wpOp P ops Q k (fun a' w'=>a'=a.put o.dst b∧S w') a w:=by
    unfold wpOp
    simp only[ho]
    rw[if_pos hw]
    exact .inl (hcall rfl)
   refine wpOp_mono (fun a' w' q => ?_) h2
   obtain⟨rfl,h⟩:=q
   exact⟨.inr h,rest w' h⟩
 exact key
end
theorem bool5:∀(c1 c2 c3 c4 c5 bm bw b8 b9 bf:Bool),(c1=false→bm=true)→(c2=false→bw=true)→(c3=false→b8=true)→(c4=false→b9=true)→(c5=false→bf=true)→
  (!(bm&&bw&&(b8&&b9)&&bf))=(((((c1 && !bm)||(c2 && !bw))||(c3 && !b8))||(c4 && !b9))||(c5 && !bf)):=by decide +kernel
theorem ryd_yes (d:Int) (w:World) (h1:-719162≤d) (h2:d≤2932896):
  Calls Tryz.prog 269 #[.int .i64 d] w fun e w'=>e= .returned (.tuple #[.int .i64 (yr d),.int .i64 (yd d),.int .i64 0])∧w=w':=ryearDay_yes d w h1 h2
theorem has_ne {l:List Int} {f b:Int} {n:Nat} (hn:n=l.length) (h:0<n) (x:Bool) (hx:hasB l f b=x):decide (f∈l∨b∈l)=x:=by
 have:l≠[]:=fun e=>by rw[e] at hn;simp at hn;omega
 rw[←hx]
 unfold hasB
 simp[this]
theorem has_ne1 {l:List Int} {f:Int} {n:Nat} (hn:n=l.length) (h:0<n) (x:Bool) (hx:hasB l f f=x):decide (f∈l)=x:=by
 have:l≠[]:=fun e=>by rw[e] at hn;simp at hn;omega
 rw[←hx]
 unfold hasB
 simp[this]
theorem beq_dec (a b:Int):(a==b)=decide (a=b):=by
 rw[Bool.eq_iff_iff]
 simp
theorem has_nil {l:List Int} {f b:Int} {n:Nat} (hn:n=l.length) (h:n=0):hasB l f b=true:=decide_eq_true (.inl (List.length_eq_zero_iff.1 (by omega)))
set_option maxRecDepth 100000 in
set_option maxHeartbeats 16000000 in
theorem fits6_is (w:World) (S:RS) (r:Ru) (start d:Int) (x:Bool) (h:RuAt w S r) (hm:mayR r=true) (hs:St.may start=true) (hd:isday d=true) (hx:fitB r start d=x):
  Calls Tryz.prog 212 #[S.val r,.int .i64 start,.int .i64 d] w fun e w'=>e= .returned (.bool x)∧Below w.heap.size w w':=by
 have RA:=Lib.hid h
 clear h
 obtain⟨d1,d2⟩:=of_decide_eq_true hd
 have hs1:=of_decide_eq_true hs
 have k12:=wk_of hm
 obtain⟨⟨E6,E7,E8,E9,E10⟩,g6,g7,g8,g9,g10⟩:=rl6 RA.out
 obtain⟨bm,hbm⟩:∃c,hasB r.mon (Cv.mon d) (Cv.mon d)=c:=⟨_,rfl⟩
 obtain⟨bw,hbw⟩:∃c,weekB r d=c:=⟨_,rfl⟩
 obtain⟨b8,hb8⟩:∃c,hasB r.yday (yd d) (yd d-ylen (yr d)-1)=c:=⟨_,rfl⟩
 obtain⟨b9,hb9⟩:∃c,hasB r.mday (dom d) (dom d-len (yr d) (Cv.mon d)-1)=c:=⟨_,rfl⟩
 obtain⟨bf,hbf⟩:∃c,dayFB r d=c:=⟨_,rfl⟩
 obtain⟨s,hsd⟩:∃s,start / 86400=s:=⟨_,rfl⟩
 have sd:-719162≤s∧s≤2932896:=by omega
 have HX:=Lib.hid (show (bm&&bw&&(b8&&b9)&&bf&&startB r s d)=x by rw[←hx,←hbm,←hbw,←hb8,←hb9,←hbf,←hsd];rfl)
 have HS:=Lib.hid (startB_len r s d)
 rw[←E6,←E7,←E8,←E9,←E10] at HS
 have dl:=dom_len d
 have yb:=yd_bd d
 have yl:=ylen_bd (yr d)
 have lb:=len_bd (yr d) (Cv.mon d)
 have YL:=Lib.hid (show (if leap (yr d)=true then (366:Int) else 365)=ylen (yr d) by unfold ylen lp;split<;>rfl)
 have F6:=Lib.hid E6
 have F7:=Lib.hid E7
 have F8:=Lib.hid E8
 have F9:=Lib.hid E9
 have F10:=Lib.hid E10
 have M6:=Lib.hid hbm
 have M7:=Lib.hid hbw
 have M8:=Lib.hid hb8
 have M9:=Lib.hid hb9
 have M10:=Lib.hid hbf
 have SD:=Lib.hid hsd
 have sl:-9223372036854775808≤start:=by omega
 have sh:start≤9223372036854775807:=by omega
 have K12:=Lib.hid k12
 clear hm hs hd hx hs1 k12 E6 E7 E8 E9 E10 hbm hbw hb8 hb9 hbf hsd
 obtain⟨ra6,rn6,rc6,ra7,rn7,rc7,ra8,rn8,rc8,ra9,rn9,rc9,ra10,rn10,rc10,ra11,rn11,rc11,ra12,rn12,rc12,ra13,rn13,rc13,ra14,rn14,rc14⟩:=S
 obtain⟨rfreq,ritv,rcnt,rtil,rwkst,rends,rmon,rweek,ryday,rmday,rday,rhour,rminu,rsec,rpos⟩:=r
 simp only at g6 g7 g8 g9 g10
 have F6:=Lib.hid (show rn6=rmon.length from F6.out)
 have F7:=Lib.hid (show rn7=rweek.length from F7.out)
 have F8:=Lib.hid (show rn8=ryday.length from F8.out)
 have F9:=Lib.hid (show rn9=rmday.length from F9.out)
 have F10:=Lib.hid (show rn10=rday.length from F10.out)
 have HS:=Lib.hid (show startB ⟨rfreq,ritv,rcnt,rtil,rwkst,rends,rmon,rweek,ryday,rmday,rday,rhour,rminu,rsec,rpos⟩ s d=(if 0<rn8+rn9+rn10 then true else if rfreq=3∨rn7≠0 then decide (wd d=wd s) else if rfreq=1 then decide (dom d=dom s∧(rn6≠0∨Cv.mon d=Cv.mon s)) else if rfreq=2 then decide (dom d=dom s) else true) from HS.out)
 show Calls Tryz.prog 212 #[.agg #[.int .i64 rfreq,.int .i64 ritv,.int .i64 rcnt,.int .i64 rtil,.int .i64 rwkst,.bool rends,.slice ra6 rn6 rc6,.slice ra7 rn7 rc7,.slice ra8 rn8 rc8,.slice ra9 rn9 rc9,.slice ra10 rn10 rc10,.slice ra11 rn11 rc11,.slice ra12 rn12 rc12,.slice ra13 rn13 rc13,.slice ra14 rn14 rc14],.int .i64 start,.int .i64 d] w _
 go_enter Tryz.func212,Tryz.ntmps212
 go_upto_region 1 with fail
 obtain⟨B0,Xr0⟩:=box_new w #[.int .i64 rfreq,.int .i64 ritv,.int .i64 rcnt,.int .i64 rtil,.int .i64 rwkst,.bool rends,.slice ra6 rn6 rc6,.slice ra7 rn7 rc7,.slice ra8 rn8 rc8,.slice ra9 rn9 rc9,.slice ra10 rn10 rc10,.slice ra11 rn11 rc11,.slice ra12 rn12 rc12,.slice ra13 rn13 rc13,.slice ra14 rn14 rc14] 25
 generalize w.alloc _=w0 at *
 go_wp2_with fail
 refine(rdate_yes d _ d1 d2).mono ?_
 rintro e w' ⟨rfl,rfl⟩
 go_wp2_with fail
 refine(rday_any start _ sl sh).mono ?_
 rintro e w' ⟨rfl,rfl⟩
 rw[SD.out]
 go_wp2_with fail
 refine(rdate_yes s _ sd.1 sd.2).mono ?_
 rintro e w' ⟨rfl,rfl⟩
 go_wp2_with fail
 refine(ryd_yes d _ d1 d2).mono ?_
 rintro e w' ⟨rfl,rfl⟩
 go_wp2_with fail
 refine(rleap_any (yr d) _).mono ?_
 rintro e w' ⟨rfl,rfl⟩
 go_upto_if 48 with fail
 obtain⟨ly,hly⟩:∃c,leap (yr d)=c:=⟨_,rfl⟩
 have YL:=Lib.hid (show (if ly=true then (366:Int) else 365)=ylen (yr d) by rw[←hly];exact YL.out)
 rw[hly]
 clear hly
 go_cut [20] from 48 to 48 (fun u wx=>u= .int .i64 (ylen (yr d))∧wx=w0)
 case first=>
  cases ly
  ·go_wp2
   go_meet
   exact⟨by rw[show ylen (yr d)=365 from YL.out.symm],rfl⟩
  ·go_wp2
   go_meet
   exact⟨by rw[show ylen (yr d)=366 from YL.out.symm],rfl⟩
 case rest=>
  obtain⟨rfl,rfl⟩:=hcut
  rename World=>w0
  clear YL
  go_upto_region 8 with fail
  go_cut [113] from 49 to 113 (fun u wx=>u= .bool (!(bm&&bw&&(b8&&b9)&&bf))∧Below w0.heap.size w0 wx)
  case first=>
   obtain⟨c1,hc1⟩:∃c,decide ((0:Int)<(rn6:Int))=c:=⟨_,rfl⟩
   obtain⟨c2,hc2⟩:∃c,decide ((0:Int)<(rn7:Int))=c:=⟨_,rfl⟩
   obtain⟨c3,hc3⟩:∃c,decide ((0:Int)<(rn8:Int))=c:=⟨_,rfl⟩
   obtain⟨c4,hc4⟩:∃c,decide ((0:Int)<(rn9:Int))=c:=⟨_,rfl⟩
   obtain⟨c5,hc5⟩:∃c,decide ((0:Int)<(rn10:Int))=c:=⟨_,rfl⟩
   have G1:Hid (c1=true→0<rn6):=Lib.hid (fun e=>by have:=of_decide_eq_true (hc1.trans e);omega)
   have G2:Hid (c2=true→0<rn7):=Lib.hid (fun e=>by have:=of_decide_eq_true (hc2.trans e);omega)
   have G3:Hid (c3=true→0<rn8):=Lib.hid (fun e=>by have:=of_decide_eq_true (hc3.trans e);omega)
   have G4:Hid (c4=true→0<rn9):=Lib.hid (fun e=>by have:=of_decide_eq_true (hc4.trans e);omega)
   have G5:Hid (c5=true→0<rn10):=Lib.hid (fun e=>by have:=of_decide_eq_true (hc5.trans e);omega)
   obtain⟨e1,he1⟩:∃c,(c1 && !bm)=c:=⟨_,rfl⟩
   obtain⟨e2,he2⟩:∃c,(e1||(c2 && !bw))=c:=⟨_,rfl⟩
   obtain⟨e3,he3⟩:∃c,(e2||(c3 && !b8))=c:=⟨_,rfl⟩
   obtain⟨e4,he4⟩:∃c,(e3||(c4 && !b9))=c:=⟨_,rfl⟩
   obtain⟨e5,he5⟩:∃c,(e4||(c5 && !bf))=c:=⟨_,rfl⟩
   have E5:=Lib.hid (show (!(bm&&bw&&(b8&&b9)&&bf))=e5 by
    have n1:c1=false→bm=true:=fun e=>by rw[←M6.out];exact has_nil F6.out (by have:=of_decide_eq_false (hc1.trans e);omega)
    have n2:c2=false→bw=true:=fun e=>by rw[←M7.out];exact if_pos (List.length_eq_zero_iff.1 (by rw[←F7.out];have:=of_decide_eq_false (hc2.trans e);omega))
    have n3:c3=false→b8=true:=fun e=>by rw[←M8.out];exact has_nil F8.out (by have:=of_decide_eq_false (hc3.trans e);omega)
    have n4:c4=false→b9=true:=fun e=>by rw[←M9.out];exact has_nil F9.out (by have:=of_decide_eq_false (hc4.trans e);omega)
    have n5:c5=false→bf=true:=fun e=>by rw[←M10.out];exact decide_eq_true (.inl (List.length_eq_zero_iff.1 (by rw[←F10.out];have:=of_decide_eq_false (hc5.trans e);omega)))
    rw[←he5,←he4,←he3,←he2,←he1]
    exact bool5 _ _ _ _ _ _ _ _ _ _ n1 n2 n3 n4 n5)
   have hd1:decide (0<rn6)=c1:=by rw[←hc1];exact decide_eq_decide.2 (by omega)
   have hd2:decide (0<rn7)=c2:=by rw[←hc2];exact decide_eq_decide.2 (by omega)
   have hd3:decide (0<rn8)=c3:=by rw[←hc3];exact decide_eq_decide.2 (by omega)
   have hd4:decide (0<rn9)=c4:=by rw[←hc4];exact decide_eq_decide.2 (by omega)
   have hd5:decide (0<rn10)=c5:=by rw[←hc5];exact decide_eq_decide.2 (by omega)
   have HE1:=Lib.hid he1
   have HE2:=Lib.hid he2
   have HE3:=Lib.hid he3
   have HE4:=Lib.hid he4
   have HE5:=Lib.hid he5
   clear he1 he2 he3 he4 he5 HX HS
   go_upto_region 8 with fail
   refine wp_region_late (fun _=>false) (fun v=>Below w0.heap.size w0 v) (by kernel_rfl) ?_
   have D0:Below w0.heap.size w0 w0.drew:=(Below.refl _ _).drew
   generalize w0.drew=v0 at *
   refine tk 0 rfl (.pointer (some ⟨w.heap.size,6,none⟩)) (.inl ⟨by kernel_rfl,fun w' hs=>by
     go_simp⟩) D0 ?_
   refine tk 1 rfl (.slice ra6 rn6 rc6) (.inl ⟨by kernel_rfl,fun w' hs=>by
     have zz:w'.cell? ⟨w.heap.size,6,none⟩=some (.slice ra6 rn6 rc6):=(Xr0.below hs).at_ 6 _ rfl
     go_simp⟩) D0 ?_
   refine tk 2 rfl (.int .i64 rn6) (.inl ⟨by kernel_rfl,fun w' hs=>by
     go_simp⟩) D0 ?_
   refine tk 3 rfl (.bool c1) (.inl ⟨by kernel_rfl,fun w' hs=>by
     go_simp⟩) D0 ?_
   refine tk 4 rfl (.bool c1) (.inl ⟨by kernel_rfl,fun w' hs=>by
     go_simp⟩) D0 ?_
   refine tk 5 rfl ((bif c1 then .pointer (some ⟨w.heap.size,6,none⟩) else undef)) (by
    cases c1<;>first|exact .inr ⟨by kernel_rfl,rfl⟩|exact .inl ⟨by kernel_rfl,fun w' hs=>by
     go_simp⟩) D0 ?_
   refine tk 6 rfl ((bif c1 then .slice ra6 rn6 rc6 else undef)) (by
    cases c1<;>first|exact .inr ⟨by kernel_rfl,rfl⟩|exact .inl ⟨by kernel_rfl,fun w' hs=>by
     have zz:w'.cell? ⟨w.heap.size,6,none⟩=some (.slice ra6 rn6 rc6):=(Xr0.below hs).at_ 6 _ rfl
     go_simp⟩) D0 ?_
   refine tk 7 rfl ((bif c1 then .int .i64 (Cv.mon d) else undef)) (by
    cases c1<;>first|exact .inr ⟨by kernel_rfl,rfl⟩|exact .inl ⟨by kernel_rfl,fun w' hs=>by
     go_simp⟩) D0 ?_
   go_simp
   refine late_call 8 (c1) (.bool bm) rfl (by kernel_rfl) (by cases c1<;>kernel_rfl) (fun hc => ?_) D0 (fun x1 Y1 => ?_)
   ·cases c1<;>first|(exact absurd hc (by decide))|skip
    have C:=B0.trans (D0.mono B0.size)
    go_simp
    refine(vhas8_is _ ra6 rn6 rc6 rmon (Cv.mon d) (RA.out.below C).h6 (by omega) bm (has_ne1 F6.out (G1.out rfl) _ M6.out)).mono ?_
    rintro e w' ⟨rfl,y⟩
    exact⟨rfl,D0.trans (y.mono D0.size)⟩
   refine tk 9 rfl ((bif c1 then .bool (!bm) else undef)) (by
    cases c1<;>first|exact .inr ⟨by kernel_rfl,rfl⟩|exact .inl ⟨by kernel_rfl,fun w' hs=>by
     go_simp⟩) Y1 ?_
   refine tk 10 rfl (.bool (c1 && !bm)) (by
    cases c1<;>first|exact .inr ⟨by kernel_rfl,rfl⟩|exact .inl ⟨by kernel_rfl,fun w' hs=>by
     go_simp⟩) Y1 ?_
   rw[HE1.out]
   refine tk 11 rfl (.bool e1) (.inl ⟨by kernel_rfl,fun w' hs=>by
     go_simp⟩) Y1 ?_
   go_simp
   refine tk 12 rfl ((bif e1 then undef else .pointer (some ⟨w.heap.size,7,none⟩))) (by
    cases e1<;>first|exact .inr ⟨by kernel_rfl,rfl⟩|exact .inl ⟨by kernel_rfl,fun w' hs=>by
     go_simp⟩) Y1 ?_
   refine tk 13 rfl ((bif e1 then undef else .slice ra7 rn7 rc7)) (by
    cases e1<;>first|exact .inr ⟨by kernel_rfl,rfl⟩|exact .inl ⟨by kernel_rfl,fun w' hs=>by
     have zz:w'.cell? ⟨w.heap.size,7,none⟩=some (.slice ra7 rn7 rc7):=(Xr0.below hs).at_ 7 _ rfl
     go_simp⟩) Y1 ?_
   refine tk 14 rfl ((bif e1 then undef else .int .i64 rn7)) (by
    cases e1<;>first|exact .inr ⟨by kernel_rfl,rfl⟩|exact .inl ⟨by kernel_rfl,fun w' hs=>by
     go_simp⟩) Y1 ?_
   refine tk 15 rfl ((bif e1 then undef else .bool c2)) (by
    cases e1<;>first|exact .inr ⟨by kernel_rfl,rfl⟩|exact .inl ⟨by kernel_rfl,fun w' hs=>by
     go_simp⟩) Y1 ?_
   refine tk 16 rfl ((bif e1 then undef else .bool c2)) (by
    cases e1<;>first|exact .inr ⟨by kernel_rfl,rfl⟩|exact .inl ⟨by kernel_rfl,fun w' hs=>by
     go_simp⟩) Y1 ?_
   refine tk 17 rfl ((bif e1 then undef else (bif c2 then .agg #[.int .i64 rfreq,.int .i64 ritv,.int .i64 rcnt,.int .i64 rtil,.int .i64 rwkst,.bool rends,.slice ra6 rn6 rc6,.slice ra7 rn7 rc7,.slice ra8 rn8 rc8,.slice ra9 rn9 rc9,.slice ra10 rn10 rc10,.slice ra11 rn11 rc11,.slice ra12 rn12 rc12,.slice ra13 rn13 rc13,.slice ra14 rn14 rc14] else undef))) (by
    cases e1<;>cases c2<;>first|exact .inr ⟨by kernel_rfl,rfl⟩|exact .inl ⟨by kernel_rfl,fun w' hs=>by
     obtain⟨z0,z1,z2,z3,z4,z5,z6,z7,z8,z9,z10,z11,z12,z13,z14⟩:=cells15 (Xr0.below hs)
     go_simp⟩) Y1 ?_
   refine tk 18 rfl ((bif e1 then undef else (bif c2 then .int .i64 d else undef))) (by
    cases e1<;>cases c2<;>first|exact .inr ⟨by kernel_rfl,rfl⟩|exact .inl ⟨by kernel_rfl,fun w' hs=>by
     go_simp⟩) Y1 ?_
   go_simp
   refine late_call 19 (!e1&&c2) (.bool bw) rfl (by kernel_rfl) (by cases e1<;>cases c2<;>kernel_rfl) (fun hc => ?_) Y1 (fun x2 Y2 => ?_)
   ·cases e1<;>cases c2<;>first|(exact absurd hc (by decide))|skip
    have C:=B0.trans (Y1.mono B0.size)
    go_simp
    refine(weekFits_is _ ⟨ra6,rn6,rc6,ra7,rn7,rc7,ra8,rn8,rc8,ra9,rn9,rc9,ra10,rn10,rc10,ra11,rn11,rc11,ra12,rn12,rc12,ra13,rn13,rc13,ra14,rn14,rc14⟩ ⟨rfreq,ritv,rcnt,rtil,rwkst,rends,rmon,rweek,ryday,rmday,rday,rhour,rminu,rsec,rpos⟩ d bw (RA.out.below C) d1 d2 K12.out.1 K12.out.2 (by have:=G2.out rfl;have:=F7.out;simp only;omega) M7.out).mono ?_
    rintro e w' ⟨rfl,y⟩
    exact⟨rfl,Y1.trans (y.mono Y1.size)⟩
   refine tk 20 rfl ((bif e1 then undef else (bif c2 then .bool (!bw) else undef))) (by
    cases e1<;>cases c2<;>first|exact .inr ⟨by kernel_rfl,rfl⟩|exact .inl ⟨by kernel_rfl,fun w' hs=>by
     go_simp⟩) Y2 ?_
   refine tk 21 rfl ((bif e1 then undef else .bool (c2 && !bw))) (by
    cases e1<;>cases c2<;>first|exact .inr ⟨by kernel_rfl,rfl⟩|exact .inl ⟨by kernel_rfl,fun w' hs=>by
     go_simp⟩) Y2 ?_
   refine tk 22 rfl (.bool (e1||(c2 && !bw))) (by
    cases e1<;>cases c2<;>first|exact .inr ⟨by kernel_rfl,rfl⟩|exact .inl ⟨by kernel_rfl,fun w' hs=>by
     go_simp⟩) Y2 ?_
   rw[HE2.out]
   refine tk 23 rfl (.bool e2) (.inl ⟨by kernel_rfl,fun w' hs=>by
     go_simp⟩) Y2 ?_
   go_simp
   refine tk 24 rfl ((bif e2 then undef else .pointer (some ⟨w.heap.size,8,none⟩))) (by
    cases e2<;>first|exact .inr ⟨by kernel_rfl,rfl⟩|exact .inl ⟨by kernel_rfl,fun w' hs=>by
     go_simp⟩) Y2 ?_
   refine tk 25 rfl ((bif e2 then undef else .slice ra8 rn8 rc8)) (by
    cases e2<;>first|exact .inr ⟨by kernel_rfl,rfl⟩|exact .inl ⟨by kernel_rfl,fun w' hs=>by
     have zz:w'.cell? ⟨w.heap.size,8,none⟩=some (.slice ra8 rn8 rc8):=(Xr0.below hs).at_ 8 _ rfl
     go_simp⟩) Y2 ?_
   refine tk 26 rfl ((bif e2 then undef else .int .i64 rn8)) (by
    cases e2<;>first|exact .inr ⟨by kernel_rfl,rfl⟩|exact .inl ⟨by kernel_rfl,fun w' hs=>by
     go_simp⟩) Y2 ?_
   refine tk 27 rfl ((bif e2 then undef else .bool c3)) (by
    cases e2<;>first|exact .inr ⟨by kernel_rfl,rfl⟩|exact .inl ⟨by kernel_rfl,fun w' hs=>by
     go_simp⟩) Y2 ?_
   refine tk 28 rfl ((bif e2 then undef else .bool c3)) (by
    cases e2<;>first|exact .inr ⟨by kernel_rfl,rfl⟩|exact .inl ⟨by kernel_rfl,fun w' hs=>by
     go_simp⟩) Y2 ?_
   refine tk 29 rfl ((bif e2 then undef else (bif c3 then .pointer (some ⟨w.heap.size,8,none⟩) else undef))) (by
    cases e2<;>cases c3<;>first|exact .inr ⟨by kernel_rfl,rfl⟩|exact .inl ⟨by kernel_rfl,fun w' hs=>by
     go_simp⟩) Y2 ?_
   refine tk 30 rfl ((bif e2 then undef else (bif c3 then .slice ra8 rn8 rc8 else undef))) (by
    cases e2<;>cases c3<;>first|exact .inr ⟨by kernel_rfl,rfl⟩|exact .inl ⟨by kernel_rfl,fun w' hs=>by
     have zz:w'.cell? ⟨w.heap.size,8,none⟩=some (.slice ra8 rn8 rc8):=(Xr0.below hs).at_ 8 _ rfl
     go_simp⟩) Y2 ?_
   refine tk 31 rfl ((bif e2 then undef else (bif c3 then .int .i64 (yd d) else undef))) (by
    cases e2<;>cases c3<;>first|exact .inr ⟨by kernel_rfl,rfl⟩|exact .inl ⟨by kernel_rfl,fun w' hs=>by
     go_simp⟩) Y2 ?_
   refine tk 32 rfl ((bif e2 then undef else (bif c3 then .int .i64 (ylen (yr d)) else undef))) (by
    cases e2<;>cases c3<;>first|exact .inr ⟨by kernel_rfl,rfl⟩|exact .inl ⟨by kernel_rfl,fun w' hs=>by
     go_simp⟩) Y2 ?_
   go_simp
   refine late_call 33 (!e2&&c3) (.bool b8) rfl (by kernel_rfl) (by cases e2<;>cases c3<;>kernel_rfl) (fun hc => ?_) Y2 (fun x3 Y3 => ?_)
   ·cases e2<;>cases c3<;>first|(exact absurd hc (by decide))|skip
    have C:=B0.trans (Y2.mono B0.size)
    go_simp
    refine(either_is _ ra8 rn8 rc8 ryday (yd d) (ylen (yr d)) b8 (RA.out.below C).h8 (by omega) (by omega) (by omega) (by omega) (by omega) (has_ne F8.out (G3.out rfl) _ M8.out)).mono ?_
    rintro e w' ⟨rfl,y⟩
    exact⟨rfl,Y2.trans (y.mono Y2.size)⟩
   refine tk 34 rfl ((bif e2 then undef else (bif c3 then .bool (!b8) else undef))) (by
    cases e2<;>cases c3<;>first|exact .inr ⟨by kernel_rfl,rfl⟩|exact .inl ⟨by kernel_rfl,fun w' hs=>by
     go_simp⟩) Y3 ?_
   refine tk 35 rfl ((bif e2 then undef else .bool (c3 && !b8))) (by
    cases e2<;>cases c3<;>first|exact .inr ⟨by kernel_rfl,rfl⟩|exact .inl ⟨by kernel_rfl,fun w' hs=>by
     go_simp⟩) Y3 ?_
   refine tk 36 rfl (.bool (e2||(c3 && !b8))) (by
    cases e2<;>cases c3<;>first|exact .inr ⟨by kernel_rfl,rfl⟩|exact .inl ⟨by kernel_rfl,fun w' hs=>by
     go_simp⟩) Y3 ?_
   rw[HE3.out]
   refine tk 37 rfl (.bool e3) (.inl ⟨by kernel_rfl,fun w' hs=>by
     go_simp⟩) Y3 ?_
   go_simp
   refine tk 38 rfl ((bif e3 then undef else .pointer (some ⟨w.heap.size,9,none⟩))) (by
    cases e3<;>first|exact .inr ⟨by kernel_rfl,rfl⟩|exact .inl ⟨by kernel_rfl,fun w' hs=>by
     go_simp⟩) Y3 ?_
   refine tk 39 rfl ((bif e3 then undef else .slice ra9 rn9 rc9)) (by
    cases e3<;>first|exact .inr ⟨by kernel_rfl,rfl⟩|exact .inl ⟨by kernel_rfl,fun w' hs=>by
     have zz:w'.cell? ⟨w.heap.size,9,none⟩=some (.slice ra9 rn9 rc9):=(Xr0.below hs).at_ 9 _ rfl
     go_simp⟩) Y3 ?_
   refine tk 40 rfl ((bif e3 then undef else .int .i64 rn9)) (by
    cases e3<;>first|exact .inr ⟨by kernel_rfl,rfl⟩|exact .inl ⟨by kernel_rfl,fun w' hs=>by
     go_simp⟩) Y3 ?_
   refine tk 41 rfl ((bif e3 then undef else .bool c4)) (by
    cases e3<;>first|exact .inr ⟨by kernel_rfl,rfl⟩|exact .inl ⟨by kernel_rfl,fun w' hs=>by
     go_simp⟩) Y3 ?_
   refine tk 42 rfl ((bif e3 then undef else .bool c4)) (by
    cases e3<;>first|exact .inr ⟨by kernel_rfl,rfl⟩|exact .inl ⟨by kernel_rfl,fun w' hs=>by
     go_simp⟩) Y3 ?_
   refine tk 43 rfl ((bif e3 then undef else (bif c4 then .pointer (some ⟨w.heap.size,9,none⟩) else undef))) (by
    cases e3<;>cases c4<;>first|exact .inr ⟨by kernel_rfl,rfl⟩|exact .inl ⟨by kernel_rfl,fun w' hs=>by
     go_simp⟩) Y3 ?_
   refine tk 44 rfl ((bif e3 then undef else (bif c4 then .slice ra9 rn9 rc9 else undef))) (by
    cases e3<;>cases c4<;>first|exact .inr ⟨by kernel_rfl,rfl⟩|exact .inl ⟨by kernel_rfl,fun w' hs=>by
     have zz:w'.cell? ⟨w.heap.size,9,none⟩=some (.slice ra9 rn9 rc9):=(Xr0.below hs).at_ 9 _ rfl
     go_simp⟩) Y3 ?_
   refine tk 45 rfl ((bif e3 then undef else (bif c4 then .int .i64 (dom d) else undef))) (by
    cases e3<;>cases c4<;>first|exact .inr ⟨by kernel_rfl,rfl⟩|exact .inl ⟨by kernel_rfl,fun w' hs=>by
     go_simp⟩) Y3 ?_
   refine tk 46 rfl ((bif e3 then undef else (bif c4 then .int .i64 (yr d) else undef))) (by
    cases e3<;>cases c4<;>first|exact .inr ⟨by kernel_rfl,rfl⟩|exact .inl ⟨by kernel_rfl,fun w' hs=>by
     go_simp⟩) Y3 ?_
   refine tk 47 rfl ((bif e3 then undef else (bif c4 then .int .i64 (Cv.mon d) else undef))) (by
    cases e3<;>cases c4<;>first|exact .inr ⟨by kernel_rfl,rfl⟩|exact .inl ⟨by kernel_rfl,fun w' hs=>by
     go_simp⟩) Y3 ?_
   go_simp
   refine late_call 48 (!e3&&c4) (.int .i64 (len (yr d) (Cv.mon d))) rfl (by kernel_rfl) (by cases e3<;>cases c4<;>kernel_rfl) (fun hc => ?_) Y3 (fun x4 Y4 => ?_)
   ·cases e3<;>cases c4<;>first|(exact absurd hc (by decide))|skip
    go_simp
    refine(rlength_any (yr d) (Cv.mon d) _).mono ?_
    rintro e w' ⟨rfl,rfl⟩
    exact⟨rfl,Y3⟩
   go_simp
   refine late_call 49 (!e3&&c4) (.bool b9) rfl (by kernel_rfl) (by cases e3<;>cases c4<;>kernel_rfl) (fun hc => ?_) Y4 (fun x5 Y5 => ?_)
   ·cases e3<;>cases c4<;>first|(exact absurd hc (by decide))|skip
    have C:=B0.trans (Y4.mono B0.size)
    go_simp
    refine(either_is _ ra9 rn9 rc9 rmday (dom d) (len (yr d) (Cv.mon d)) b9 (RA.out.below C).h9 (by omega) (by omega) (by omega) (by omega) (by omega) (has_ne F9.out (G4.out rfl) _ M9.out)).mono ?_
    rintro e w' ⟨rfl,y⟩
    exact⟨rfl,Y4.trans (y.mono Y4.size)⟩
   refine tk 50 rfl ((bif e3 then undef else (bif c4 then .bool (!b9) else undef))) (by
    cases e3<;>cases c4<;>first|exact .inr ⟨by kernel_rfl,rfl⟩|exact .inl ⟨by kernel_rfl,fun w' hs=>by
     go_simp⟩) Y5 ?_
   refine tk 51 rfl ((bif e3 then undef else .bool (c4 && !b9))) (by
    cases e3<;>cases c4<;>first|exact .inr ⟨by kernel_rfl,rfl⟩|exact .inl ⟨by kernel_rfl,fun w' hs=>by
     go_simp⟩) Y5 ?_
   refine tk 52 rfl (.bool (e3||(c4 && !b9))) (by
    cases e3<;>cases c4<;>first|exact .inr ⟨by kernel_rfl,rfl⟩|exact .inl ⟨by kernel_rfl,fun w' hs=>by
     go_simp⟩) Y5 ?_
   rw[HE4.out]
   refine tk 53 rfl (.bool e4) (.inl ⟨by kernel_rfl,fun w' hs=>by
     go_simp⟩) Y5 ?_
   go_simp
   refine tk 54 rfl ((bif e4 then undef else .pointer (some ⟨w.heap.size,10,none⟩))) (by
    cases e4<;>first|exact .inr ⟨by kernel_rfl,rfl⟩|exact .inl ⟨by kernel_rfl,fun w' hs=>by
     go_simp⟩) Y5 ?_
   refine tk 55 rfl ((bif e4 then undef else .slice ra10 rn10 rc10)) (by
    cases e4<;>first|exact .inr ⟨by kernel_rfl,rfl⟩|exact .inl ⟨by kernel_rfl,fun w' hs=>by
     have zz:w'.cell? ⟨w.heap.size,10,none⟩=some (.slice ra10 rn10 rc10):=(Xr0.below hs).at_ 10 _ rfl
     go_simp⟩) Y5 ?_
   refine tk 56 rfl ((bif e4 then undef else .int .i64 rn10)) (by
    cases e4<;>first|exact .inr ⟨by kernel_rfl,rfl⟩|exact .inl ⟨by kernel_rfl,fun w' hs=>by
     go_simp⟩) Y5 ?_
   refine tk 57 rfl ((bif e4 then undef else .bool c5)) (by
    cases e4<;>first|exact .inr ⟨by kernel_rfl,rfl⟩|exact .inl ⟨by kernel_rfl,fun w' hs=>by
     go_simp⟩) Y5 ?_
   refine tk 58 rfl ((bif e4 then undef else .bool c5)) (by
    cases e4<;>first|exact .inr ⟨by kernel_rfl,rfl⟩|exact .inl ⟨by kernel_rfl,fun w' hs=>by
     go_simp⟩) Y5 ?_
   refine tk 59 rfl ((bif e4 then undef else (bif c5 then .agg #[.int .i64 rfreq,.int .i64 ritv,.int .i64 rcnt,.int .i64 rtil,.int .i64 rwkst,.bool rends,.slice ra6 rn6 rc6,.slice ra7 rn7 rc7,.slice ra8 rn8 rc8,.slice ra9 rn9 rc9,.slice ra10 rn10 rc10,.slice ra11 rn11 rc11,.slice ra12 rn12 rc12,.slice ra13 rn13 rc13,.slice ra14 rn14 rc14] else undef))) (by
    cases e4<;>cases c5<;>first|exact .inr ⟨by kernel_rfl,rfl⟩|exact .inl ⟨by kernel_rfl,fun w' hs=>by
     obtain⟨z0,z1,z2,z3,z4,z5,z6,z7,z8,z9,z10,z11,z12,z13,z14⟩:=cells15 (Xr0.below hs)
     go_simp⟩) Y5 ?_
   refine tk 60 rfl ((bif e4 then undef else (bif c5 then .int .i64 d else undef))) (by
    cases e4<;>cases c5<;>first|exact .inr ⟨by kernel_rfl,rfl⟩|exact .inl ⟨by kernel_rfl,fun w' hs=>by
     go_simp⟩) Y5 ?_
   go_simp
   refine late_call 61 (!e4&&c5) (.bool bf) rfl (by kernel_rfl) (by cases e4<;>cases c5<;>kernel_rfl) (fun hc => ?_) Y5 (fun x6 Y6 => ?_)
   ·cases e4<;>cases c5<;>first|(exact absurd hc (by decide))|skip
    have C:=B0.trans (Y5.mono B0.size)
    go_simp
    refine(dayFits_is _ ⟨ra6,rn6,rc6,ra7,rn7,rc7,ra8,rn8,rc8,ra9,rn9,rc9,ra10,rn10,rc10,ra11,rn11,rc11,ra12,rn12,rc12,ra13,rn13,rc13,ra14,rn14,rc14⟩ ⟨rfreq,ritv,rcnt,rtil,rwkst,rends,rmon,rweek,ryday,rmday,rday,rhour,rminu,rsec,rpos⟩ d bf (RA.out.below C) d1 d2 (by have:=G5.out rfl;have:=F10.out;simp only;omega) M10.out).mono ?_
    rintro e w' ⟨rfl,y⟩
    exact⟨rfl,Y5.trans (y.mono Y5.size)⟩
   refine tk 62 rfl ((bif e4 then undef else (bif c5 then .bool (!bf) else undef))) (by
    cases e4<;>cases c5<;>first|exact .inr ⟨by kernel_rfl,rfl⟩|exact .inl ⟨by kernel_rfl,fun w' hs=>by
     go_simp⟩) Y6 ?_
   refine tk 63 rfl ((bif e4 then undef else .bool (c5 && !bf))) (by
    cases e4<;>cases c5<;>first|exact .inr ⟨by kernel_rfl,rfl⟩|exact .inl ⟨by kernel_rfl,fun w' hs=>by
     go_simp⟩) Y6 ?_
   refine tk 64 rfl (.bool (e4||(c5 && !bf))) (by
    cases e4<;>cases c5<;>first|exact .inr ⟨by kernel_rfl,rfl⟩|exact .inl ⟨by kernel_rfl,fun w' hs=>by
     go_simp⟩) Y6 ?_
   rw[HE5.out]
   go_simp
   refine Late.done (by kernel_rfl) ?_
   go_wp2
   go_meet
   exact⟨by rw[E5.out],Y6⟩
  case rest=>
   obtain⟨rfl,b1⟩:=hcut
   rename World=>w1
   have B1:=B0.trans (b1.mono B0.size)
   have Xr1:=Xr0.below b1
   clear B0 Xr0
   clear b1 M6 M7 M8 M9 M10
   obtain⟨y,hy⟩:∃c,(bm&&bw&&(b8&&b9)&&bf)=c:=⟨_,rfl⟩
   rw[hy] at HX ⊢
   clear hy
   cases y
   ·have Y:=Lib.hid (show false=x by rw[←HX.out];rfl)
    go_wp2
    go_ret
    exact⟨ret_bool Y.out,B1⟩
   have HX:=Lib.hid (show (if 0<rn8+rn9+rn10 then true else if rfreq=3∨rn7≠0 then decide (wd d=wd s) else if rfreq=1 then decide (dom d=dom s∧(rn6≠0∨Cv.mon d=Cv.mon s)) else if rfreq=2 then decide (dom d=dom s) else true)=x by rw[←HS.out,←HX.out,Bool.true_and])
   clear HS
   have W1:IntKind.i64.wrap ((rn8:Int)+rn9)=(rn8:Int)+rn9:=IntWalk.i64_in _ (by omega)
   have W2:IntKind.i64.wrap ((rn8:Int)+rn9+rn10)=(rn8:Int)+rn9+rn10:=IntWalk.i64_in _ (by omega)
   have y6:w1.cell? ⟨w.heap.size,6,none⟩=some (.slice ra6 rn6 rc6):=Xr1.at_ 6 _ rfl
   have y7:w1.cell? ⟨w.heap.size,7,none⟩=some (.slice ra7 rn7 rc7):=Xr1.at_ 7 _ rfl
   have y8:w1.cell? ⟨w.heap.size,8,none⟩=some (.slice ra8 rn8 rc8):=Xr1.at_ 8 _ rfl
   have y9:w1.cell? ⟨w.heap.size,9,none⟩=some (.slice ra9 rn9 rc9):=Xr1.at_ 9 _ rfl
   have y10:w1.cell? ⟨w.heap.size,10,none⟩=some (.slice ra10 rn10 rc10):=Xr1.at_ 10 _ rfl
   have y0:w1.cell? ⟨w.heap.size,0,none⟩=some (.int .i64 rfreq):=Xr1.at_ 0 _ rfl
   by_cases a0:0<rn8+rn9+rn10
   ·have s0:decide ((0:Int)<(rn8:Int)+rn9+rn10)=true:=decide_eq_true (by omega)
    have s0n:decide (0<rn8+rn9+rn10)=true:=decide_eq_true a0
    have Y:=Lib.hid (show true=x by rw[←HX.out,if_pos a0])
    go_wp2
    go_ret
    exact⟨ret_bool Y.out,B1⟩
   have s0:decide ((0:Int)<(rn8:Int)+rn9+rn10)=false:=decide_eq_false (by omega)
   have s0n:decide (0<rn8+rn9+rn10)=false:=decide_eq_false a0
   have HX:=Lib.hid (by have:=HX.out;rwa [if_neg a0] at this)
   go_wp2_with fail
   refine(rweekday_any d _).mono ?_
   rintro e w' ⟨rfl,rfl⟩
   go_wp2_with fail
   refine(rweekday_any s _).mono ?_
   rintro e w' ⟨rfl,rfl⟩
   by_cases a1:rn7=0
   rotate_left
   ·have s1:decide ((0:Int)<(rn7:Int))=true:=decide_eq_true (by omega)
    have s1n:decide (0<rn7)=true:=decide_eq_true (by omega)
    clear a0
    have Y:=Lib.hid (show ((wd d:Int)==wd s)=x by rw[←HX.out,if_pos (.inr a1)];exact beq_dec _ _)
    go_wp2
    go_ret
    exact⟨ret_bool Y.out,B1⟩
   have s1:decide ((0:Int)<(rn7:Int))=false:=decide_eq_false (by omega)
   have s1n:decide (0<rn7)=false:=decide_eq_false (by omega)
   by_cases a2:rfreq=3
   ·have s2:((rfreq:Int)==3)=true:=by rw[beq_iff_eq];exact a2
    have Y:=Lib.hid (show ((wd d:Int)==wd s)=x by rw[←HX.out,if_pos (.inl a2)];exact beq_dec _ _)
    go_wp2
    go_ret
    exact⟨ret_bool Y.out,B1⟩
   have s2:((rfreq:Int)==3)=false:=by rw[beq_eq_false_iff_ne];exact a2
   have HX:=Lib.hid (by have:=HX.out;rwa [if_neg (fun q=>q.elim a2 (fun z=>z a1))] at this)
   by_cases a3:rfreq=1
   ·have s3:((rfreq:Int)==1)=true:=by rw[beq_iff_eq];exact a3
    have HX:=Lib.hid (by have:=HX.out;rwa [if_pos a3] at this)
    clear a0 a1 a2 a3
    by_cases a4:dom d=dom s
    rotate_left
    ·have s4:((dom d:Int)==dom s)=false:=by rw[beq_eq_false_iff_ne];exact a4
     have Y:=Lib.hid (show false=x by rw[←HX.out];exact(decide_eq_false (fun q=>a4 q.1)).symm)
     go_wp2
     go_ret
     exact⟨ret_bool Y.out,B1⟩
    have s4:((dom d:Int)==dom s)=true:=by rw[beq_iff_eq];exact a4
    by_cases a5:Cv.mon d=Cv.mon s
    ·have s5:((Cv.mon d:Int)==Cv.mon s)=true:=by rw[beq_iff_eq];exact a5
     have Y:=Lib.hid (show true=x by rw[←HX.out];exact(decide_eq_true ⟨a4,.inr a5⟩).symm)
     clear a4 a5
     go_wp2
     go_ret
     exact⟨ret_bool Y.out,B1⟩
    have s5:((Cv.mon d:Int)==Cv.mon s)=false:=by rw[beq_eq_false_iff_ne];exact a5
    by_cases a6:rn6=0
    ·have s6:decide ((0:Int)<(rn6:Int))=false:=decide_eq_false (by omega)
     have s6n:decide (0<rn6)=false:=decide_eq_false (by omega)
     have Y:=Lib.hid (show false=x by rw[←HX.out];exact(decide_eq_false (fun q=>q.2.elim (fun z=>z a6) a5)).symm)
     clear a4 a5 a6
     go_wp2
     go_ret
     exact⟨ret_bool Y.out,B1⟩
    ·have s6:decide ((0:Int)<(rn6:Int))=true:=decide_eq_true (by omega)
     have s6n:decide (0<rn6)=true:=decide_eq_true (by omega)
     have Y:=Lib.hid (show true=x by rw[←HX.out];exact(decide_eq_true ⟨a4,.inl a6⟩).symm)
     clear a4 a5 a6
     go_wp2
     go_ret
     exact⟨ret_bool Y.out,B1⟩
   have s3:((rfreq:Int)==1)=false:=by rw[beq_eq_false_iff_ne];exact a3
   have HX:=Lib.hid (by have:=HX.out;rwa [if_neg a3] at this)
   by_cases a4:rfreq=2
   ·have s4:((rfreq:Int)==2)=true:=by rw[beq_iff_eq];exact a4
    have Y:=Lib.hid (show ((dom d:Int)==dom s)=x by rw[←HX.out,if_pos a4];exact beq_dec _ _)
    go_wp2
    go_ret
    exact⟨ret_bool Y.out,B1⟩
   have s4:((rfreq:Int)==2)=false:=by rw[beq_eq_false_iff_ne];exact a4
   have Y:=Lib.hid (show true=x by rw[←HX.out,if_neg a4])
   go_wp2
   go_ret
   exact⟨ret_bool Y.out,B1⟩
end Go.Proofs.YtchpjhjjakckbaaGreatDoor.Ex
