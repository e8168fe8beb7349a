/- The walk of vokref.Has. The walks of vokref6's either, weekFits, dayFits, fits and aligned. The walk of vokref6's dayFits. -/
import Derived.Test.YtchpjhjjakckbaaGreatDoorRuBx
import Derived.Test.YtchpjhjjakckbaaGreatDoorExLF
import Derived.Test.YtchpjhjjakckbaaGreatDoorExRcv
import Derived.Test.YtchpjhjjakckbaaGreatDoorExM
set_option linter.unusedVariables false
namespace Go.Proofs.YtchpjhjjakckbaaGreatDoor.Ex
open Go.RowKit Cv St Ru Dd Mb
def hasN8 (l:List Int) (x:Int) (k:Nat):Prop:=∀j,j<k→iat l j≠x
theorem hasN8.succ {l:List Int} {x:Int} {k:Nat} (h:hasN8 l x k) (e:iat l k≠x):hasN8 l x (k+1):=fun j hj=>by
 by_cases c:j=k
 ·subst c;exact e
 ·exact h j (by omega)
set_option maxHeartbeats 2000000 in
theorem vhas8_is (w:World) (A:Option Addr) (n c:Nat) (l:List Int) (x:Int) (hl:IsAt w A n l) (h1:n≤9223372036854775807) (p:Bool) (hp:decide (x∈l)=p):
  Calls Tryz.prog 29 #[.slice A n c,.int .i64 x] w fun e w'=>e= .returned (.bool p)∧Below w.heap.size w w':=by
 obtain⟨en,hc⟩:=hl
 have EN:=Lib.hid en
 have HP:=Lib.hid hp
 clear en hp
 go_enter Tryz.func29,Tryz.ntmps29
 go_wp2
 go_loopw [5] (fun i wr=>∃t:Nat,t≤n∧i= .int .i64 t∧Hid (hasN8 l x t)∧∃q:Nat,wr=w.drewN q) (fun i _=>n-(intOf i).toNat)
 case atStart=>exact⟨0,Nat.zero_le _,rfl,Lib.hid (fun j hj=>absurd hj (by omega)),0,rfl⟩
 case round=>
  obtain⟨t,ht,rfl,D,q,rfl⟩:=hrel
  by_cases hlt:t<n
  ·obtain⟨bl,off,rfl,hb,hcc⟩:=hc (by omega)
   have c0:=hcc t hlt
   have Y:=Lib.hid (fun (h:iat l t=x)=>show true=p by
    rw[←HP.out]
    have hk:t<l.length:=by rw[←EN.out];exact hlt
    rw[iat_lt hk] at h
    exact(decide_eq_true (h ▸ List.getElem_mem hk)).symm)
   have X:=Lib.hid (fun (e1:iat l t≠x)=>D.out.succ e1)
   clear hc hcc D
   by_cases p1:iat l t=x
   ·have e1:((iat l t:Int)==x)=true:=by rw[beq_iff_eq];exact p1
    have F:=Lib.hid (Y.out p1)
    clear p1 X Y
    generalize iat l t=s at *
    go_wp2
    go_ret
    exact⟨ret_bool F.out,Below.drewN' _ _ _⟩
   ·have e1:((iat l t:Int)==x)=false:=by rw[beq_eq_false_iff_ne];exact p1
    have F:=Lib.hid (X.out p1)
    clear p1 X Y
    generalize iat l t=s at *
    go_wp2
    go_roundw
    case rel=>exact⟨t+1,by omega,by go_num,F,_,rfl⟩
    case measure=>simp[intOf];omega
  ·obtain rfl:n=t:=by omega
   have F:=Lib.hid (show false=p by
    rw[←HP.out]
    refine(decide_eq_false fun g => ?_).symm
    obtain⟨j,hj,e⟩:=List.getElem_of_mem g
    exact D.out j (by rw[EN.out];exact hj) (by rw[iat_lt hj];exact e))
   go_wp2
   go_ret
   exact⟨ret_bool F.out,Below.drewN' _ _ _⟩
end Go.Proofs.YtchpjhjjakckbaaGreatDoor.Ex
namespace Go.Proofs.YtchpjhjjakckbaaGreatDoor.Ex
open Go.RowKit Cv St Ru Dd Mb
theorem rl6 {w:World} {S:RS} {r:Ru} (h:RuAt w S r):(S.n6=r.mon.length∧S.n7=r.week.length∧S.n8=r.yday.length∧S.n9=r.mday.length∧S.n10=r.day.length)∧(S.n6≤140737488355328∧S.n7≤140737488355328∧S.n8≤140737488355328∧S.n9≤140737488355328∧S.n10≤140737488355328):=
 ⟨⟨h.h6.1,h.h7.1,h.h8.1,h.h9.1,h.h10.1⟩,h.l6,h.l7,h.l8,h.l9,h.l10⟩
section
variable {P:Program} {ops:Array Oper} {Q:Exit→Act→World→Prop} {md:Region.Mode} {S:World→Prop} {late:Nat→Bool}
theorem tk (i:Nat) {o:Oper} (ho:ops[i]? = some o) (v:Value) {g:Nat} {listed:Array Bool} {a:Act} {w:World} (hy:YieldsIf P ops S o v a) (hS:S w) (h:Late P md ops Q S late g (listed.setIfInBounds i true) (a.put o.dst v) w)
  (hs:Region.noSelect ops=true:=by kernel_rfl) (hf:Region.free md ops listed i=true:=by kernel_rfl) (hr:(Region.ready md ops listed).contains i=true:=by kernel_rfl) (hw:waitsB md ops late i=true:=by kernel_rfl)
  (pan:∀c a w,Q (.panic c) (a.put o.dst v) w→Q (.panic c) a w:=by exact fun _ _ _ h=>h):Late P md ops Q S late (g+1) listed a w:=
 Late.take i v ho hs hf hr hw pan hy hS h
end
set_option maxHeartbeats 2000000 in
theorem either_is (w:World) (A:Option Addr) (n c:Nat) (l:List Int) (x al:Int) (p:Bool) (hl:IsAt w A n l) (h1:n≤140737488355328) (x1:-1000000≤x) (x2:x≤1000000) (a1:0≤al) (a2:al≤1000000) (hp:decide (x∈l∨x-al-1∈l)=p):
  Calls Tryz.prog 271 #[.slice A n c,.int .i64 x,.int .i64 al] w fun e w'=>e= .returned (.bool p)∧Below w.heap.size w w':=by
 have K:=Lib.hid hl
 obtain⟨a,ha⟩:∃a,decide (x∈l)=a:=⟨_,rfl⟩
 obtain⟨b,hb⟩:∃b,decide (x-al-1∈l)=b:=⟨_,rfl⟩
 have HP:=Lib.hid (show (a||b)=p by rw[←hp,←ha,←hb,Bool.decide_or])
 have HA:=Lib.hid ha
 have HB:=Lib.hid hb
 clear hl hp ha hb
 have W1:IntKind.i64.wrap (x-al)=x-al:=IntWalk.i64_in _ (by omega)
 have W2:IntKind.i64.wrap (x-al-1)=x-al-1:=IntWalk.i64_in _ (by omega)
 go_enter Tryz.func271,Tryz.ntmps271
 go_wp2_with fail
 refine(vhas8_is _ A n c l x K.out (by omega) a HA.out).mono ?_
 rintro e w1 ⟨rfl,b1⟩
 cases a
 ·go_wp2_with fail
  refine(vhas8_is _ A n c l (x-al-1) (K.out.below b1) (by omega) b HB.out).mono ?_
  rintro e w2 ⟨rfl,b2⟩
  go_wp2
  go_ret
  exact⟨by rw[←HP.out];rfl,b1.trans (b2.mono b1.size)⟩
 ·go_wp2
  go_ret
  exact⟨by rw[←HP.out];rfl,b1⟩
set_option maxRecDepth 100000 in
set_option maxHeartbeats 16000000 in
theorem weekFits_is (w:World) (S:RS) (r:Ru) (d:Int) (x:Bool) (h:RuAt w S r) (d1:-719162≤d) (d2:d≤2932896) (k1:0≤r.wkst) (k2:r.wkst≤6) (h7:0<r.week.length) (hx:weekB r d=x):
  Calls Tryz.prog 270 #[S.val r,.int .i64 d] w fun e w'=>e= .returned (.bool x)∧Below w.heap.size w w':=by
 have RA:=Lib.hid h
 clear h
 have wb:=wkn_bd d r.wkst
 have ws:=wks_bd (wky d r.wkst) r.wkst k1 k2
 have n7:r.week≠[]:=fun e=>by rw[e] at h7;simp at h7
 have HX:=Lib.hid (show (isyear (wky d r.wkst)&&decide (wkn d r.wkst∈r.week∨wkn d r.wkst-wks (wky d r.wkst) r.wkst-1∈r.week))=x by
  rw[←hx]
  unfold weekB hasB
  rw[if_neg n7]
  simp[n7])
 have L7:=Lib.hid RA.out.l7
 clear hx h7 n7
 obtain⟨ra6,rn6,rc6,ra7,rn7,rc7,ra8,rn8,rc8,ra9,rn9,rc9,ra10,rn10,rc10,ra11,rn11,rc11,ra12,rn12,rc12,ra13,rn13,rc13,ra14,rn14,rc14⟩:=S
 obtain⟨rfreq,ritv,rcnt,rtil,rwkst,rends,rmon,rweek,ryday,rmday,rday,rhour,rminu,rsec,rpos⟩:=r
 simp only at k1 k2 wb ws
 have HX:=Lib.hid (show (isyear (wky d rwkst)&&decide (wkn d rwkst∈rweek∨wkn d rwkst-wks (wky d rwkst) rwkst-1∈rweek))=x from HX.out)
 obtain⟨b,hb⟩:∃b,decide (wkn d rwkst∈rweek∨wkn d rwkst-wks (wky d rwkst) rwkst-1∈rweek)=b:=⟨_,rfl⟩
 have HB:=Lib.hid hb
 rw[hb] at HX
 clear hb
 show Calls Tryz.prog 270 #[.agg #[.int .i64 rfreq,.int .i64 ritv,.int .i64 rcnt,.int .i64 rtil,.int .i64 rwkst,.bool rends,.slice ra6 rn6 rc6,.slice ra7 rn7 rc7,.slice ra8 rn8 rc8,.slice ra9 rn9 rc9,.slice ra10 rn10 rc10,.slice ra11 rn11 rc11,.slice ra12 rn12 rc12,.slice ra13 rn13 rc13,.slice ra14 rn14 rc14],.int .i64 d] w _
 go_enter Tryz.func270,Tryz.ntmps270
 go_upto_region 1 with fail
 obtain⟨B0,Xr0⟩:=box_new w #[.int .i64 rfreq,.int .i64 ritv,.int .i64 rcnt,.int .i64 rtil,.int .i64 rwkst,.bool rends,.slice ra6 rn6 rc6,.slice ra7 rn7 rc7,.slice ra8 rn8 rc8,.slice ra9 rn9 rc9,.slice ra10 rn10 rc10,.slice ra11 rn11 rc11,.slice ra12 rn12 rc12,.slice ra13 rn13 rc13,.slice ra14 rn14 rc14] 25
 generalize w.alloc _=w0 at *
 have rz4:w0.cell? ⟨w.heap.size,4,none⟩=some (.int .i64 rwkst):=Xr0.at_ 4 _ rfl
 have rz7:w0.cell? ⟨w.heap.size,7,none⟩=some (.slice ra7 rn7 rc7):=Xr0.at_ 7 _ rfl
 go_wp2_with fail
 refine(rweek_yes d rwkst _ d1 d2 k1 k2).mono ?_
 rintro e w' ⟨rfl,rfl⟩
 by_cases y:1≤wky d rwkst∧wky d rwkst≤9999
 ·have Y:=Lib.hid (show b=x by rw[←HX.out,show isyear (wky d rwkst)=true from decide_eq_true y,Bool.true_and])
  obtain⟨y1,y2⟩:=y
  go_wp2_with fail
  refine(rweeks_yes (wky d rwkst) rwkst _ y1 y2 k1 k2).mono ?_
  rintro e w' ⟨rfl,rfl⟩
  go_wp2_with fail
  refine(either_is _ ra7 rn7 rc7 rweek (wkn d rwkst) (wks (wky d rwkst) rwkst) b (RA.out.below B0).h7 L7.out (by omega) (by omega) (by omega) (by omega) HB.out).mono ?_
  rintro e w1 ⟨rfl,b1⟩
  go_wp2
  go_ret
  exact⟨ret_bool Y.out,B0.trans (b1.mono B0.size)⟩
 ·have Y:=Lib.hid (show x=false by rw[←HX.out,show isyear (wky d rwkst)=false from decide_eq_false y,Bool.false_and])
  go_wp2_with fail
  refine(rweeks_no (wky d rwkst) rwkst _ (fun q=>y ⟨q.1,q.2.1⟩)).mono ?_
  rintro e w' ⟨rfl,rfl⟩
  go_wp2
  go_ret
  exact⟨ret_bool Y.out.symm,B0⟩
set_option maxRecDepth 100000 in
set_option maxHeartbeats 16000000 in
theorem aligned_is (w:World) (S:RS) (r:Ru) (start t:Int) (x:Bool) (h:RuAt w S r) (hm:mayR r=true) (hs:St.may start=true) (ht:St.may t=true) (hx:alB r start t=x):
  Calls Tryz.prog 213 #[S.val r,.int .i64 start,.int .i64 t] w fun e w'=>e= .returned (.bool x)∧Below w.heap.size w w':=by
 have RA:=Lib.hid h
 clear h
 have HM:=Lib.hid hm
 have HS:=Lib.hid hs
 have HT:=Lib.hid ht
 obtain⟨a,ha⟩:∃a,per r t=a:=⟨_,rfl⟩
 obtain⟨b,hb⟩:∃b,per r start=b:=⟨_,rfl⟩
 have HA:=Lib.hid ha
 have HB:=Lib.hid hb
 have ab:=per_bd hm ht
 have bb:=per_bd hm hs
 rw[ha] at ab
 rw[hb] at bb
 have iv:1≤r.itv∧r.itv≤1000:=⟨(freq_may hm).2.1,(freq_may hm).2.2.1⟩
 have EX:=Lib.hid (show (((a-b).tmod r.itv:Int)==0)=x by
  rw[tmod_zero,←hx,←ha,←hb]
  rfl)
 clear hm hs ht hx ha hb
 obtain⟨ra6,rn6,rc6,ra7,rn7,rc7,ra8,rn8,rc8,ra9,rn9,rc9,ra10,rn10,rc10,ra11,rn11,rc11,ra12,rn12,rc12,ra13,rn13,rc13,ra14,rn14,rc14⟩:=S
 obtain⟨rfreq,ritv,rcnt,rtil,rwkst,rends,rmon,rweek,ryday,rmday,rday,rhour,rminu,rsec,rpos⟩:=r
 simp only at iv
 have EX:=Lib.hid (show (((a-b).tmod ritv:Int)==0)=x from EX.out)
 have W1:IntKind.i64.wrap (a-b)=a-b:=IntWalk.i64_in _ (by omega)
 have n0:((ritv:Int)==0)=false:=by rw[beq_eq_false_iff_ne];omega
 have n1:¬ritv=0:=by omega
 show Calls Tryz.prog 213 #[.agg #[.int .i64 rfreq,.int .i64 ritv,.int .i64 rcnt,.int .i64 rtil,.int .i64 rwkst,.bool rends,.slice ra6 rn6 rc6,.slice ra7 rn7 rc7,.slice ra8 rn8 rc8,.slice ra9 rn9 rc9,.slice ra10 rn10 rc10,.slice ra11 rn11 rc11,.slice ra12 rn12 rc12,.slice ra13 rn13 rc13,.slice ra14 rn14 rc14],.int .i64 start,.int .i64 t] w _
 go_enter Tryz.func213,Tryz.ntmps213
 go_upto_region 1 with fail
 obtain⟨B0,Xr0⟩:=box_new w #[.int .i64 rfreq,.int .i64 ritv,.int .i64 rcnt,.int .i64 rtil,.int .i64 rwkst,.bool rends,.slice ra6 rn6 rc6,.slice ra7 rn7 rc7,.slice ra8 rn8 rc8,.slice ra9 rn9 rc9,.slice ra10 rn10 rc10,.slice ra11 rn11 rc11,.slice ra12 rn12 rc12,.slice ra13 rn13 rc13,.slice ra14 rn14 rc14] 25
 generalize w.alloc _=w0 at *
 go_upto_region 1 with fail
 refine wp_region_late (fun _=>false) (fun v=>Below w0.heap.size w0 v) (by kernel_rfl) ?_
 have D0:Below w0.heap.size w0 w0.drew:=(Below.refl _ _).drew
 refine tk 0 rfl (.agg #[.int .i64 rfreq,.int .i64 ritv,.int .i64 rcnt,.int .i64 rtil,.int .i64 rwkst,.bool rends,.slice ra6 rn6 rc6,.slice ra7 rn7 rc7,.slice ra8 rn8 rc8,.slice ra9 rn9 rc9,.slice ra10 rn10 rc10,.slice ra11 rn11 rc11,.slice ra12 rn12 rc12,.slice ra13 rn13 rc13,.slice ra14 rn14 rc14]) (.inl ⟨by kernel_rfl,fun w' hs => ?_⟩) D0 ?_
 ·have XQ:=Xr0.below hs
  obtain⟨z0,z1,z2,z3,z4,z5,z6,z7,z8,z9,z10,z11,z12,z13,z14⟩:=cells15 XQ
  clear XQ
  go_simp
 refine tk 1 rfl (.int .i64 t) (.inl ⟨by kernel_rfl,fun w' hs => ?_⟩) D0 ?_
 ·go_simp
 refine tk 3 rfl (.agg #[.int .i64 rfreq,.int .i64 ritv,.int .i64 rcnt,.int .i64 rtil,.int .i64 rwkst,.bool rends,.slice ra6 rn6 rc6,.slice ra7 rn7 rc7,.slice ra8 rn8 rc8,.slice ra9 rn9 rc9,.slice ra10 rn10 rc10,.slice ra11 rn11 rc11,.slice ra12 rn12 rc12,.slice ra13 rn13 rc13,.slice ra14 rn14 rc14]) (.inl ⟨by kernel_rfl,fun w' hs => ?_⟩) D0 ?_
 ·have XQ:=Xr0.below hs
  obtain⟨z0,z1,z2,z3,z4,z5,z6,z7,z8,z9,z10,z11,z12,z13,z14⟩:=cells15 XQ
  clear XQ
  go_simp
 refine tk 4 rfl (.int .i64 start) (.inl ⟨by kernel_rfl,fun w' hs => ?_⟩) D0 ?_
 ·go_simp
 refine tk 7 rfl (.pointer (some ⟨w.heap.size,1,none⟩)) (.inl ⟨by kernel_rfl,fun w' hs => ?_⟩) D0 ?_
 ·go_simp
 refine tk 8 rfl (.int .i64 ritv) (.inl ⟨by kernel_rfl,fun w' hs => ?_⟩) D0 ?_
 ·have zz:w'.cell? ⟨w.heap.size,1,none⟩=some (.int .i64 ritv):=(Xr0.below hs).at_ 1 _ rfl
  go_simp
 have C1:=B0.trans (D0.mono B0.size)
 refine Late.one 2 rfl (by kernel_rfl) rfl ?_
 go_simp
 refine(number_is _ ⟨ra6,rn6,rc6,ra7,rn7,rc7,ra8,rn8,rc8,ra9,rn9,rc9,ra10,rn10,rc10,ra11,rn11,rc11,ra12,rn12,rc12,ra13,rn13,rc13,ra14,rn14,rc14⟩ ⟨rfreq,ritv,rcnt,rtil,rwkst,rends,rmon,rweek,ryday,rmday,rday,rhour,rminu,rsec,rpos⟩ t a (RA.out.below C1) HM.out HT.out HA.out).mono ?_
 rintro e w101 ⟨rfl,y101⟩
 have b101:=D0.trans (y101.mono D0.size)
 refine⟨by first|exact b101|exact .inr b101,?_⟩
 have C2:=B0.trans (b101.mono B0.size)
 refine Late.one 5 rfl (by kernel_rfl) rfl ?_
 go_simp
 refine(number_is _ ⟨ra6,rn6,rc6,ra7,rn7,rc7,ra8,rn8,rc8,ra9,rn9,rc9,ra10,rn10,rc10,ra11,rn11,rc11,ra12,rn12,rc12,ra13,rn13,rc13,ra14,rn14,rc14⟩ ⟨rfreq,ritv,rcnt,rtil,rwkst,rends,rmon,rweek,ryday,rmday,rday,rhour,rminu,rsec,rpos⟩ start b (RA.out.below C2) HM.out HS.out HB.out).mono ?_
 rintro e w102 ⟨rfl,y102⟩
 have b102:=b101.trans (y102.mono b101.size)
 refine⟨by first|exact b102|exact .inr b102,?_⟩
 refine tk 6 rfl (.int .i64 (a-b)) (.inl ⟨by kernel_rfl,fun w' hs => ?_⟩) b102 ?_
 ·go_simp
 refine tk 9 rfl (.int .i64 ((a-b).tmod ritv)) (.inl ⟨by kernel_rfl,fun w' hs => ?_⟩) b102 ?_
 ·go_simp
 refine tk 10 rfl (.bool (((a-b).tmod ritv:Int)==0)) (.inl ⟨by kernel_rfl,fun w' hs => ?_⟩) b102 ?_
 ·go_simp
 refine tk 11 rfl (.bool (((a-b).tmod ritv:Int)==0)) (.inl ⟨by kernel_rfl,fun w' hs => ?_⟩) b102 ?_
 ·go_simp
 go_simp
 refine Late.done (by kernel_rfl) ?_
 have b1:=b102
 generalize w102=w1 at *
 have B1:=B0.trans (b1.mono B0.size)
 have Xr1:=Xr0.below b1
 clear B0 Xr0
 clear b1
 go_wp2
 go_ret
 exact⟨ret_bool EX.out,B1⟩
end Go.Proofs.YtchpjhjjakckbaaGreatDoor.Ex
namespace Go.Proofs.YtchpjhjjakckbaaGreatDoor.Ex
open Go.RowKit Cv St Ru Dd Mb
set_option maxRecDepth 100000 in
set_option maxHeartbeats 16000000 in
theorem dayFits_is (w:World) (S:RS) (r:Ru) (d:Int) (x:Bool) (h:RuAt w S r) (d1:-719162≤d) (d2:d≤2932896) (h10:0<r.day.length) (hx:dayFB r d=x):
  Calls Tryz.prog 272 #[S.val r,.int .i64 d] w fun e w'=>e= .returned (.bool x)∧Below w.heap.size w w':=by
 have RA:=Lib.hid h
 clear h
 have H10:=Lib.hid RA.out.h10
 have L10:=RA.out.l10
 have L6:=RA.out.l6
 have E6:=Lib.hid (show (S.n6=0)↔r.mon=[] by rw[RA.out.h6.1,List.length_eq_zero_iff])
 have pb:=dpl_bd r d
 have PD:=Lib.hid (show (if r.freq=1∧r.mon=[] then yd d else dom d)=dpl r d from rfl)
 have LD:=Lib.hid (show (if r.freq=1∧r.mon=[] then ylen (yr d) else len (yr d) (Cv.mon d))=dln r d from rfl)
 unfold dayFB at hx
 generalize dpl r d=p at *
 generalize dln r d=ll at *
 have NE:=Lib.hid (show r.day≠[] from fun e=>by rw[e] at h10;simp at h10)
 obtain⟨f,hf⟩:∃f,(p-1) / 7+1=f:=⟨_,rfl⟩
 obtain⟨b,hb⟩:∃b,-((ll-p) / 7)-1=b:=⟨_,rfl⟩
 have HX:=Lib.hid (show dhasB r.day (wd d) f b=x by rw[←hx,hf,hb])
 have q1:(p-1).tdiv 7=(p-1) / 7:=Int.tdiv_eq_ediv_of_nonneg (by omega)
 have q2:(ll-p).tdiv 7=(ll-p) / 7:=Int.tdiv_eq_ediv_of_nonneg (by omega)
 have v1:IntKind.i64.wrap (p-1)=p-1:=IntWalk.i64_in _ (by omega)
 have v2:IntKind.i64.wrap ((p-1) / 7+1)=f:=by rw[←hf];exact IntWalk.i64_in _ (by omega)
 have v3:IntKind.i64.wrap (ll-p)=ll-p:=IntWalk.i64_in _ (by omega)
 have v4:IntKind.i64.wrap ((ll-p) / 7+1)=(ll-p) / 7+1:=IntWalk.i64_in _ (by omega)
 have v5:IntKind.i64.wrap (-((ll-p) / 7+1))=b:=by rw[←hb,IntWalk.i64_in _ (by omega)];omega
 have v6:IntKind.i64.wrap ((p-1).tdiv 7)=(p-1) / 7:=by rw[q1];exact IntWalk.i64_in _ (by omega)
 have v7:IntKind.i64.wrap ((ll-p).tdiv 7)=(ll-p) / 7:=by rw[q2];exact IntWalk.i64_in _ (by omega)
 have YL:=Lib.hid (show (if leap (yr d)=true then (366:Int) else 365)=ylen (yr d) by unfold ylen lp;split<;>rfl)
 clear hx h10 hf hb
 obtain⟨ra6,rn6,rc6,ra7,rn7,rc7,ra8,rn8,rc8,ra9,rn9,rc9,ra10,rn10,rc10,ra11,rn11,rc11,ra12,rn12,rc12,ra13,rn13,rc13,ra14,rn14,rc14⟩:=S
 obtain⟨rfreq,ritv,rcnt,rtil,rwkst,rends,rmon,rweek,ryday,rmday,rday,rhour,rminu,rsec,rpos⟩:=r
 simp only at L10 L6 H10
 have E6:=Lib.hid (show rn6=0↔rmon=[] from E6.out)
 have NE:=Lib.hid (show rday≠[] from NE.out)
 have HX:=Lib.hid (show dhasB rday (wd d) f b=x from HX.out)
 have H10:=Lib.hid (show DyAt w ra10 rn10 rday from H10.out)
 have PD:=Lib.hid (show (if decide (rfreq=1∧rn6=0)=true then yd d else dom d)=p by rw[←PD.out];simp only[decide_eq_true_eq,E6.out])
 have LD:=Lib.hid (show (if decide (rfreq=1∧rn6=0)=true then ylen (yr d) else len (yr d) (Cv.mon d))=ll by rw[←LD.out];simp only[decide_eq_true_eq,E6.out])
 show Calls Tryz.prog 272 #[.agg #[.int .i64 rfreq,.int .i64 ritv,.int .i64 rcnt,.int .i64 rtil,.int .i64 rwkst,.bool rends,.slice ra6 rn6 rc6,.slice ra7 rn7 rc7,.slice ra8 rn8 rc8,.slice ra9 rn9 rc9,.slice ra10 rn10 rc10,.slice ra11 rn11 rc11,.slice ra12 rn12 rc12,.slice ra13 rn13 rc13,.slice ra14 rn14 rc14],.int .i64 d] w _
 go_enter Tryz.func272,Tryz.ntmps272
 go_upto_region 1 with fail
 obtain⟨B0,Xr0⟩:=box_new w #[.int .i64 rfreq,.int .i64 ritv,.int .i64 rcnt,.int .i64 rtil,.int .i64 rwkst,.bool rends,.slice ra6 rn6 rc6,.slice ra7 rn7 rc7,.slice ra8 rn8 rc8,.slice ra9 rn9 rc9,.slice ra10 rn10 rc10,.slice ra11 rn11 rc11,.slice ra12 rn12 rc12,.slice ra13 rn13 rc13,.slice ra14 rn14 rc14] 25
 generalize w.alloc _=w0 at *
 go_wp2_with fail
 refine(rdate_yes d _ d1 d2).mono ?_
 rintro e w' ⟨rfl,rfl⟩
 go_wp2_with fail
 refine(rlength_any (yr d) (Cv.mon d) _).mono ?_
 rintro e w' ⟨rfl,rfl⟩
 have rz0:w0.cell? ⟨w.heap.size,0,none⟩=some (.int .i64 rfreq):=Xr0.at_ 0 _ rfl
 have rz6:w0.cell? ⟨w.heap.size,6,none⟩=some (.slice ra6 rn6 rc6):=Xr0.at_ 6 _ rfl
 go_upto_region 3 with fail
 go_cut [34] from 22 to 34 (fun s wx=>s= .bool (decide (rfreq=1∧rn6=0))∧wx=w0)
 case first=>
  by_cases a1:rfreq=1
  ·have t1:((rfreq:Int)==1)=true:=by rw[beq_iff_eq];exact a1
   by_cases a2:rn6=0
   ·have t2:((rn6:Int)==0)=true:=by rw[beq_iff_eq];omega
    have G:=Lib.hid (show true=decide (rfreq=1∧rn6=0) from (decide_eq_true ⟨a1,a2⟩).symm)
    clear a1 a2
    go_wp2
    go_meet
    exact⟨by rw[←G.out],rfl⟩
   ·have t2:((rn6:Int)==0)=false:=by rw[beq_eq_false_iff_ne];omega
    have G:=Lib.hid (show false=decide (rfreq=1∧rn6=0) from (decide_eq_false (fun g=>a2 g.2)).symm)
    clear a1 a2
    go_wp2
    go_meet
    exact⟨by rw[←G.out],rfl⟩
  ·have t1:((rfreq:Int)==1)=false:=by rw[beq_eq_false_iff_ne];exact a1
   have G:=Lib.hid (show false=decide (rfreq=1∧rn6=0) from (decide_eq_false (fun g=>a1 g.1)).symm)
   clear a1
   go_wp2
   go_meet
   exact⟨by rw[←G.out],rfl⟩
 case rest=>
  obtain⟨rfl,rfl⟩:=hcut
  clear rz0 rz6
  generalize decide (rfreq=1∧rn6=0)=q at *
  go_upto_if 34 with fail
  go_cut [9,10] from 35 to 42 (fun u v wx=>u= .int .i64 p∧v= .int .i64 ll∧wx=wc)
  case first=>
   cases q
   ·go_wp2
    go_meet
    exact⟨by rw[show p=dom d from PD.out.symm],by rw[show ll=len (yr d) (Cv.mon d) from LD.out.symm],rfl⟩
   ·go_wp2_with fail
    refine(ryearDay_yes d _ d1 d2).mono ?_
    rintro e w' ⟨rfl,rfl⟩
    go_wp2_with fail
    refine(rleap_any (yr d) _).mono ?_
    rintro e w' ⟨rfl,rfl⟩
    by_cases y:leap (yr d)=true
    ·have Y:=Lib.hid (show (366:Int)=ll by rw[←show ylen (yr d)=ll from LD.out,←YL.out,if_pos y])
     rw[y]
     go_wp2
     go_meet
     exact⟨by rw[show p=yd d from PD.out.symm];rfl,by rw[Y.out],rfl⟩
    ·have Y:=Lib.hid (show (365:Int)=ll by rw[←show ylen (yr d)=ll from LD.out,←YL.out,if_neg y])
     rw[show leap (yr d)=false by simpa using y]
     go_wp2
     go_meet
     exact⟨by rw[show p=yd d from PD.out.symm];rfl,by rw[Y.out],rfl⟩
  case rest=>
   obtain⟨rfl,rfl,rfl⟩:=hcut
   rename World=>w0
   clear PD LD YL E6
   have D10:=Lib.hid (show rn10=rday.length from H10.out.1)
   have HD:=Lib.hid (H10.out.below B0)
   have rz10:w0.cell? ⟨w.heap.size,10,none⟩=some (.slice ra10 rn10 rc10):=Xr0.at_ 10 _ rfl
   go_wp2
   go_loopw [13,14] (fun i c wr=>∃t:Nat,t≤rn10∧i= .int .i64 t∧Hid (dhTo rday (wd d) f b t)∧Below w0.heap.size w0 wr) (fun i _ _=>rn10-(intOf i).toNat)
   case atStart=>exact⟨0,Nat.zero_le _,rfl,Lib.hid (fun j hj=>absurd hj (by omega)),Below.refl _ _⟩
   case round=>
    obtain⟨t,ht,rfl,D,b1⟩:=hrel
    rename World=>w1
    clear rz10
    have B1:=B0.trans (b1.mono B0.size)
    have Xr1:=Xr0.below b1
    clear B0 Xr0
    have rz10:w1.cell? ⟨w.heap.size,10,none⟩=some (.slice ra10 rn10 rc10):=Xr1.at_ 10 _ rfl
    by_cases hlt:t<rn10
    rotate_left
    ·obtain rfl:rn10=t:=by omega
     have u0:decide ((rn10:Int)<rn10)=false:=decide_eq_false (by omega)
     have Y:=Lib.hid (show false=x by rw[←HX.out];exact dhas_no NE.out (by rw[←D10.out];exact D.out))
     go_wp2
     go_ret
     exact⟨ret_bool Y.out,B1⟩
    obtain⟨bl,off,ea,hbl,hcc⟩:=(HD.out.below b1).2 (show 0<rn10 by omega)
    subst ea
    obtain⟨c0,c1⟩:=hcc t hlt
    have Y:=Lib.hid (fun (h:dmP (wd d) f b (dat rday t))=>show x=true by rw[←HX.out];exact(dhas_yes (by rw[←D10.out];exact hlt) h).symm)
    have X:=Lib.hid (fun (h:¬dmP (wd d) f b (dat rday t))=>D.out.succ h)
    have u0:decide ((t:Int)<rn10)=true:=decide_eq_true (by omega)
    have u1:decide (t<rn10)=true:=decide_eq_true hlt
    have u2:(t:Int)<rn10:=by omega
    clear hcc D
    unfold dmP at Y X
    generalize (dat rday t).n=en at *
    generalize (dat rday t).w=ew at *
    go_upto_region 13 with fail
    obtain⟨b2,YB⟩:=box_new w1 #[.int .i64 en,.int .i64 ew] 144
    generalize w1.alloc _=w2 at *
    clear c0 c1 rz10
    have B2:=B1.trans (b2.mono B1.size)
    have Xr2:=Xr1.below b2
    clear B1 Xr1
    have bb:=b1.trans (b2.mono b1.size)
    clear b1 b2
    by_cases p1:ew=wd d
    rotate_left
    ·have e1:((ew:Int)==wd d)=false:=by rw[beq_eq_false_iff_ne];exact p1
     have XT:=Lib.hid (X.out (fun g=>p1 g.1))
     clear p1 X Y
     refine wp_region_late (fun _=>false) (fun v=>Below w2.heap.size w2 v) (by kernel_rfl) ?_
     have D0:Below w2.heap.size w2 w2.drew:=(Below.refl _ _).drew
     refine tk 0 rfl (.pointer (some ⟨w1.heap.size,1,none⟩)) (.inl ⟨by kernel_rfl,fun w' hs => ?_⟩) D0 ?_
     ·go_simp
     refine tk 1 rfl (.int .i64 ew) (.inl ⟨by kernel_rfl,fun w' hs => ?_⟩) D0 ?_
     ·have zz:w'.cell? ⟨w1.heap.size,1,none⟩=some (.int .i64 ew):=(YB.below hs).at_ 1 _ rfl
      go_simp
     refine tk 2 rfl (.int .i64 d) (.inl ⟨by kernel_rfl,fun w' hs => ?_⟩) D0 ?_
     ·go_simp
     refine Late.one 3 rfl (by kernel_rfl) rfl ?_
     go_simp
     refine(rweekday_any d _).mono ?_
     rintro e w' ⟨rfl,rfl⟩
     refine⟨by first|exact D0|exact .inr D0,?_⟩
     refine tk 4 rfl (.bool false) (.inl ⟨by kernel_rfl,fun w' hs => ?_⟩) D0 ?_
     ·go_simp
     refine tk 5 rfl (.bool false) (.inl ⟨by kernel_rfl,fun w' hs => ?_⟩) D0 ?_
     ·go_simp
     refine tk 6 rfl (undef) (.inr ⟨by kernel_rfl,rfl⟩) D0 ?_
     refine tk 7 rfl (undef) (.inr ⟨by kernel_rfl,rfl⟩) D0 ?_
     refine tk 8 rfl (undef) (.inr ⟨by kernel_rfl,rfl⟩) D0 ?_
     refine tk 9 rfl (undef) (.inr ⟨by kernel_rfl,rfl⟩) D0 ?_
     refine tk 10 rfl (undef) (.inr ⟨by kernel_rfl,rfl⟩) D0 ?_
     refine tk 11 rfl (undef) (.inr ⟨by kernel_rfl,rfl⟩) D0 ?_
     refine tk 12 rfl (undef) (.inr ⟨by kernel_rfl,rfl⟩) D0 ?_
     refine tk 13 rfl (undef) (.inr ⟨by kernel_rfl,rfl⟩) D0 ?_
     refine tk 14 rfl (undef) (.inr ⟨by kernel_rfl,rfl⟩) D0 ?_
     refine tk 15 rfl (undef) (.inr ⟨by kernel_rfl,rfl⟩) D0 ?_
     refine tk 16 rfl (undef) (.inr ⟨by kernel_rfl,rfl⟩) D0 ?_
     refine tk 17 rfl (undef) (.inr ⟨by kernel_rfl,rfl⟩) D0 ?_
     refine tk 18 rfl (undef) (.inr ⟨by kernel_rfl,rfl⟩) D0 ?_
     refine tk 19 rfl (undef) (.inr ⟨by kernel_rfl,rfl⟩) D0 ?_
     refine tk 20 rfl (undef) (.inr ⟨by kernel_rfl,rfl⟩) D0 ?_
     refine tk 21 rfl (.bool false) (.inl ⟨by kernel_rfl,fun w' hs => ?_⟩) D0 ?_
     ·go_simp
     go_simp
     refine Late.done (by kernel_rfl) ?_
     generalize w2.drew=w3 at *
     go_wp2
     go_roundw
     case rel=>exact⟨t+1,by omega,by go_num,XT,bb.trans (D0.mono bb.size)⟩
     case measure=>simp[intOf];omega
    have e1:((ew:Int)==wd d)=true:=by rw[beq_iff_eq];exact p1
    by_cases p2:en=0
    ·have e2:((en:Int)==0)=true:=by rw[beq_iff_eq];exact p2
     have YT:=Lib.hid (Y.out ⟨p1,.inl p2⟩)
     clear p1 p2 X Y
     refine wp_region_late (fun _=>false) (fun v=>Below w2.heap.size w2 v) (by kernel_rfl) ?_
     have D0:Below w2.heap.size w2 w2.drew:=(Below.refl _ _).drew
     refine tk 0 rfl (.pointer (some ⟨w1.heap.size,1,none⟩)) (.inl ⟨by kernel_rfl,fun w' hs => ?_⟩) D0 ?_
     ·go_simp
     refine tk 1 rfl (.int .i64 ew) (.inl ⟨by kernel_rfl,fun w' hs => ?_⟩) D0 ?_
     ·have zz:w'.cell? ⟨w1.heap.size,1,none⟩=some (.int .i64 ew):=(YB.below hs).at_ 1 _ rfl
      go_simp
     refine tk 2 rfl (.int .i64 d) (.inl ⟨by kernel_rfl,fun w' hs => ?_⟩) D0 ?_
     ·go_simp
     refine Late.one 3 rfl (by kernel_rfl) rfl ?_
     go_simp
     refine(rweekday_any d _).mono ?_
     rintro e w' ⟨rfl,rfl⟩
     refine⟨by first|exact D0|exact .inr D0,?_⟩
     refine tk 4 rfl (.bool true) (.inl ⟨by kernel_rfl,fun w' hs => ?_⟩) D0 ?_
     ·go_simp
     refine tk 5 rfl (.bool true) (.inl ⟨by kernel_rfl,fun w' hs => ?_⟩) D0 ?_
     ·go_simp
     refine tk 6 rfl (.pointer (some ⟨w1.heap.size,0,none⟩)) (.inl ⟨by kernel_rfl,fun w' hs => ?_⟩) D0 ?_
     ·go_simp
     refine tk 7 rfl (.int .i64 en) (.inl ⟨by kernel_rfl,fun w' hs => ?_⟩) D0 ?_
     ·have zz:w'.cell? ⟨w1.heap.size,0,none⟩=some (.int .i64 en):=(YB.below hs).at_ 0 _ rfl
      go_simp
     refine tk 8 rfl (.bool true) (.inl ⟨by kernel_rfl,fun w' hs => ?_⟩) D0 ?_
     ·go_simp
     refine tk 9 rfl (.bool true) (.inl ⟨by kernel_rfl,fun w' hs => ?_⟩) D0 ?_
     ·go_simp
     refine tk 10 rfl (undef) (.inr ⟨by kernel_rfl,rfl⟩) D0 ?_
     refine tk 11 rfl (undef) (.inr ⟨by kernel_rfl,rfl⟩) D0 ?_
     refine tk 12 rfl (undef) (.inr ⟨by kernel_rfl,rfl⟩) D0 ?_
     refine tk 13 rfl (undef) (.inr ⟨by kernel_rfl,rfl⟩) D0 ?_
     refine tk 14 rfl (.bool true) (.inl ⟨by kernel_rfl,fun w' hs => ?_⟩) D0 ?_
     ·go_simp
     refine tk 15 rfl (.bool true) (.inl ⟨by kernel_rfl,fun w' hs => ?_⟩) D0 ?_
     ·go_simp
     refine tk 16 rfl (undef) (.inr ⟨by kernel_rfl,rfl⟩) D0 ?_
     refine tk 17 rfl (undef) (.inr ⟨by kernel_rfl,rfl⟩) D0 ?_
     refine tk 18 rfl (undef) (.inr ⟨by kernel_rfl,rfl⟩) D0 ?_
     refine tk 19 rfl (undef) (.inr ⟨by kernel_rfl,rfl⟩) D0 ?_
     refine tk 20 rfl (.bool true) (.inl ⟨by kernel_rfl,fun w' hs => ?_⟩) D0 ?_
     ·go_simp
     refine tk 21 rfl (.bool true) (.inl ⟨by kernel_rfl,fun w' hs => ?_⟩) D0 ?_
     ·go_simp
     go_simp
     refine Late.done (by kernel_rfl) ?_
     generalize w2.drew=w3 at *
     go_wp2
     go_ret
     exact⟨ret_bool YT.out.symm,B2.trans (D0.mono B2.size)⟩
    have e2:((en:Int)==0)=false:=by rw[beq_eq_false_iff_ne];exact p2
    by_cases p3:en=f
    ·have e3:((en:Int)==f)=true:=by rw[beq_iff_eq];exact p3
     have YT:=Lib.hid (Y.out ⟨p1,.inr (.inl p3)⟩)
     clear p1 p2 p3 X Y
     refine wp_region_late (fun _=>false) (fun v=>Below w2.heap.size w2 v) (by kernel_rfl) ?_
     have D0:Below w2.heap.size w2 w2.drew:=(Below.refl _ _).drew
     refine tk 0 rfl (.pointer (some ⟨w1.heap.size,1,none⟩)) (.inl ⟨by kernel_rfl,fun w' hs => ?_⟩) D0 ?_
     ·go_simp
     refine tk 1 rfl (.int .i64 ew) (.inl ⟨by kernel_rfl,fun w' hs => ?_⟩) D0 ?_
     ·have zz:w'.cell? ⟨w1.heap.size,1,none⟩=some (.int .i64 ew):=(YB.below hs).at_ 1 _ rfl
      go_simp
     refine tk 2 rfl (.int .i64 d) (.inl ⟨by kernel_rfl,fun w' hs => ?_⟩) D0 ?_
     ·go_simp
     refine Late.one 3 rfl (by kernel_rfl) rfl ?_
     go_simp
     refine(rweekday_any d _).mono ?_
     rintro e w' ⟨rfl,rfl⟩
     refine⟨by first|exact D0|exact .inr D0,?_⟩
     refine tk 4 rfl (.bool true) (.inl ⟨by kernel_rfl,fun w' hs => ?_⟩) D0 ?_
     ·go_simp
     refine tk 5 rfl (.bool true) (.inl ⟨by kernel_rfl,fun w' hs => ?_⟩) D0 ?_
     ·go_simp
     refine tk 6 rfl (.pointer (some ⟨w1.heap.size,0,none⟩)) (.inl ⟨by kernel_rfl,fun w' hs => ?_⟩) D0 ?_
     ·go_simp
     refine tk 7 rfl (.int .i64 en) (.inl ⟨by kernel_rfl,fun w' hs => ?_⟩) D0 ?_
     ·have zz:w'.cell? ⟨w1.heap.size,0,none⟩=some (.int .i64 en):=(YB.below hs).at_ 0 _ rfl
      go_simp
     refine tk 8 rfl (.bool false) (.inl ⟨by kernel_rfl,fun w' hs => ?_⟩) D0 ?_
     ·go_simp
     refine tk 9 rfl (.bool false) (.inl ⟨by kernel_rfl,fun w' hs => ?_⟩) D0 ?_
     ·go_simp
     refine tk 10 rfl (.pointer (some ⟨w1.heap.size,0,none⟩)) (.inl ⟨by kernel_rfl,fun w' hs => ?_⟩) D0 ?_
     ·go_simp
     refine tk 11 rfl (.int .i64 en) (.inl ⟨by kernel_rfl,fun w' hs => ?_⟩) D0 ?_
     ·have zz:w'.cell? ⟨w1.heap.size,0,none⟩=some (.int .i64 en):=(YB.below hs).at_ 0 _ rfl
      go_simp
     refine tk 12 rfl (.int .i64 f) (.inl ⟨by kernel_rfl,fun w' hs => ?_⟩) D0 ?_
     ·go_simp
     refine tk 13 rfl (.bool true) (.inl ⟨by kernel_rfl,fun w' hs => ?_⟩) D0 ?_
     ·go_simp
     refine tk 14 rfl (.bool true) (.inl ⟨by kernel_rfl,fun w' hs => ?_⟩) D0 ?_
     ·go_simp
     refine tk 15 rfl (.bool true) (.inl ⟨by kernel_rfl,fun w' hs => ?_⟩) D0 ?_
     ·go_simp
     refine tk 16 rfl (undef) (.inr ⟨by kernel_rfl,rfl⟩) D0 ?_
     refine tk 17 rfl (undef) (.inr ⟨by kernel_rfl,rfl⟩) D0 ?_
     refine tk 18 rfl (undef) (.inr ⟨by kernel_rfl,rfl⟩) D0 ?_
     refine tk 19 rfl (undef) (.inr ⟨by kernel_rfl,rfl⟩) D0 ?_
     refine tk 20 rfl (.bool true) (.inl ⟨by kernel_rfl,fun w' hs => ?_⟩) D0 ?_
     ·go_simp
     refine tk 21 rfl (.bool true) (.inl ⟨by kernel_rfl,fun w' hs => ?_⟩) D0 ?_
     ·go_simp
     go_simp
     refine Late.done (by kernel_rfl) ?_
     generalize w2.drew=w3 at *
     go_wp2
     go_ret
     exact⟨ret_bool YT.out.symm,B2.trans (D0.mono B2.size)⟩
    have e3:((en:Int)==f)=false:=by rw[beq_eq_false_iff_ne];exact p3
    by_cases p4:en=b
    ·have e4:((en:Int)==b)=true:=by rw[beq_iff_eq];exact p4
     have YT:=Lib.hid (Y.out ⟨p1,.inr (.inr p4)⟩)
     clear p1 p2 p3 p4 X Y
     refine wp_region_late (fun _=>false) (fun v=>Below w2.heap.size w2 v) (by kernel_rfl) ?_
     have D0:Below w2.heap.size w2 w2.drew:=(Below.refl _ _).drew
     refine tk 0 rfl (.pointer (some ⟨w1.heap.size,1,none⟩)) (.inl ⟨by kernel_rfl,fun w' hs => ?_⟩) D0 ?_
     ·go_simp
     refine tk 1 rfl (.int .i64 ew) (.inl ⟨by kernel_rfl,fun w' hs => ?_⟩) D0 ?_
     ·have zz:w'.cell? ⟨w1.heap.size,1,none⟩=some (.int .i64 ew):=(YB.below hs).at_ 1 _ rfl
      go_simp
     refine tk 2 rfl (.int .i64 d) (.inl ⟨by kernel_rfl,fun w' hs => ?_⟩) D0 ?_
     ·go_simp
     refine Late.one 3 rfl (by kernel_rfl) rfl ?_
     go_simp
     refine(rweekday_any d _).mono ?_
     rintro e w' ⟨rfl,rfl⟩
     refine⟨by first|exact D0|exact .inr D0,?_⟩
     refine tk 4 rfl (.bool true) (.inl ⟨by kernel_rfl,fun w' hs => ?_⟩) D0 ?_
     ·go_simp
     refine tk 5 rfl (.bool true) (.inl ⟨by kernel_rfl,fun w' hs => ?_⟩) D0 ?_
     ·go_simp
     refine tk 6 rfl (.pointer (some ⟨w1.heap.size,0,none⟩)) (.inl ⟨by kernel_rfl,fun w' hs => ?_⟩) D0 ?_
     ·go_simp
     refine tk 7 rfl (.int .i64 en) (.inl ⟨by kernel_rfl,fun w' hs => ?_⟩) D0 ?_
     ·have zz:w'.cell? ⟨w1.heap.size,0,none⟩=some (.int .i64 en):=(YB.below hs).at_ 0 _ rfl
      go_simp
     refine tk 8 rfl (.bool false) (.inl ⟨by kernel_rfl,fun w' hs => ?_⟩) D0 ?_
     ·go_simp
     refine tk 9 rfl (.bool false) (.inl ⟨by kernel_rfl,fun w' hs => ?_⟩) D0 ?_
     ·go_simp
     refine tk 10 rfl (.pointer (some ⟨w1.heap.size,0,none⟩)) (.inl ⟨by kernel_rfl,fun w' hs => ?_⟩) D0 ?_
     ·go_simp
     refine tk 11 rfl (.int .i64 en) (.inl ⟨by kernel_rfl,fun w' hs => ?_⟩) D0 ?_
     ·have zz:w'.cell? ⟨w1.heap.size,0,none⟩=some (.int .i64 en):=(YB.below hs).at_ 0 _ rfl
      go_simp
     refine tk 12 rfl (.int .i64 f) (.inl ⟨by kernel_rfl,fun w' hs => ?_⟩) D0 ?_
     ·go_simp
     refine tk 13 rfl (.bool false) (.inl ⟨by kernel_rfl,fun w' hs => ?_⟩) D0 ?_
     ·go_simp
     refine tk 14 rfl (.bool false) (.inl ⟨by kernel_rfl,fun w' hs => ?_⟩) D0 ?_
     ·go_simp
     refine tk 15 rfl (.bool false) (.inl ⟨by kernel_rfl,fun w' hs => ?_⟩) D0 ?_
     ·go_simp
     refine tk 16 rfl (.pointer (some ⟨w1.heap.size,0,none⟩)) (.inl ⟨by kernel_rfl,fun w' hs => ?_⟩) D0 ?_
     ·go_simp
     refine tk 17 rfl (.int .i64 en) (.inl ⟨by kernel_rfl,fun w' hs => ?_⟩) D0 ?_
     ·have zz:w'.cell? ⟨w1.heap.size,0,none⟩=some (.int .i64 en):=(YB.below hs).at_ 0 _ rfl
      go_simp
     refine tk 18 rfl (.int .i64 b) (.inl ⟨by kernel_rfl,fun w' hs => ?_⟩) D0 ?_
     ·go_simp
     refine tk 19 rfl (.bool true) (.inl ⟨by kernel_rfl,fun w' hs => ?_⟩) D0 ?_
     ·go_simp
     refine tk 20 rfl (.bool true) (.inl ⟨by kernel_rfl,fun w' hs => ?_⟩) D0 ?_
     ·go_simp
     refine tk 21 rfl (.bool true) (.inl ⟨by kernel_rfl,fun w' hs => ?_⟩) D0 ?_
     ·go_simp
     go_simp
     refine Late.done (by kernel_rfl) ?_
     generalize w2.drew=w3 at *
     go_wp2
     go_ret
     exact⟨ret_bool YT.out.symm,B2.trans (D0.mono B2.size)⟩
    have e4:((en:Int)==b)=false:=by rw[beq_eq_false_iff_ne];exact p4
    have XT:=Lib.hid (X.out (fun g=>g.2.elim p2 (fun g=>g.elim p3 p4)))
    clear p1 p2 p3 p4 X Y
    refine wp_region_late (fun _=>false) (fun v=>Below w2.heap.size w2 v) (by kernel_rfl) ?_
    have D0:Below w2.heap.size w2 w2.drew:=(Below.refl _ _).drew
    refine tk 0 rfl (.pointer (some ⟨w1.heap.size,1,none⟩)) (.inl ⟨by kernel_rfl,fun w' hs => ?_⟩) D0 ?_
    ·go_simp
    refine tk 1 rfl (.int .i64 ew) (.inl ⟨by kernel_rfl,fun w' hs => ?_⟩) D0 ?_
    ·have zz:w'.cell? ⟨w1.heap.size,1,none⟩=some (.int .i64 ew):=(YB.below hs).at_ 1 _ rfl
     go_simp
    refine tk 2 rfl (.int .i64 d) (.inl ⟨by kernel_rfl,fun w' hs => ?_⟩) D0 ?_
    ·go_simp
    refine Late.one 3 rfl (by kernel_rfl) rfl ?_
    go_simp
    refine(rweekday_any d _).mono ?_
    rintro e w' ⟨rfl,rfl⟩
    refine⟨by first|exact D0|exact .inr D0,?_⟩
    refine tk 4 rfl (.bool true) (.inl ⟨by kernel_rfl,fun w' hs => ?_⟩) D0 ?_
    ·go_simp
    refine tk 5 rfl (.bool true) (.inl ⟨by kernel_rfl,fun w' hs => ?_⟩) D0 ?_
    ·go_simp
    refine tk 6 rfl (.pointer (some ⟨w1.heap.size,0,none⟩)) (.inl ⟨by kernel_rfl,fun w' hs => ?_⟩) D0 ?_
    ·go_simp
    refine tk 7 rfl (.int .i64 en) (.inl ⟨by kernel_rfl,fun w' hs => ?_⟩) D0 ?_
    ·have zz:w'.cell? ⟨w1.heap.size,0,none⟩=some (.int .i64 en):=(YB.below hs).at_ 0 _ rfl
     go_simp
    refine tk 8 rfl (.bool false) (.inl ⟨by kernel_rfl,fun w' hs => ?_⟩) D0 ?_
    ·go_simp
    refine tk 9 rfl (.bool false) (.inl ⟨by kernel_rfl,fun w' hs => ?_⟩) D0 ?_
    ·go_simp
    refine tk 10 rfl (.pointer (some ⟨w1.heap.size,0,none⟩)) (.inl ⟨by kernel_rfl,fun w' hs => ?_⟩) D0 ?_
    ·go_simp
    refine tk 11 rfl (.int .i64 en) (.inl ⟨by kernel_rfl,fun w' hs => ?_⟩) D0 ?_
    ·have zz:w'.cell? ⟨w1.heap.size,0,none⟩=some (.int .i64 en):=(YB.below hs).at_ 0 _ rfl
     go_simp
    refine tk 12 rfl (.int .i64 f) (.inl ⟨by kernel_rfl,fun w' hs => ?_⟩) D0 ?_
    ·go_simp
    refine tk 13 rfl (.bool false) (.inl ⟨by kernel_rfl,fun w' hs => ?_⟩) D0 ?_
    ·go_simp
    refine tk 14 rfl (.bool false) (.inl ⟨by kernel_rfl,fun w' hs => ?_⟩) D0 ?_
    ·go_simp
    refine tk 15 rfl (.bool false) (.inl ⟨by kernel_rfl,fun w' hs => ?_⟩) D0 ?_
    ·go_simp
    refine tk 16 rfl (.pointer (some ⟨w1.heap.size,0,none⟩)) (.inl ⟨by kernel_rfl,fun w' hs => ?_⟩) D0 ?_
    ·go_simp
    refine tk 17 rfl (.int .i64 en) (.inl ⟨by kernel_rfl,fun w' hs => ?_⟩) D0 ?_
    ·have zz:w'.cell? ⟨w1.heap.size,0,none⟩=some (.int .i64 en):=(YB.below hs).at_ 0 _ rfl
     go_simp
    refine tk 18 rfl (.int .i64 b) (.inl ⟨by kernel_rfl,fun w' hs => ?_⟩) D0 ?_
    ·go_simp
    refine tk 19 rfl (.bool false) (.inl ⟨by kernel_rfl,fun w' hs => ?_⟩) D0 ?_
    ·go_simp
    refine tk 20 rfl (.bool false) (.inl ⟨by kernel_rfl,fun w' hs => ?_⟩) D0 ?_
    ·go_simp
    refine tk 21 rfl (.bool false) (.inl ⟨by kernel_rfl,fun w' hs => ?_⟩) D0 ?_
    ·go_simp
    go_simp
    refine Late.done (by kernel_rfl) ?_
    generalize w2.drew=w3 at *
    go_wp2
    go_roundw
    case rel=>exact⟨t+1,by omega,by go_num,XT,bb.trans (D0.mono bb.size)⟩
    case measure=>simp[intOf];omega
end Go.Proofs.YtchpjhjjakckbaaGreatDoor.Ex
