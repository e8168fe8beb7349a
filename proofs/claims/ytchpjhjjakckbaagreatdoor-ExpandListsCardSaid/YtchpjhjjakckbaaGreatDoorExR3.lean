/- The walk of vokref6's placed. The walk of vokref6's Set. -/
import Derived.Test.YtchpjhjjakckbaaGreatDoorRuBx
import Derived.Test.YtchpjhjjakckbaaGreatDoorExRfits
import Derived.Test.YtchpjhjjakckbaaGreatDoorExR2
import Derived.Maps.AppendAt
set_option linter.unusedVariables false
namespace Go.Proofs.YtchpjhjjakckbaaGreatDoor.Ex
open Go.RowKit Cv St Ru Dd Mb
theorem placed_yes {r:Ru} {l:List Int} {t:Int} {k:Nat} (hk:k<l.length) (e:iat l k=t) (h:hasN8 l t k):placedB r l t=(decide ((k:Int)+1∈r.pos)||decide ((k:Int)-l.length∈r.pos)):=by
 have i:idx l t=k:=by
  rw[iat_lt hk] at e
  refine idx_of hk e fun j hj => ?_
  have:=h j hj
  rwa [iat_lt (by omega)] at this
 have m:t∈l:=by rw[←e,iat_lt hk];exact List.getElem_mem hk
 unfold placedB
 rw[i,decide_eq_true m,Bool.true_and]
theorem placed_no {r:Ru} {l:List Int} {t:Int} (h:hasN8 l t l.length):placedB r l t=false:=by
 have m:¬t∈l:=fun g=>by
  obtain⟨j,hj,e⟩:=List.getElem_of_mem g
  exact h j hj (by rw[iat_lt hj];exact e)
 unfold placedB
 rw[decide_eq_false m,Bool.false_and]
set_option maxRecDepth 100000 in
set_option maxHeartbeats 16000000 in
theorem placed_is (w:World) (S:RS) (r:Ru) (A:Option Addr) (m c:Nat) (l:List Int) (t:Int) (x:Bool) (h:RuAt w S r) (hl:IsAt w A m l) (h1:m≤1000000) (hx:placedB r l t=x):
  Calls Tryz.prog 149 #[S.val r,.slice A m c,.int .i64 t] w fun e w'=>e= .returned (.bool x)∧Below w.heap.size w w':=by
 have RA:=Lib.hid h
 clear h
 have EN:=Lib.hid hl.1
 have K:=Lib.hid hl
 have HX:=Lib.hid hx
 have P14:=Lib.hid RA.out.h14
 have L14:=RA.out.l14
 clear hl hx
 obtain⟨ra6,rn6,rc6,ra7,rn7,rc7,ra8,rn8,rc8,ra9,rn9,rc9,ra10,rn10,rc10,ra11,rn11,rc11,ra12,rn12,rc12,ra13,rn13,rc13,ra14,rn14,rc14⟩:=S
 obtain⟨rfreq,ritv,rcnt,rtil,rwkst,rends,rmon,rweek,ryday,rmday,rday,rhour,rminu,rsec,rpos⟩:=r
 simp only at L14
 have P14:=Lib.hid (show IsAt w ra14 rn14 rpos from P14.out)
 have HX:=Lib.hid (show placedB ⟨rfreq,ritv,rcnt,rtil,rwkst,rends,rmon,rweek,ryday,rmday,rday,rhour,rminu,rsec,rpos⟩ l t=x from HX.out)
 show Calls Tryz.prog 149 #[.agg #[.int .i64 rfreq,.int .i64 ritv,.int .i64 rcnt,.int .i64 rtil,.int .i64 rwkst,.bool rends,.slice ra6 rn6 rc6,.slice ra7 rn7 rc7,.slice ra8 rn8 rc8,.slice ra9 rn9 rc9,.slice ra10 rn10 rc10,.slice ra11 rn11 rc11,.slice ra12 rn12 rc12,.slice ra13 rn13 rc13,.slice ra14 rn14 rc14],.slice A m c,.int .i64 t] w _
 go_enter Tryz.func149,Tryz.ntmps149
 go_upto_region 1 with fail
 obtain⟨B0,Xr0⟩:=box_new w #[.int .i64 rfreq,.int .i64 ritv,.int .i64 rcnt,.int .i64 rtil,.int .i64 rwkst,.bool rends,.slice ra6 rn6 rc6,.slice ra7 rn7 rc7,.slice ra8 rn8 rc8,.slice ra9 rn9 rc9,.slice ra10 rn10 rc10,.slice ra11 rn11 rc11,.slice ra12 rn12 rc12,.slice ra13 rn13 rc13,.slice ra14 rn14 rc14] 25
 generalize w.alloc _=w0 at *
 go_wp2
 go_loopw [7] (fun i wr=>∃k:Nat,k≤m∧i= .int .i64 k∧Hid (hasN8 l t k)∧Below w0.heap.size w0 wr) (fun i _=>m-(intOf i).toNat)
 case atStart=>exact⟨0,Nat.zero_le _,rfl,Lib.hid (fun j hj=>absurd hj (by omega)),Below.refl _ _⟩
 case round=>
  obtain⟨k,hk,rfl,D,b1⟩:=hrel
  rename World=>w1
  have B1:=B0.trans (b1.mono B0.size)
  have Xr1:=Xr0.below b1
  clear B0 Xr0
  by_cases hlt:k<m
  rotate_left
  ·obtain rfl:m=k:=by omega
   have s0:decide ((m:Int)<m)=false:=decide_eq_false (by omega)
   have Y:=Lib.hid (show false=x by rw[←HX.out];exact(placed_no (by rw[←EN.out];exact D.out)).symm)
   go_wp2
   go_ret
   exact⟨ret_bool Y.out,B1⟩
  obtain⟨bl,off,ea,hb,hcc⟩:=(K.out.below B1).2 (show 0<m by omega)
  subst ea
  have cc:=hcc k hlt
  have s0:decide ((k:Int)<m)=true:=decide_eq_true (by omega)
  have s00:decide (k<m)=true:=decide_eq_true hlt
  have Y:=Lib.hid (fun (e:iat l k=t)=>show placedB ⟨rfreq,ritv,rcnt,rtil,rwkst,rends,rmon,rweek,ryday,rmday,rday,rhour,rminu,rsec,rpos⟩ l t=(decide ((k:Int)+1∈rpos)||decide ((k:Int)-m∈rpos)) by rw[placed_yes (by rw[←EN.out];exact hlt) e D.out,EN.out])
  have X:=Lib.hid (fun (e1:iat l k≠t)=>D.out.succ e1)
  clear hcc D
  generalize iat l k=g at *
  by_cases p1:g=t
  rotate_left
  ·have e1:((g:Int)==t)=false:=by rw[beq_eq_false_iff_ne];exact p1
   have F:=Lib.hid (X.out p1)
   clear p1 X Y
   go_wp2
   go_roundw
   case rel=>exact⟨k+1,by omega,by go_num,F,b1⟩
   case measure=>simp[intOf];omega
  have e1:((g:Int)==t)=true:=by rw[beq_iff_eq];exact p1
  have F:=Y.out p1
  obtain⟨ya,hya⟩:∃c,decide ((k:Int)+1∈rpos)=c:=⟨_,rfl⟩
  obtain⟨yb,hyb⟩:∃c,decide ((k:Int)-m∈rpos)=c:=⟨_,rfl⟩
  rw[hya,hyb] at F
  have FX:=Lib.hid (F.symm.trans HX.out)
  have HA:=Lib.hid hya
  have HB:=Lib.hid hyb
  have W1:IntKind.i64.wrap ((k:Int)+1)=(k:Int)+1:=IntWalk.i64_in _ (by omega)
  have W2:IntKind.i64.wrap ((k:Int)-m)=(k:Int)-m:=IntWalk.i64_in _ (by omega)
  clear F hya hyb p1 X Y
  have rz14:w1.cell? ⟨w.heap.size,14,none⟩=some (.slice ra14 rn14 rc14):=Xr1.at_ 14 _ rfl
  go_wp2_with fail
  refine(vhas8_is _ ra14 rn14 rc14 rpos ((k:Int)+1) (P14.out.below B1) (by omega) ya HA.out).mono ?_
  rintro e w2 ⟨rfl,b2⟩
  have B2:=B1.trans (b2.mono B1.size)
  have Xr2:=Xr1.below b2
  clear B1 Xr1
  clear b2 rz14
  have rz14:w2.cell? ⟨w.heap.size,14,none⟩=some (.slice ra14 rn14 rc14):=Xr2.at_ 14 _ rfl
  cases ya
  ·go_wp2_with fail
   refine(vhas8_is _ ra14 rn14 rc14 rpos ((k:Int)-m) (P14.out.below B2) (by omega) yb HB.out).mono ?_
   rintro e w3 ⟨rfl,b3⟩
   go_wp2
   go_ret
   exact⟨ret_bool (by rw[←FX.out];rfl),B2.trans (b3.mono B2.size)⟩
  ·go_wp2
   go_ret
   exact⟨ret_bool (by rw[←FX.out];rfl),B2⟩
end Go.Proofs.YtchpjhjjakckbaaGreatDoor.Ex
namespace Go.Proofs.YtchpjhjjakckbaaGreatDoor.Ex
open Go.RowKit Cv St Ru Dd Mb
theorem raw_mem {r:Ru} {start n y:Int} (hm:mayR r=true) (hs:St.may start=true) (hn:isday n=true) (h:y∈ofDayL r start n):rawB r start y=true∧St.may y=true:=by
 rw[ofDay_eq hm hs hn,mem_sel] at h
 have my:St.may y=true:=by
  have:=of_decide_eq_true hn
  exact decide_eq_true (by omega)
 exact⟨h.2.2,my⟩
theorem take_fl {p:Int→Bool} {l:List Int} {t:Nat} (h:t<l.length):(l.take (t+1)).filter p=(l.take t).filter p++(if p (iat l t)=true then [iat l t] else []):=by
 rw[take_nx h,List.filter_append]
 congr 1
 simp only[List.filter_cons,List.filter_nil]
def SetF (w:World) (p:List Int×Int) (e:Ending) (w':World):Prop:=∃A c,e= .returned (.tuple #[.slice A p.1.length c,.int .i64 p.2])∧IsAt w' A p.1.length p.1∧Fresh w.heap.size A∧Below w.heap.size w w'
theorem setF_nil {w w':World} {p:List Int×Int} {x:Int} (h:([],x)=p) (hb:Below w.heap.size w w'):SetF w p (.returned (.tuple #[.slice none 0 0,.int .i64 x])) w':=by
 subst h
 exact⟨none,0,rfl,IsAt.nil _ _,fun b off z=>(by cases z),hb⟩
theorem append_numK {ops:Array Oper} {rest:List Oper} {o:Oper} {a:Act} {Q:Exit→Act→World→Prop} {W w:World} (hgd:o.guard=none) (s x:Operand)
  (ho:o.op= .call { callee:= .builtin .append,args:=#[s,x],argTypes:=#[22,22] })
  (v:Value) (l:List Int) (hs:a.eval s=v) (hown:OwnI W w v l) (hat:Below W.heap.size W w) (t:Int) (T:TypeId) (c:Nat)
  (hx:a.eval x= .slice (some ⟨w.heap.size,0,none⟩) 1 c) (hl:l.length≤1000000)
  (A1:Option Addr) (m:Nat) (k:List Int) (hk:IsAt w A1 m k) (hap:0<m→∀b off,A1=some ⟨b,off,none⟩→some b≠v.ownBlock)
  (h:∀v' w',OwnI W w' v' (l++[t])→Below W.heap.size W w'→IsAt w' A1 m k→(0<m→∀b off,A1=some ⟨b,off,none⟩→some b≠v'.ownBlock)→wpList Tryz.prog ops Q rest (a.put o.dst v') w'):wpList Tryz.prog ops Q (o::rest) a (w.alloc (.cells #[.int .i64 t] T)):=by
 obtain⟨i0,hi,hz0,hz1,hz2⟩:=info_parts info_int
 refine wpList_append_own_at _ hgd s x 22 ho W.heap.size 3 i0 (.int .i64 0) 1 8 Tryz.underlying22 hi hz0 hz1 hz2 rfl (by decide) v l.length (l.map (Value.int .i64)) hs (World.ownsRow.alloc hown _)
  ⟨w.heap.size,0,none⟩ 1 c [.int .i64 t] hx rfl ?_ (by intro u hu;obtain rfl:u= .int .i64 t:=by simpa using hu
                                                       rfl) (by unfold maxLen;omega) (by omega) (by have:=hat.size;simp;omega) ?_
 ·intro j u hj
  cases j with
  |zero=>obtain rfl:Value.int .i64 t=u:=by simpa using hj
         show (w.alloc (.cells #[.int .i64 t] T)).cell? ⟨w.heap.size,0,none⟩=_
         rw[World.cell?_alloc_new];rfl
  |succ j=>simp at hj
 ·intro v' w' hown' hg _ hb
  have hat1:Below W.heap.size W (w.alloc (.cells #[.int .i64 t] T)):=hat.trans ((Below.refl _ _).alloc hat.size _)
  refine h v' w' ?_ (hat1.trans ((Below.refl _ _).grown hg (by have:=hat.size;simp;omega) fun _ hk=>(World.ownsRow.lt hown _ hk).1)) (IsAt.kept hk ((World.grownBy_alloc w _ _).trans hg) hap) ?_
  ·unfold OwnI
   rw[List.length_append,List.map_append]
   exact hown'
  ·intro h0 b off e q
   obtain⟨b2,off2,e2,lt,-⟩:=hk.2 h0
   rw[e] at e2
   injection e2 with e2
   injection e2 with e3 e4
   subst e3
   rcases hb with hb|hb
   ·exact hap h0 b off e (by rw[←hb];exact q)
   ·rw[hb] at q
    injection q with q
    simp at q
    omega
set_option maxRecDepth 100000 in
set_option maxHeartbeats 16000000 in
theorem set6_is (w:World) (S:RS) (r:Ru) (start t:Int) (q:List Int×Int) (h:RuAt w S r) (hm:mayR r=true) (hs:St.may start=true) (ht:St.may t=true) (hi:inPer r start t=true) (hq:setR r start t 100000=q):
  Calls Tryz.prog 148 #[S.val r,.int .i64 start,.int .i64 t,.int .i64 100000] w fun e w'=>SetF w q e w':=by
 have RA:=Lib.hid h
 clear h
 have HM:=Lib.hid hm
 have HS:=Lib.hid hs
 have HT:=Lib.hid ht
 obtain⟨a,b,hab⟩:∃a b,daysR r t=(a,b):=⟨_,_,rfl⟩
 have DB:=Lib.hid (show -719162≤a∧b≤2932896 by
  unfold daysR at hab
  rw[hm,ht] at hab
  have e:=Prod.mk.inj hab
  omega)
 have HAB:=Lib.hid hab
 have ho:setOk r start t 100000=true:=by unfold setOk;rw[hm,hs,ht];rfl
 have MANY:=Lib.hid (fun (k:Nat) (hk:k≤(b-a+1).toNat) (g:100000<((setP r start t a k).length:Int))=>show q=([],10) by
  rw[←hq]
  have z:=set_many (r:=r) (start:=start) (t:=t) (most:=100000) (k:=k) ho hi (by rw[hab];exact hk) (by rw[hab];exact g)
  exact z)
 have FITS:=Lib.hid (fun (g:((setP r start t a (b-a+1).toNat).length:Int)≤100000)=>show q=(setP r start t a (b-a+1).toNat,0) by
  rw[←hq]
  have z:=set_fits (r:=r) (start:=start) (t:=t) (most:=100000) ho hi (by rw[hab];exact g)
  rw[hab] at z
  exact z)
 have RAW:=Lib.hid (fun (n y:Int) (h:isday n=true) (g:y∈ofDayL r start n)=>(raw_mem hm hs h g).2)
 have LEN:=Lib.hid (fun (n:Int) (h:isday n=true)=>ofDay_len (start:=start) hm hs h)
 obtain⟨pt,hpt⟩:∃z,per r t=z:=⟨_,rfl⟩
 have HPT:=Lib.hid hpt
 have NX:=Lib.hid (fun (k:Nat)=>show setP r start t a (k+1)=setP r start t a k++(ofDayL r start (a+k)).filter (fun y=>decide (per r y=pt)) by rw[setP_succ];unfold ofPer;rw[hpt])
 clear hm hs ht hi hq hab ho hpt
 obtain⟨ra6,rn6,rc6,ra7,rn7,rc7,ra8,rn8,rc8,ra9,rn9,rc9,ra10,rn10,rc10,ra11,rn11,rc11,ra12,rn12,rc12,ra13,rn13,rc13,ra14,rn14,rc14⟩:=S
 obtain⟨rfreq,ritv,rcnt,rtil,rwkst,rends,rmon,rweek,ryday,rmday,rday,rhour,rminu,rsec,rpos⟩:=r
 have MANY:=Lib.hid (show ∀k:Nat,k≤(b-a+1).toNat→100000<((setP ⟨rfreq,ritv,rcnt,rtil,rwkst,rends,rmon,rweek,ryday,rmday,rday,rhour,rminu,rsec,rpos⟩ start t a k).length:Int)→q=([],10) from MANY.out)
 have FITS:=Lib.hid (show ((setP ⟨rfreq,ritv,rcnt,rtil,rwkst,rends,rmon,rweek,ryday,rmday,rday,rhour,rminu,rsec,rpos⟩ start t a (b-a+1).toNat).length:Int)≤100000→q=(setP ⟨rfreq,ritv,rcnt,rtil,rwkst,rends,rmon,rweek,ryday,rmday,rday,rhour,rminu,rsec,rpos⟩ start t a (b-a+1).toNat,0) from FITS.out)
 have RAW:=Lib.hid (show ∀n y:Int,isday n=true→y∈ofDayL ⟨rfreq,ritv,rcnt,rtil,rwkst,rends,rmon,rweek,ryday,rmday,rday,rhour,rminu,rsec,rpos⟩ start n→St.may y=true from RAW.out)
 have LEN:=Lib.hid (show ∀n:Int,isday n=true→(ofDayL ⟨rfreq,ritv,rcnt,rtil,rwkst,rends,rmon,rweek,ryday,rmday,rday,rhour,rminu,rsec,rpos⟩ start n).length≤86400 from LEN.out)
 have NX:=Lib.hid (show ∀k:Nat,setP ⟨rfreq,ritv,rcnt,rtil,rwkst,rends,rmon,rweek,ryday,rmday,rday,rhour,rminu,rsec,rpos⟩ start t a (k+1)=setP ⟨rfreq,ritv,rcnt,rtil,rwkst,rends,rmon,rweek,ryday,rmday,rday,rhour,rminu,rsec,rpos⟩ start t a k++(ofDayL ⟨rfreq,ritv,rcnt,rtil,rwkst,rends,rmon,rweek,ryday,rmday,rday,rhour,rminu,rsec,rpos⟩ start (a+k)).filter (fun y=>decide (per ⟨rfreq,ritv,rcnt,rtil,rwkst,rends,rmon,rweek,ryday,rmday,rday,rhour,rminu,rsec,rpos⟩ y=pt)) from NX.out)
 show Calls Tryz.prog 148 #[.agg #[.int .i64 rfreq,.int .i64 ritv,.int .i64 rcnt,.int .i64 rtil,.int .i64 rwkst,.bool rends,.slice ra6 rn6 rc6,.slice ra7 rn7 rc7,.slice ra8 rn8 rc8,.slice ra9 rn9 rc9,.slice ra10 rn10 rc10,.slice ra11 rn11 rc11,.slice ra12 rn12 rc12,.slice ra13 rn13 rc13,.slice ra14 rn14 rc14],.int .i64 start,.int .i64 t,.int .i64 100000] w _
 go_enter Tryz.func148,Tryz.ntmps148
 go_upto_region 1 with fail
 obtain⟨B0,Xr0⟩:=box_new w #[.int .i64 rfreq,.int .i64 ritv,.int .i64 rcnt,.int .i64 rtil,.int .i64 rwkst,.bool rends,.slice ra6 rn6 rc6,.slice ra7 rn7 rc7,.slice ra8 rn8 rc8,.slice ra9 rn9 rc9,.slice ra10 rn10 rc10,.slice ra11 rn11 rc11,.slice ra12 rn12 rc12,.slice ra13 rn13 rc13,.slice ra14 rn14 rc14] 25
 generalize w.alloc _=w0 at *
 obtain⟨rz0,rz1,rz2,rz3,rz4,rz5,rz6,rz7,rz8,rz9,rz10,rz11,rz12,rz13,rz14⟩:=cells15 Xr0
 go_wp2_with fail
 refine(right_is _ ⟨ra6,rn6,rc6,ra7,rn7,rc7,ra8,rn8,rc8,ra9,rn9,rc9,ra10,rn10,rc10,ra11,rn11,rc11,ra12,rn12,rc12,ra13,rn13,rc13,ra14,rn14,rc14⟩ ⟨rfreq,ritv,rcnt,rtil,rwkst,rends,rmon,rweek,ryday,rmday,rday,rhour,rminu,rsec,rpos⟩ start true true (RA.out.below B0) HM.out HS.out).mono ?_
 rintro e w1 ⟨rfl,b1⟩
 clear rz0 rz1 rz2 rz3 rz4 rz5 rz6 rz7 rz8 rz9 rz10 rz11 rz12 rz13 rz14
 have B1:=B0.trans (b1.mono B0.size)
 have Xr1:=Xr0.below b1
 clear B0 Xr0
 clear b1
 go_wp2_with fail
 refine(rmay_any t _).mono ?_
 rintro e w' ⟨rfl,rfl⟩
 rw[HT.out]
 obtain⟨rz0,rz1,rz2,rz3,rz4,rz5,rz6,rz7,rz8,rz9,rz10,rz11,rz12,rz13,rz14⟩:=cells15 Xr1
 go_wp2_with fail
 refine(days6_is _ ⟨ra6,rn6,rc6,ra7,rn7,rc7,ra8,rn8,rc8,ra9,rn9,rc9,ra10,rn10,rc10,ra11,rn11,rc11,ra12,rn12,rc12,ra13,rn13,rc13,ra14,rn14,rc14⟩ ⟨rfreq,ritv,rcnt,rtil,rwkst,rends,rmon,rweek,ryday,rmday,rday,rhour,rminu,rsec,rpos⟩ t a b (RA.out.below B1) HAB.out).mono ?_
 rintro e w2 ⟨rfl,b2⟩
 clear rz0 rz1 rz2 rz3 rz4 rz5 rz6 rz7 rz8 rz9 rz10 rz11 rz12 rz13 rz14
 have B2:=B1.trans (b2.mono B1.size)
 have Xr2:=Xr1.below b2
 clear B1 Xr1
 clear b2
 obtain⟨db1,db2⟩:=DB.out
 go_wp2
 go_loopw [10,13] (fun ov i wr=>∃(v:Value) (k:Nat) (acc:List Int),k≤(b-a+1).toNat∧v=ov∧i= .int .i64 (a+k)∧OwnI w2 wr v acc∧acc.length≤100000∧Hid (setP ⟨rfreq,ritv,rcnt,rtil,rwkst,rends,rmon,rweek,ryday,rmday,rday,rhour,rminu,rsec,rpos⟩ start t a k=acc)∧Below w2.heap.size w2 wr) (fun _ i _=>(b-intOf i+1).toNat)
 case atStart=>exact⟨_,0,[],Nat.zero_le _,rfl,by simp,OwnI.nil _ _,Nat.zero_le _,Lib.hid (by simp[setP,span]),Below.refl _ _⟩
 case round=>
  obtain⟨v1,k,acc1,hk,rfl,rfl,ov1,la1,D1,q1⟩:=hrel
  rename World=>w3
  have OV1:=Lib.hid ov1
  clear ov1
  have B5:=B2.trans (q1.mono B2.size)
  have X5:=Xr2.below q1
  by_cases hlt:a+k≤b
  rotate_left
  ·have s0:decide (a+(k:Int)≤b)=false:=decide_eq_false hlt
   have ek:k=(b-a+1).toNat:=by omega
   have F:=Lib.hid (show q=(acc1,0) by
    have e:=FITS.out (by rw[←ek,D1.out];omega)
    rw[e,←ek,D1.out])
   clear ek
   go_wp2
   go_ret2
   have FR:=fun A n c (e:OwnI w2 w3 (.slice A n c) acc1)=>fresh_mono e.fresh B2.size
   obtain⟨A,c,ev,ia,-,-⟩:=OV1.out.at_
   subst ev
   rw[F.out]
   exact⟨A,c,rfl,ia,FR _ _ _ OV1.out,B5⟩
  have s0:decide (a+(k:Int)≤b)=true:=decide_eq_true hlt
  have HD:=Lib.hid (show isday (a+(k:Int))=true from decide_eq_true (by omega))
  obtain⟨l,hl⟩:∃l,ofDayL ⟨rfreq,ritv,rcnt,rtil,rwkst,rends,rmon,rweek,ryday,rmday,rday,rhour,rminu,rsec,rpos⟩ start (a+k)=l:=⟨_,rfl⟩
  have HL:=Lib.hid hl
  have ll:=LEN.out _ HD.out
  have N1:=Lib.hid (NX.out k)
  have RW:=Lib.hid (fun y=>RAW.out (a+k) y HD.out)
  rw[hl] at ll N1 RW
  clear hl
  obtain⟨z0,z1,z2,z3,z4,z5,z6,z7,z8,z9,z10,z11,z12,z13,z14⟩:=cells15 X5
  go_wp2_with fail
  refine(ofDay_is _ ⟨ra6,rn6,rc6,ra7,rn7,rc7,ra8,rn8,rc8,ra9,rn9,rc9,ra10,rn10,rc10,ra11,rn11,rc11,ra12,rn12,rc12,ra13,rn13,rc13,ra14,rn14,rc14⟩ ⟨rfreq,ritv,rcnt,rtil,rwkst,rends,rmon,rweek,ryday,rmday,rday,rhour,rminu,rsec,rpos⟩ start (a+k) 100000 l (RA.out.below B5) HM.out HS.out HD.out (by decide) HL.out).mono ?_
  rintro e w4 ⟨A1,p1,rfl,i1,f1,b6⟩
  have AP0:=Lib.hid (show 0<l.length→∀(bk:Nat) (off:Nat),A1=some ⟨bk,off,none⟩→some bk≠v1.ownBlock from fun _ bk off e z=>absurd (World.ownsRow.lt OV1.out bk z.symm).2 (Nat.not_lt.2 (f1 bk off e).1))
  clear f1
  have q2:=q1.trans (b6.mono q1.size)
  have OV2:=Lib.hid (OV1.out.on b6)
  clear z0 z1 z2 z3 z4 z5 z6 z7 z8 z9 z10 z11 z12 z13 z14 OV1 B5 X5 q1
  have K1:=Lib.hid i1
  obtain⟨m,hm⟩:∃m,l.length=m:=⟨_,rfl⟩
  have LM:=Lib.hid hm
  rw[hm] at K1 ll AP0 ⊢
  clear i1 b6 hm
  go_wp2
  go_loopw [10,15] (fun ov i wr=>∃(v:Value) (j:Nat) (acc:List Int),j≤m∧v=ov∧i= .int .i64 j∧OwnI w2 wr v acc∧Hid (acc1++(l.take j).filter (fun y=>decide (per ⟨rfreq,ritv,rcnt,rtil,rwkst,rends,rmon,rweek,ryday,rmday,rday,rhour,rminu,rsec,rpos⟩ y=pt))=acc)∧Below w2.heap.size w2 wr∧IsAt wr A1 m l∧(0<m→∀b off,A1=some ⟨b,off,none⟩→some b≠v.ownBlock)) (fun _ i _=>m-(intOf i).toNat)
  case atStart=>exact⟨_,0,acc1,Nat.zero_le _,rfl,rfl,OV2.out,Lib.hid (by simp),q2,K1.out,AP0.out⟩
  case round=>
   obtain⟨v2,j,acc2,hj,rfl,rfl,ov2,D2,q3,i3,ap3⟩:=hrel
   rename World=>w5
   have OV3:=Lib.hid ov2
   have I3:=Lib.hid i3
   have AP:=Lib.hid ap3
   clear ov2 i3 ap3
   have B7:=B2.trans (q3.mono B2.size)
   have X7:=Xr2.below q3
   have la2:acc2.length≤186400:=by
    rw[←D2.out,List.length_append]
    have a:=List.length_filter_le (fun y=>decide (per ⟨rfreq,ritv,rcnt,rtil,rwkst,rends,rmon,rweek,ryday,rmday,rday,rhour,rminu,rsec,rpos⟩ y=pt)) (l.take j)
    have b:=List.length_take_le j l
    have:=LM.out
    omega
   by_cases hlt2:j<m
   rotate_left
   ·obtain rfl:m=j:=by omega
    have s1:decide ((m:Int)<m)=false:=decide_eq_false (by omega)
    have E2:=Lib.hid (show setP ⟨rfreq,ritv,rcnt,rtil,rwkst,rends,rmon,rweek,ryday,rmday,rday,rhour,rminu,rsec,rpos⟩ start t a (k+1)=acc2 by
     have e:=D2.out
     rw[List.take_of_length_le (l:=l) (by rw[LM.out];exact Nat.le_refl _)] at e
     rw[N1.out,D1.out]
     exact e)
    obtain⟨A,c,ev,-,-,-⟩:=OV3.out.at_
    subst ev
    obtain⟨z,hz⟩:∃z,acc2.length=z:=⟨_,rfl⟩
    rw[hz] at OV3 la2 ⊢
    by_cases big:100000<z
    ·have s2:decide ((100000:Int)<(z:Int))=true:=decide_eq_true (by omega)
     have s22:decide (100000<z)=true:=decide_eq_true big
     have F:=Lib.hid (show ([],(10:Int))=q from (MANY.out (k+1) (by omega) (by rw[E2.out,hz];omega)).symm)
     clear hz
     go_wp2
     go_ret2
     exact setF_nil F.out B7
    have s2:decide ((100000:Int)<(z:Int))=false:=decide_eq_false (by omega)
    have s22:decide (100000<z)=false:=decide_eq_false big
    have HZ:=Lib.hid hz
    clear hz
    go_wp2
    go_roundw
    case rel=>exact⟨_,k+1,acc2,by omega,rfl,by go_num,OV3.out,by have:=HZ.out;omega,E2,q3⟩
    case measure=>simp[intOf];omega
   have s1:decide ((j:Int)<m)=true:=decide_eq_true (by omega)
   have s11:decide (j<m)=true:=decide_eq_true hlt2
   obtain⟨bl,off,ea,hb,hcc⟩:=I3.out.2 (show 0<m by omega)
   subst ea
   have CC:=Lib.hid (hcc j hlt2)
   have HB:=Lib.hid hb
   have MY:=Lib.hid (RW.out (iat l j) (by rw[iat_lt (by rw[LM.out];exact hlt2)];exact List.getElem_mem _))
   have N2:=Lib.hid (take_fl (p:=fun y=>decide (per ⟨rfreq,ritv,rcnt,rtil,rwkst,rends,rmon,rweek,ryday,rmday,rday,rhour,rminu,rsec,rpos⟩ y=pt)) (l:=l) (t:=j) (by rw[LM.out];exact hlt2))
   clear hcc hb
   obtain⟨g,hg⟩:∃g,iat l j=g:=⟨_,rfl⟩
   rw[hg] at CC MY N2
   clear hg
   obtain⟨pg,hpg⟩:∃z,per ⟨rfreq,ritv,rcnt,rtil,rwkst,rends,rmon,rweek,ryday,rmday,rday,rhour,rminu,rsec,rpos⟩ g=z:=⟨_,rfl⟩
   have HPG:=Lib.hid hpg
   rw[hpg] at N2
   clear hpg
   have HPT2:=Lib.hid (show per ⟨rfreq,ritv,rcnt,rtil,rwkst,rends,rmon,rweek,ryday,rmday,rday,rhour,rminu,rsec,rpos⟩ t=pt from HPT.out)
   have u5:decide (m≤j)=false:=decide_eq_false (by omega)
   have u6:(j:Int)<m:=by omega
   go_upto_region 12 with fail
   refine wp_region_late (fun _=>false) (fun v=>Below w5.heap.size w5 v) (by kernel_rfl) ?_
   have D0:Below w5.heap.size w5 w5.drew:=(Below.refl _ _).drew
   generalize w5.drew=v0 at *
   refine tk 0 rfl (.agg #[.int .i64 rfreq,.int .i64 ritv,.int .i64 rcnt,.int .i64 rtil,.int .i64 rwkst,.bool rends,.slice ra6 rn6 rc6,.slice ra7 rn7 rc7,.slice ra8 rn8 rc8,.slice ra9 rn9 rc9,.slice ra10 rn10 rc10,.slice ra11 rn11 rc11,.slice ra12 rn12 rc12,.slice ra13 rn13 rc13,.slice ra14 rn14 rc14]) (.inl ⟨by kernel_rfl,fun w' hs=>by
     obtain⟨z0,z1,z2,z3,z4,z5,z6,z7,z8,z9,z10,z11,z12,z13,z14⟩:=cells15 (X7.below hs)
     go_simp⟩) D0 ?_
   refine tk 1 rfl (.slice (some ⟨bl,off,none⟩) m p1) (.inl ⟨by kernel_rfl,fun w' hs=>by
     go_simp⟩) D0 ?_
   refine tk 2 rfl (.int .i64 (j:Int)) (.inl ⟨by kernel_rfl,fun w' hs=>by
     go_simp⟩) D0 ?_
   refine tk 3 rfl (.pointer (some ⟨bl,off+j,none⟩)) (.inl ⟨by kernel_rfl,fun w' hs=>by
     go_simp⟩) D0 ?_
   refine tk 4 rfl (.int .i64 g) (.inl ⟨by kernel_rfl,fun w' hs=>by
     have zz:w'.cell? ⟨bl,off+j,none⟩=some (.int .i64 g):=(hs.cell (p:=⟨bl,_,none⟩) HB.out).trans CC.out
     go_simp⟩) D0 ?_
   refine tk 6 rfl (.agg #[.int .i64 rfreq,.int .i64 ritv,.int .i64 rcnt,.int .i64 rtil,.int .i64 rwkst,.bool rends,.slice ra6 rn6 rc6,.slice ra7 rn7 rc7,.slice ra8 rn8 rc8,.slice ra9 rn9 rc9,.slice ra10 rn10 rc10,.slice ra11 rn11 rc11,.slice ra12 rn12 rc12,.slice ra13 rn13 rc13,.slice ra14 rn14 rc14]) (.inl ⟨by kernel_rfl,fun w' hs=>by
     obtain⟨z0,z1,z2,z3,z4,z5,z6,z7,z8,z9,z10,z11,z12,z13,z14⟩:=cells15 (X7.below hs)
     go_simp⟩) D0 ?_
   refine tk 7 rfl (.int .i64 t) (.inl ⟨by kernel_rfl,fun w' hs=>by
     go_simp⟩) D0 ?_
   have C1:=B7.trans (D0.mono B7.size)
   go_simp
   refine Late.one 5 rfl (by kernel_rfl) rfl ?_
   go_simp
   refine(number_is _ ⟨ra6,rn6,rc6,ra7,rn7,rc7,ra8,rn8,rc8,ra9,rn9,rc9,ra10,rn10,rc10,ra11,rn11,rc11,ra12,rn12,rc12,ra13,rn13,rc13,ra14,rn14,rc14⟩ ⟨rfreq,ritv,rcnt,rtil,rwkst,rends,rmon,rweek,ryday,rmday,rday,rhour,rminu,rsec,rpos⟩ g pg (RA.out.below C1) HM.out MY.out HPG.out).mono ?_
   rintro e x1 ⟨rfl,y1⟩
   have Y1:=D0.trans (y1.mono D0.size)
   refine⟨by first|exact Y1|exact .inr Y1,?_⟩
   clear y1
   have C2:=B7.trans (Y1.mono B7.size)
   go_simp
   refine Late.one 8 rfl (by kernel_rfl) rfl ?_
   go_simp
   refine(number_is _ ⟨ra6,rn6,rc6,ra7,rn7,rc7,ra8,rn8,rc8,ra9,rn9,rc9,ra10,rn10,rc10,ra11,rn11,rc11,ra12,rn12,rc12,ra13,rn13,rc13,ra14,rn14,rc14⟩ ⟨rfreq,ritv,rcnt,rtil,rwkst,rends,rmon,rweek,ryday,rmday,rday,rhour,rminu,rsec,rpos⟩ t pt (RA.out.below C2) HM.out HT.out HPT2.out).mono ?_
   rintro e x2 ⟨rfl,y2⟩
   have Y2:=Y1.trans (y2.mono Y1.size)
   refine⟨by first|exact Y2|exact .inr Y2,?_⟩
   clear y2
   refine tk 9 rfl (.bool (pg==pt)) (.inl ⟨by kernel_rfl,fun w' hs=>by
     go_simp⟩) Y2 ?_
   go_simp
   refine Late.done (by kernel_rfl) ?_
   have q8:=q3.trans (Y2.mono q3.size)
   have OV8:=Lib.hid (OV3.out.on Y2)
   have I8:=Lib.hid (I3.out.below Y2)
   clear D0 Y1 C1 C2 X7 OV3 I3
   generalize x2=w6 at *
   by_cases e:pg=pt
   rotate_left
   ·have e1:((pg:Int)==pt)=false:=by rw[beq_eq_false_iff_ne];exact e
    rw[e1]
    have E3:=Lib.hid (show acc1++(l.take (j+1)).filter (fun y=>decide (per ⟨rfreq,ritv,rcnt,rtil,rwkst,rends,rmon,rweek,ryday,rmday,rday,rhour,rminu,rsec,rpos⟩ y=pt))=acc2 by rw[N2.out,if_neg (by simpa using e),List.append_nil];exact D2.out)
    clear e
    go_wp2
    go_roundw
    case rel=>exact⟨v2,j+1,acc2,by omega,rfl,by go_num,OV8.out,E3,q8,I8.out,AP.out⟩
    case measure=>simp[intOf];omega
   have e1:((pg:Int)==pt)=true:=by rw[beq_iff_eq];exact e
   rw[e1]
   have E3:=Lib.hid (show acc1++(l.take (j+1)).filter (fun y=>decide (per ⟨rfreq,ritv,rcnt,rtil,rwkst,rends,rmon,rweek,ryday,rmday,rday,rhour,rminu,rsec,rpos⟩ y=pt))=acc2++[g] by rw[N2.out,if_pos (by simpa using e),←List.append_assoc,D2.out])
   clear e
   have R:acc2.length≤1000000:=by omega
   obtain⟨bl2,off2,ea2,hb2,hcc2⟩:=I8.out.2 (show 0<m by omega)
   injection ea2 with ea2
   injection ea2 with ea3 ea4
   subst ea3 ea4
   have zz:w6.cell? ⟨bl,off+j,none⟩=some (.int .i64 g):=(Y2.cell (p:=⟨bl,_,none⟩) HB.out).trans CC.out
   clear hcc2 hb2
   go_wp2_with (at_builtin;refine append_numK rfl _ _ rfl v2 acc2 rfl OV8.out q8 _ _ _ rfl R _ m l I8.out AP.out ?_)
   intro v6 w6 ow6 hb6 i6 ap6
   have OW:=Lib.hid ow6
   have I9:=Lib.hid i6
   have AP9:=Lib.hid ap6
   clear ow6 i6 ap6
   go_wp2
   go_roundw
   case rel=>exact⟨v6,j+1,acc2++[g],by omega,rfl,by go_num,OW.out,E3,hb6,I9.out,fun h0 b2 o2 z2 z3=>AP9.out h0 (by injection z2 with z2;injection z2 with z4 z5;rw[z4];exact z3)⟩
   case measure=>simp[intOf];omega
end Go.Proofs.YtchpjhjjakckbaaGreatDoor.Ex
