/- The walk of vokref6's walk over days. The walks of vokref6's far, List and Next. The walk of vokref6's Next. -/
import Derived.Test.YtchpjhjjakckbaaGreatDoorRuBx
import Derived.Test.YtchpjhjjakckbaaGreatDoorExR3
import Derived.Test.YtchpjhjjakckbaaGreatDoorExM
set_option linter.unusedVariables false
namespace Go.Proofs.YtchpjhjjakckbaaGreatDoor.Ex
open Go.RowKit Cv St Ru Dd Mb
structure WSt (w0 wr:World) (r:Ru) (start after most:Int) (v:Value) (sa:Option Addr) (sn:Nat) (ls:List Int) (last:Int) (cn:Nat) (D acc:List Int):Prop where
 own:OwnI w0 wr v acc
 eq:D.filter (fun y=>decide (after<y))=acc
 room:(acc.length:Int)≤most
 num:D.length=cn
 cnt:r.cnt=0∨(cn:Int)≤r.cnt
 set:IsAt wr sa sn ls
 len:sn≤100000
 per:sa=none∨∃u,inPer r start u=true∧per r u=last∧ls=(setR r start u 100000).1
 far:0<sn→∀b off,sa=some ⟨b,off,none⟩→some b≠v.ownBlock
 below:Below w0.heap.size w0 wr
theorem WSt.on {w0 wr w':World} {r:Ru} {start after most:Int} {v:Value} {sa:Option Addr} {sn:Nat} {ls:List Int} {last:Int} {cn:Nat} {D acc:List Int} (h:WSt w0 wr r start after most v sa sn ls last cn D acc) (hb:Below wr.heap.size wr w'):WSt w0 w' r start after most v sa sn ls last cn D acc:=
 ⟨h.own.on hb,h.eq,h.room,h.num,h.cnt,h.set.below hb,h.len,h.per,h.far,h.below.trans (hb.mono h.below.size)⟩
theorem WSt.start {w0:World} {r:Ru} {start after most:Int} (h0:0≤most) (hc:0≤r.cnt):WSt w0 w0 r start after most (.slice none 0 0) none 0 [] 0 0 [] []:=
 ⟨OwnI.nil _ _,rfl,by simpa using h0,rfl,.inr (by simpa using hc),IsAt.nil _ _,Nat.zero_le _,.inl rfl,fun h=>absurd h (by omega),Below.refl _ _⟩
theorem append_numF {ops:Array Oper} {rest:List Oper} {o:Oper} {a:Act} {Q:Exit→Act→World→Prop} {W w:World} (hgd:o.guard=none) (s x:Operand)
  (ho:o.op= .call { callee:= .builtin .append,args:=#[s,x],argTypes:=#[22,22] })
  (v:Value) (l:List Int) (hs:a.eval s=v) (hown:OwnI W w v l) (hat:Below W.heap.size W w) (t:Int) (T:TypeId) (c:Nat)
  (hx:a.eval x= .slice (some ⟨w.heap.size,0,none⟩) 1 c) (hl:l.length≤1000000)
  (A1:Option Addr) (m:Nat) (k:List Int) (hk:IsAt w A1 m k) (hap:0<m→∀b off,A1=some ⟨b,off,none⟩→some b≠v.ownBlock)
  (A2:Option Addr) (m2:Nat) (k2:List Int) (hk2:IsAt w A2 m2 k2) (hap2:0<m2→∀b off,A2=some ⟨b,off,none⟩→some b≠v.ownBlock)
  (h:∀v' w',OwnI W w' v' (l++[t])→Below W.heap.size W w'→IsAt w' A1 m k→(0<m→∀b off,A1=some ⟨b,off,none⟩→some b≠v'.ownBlock)→IsAt w' A2 m2 k2→(0<m2→∀b off,A2=some ⟨b,off,none⟩→some b≠v'.ownBlock)→wpList Tryz.prog ops Q rest (a.put o.dst v') w'):wpList Tryz.prog ops Q (o::rest) a (w.alloc (.cells #[.int .i64 t] T)):=by
 obtain⟨i0,hi,hz0,hz1,hz2⟩:=info_parts info_int
 refine wpList_append_own_at _ hgd s x 22 ho W.heap.size 3 i0 (.int .i64 0) 1 8 Tryz.underlying22 hi hz0 hz1 hz2 rfl (by decide) v l.length (l.map (Value.int .i64)) hs (World.ownsRow.alloc hown _)
  ⟨w.heap.size,0,none⟩ 1 c [.int .i64 t] hx rfl ?_ (by intro u hu;obtain rfl:u= .int .i64 t:=by simpa using hu
                                                       rfl) (by unfold maxLen;omega) (by omega) (by have:=hat.size;simp;omega) ?_
 ·intro j u hj
  cases j with
  |zero=>obtain rfl:Value.int .i64 t=u:=by simpa using hj
         show (w.alloc (.cells #[.int .i64 t] T)).cell? ⟨w.heap.size,0,none⟩=_
         rw[World.cell?_alloc_new];rfl
  |succ j=>simp at hj
 ·intro v' w' hown' hg _ hb
  have hat1:Below W.heap.size W (w.alloc (.cells #[.int .i64 t] T)):=hat.trans ((Below.refl _ _).alloc hat.size _)
  have gr:=(World.grownBy_alloc w (.cells #[.int .i64 t] T) _).trans hg
  have key:∀(A:Option Addr) (m:Nat) (k:List Int),IsAt w A m k→(0<m→∀b off,A=some ⟨b,off,none⟩→some b≠v.ownBlock)→(0<m→∀b off,A=some ⟨b,off,none⟩→some b≠v'.ownBlock):=by
   intro A m k hk hap h0 b off e q
   obtain⟨b2,off2,e2,lt,-⟩:=hk.2 h0
   rw[e] at e2
   injection e2 with e2
   injection e2 with e3 e4
   subst e3
   rcases hb with hb|hb
   ·exact hap h0 b off e (by rw[←hb];exact q)
   ·rw[hb] at q
    injection q with q
    simp at q
    omega
  refine h v' w' ?_ (hat1.trans ((Below.refl _ _).grown hg (by have:=hat.size;simp;omega) fun _ hk=>(World.ownsRow.lt hown _ hk).1)) (IsAt.kept hk gr hap) (key _ _ _ hk hap) (IsAt.kept hk2 gr hap2) (key _ _ _ hk2 hap2)
  unfold OwnI
  rw[List.length_append,List.map_append]
  exact hown'
theorem WSt.same {w0 wr:World} {r:Ru} {start after most:Int} {v:Value} {sa:Option Addr} {sn:Nat} {ls:List Int} {last:Int} {cn:Nat} {D E acc:List Int} (h:WSt w0 wr r start after most v sa sn ls last cn D acc) (e:E=D):WSt w0 wr r start after most v sa sn ls last cn E acc:=e ▸ h
set_option maxRecDepth 100000 in
set_option maxHeartbeats 16000000 in
theorem walk6_is (w:World) (S:RS) (r:Ru) (start end_ after most:Int) (x:List Int) (h:RuAt w S r) (hm:mayR r=true) (hs:St.may start=true) (he:St.may end_=true) (m0:0≤most) (m1:most≤4096) (hx:walkR r start end_ after most=x):
  Calls Tryz.prog 90 #[S.val r,.int .i64 start,.int .i64 end_,.int .i64 after,.int .i64 most] w fun e w'=>ListF w x e w':=by
 have RA:=Lib.hid h
 clear h
 have HM:=Lib.hid hm
 have HS:=Lib.hid hs
 have s12:=of_decide_eq_true hs
 have e12:=of_decide_eq_true he
 have HC:=Lib.hid (freq_may hm).2.2.2.1
 obtain⟨fd,hfd⟩:∃z,start / 86400=z:=⟨_,rfl⟩
 have f1:-719162≤fd:=by omega
 have f2:fd≤2932896:=by omega
 have FD:=Lib.hid hfd
 have CUT:=Lib.hid (fun (D:List Int) (g:∃k,D++k=selL (hasM r start) start (hiR r end_)) (c0:0<r.cnt) (c1:(D.length:Int)=r.cnt) (c2:((D.filter fun y=>decide (after<y)).length:Int)≤most)=>show x=D.filter fun y=>decide (after<y) by
  obtain⟨k,g⟩:=g
  rw[←hx];exact walk_cut g c0 c1 c2)
 have FULL:=Lib.hid (fun (D:List Int) (g:∃k,D++k=selL (hasM r start) start (hiR r end_)) (c1:r.cnt=0∨(D.length:Int)≤r.cnt) (c2:((D.filter fun y=>decide (after<y)).length:Int)=most+1)=>show x=D.filter fun y=>decide (after<y) by
  obtain⟨k,g⟩:=g
  rw[←hx];exact walk_full g c1 c2 m0)
 have END:=Lib.hid (fun (n:Int) (g:end_≤n*86400) (c1:r.cnt=0∨((preD r start end_ (n*86400)).length:Int)≤r.cnt) (c2:(((preD r start end_ (n*86400)).filter fun y=>decide (after<y)).length:Int)≤most)=>show x=(preD r start end_ (n*86400)).filter fun y=>decide (after<y) by
  rw[←hx];exact walk_end (pre_all g) c1 c2)
 have PRE:=Lib.hid (fun (n:Int) (l:List Int) (j:Nat) (h1:isday n=true) (h2:fd≤n) (hl:ofDayL r start n=l)=>told_pre (end_:=end_) hm hs h1 (hfd ▸ h2) hl j)
 have ALL:=Lib.hid (fun (n:Int) (l:List Int) (h1:isday n=true) (h2:fd≤n) (hl:ofDayL r start n=l)=>told_all (end_:=end_) hm hs h1 (hfd ▸ h2) hl)
 have RAW:=Lib.hid (fun (n y:Int) (h:isday n=true) (g:y∈ofDayL r start n)=>raw_mem hm hs h g)
 have LEN:=Lib.hid (fun (n:Int) (h:isday n=true)=>ofDay_len (start:=start) hm hs h)
 have ML:=Lib.hid (show (selL (hasM r start) start (hiR r end_)).length≤316000000000 by
  have a:hiR r end_≤end_:=by unfold hiR;split<;>omega
  unfold selL
  refine Nat.le_trans (List.length_filter_le _ _) ?_
  rw[span_len]
  omega)
 have E14:=Lib.hid RA.out.h14.1
 have L14:=RA.out.l14
 have P0:=Lib.hid (show preD r start end_ (fd*86400)=[] by rw[←hfd];exact pre_0 r start end_)
 have sl:-9223372036854775808≤start:=by omega
 have sh:start≤9223372036854775807:=by omega
 clear hm hs he hx hfd
 obtain⟨ra6,rn6,rc6,ra7,rn7,rc7,ra8,rn8,rc8,ra9,rn9,rc9,ra10,rn10,rc10,ra11,rn11,rc11,ra12,rn12,rc12,ra13,rn13,rc13,ra14,rn14,rc14⟩:=S
 obtain⟨rfreq,ritv,rcnt,rtil,rwkst,rends,rmon,rweek,ryday,rmday,rday,rhour,rminu,rsec,rpos⟩:=r
 simp only at L14
 have E14:=Lib.hid (show rn14=rpos.length from E14.out)
 have HC:=Lib.hid (show 0≤rcnt from HC.out)
 have CUT:=Lib.hid (show ∀D:List Int,(∃k,D++k=selL (hasM ⟨rfreq,ritv,rcnt,rtil,rwkst,rends,rmon,rweek,ryday,rmday,rday,rhour,rminu,rsec,rpos⟩ start) start (hiR ⟨rfreq,ritv,rcnt,rtil,rwkst,rends,rmon,rweek,ryday,rmday,rday,rhour,rminu,rsec,rpos⟩ end_))→0<rcnt→(D.length:Int)=rcnt→((D.filter fun y=>decide (after<y)).length:Int)≤most→x=D.filter fun y=>decide (after<y) from CUT.out)
 have FULL:=Lib.hid (show ∀D:List Int,(∃k,D++k=selL (hasM ⟨rfreq,ritv,rcnt,rtil,rwkst,rends,rmon,rweek,ryday,rmday,rday,rhour,rminu,rsec,rpos⟩ start) start (hiR ⟨rfreq,ritv,rcnt,rtil,rwkst,rends,rmon,rweek,ryday,rmday,rday,rhour,rminu,rsec,rpos⟩ end_))→rcnt=0∨(D.length:Int)≤rcnt→((D.filter fun y=>decide (after<y)).length:Int)=most+1→x=D.filter fun y=>decide (after<y) from FULL.out)
 show Calls Tryz.prog 90 #[.agg #[.int .i64 rfreq,.int .i64 ritv,.int .i64 rcnt,.int .i64 rtil,.int .i64 rwkst,.bool rends,.slice ra6 rn6 rc6,.slice ra7 rn7 rc7,.slice ra8 rn8 rc8,.slice ra9 rn9 rc9,.slice ra10 rn10 rc10,.slice ra11 rn11 rc11,.slice ra12 rn12 rc12,.slice ra13 rn13 rc13,.slice ra14 rn14 rc14],.int .i64 start,.int .i64 end_,.int .i64 after,.int .i64 most] w _
 go_enter Tryz.func90,Tryz.ntmps90
 go_upto_region 1 with fail
 obtain⟨B0,Xr0⟩:=box_new w #[.int .i64 rfreq,.int .i64 ritv,.int .i64 rcnt,.int .i64 rtil,.int .i64 rwkst,.bool rends,.slice ra6 rn6 rc6,.slice ra7 rn7 rc7,.slice ra8 rn8 rc8,.slice ra9 rn9 rc9,.slice ra10 rn10 rc10,.slice ra11 rn11 rc11,.slice ra12 rn12 rc12,.slice ra13 rn13 rc13,.slice ra14 rn14 rc14] 25
 generalize w.alloc _=w0 at *
 go_wp2_with fail
 refine(rday_any start _ sl sh).mono ?_
 rintro e w' ⟨rfl,rfl⟩
 rw[FD.out]
 go_wp2
 go_loopw [11,12,13,14,17] (fun ov sv lv cv nv wr=>∃(v:Value) (sa:Option Addr) (sn sc:Nat) (ls:List Int) (last:Int) (cn k:Nat) (acc:List Int),v=ov∧sv= .slice sa sn sc∧lv= .int .i64 last∧cv= .int .i64 cn∧nv= .int .i64 (fd+k)∧fd+(k:Int)≤2932897∧Hid (WSt w0 wr ⟨rfreq,ritv,rcnt,rtil,rwkst,rends,rmon,rweek,ryday,rmday,rday,rhour,rminu,rsec,rpos⟩ start after most v sa sn ls last cn (preD ⟨rfreq,ritv,rcnt,rtil,rwkst,rends,rmon,rweek,ryday,rmday,rday,rhour,rminu,rsec,rpos⟩ start end_ ((fd+k)*86400)) acc)) (fun _ _ _ _ nv _=>(end_-intOf nv*86400).toNat)
 case atStart=>exact⟨_,none,0,0,[],0,0,0,[],rfl,rfl,rfl,rfl,by simp,by omega,Lib.hid ((WSt.start m0 HC.out).same (by simpa using P0.out))⟩
 case round=>
  obtain⟨v,sa,sn,sc,ls,last,cn,k,acc,rfl,rfl,rfl,rfl,rfl,nb,ST⟩:=hrel
  rename World=>w1
  have B1:=B0.trans (ST.out.below.mono B0.size)
  have X1:=Xr0.below ST.out.below
  by_cases hlt:(fd+(k:Int))*86400<end_
  rotate_left
  ·have W1:IntKind.i64.wrap ((fd+(k:Int))*86400)=(fd+(k:Int))*86400:=IntWalk.i64_in _ (by omega)
   have s0:decide ((fd+(k:Int))*86400<end_)=false:=decide_eq_false hlt
   have E:=Lib.hid (show x=acc by rw[END.out (fd+k) (by omega) (by rw[ST.out.num];exact ST.out.cnt) (by rw[ST.out.eq];exact ST.out.room)];exact ST.out.eq)
   go_wp2
   go_ret
   obtain⟨A,c,ev,ia,-,-⟩:=ST.out.own.at_
   subst ev
   rw[E.out]
   exact⟨A,c,rfl,ia,fresh_mono ST.out.own.fresh B0.size,B1⟩
  have W1:IntKind.i64.wrap ((fd+(k:Int))*86400)=(fd+(k:Int))*86400:=IntWalk.i64_in _ (by omega)
  have s0:decide ((fd+(k:Int))*86400<end_)=true:=decide_eq_true hlt
  have HD:=Lib.hid (show isday (fd+(k:Int))=true from decide_eq_true (by omega))
  have FK:=Lib.hid (show fd≤fd+(k:Int) by omega)
  obtain⟨l,hl⟩:∃l,ofDayL ⟨rfreq,ritv,rcnt,rtil,rwkst,rends,rmon,rweek,ryday,rmday,rday,rhour,rminu,rsec,rpos⟩ start (fd+k)=l:=⟨_,rfl⟩
  have HL:=Lib.hid hl
  have ll:=LEN.out _ HD.out
  have RW:=Lib.hid (fun y=>RAW.out (fd+k) y HD.out)
  have ALn:=Lib.hid (ALL.out (fd+k) l HD.out FK.out hl)
  have PRn:=Lib.hid (fun j=>PRE.out (fd+k) l j HD.out FK.out hl)
  rw[hl] at ll RW
  clear hl
  obtain⟨z0,z1,z2,z3,z4,z5,z6,z7,z8,z9,z10,z11,z12,z13,z14⟩:=cells15 X1
  go_wp2_with fail
  refine(ofDay_is _ ⟨ra6,rn6,rc6,ra7,rn7,rc7,ra8,rn8,rc8,ra9,rn9,rc9,ra10,rn10,rc10,ra11,rn11,rc11,ra12,rn12,rc12,ra13,rn13,rc13,ra14,rn14,rc14⟩ ⟨rfreq,ritv,rcnt,rtil,rwkst,rends,rmon,rweek,ryday,rmday,rday,rhour,rminu,rsec,rpos⟩ start (fd+k) 90000 l (RA.out.below B1) HM.out HS.out HD.out (by decide) HL.out).mono ?_
  rintro e w2 ⟨A1,p1,rfl,i1,fr,b2⟩
  have AP0:=Lib.hid (show 0<l.length→∀(bk:Nat) (off:Nat),A1=some ⟨bk,off,none⟩→some bk≠v.ownBlock from fun _ bk off e z=>absurd (World.ownsRow.lt ST.out.own bk z.symm).2 (Nat.not_lt.2 (fr bk off e).1))
  have ST2:=Lib.hid (ST.out.on b2)
  have K1:=Lib.hid i1
  clear z0 z1 z2 z3 z4 z5 z6 z7 z8 z9 z10 z11 z12 z13 z14 ST b2 i1 fr B1 X1
  obtain⟨m,hm⟩:∃m,l.length=m:=⟨_,rfl⟩
  have LM:=Lib.hid hm
  rw[hm] at K1 ll AP0 ALn ⊢
  clear hm
  go_wp2
  go_loopw [11,12,13,14,19] (fun ov sv lv cv jv wr=>∃(v:Value) (sa:Option Addr) (sn sc:Nat) (ls:List Int) (last:Int) (cn j:Nat) (acc:List Int),v=ov∧sv= .slice sa sn sc∧lv= .int .i64 last∧cv= .int .i64 cn∧jv= .int .i64 j∧j≤m∧Hid (WSt w0 wr ⟨rfreq,ritv,rcnt,rtil,rwkst,rends,rmon,rweek,ryday,rmday,rday,rhour,rminu,rsec,rpos⟩ start after most v sa sn ls last cn (toldD ⟨rfreq,ritv,rcnt,rtil,rwkst,rends,rmon,rweek,ryday,rmday,rday,rhour,rminu,rsec,rpos⟩ start end_ (fd+k) l j) acc)∧Hid (IsAt wr A1 m l)∧Hid (0<m→∀(bk:Nat) (off:Nat),A1=some ⟨bk,off,none⟩→some bk≠v.ownBlock)) (fun _ _ _ _ jv _=>m-(intOf jv).toNat)
  case atStart=>exact⟨_,sa,sn,sc,ls,last,cn,0,acc,rfl,rfl,rfl,rfl,rfl,by omega,Lib.hid (ST2.out.same (told_0 _ _ _ _ _)),K1,AP0⟩
  case round=>
   obtain⟨v,sa,sn,sc,ls,last,cn,j,acc,rfl,rfl,rfl,rfl,rfl,hj,ST,IL,AL⟩:=hrel
   rename World=>w3
   have B3:=B0.trans (ST.out.below.mono B0.size)
   have X3:=Xr0.below ST.out.below
   by_cases hlt2:j<m
   rotate_left
   ·obtain rfl:m=j:=by omega
    have s1:decide ((m:Int)<m)=false:=decide_eq_false (by omega)
    have ek:fd+((k+1:Nat):Int)=fd+k+1:=by omega
    have S4:=Lib.hid (ST.out.same (E:=preD ⟨rfreq,ritv,rcnt,rtil,rwkst,rends,rmon,rweek,ryday,rmday,rday,rhour,rminu,rsec,rpos⟩ start end_ ((fd+((k+1:Nat):Int))*86400)) (by rw[ek];exact ALn.out.symm))
    have nb2:fd+((k+1:Nat):Int)≤2932897:=by omega
    clear ek
    go_wp2
    go_roundw
    case rel=>exact⟨v,sa,sn,sc,ls,last,cn,k+1,acc,rfl,rfl,rfl,rfl,by go_num,nb2,S4⟩
    case measure=>simp[intOf];omega
   have s1:decide ((j:Int)<m)=true:=decide_eq_true (by omega)
   have s11:decide (j<m)=true:=decide_eq_true hlt2
   obtain⟨bl,off,ea,hb,hcc⟩:=IL.out.2 (show 0<m by omega)
   subst ea
   have cc:=hcc j hlt2
   have RR:=RW.out (iat l j) (by rw[iat_lt (by rw[LM.out];exact hlt2)];exact List.getElem_mem _)
   have NX:=told_nx (r:=⟨rfreq,ritv,rcnt,rtil,rwkst,rends,rmon,rweek,ryday,rmday,rday,rhour,rminu,rsec,rpos⟩) (start:=start) (end_:=end_) (n:=fd+k) (l:=l) (j:=j) (by rw[LM.out];exact hlt2)
   obtain⟨g,hg⟩:∃g,iat l j=g:=⟨_,rfl⟩
   rw[hg] at cc RR NX
   clear hcc hg hb
   have KT:=kp_tests (end_:=end_) RR.1
   obtain⟨kp,hkp⟩:∃c,kpB ⟨rfreq,ritv,rcnt,rtil,rwkst,rends,rmon,rweek,ryday,rmday,rday,rhour,rminu,rsec,rpos⟩ start end_ g=c:=⟨_,rfl⟩
   rw[hkp] at KT NX
   have MY:=Lib.hid RR.2
   have RG:=Lib.hid RR.1
   have NX:=Lib.hid NX
   obtain⟨sk,hsk⟩:∃c,(decide (g<start)||decide (end_≤g)||(rends&&decide (rtil<g)))=c:=⟨_,rfl⟩
   have SK:=Lib.hid hsk
   have KT:=Lib.hid (show kp=(!sk&&(decide (rpos=[])||placedB ⟨rfreq,ritv,rcnt,rtil,rwkst,rends,rmon,rweek,ryday,rmday,rday,rhour,rminu,rsec,rpos⟩ (setR ⟨rfreq,ritv,rcnt,rtil,rwkst,rends,rmon,rweek,ryday,rmday,rday,rhour,rminu,rsec,rpos⟩ start g 100000).1 g)) by rw[KT,←hsk])
   clear hkp hsk RR
   have u5:decide (m≤j)=false:=decide_eq_false (by omega)
   have u6:(j:Int)<m:=by omega
   go_upto_region 12 with fail
   have rz5:w3.cell? ⟨w.heap.size,5,none⟩=some (.bool rends):=X3.at_ 5 _ rfl
   have rz3:w3.cell? ⟨w.heap.size,3,none⟩=some (.int .i64 rtil):=X3.at_ 3 _ rfl
   go_cut [65] from 48 to 65 (fun s wx=>s= .bool sk∧wx=w3)
   case first=>
    by_cases a1:g<start
    ·have t1:decide (g<start)=true:=decide_eq_true a1
     have E:=Lib.hid (show true=sk by rw[←SK.out,t1];rfl)
     go_wp2
     go_meet
     exact⟨by rw[←E.out],rfl⟩
    have t1:decide (g<start)=false:=decide_eq_false a1
    by_cases a2:end_≤g
    ·have t2:decide (end_≤g)=true:=decide_eq_true a2
     have E:=Lib.hid (show true=sk by rw[←SK.out,t1,t2];rfl)
     go_wp2
     go_meet
     exact⟨by rw[←E.out],rfl⟩
    have t2:decide (end_≤g)=false:=decide_eq_false a2
    obtain⟨q3,h3⟩:∃c,decide (rtil<g)=c:=⟨_,rfl⟩
    have E:=Lib.hid (show (rends&&q3)=sk by rw[←SK.out,t1,t2,h3];rfl)
    cases rends
    ·go_wp2
     go_meet
     exact⟨by rw[←E.out];rfl,rfl⟩
    ·go_wp2
     go_meet
     exact⟨by rw[←E.out];rfl,rfl⟩
   case rest=>
    obtain⟨rfl,rfl⟩:=hcut
    rename World=>w3
    clear rz5 rz3 cc
    cases sk
    rotate_left
    ·have E:=Lib.hid (show toldD ⟨rfreq,ritv,rcnt,rtil,rwkst,rends,rmon,rweek,ryday,rmday,rday,rhour,rminu,rsec,rpos⟩ start end_ (fd+k) l (j+1)=toldD ⟨rfreq,ritv,rcnt,rtil,rwkst,rends,rmon,rweek,ryday,rmday,rday,rhour,rminu,rsec,rpos⟩ start end_ (fd+k) l j by rw[NX.out,KT.out];simp)
     have S4:=Lib.hid (ST.out.same E.out)
     go_wp2
     go_roundw
     case rel=>exact⟨v,sa,sn,sc,ls,last,cn,j+1,acc,rfl,rfl,rfl,rfl,by go_num,by omega,S4,IL,AL⟩
     case measure=>simp[intOf];omega
    by_cases p0:rn14=0
    ·have y14:w3.cell? ⟨w.heap.size,14,none⟩=some (.slice ra14 rn14 rc14):=X3.at_ 14 _ rfl
     have t2:decide ((0:Int)<(rn14:Int))=false:=decide_eq_false (by omega)
     have t2n:decide (0<rn14)=false:=decide_eq_false (by omega)
     have KP:=Lib.hid (show kp=true by
      have e:rpos=[]:=List.length_eq_zero_iff.1 (by rw[←E14.out];exact p0)
      rw[KT.out,e]
      rfl)
     clear p0
     have rz2:w3.cell? ⟨w.heap.size,2,none⟩=some (.int .i64 rcnt):=X3.at_ 2 _ rfl
     have NY:=Lib.hid (show toldD ⟨rfreq,ritv,rcnt,rtil,rwkst,rends,rmon,rweek,ryday,rmday,rday,rhour,rminu,rsec,rpos⟩ start end_ (fd+k) l (j+1)=toldD ⟨rfreq,ritv,rcnt,rtil,rwkst,rends,rmon,rweek,ryday,rmday,rday,rhour,rminu,rsec,rpos⟩ start end_ (fd+k) l j++[g] by rw[NX.out,KP.out];rfl)
     have CN:=ST.out.cnt
     have NM:=ST.out.num
     simp only at CN
     have cb:cn≤316000000000:=by
      obtain⟨z,e⟩:=PRn.out j
      have e:=congrArg List.length e
      rw[List.length_append,NM] at e
      have:=ML.out
      omega
     have W5:IntKind.i64.wrap ((cn:Int)+1)=(cn:Int)+1:=IntWalk.i64_in _ (by omega)
     obtain⟨c0,hc0⟩:∃c,(((cn:Int)==rcnt))=c:=⟨_,rfl⟩
     obtain⟨c1,hc1⟩:∃c,decide (0<rcnt)=c:=⟨_,rfl⟩
     by_cases both:(cn:Int)=rcnt∧0<rcnt
     ·have d0:c0=true:=by rw[←hc0,beq_iff_eq];exact both.1
      have d1:c1=true:=by rw[←hc1];exact decide_eq_true both.2
      subst d0 d1
      have E:=Lib.hid (show x=acc by rw[CUT.out _ (PRn.out j) both.2 (by rw[NM];exact both.1) (by rw[ST.out.eq];exact ST.out.room)];exact ST.out.eq)
      clear both CN NM cb
      go_wp2
      go_ret
      obtain⟨A,c,ev,ia,-,-⟩:=ST.out.own.at_
      subst ev
      rw[E.out]
      exact⟨A,c,rfl,ia,fresh_mono ST.out.own.fresh B0.size,B3⟩
     have CT:=Lib.hid (show rcnt=0∨((cn+1:Nat):Int)≤rcnt by have:=HC.out;omega)
     have PK:(c0&&c1)=false:=by
      rw[←hc0,←hc1]
      by_cases z:(cn:Int)=rcnt
      ·have y:¬0<rcnt:=fun q=>both ⟨z,q⟩
       rw[decide_eq_false y,Bool.and_false]
      ·rw[show ((cn:Int)==rcnt)=false by rw[beq_eq_false_iff_ne];exact z,Bool.false_and]
     go_upto_region 19 with fail
     go_cut [101] from 93 to 101 (fun s wx=>s= .bool false∧wx=w3)
     case first=>
      cases c0
      ·go_wp2
       go_meet
       exact⟨rfl,rfl⟩
      ·cases c1
       ·go_wp2
        go_meet
        exact⟨rfl,rfl⟩
       ·exact absurd PK (by decide)
     case rest=>
      obtain⟨rfl,rfl⟩:=hcut
      rename World=>w3
      clear rz2 both CN hc0 hc1 PK
      have NN:=Lib.hid (show (toldD ⟨rfreq,ritv,rcnt,rtil,rwkst,rends,rmon,rweek,ryday,rmday,rday,rhour,rminu,rsec,rpos⟩ start end_ (fd+k) l (j+1)).length=cn+1 by rw[NY.out,List.length_append,NM];rfl)
      clear NM
      have rm:=ST.out.room
      by_cases q2:after<g
      rotate_left
      ·have t5:decide (after<g)=false:=decide_eq_false q2
       have S4:WSt w0 w3 ⟨rfreq,ritv,rcnt,rtil,rwkst,rends,rmon,rweek,ryday,rmday,rday,rhour,rminu,rsec,rpos⟩ start after most v sa sn ls last (cn+1) (toldD ⟨rfreq,ritv,rcnt,rtil,rwkst,rends,rmon,rweek,ryday,rmday,rday,rhour,rminu,rsec,rpos⟩ start end_ (fd+k) l (j+1)) acc:=⟨ST.out.own,by rw[NY.out,List.filter_append,ST.out.eq];simp[q2],ST.out.room,NN.out,CT.out,ST.out.set,ST.out.len,ST.out.per,ST.out.far,ST.out.below⟩
       obtain⟨A,c,ev,-,-,-⟩:=ST.out.own.at_
       subst ev
       obtain⟨z,hz⟩:∃z,acc.length=z:=⟨_,rfl⟩
       have S4:=Lib.hid S4
       have HZ:=Lib.hid hz
       have s6:decide (most<((acc.length:Nat):Int))=false:=decide_eq_false (by omega)
       clear q2 hz
       go_wp2
       go_roundw
       case rel=>exact⟨_,sa,sn,sc,ls,last,cn+1,j+1,acc,rfl,rfl,rfl,by go_num,by go_num,by omega,S4,IL,AL⟩
       case measure=>simp[intOf];omega
      have t5:decide (after<g)=true:=decide_eq_true q2
      have R:acc.length≤1000000:=by omega
      have FX:=Lib.hid (show (toldD ⟨rfreq,ritv,rcnt,rtil,rwkst,rends,rmon,rweek,ryday,rmday,rday,rhour,rminu,rsec,rpos⟩ start end_ (fd+k) l (j+1)).filter (fun y=>decide (after<y))=acc++[g] by rw[NY.out,List.filter_append,ST.out.eq];simp[q2])
      clear q2
      go_wp2_with (at_builtin;refine append_numF rfl _ _ rfl v acc rfl ST.out.own ST.out.below _ _ _ rfl R _ m l IL.out AL.out sa sn ls ST.out.set ST.out.far ?_)
      intro v6 w6 ow6 hb6 i6 ap6 i7 ap7
      have OW:=Lib.hid ow6
      have I6:=Lib.hid i6
      have AP6:=Lib.hid ap6
      have I7:=Lib.hid i7
      have AP7:=Lib.hid ap7
      obtain⟨A,c,ev,-,-,-⟩:=ow6.at_
      clear ow6 i6 ap6 i7 ap7
      subst ev
      obtain⟨z,hz⟩:∃z,(acc++[g]).length=z:=⟨_,rfl⟩
      have hz2:=hz
      rw[List.length_append] at hz2
      simp only[List.length_cons,List.length_nil] at hz2
      rw[hz] at OW AP6 AP7 ⊢
      have HZ:=Lib.hid hz
      clear hz
      by_cases big:most<(z:Int)
      ·have s6:decide (most<(z:Int))=true:=decide_eq_true big
       have E:=Lib.hid (show x=acc++[g] by rw[FULL.out _ (PRn.out (j+1)) (by rw[NN.out];exact CT.out) (by rw[FX.out,HZ.out];omega)];exact FX.out)
       have BF:=B0.trans (hb6.mono B0.size)
       go_wp2
       go_ret
       rw[E.out]
       rw[←HZ.out] at OW ⊢
       exact⟨A,c,rfl,by obtain⟨A',c',ev,ia,-,-⟩:=OW.out.at_;injection ev with e1 e2 e3;subst e1;exact ia,fresh_mono OW.out.fresh B0.size,BF⟩
      ·have s6:decide (most<(z:Int))=false:=decide_eq_false big
       have S4:=Lib.hid (show WSt w0 w6 ⟨rfreq,ritv,rcnt,rtil,rwkst,rends,rmon,rweek,ryday,rmday,rday,rhour,rminu,rsec,rpos⟩ start after most (.slice A z c) sa sn ls last (cn+1) (toldD ⟨rfreq,ritv,rcnt,rtil,rwkst,rends,rmon,rweek,ryday,rmday,rday,rhour,rminu,rsec,rpos⟩ start end_ (fd+k) l (j+1)) (acc++[g]) from ⟨OW.out,FX.out,by rw[HZ.out];omega,NN.out,CT.out,I7.out,ST.out.len,ST.out.per,AP7.out,hb6⟩)
       go_wp2
       go_roundw
       case rel=>exact⟨_,sa,sn,sc,ls,last,cn+1,j+1,acc++[g],rfl,rfl,rfl,by go_num,by go_num,by omega,S4,I6,Lib.hid (fun h0 b2 o2 z2 z3=>AP6.out h0 (by injection z2 with z2;injection z2 with z4 z5;rw[z4];exact z3))⟩
       case measure=>simp[intOf];omega
    have t2:decide ((0:Int)<(rn14:Int))=true:=decide_eq_true (by omega)
    have t2n:decide (0<rn14)=true:=decide_eq_true (by omega)
    obtain⟨pg,hpg⟩:∃z,per ⟨rfreq,ritv,rcnt,rtil,rwkst,rends,rmon,rweek,ryday,rmday,rday,rhour,rminu,rsec,rpos⟩ g=z:=⟨_,rfl⟩
    have HPG:=Lib.hid hpg
    obtain⟨q,hq⟩:∃q,setR ⟨rfreq,ritv,rcnt,rtil,rwkst,rends,rmon,rweek,ryday,rmday,rday,rhour,rminu,rsec,rpos⟩ start g 100000=q:=⟨_,rfl⟩
    have HQ:=Lib.hid hq
    obtain⟨pb,hpb⟩:∃c,placedB ⟨rfreq,ritv,rcnt,rtil,rwkst,rends,rmon,rweek,ryday,rmday,rday,rhour,rminu,rsec,rpos⟩ q.1 g=c:=⟨_,rfl⟩
    have HPB:=Lib.hid hpb
    have KP2:=Lib.hid (show kp=pb by
     have e:rpos≠[]:=fun z=>p0 (by rw[E14.out,z];rfl)
     rw[KT.out,hq,hpb,decide_eq_false e]
     rfl)
    have GI:=Lib.hid (show inPer ⟨rfreq,ritv,rcnt,rtil,rwkst,rends,rmon,rweek,ryday,rmday,rday,rhour,rminu,rsec,rpos⟩ start g=true by
     have h:=RG.out
     unfold rawB at h
     simp only[Bool.and_eq_true] at h
     exact h.1.1.1.1)
    have QL:=Lib.hid (show q.1.length≤100000 by
     have h:=setR_few (r:=⟨rfreq,ritv,rcnt,rtil,rwkst,rends,rmon,rweek,ryday,rmday,rday,rhour,rminu,rsec,rpos⟩) (start:=start) (t:=g) (most:=100000) (by decide)
     rw[hq] at h
     omega)
    clear hpg hq hpb p0 KT
    obtain⟨z0,z1,z2,z3,z4,z5,z6,z7,z8,z9,z10,z11,z12,z13,z14⟩:=cells15 X3
    go_wp2_with fail
    refine(number_is _ ⟨ra6,rn6,rc6,ra7,rn7,rc7,ra8,rn8,rc8,ra9,rn9,rc9,ra10,rn10,rc10,ra11,rn11,rc11,ra12,rn12,rc12,ra13,rn13,rc13,ra14,rn14,rc14⟩ ⟨rfreq,ritv,rcnt,rtil,rwkst,rends,rmon,rweek,ryday,rmday,rday,rhour,rminu,rsec,rpos⟩ g pg (RA.out.below B3) HM.out MY.out HPG.out).mono ?_
    rintro e w4 ⟨rfl,b4⟩
    have S4:=Lib.hid (ST.out.on b4)
    have IL4:=Lib.hid (IL.out.below b4)
    have B4:=B3.trans (b4.mono B3.size)
    have X4:=X3.below b4
    clear z0 z1 z2 z3 z4 z5 z6 z7 z8 z9 z10 z11 z12 z13 z14 ST IL B3 X3 b4
    have nl:=fun w=>Lib.run_eql_slice_nil (P:=Tryz.prog) w 22 3 sa sn sc 0 0 Tryz.underlying22
    go_upto_region 15 with fail
    go_cut [79] from 73 to 79 (fun s wx=>∃c:Bool,s= .bool c∧wx=w4∧Hid (c=false→sa≠none∧pg=last))
    case first=>
     cases sa with
     |none=>
      go_wp2
      go_meet
      exact⟨true,rfl,rfl,Lib.hid (fun h=>by cases h)⟩
     |some ad=>
      by_cases e:pg=last
      ·have t4:((pg:Int) != last)=false:=by rw[bne_eq_false_iff_eq];exact e
       have EE:=Lib.hid e
       clear e
       go_wp2
       go_meet
       exact⟨false,rfl,rfl,Lib.hid (fun _=>⟨by simp,EE.out⟩)⟩
      ·have t4:((pg:Int) != last)=true:=by rw[bne_iff_ne];exact e
       clear e
       go_wp2
       go_meet
       exact⟨true,rfl,rfl,Lib.hid (fun h=>by cases h)⟩
    case rest=>
     obtain⟨c,rfl,rfl,HCc⟩:=hcut
     rename World=>w4
     clear nl
     go_upto_if 79 with fail
     go_cut [12,13] from 80 to 87 (fun s la wx=>∃(sb:Option Addr) (sm sd:Nat),s= .slice sb sm sd∧la= .int .i64 pg∧IsAt wx sb sm q.1∧sm≤100000∧(0<sm→∀(bk:Nat) (off:Nat),sb=some ⟨bk,off,none⟩→some bk≠v.ownBlock)∧Below w4.heap.size w4 wx)
     case first=>
      cases c
      ·obtain⟨n1,n2⟩:=HCc.out rfl
       have E:=Lib.hid (show ls=q.1 by
        rcases S4.out.per with z|⟨u,u1,u2,u3⟩
        ·exact absurd z n1
        ·rw[u3,←HQ.out]
         exact(set_per GI.out u1 (HPG.out.trans (n2.trans u2.symm))).symm)
       have I4:=Lib.hid (show IsAt w4 sa sn q.1 from E.out ▸ S4.out.set)
       have N2:=Lib.hid n2
       clear n1 n2
       go_wp2
       go_meet
       exact⟨sa,sn,sc,rfl,by rw[N2.out],I4.out,S4.out.len,S4.out.far,Below.refl _ _⟩
      ·obtain⟨z0,z1,z2,z3,z4,z5,z6,z7,z8,z9,z10,z11,z12,z13,z14⟩:=cells15 X4
       go_wp2_with fail
       refine(set6_is _ ⟨ra6,rn6,rc6,ra7,rn7,rc7,ra8,rn8,rc8,ra9,rn9,rc9,ra10,rn10,rc10,ra11,rn11,rc11,ra12,rn12,rc12,ra13,rn13,rc13,ra14,rn14,rc14⟩ ⟨rfreq,ritv,rcnt,rtil,rwkst,rends,rmon,rweek,ryday,rmday,rday,rhour,rminu,rsec,rpos⟩ start g q (RA.out.below B4) HM.out HS.out MY.out GI.out HQ.out).mono ?_
       rintro e w5 ⟨A5,c5,rfl,i5,fr,b5⟩
       have FR:=Lib.hid (show 0<q.1.length→∀(bk:Nat) (off:Nat),A5=some ⟨bk,off,none⟩→some bk≠v.ownBlock from fun _ bk off e z=>absurd (World.ownsRow.lt S4.out.own bk z.symm).2 (Nat.not_lt.2 (fr bk off e).1))
       have I5:=Lib.hid i5
       clear z0 z1 z2 z3 z4 z5 z6 z7 z8 z9 z10 z11 z12 z13 z14 i5 fr
       go_wp2
       go_meet
       exact⟨A5,q.1.length,c5,rfl,rfl,I5.out,QL.out,FR.out,b5⟩
     case rest=>
      obtain⟨sb,sm,sd,rfl,rfl,i5,l5,f5,b5⟩:=hcut
      rename World=>w5
      have S5:=Lib.hid (show WSt w0 w5 ⟨rfreq,ritv,rcnt,rtil,rwkst,rends,rmon,rweek,ryday,rmday,rday,rhour,rminu,rsec,rpos⟩ start after most v sb sm q.1 pg cn (toldD ⟨rfreq,ritv,rcnt,rtil,rwkst,rends,rmon,rweek,ryday,rmday,rday,rhour,rminu,rsec,rpos⟩ start end_ (fd+k) l j) acc from ⟨S4.out.own.on b5,S4.out.eq,S4.out.room,S4.out.num,S4.out.cnt,i5,l5,.inr ⟨g,GI.out,HPG.out,by rw[HQ.out]⟩,f5,S4.out.below.trans (b5.mono S4.out.below.size)⟩)
      have IL5:=Lib.hid (IL4.out.below b5)
      have B5:=B4.trans (b5.mono B4.size)
      have X5:=X4.below b5
      clear S4 IL4 B4 X4 HCc i5 f5 b5
      obtain⟨z0,z1,z2,z3,z4,z5,z6,z7,z8,z9,z10,z11,z12,z13,z14⟩:=cells15 X5
      go_wp2_with fail
      refine(placed_is _ ⟨ra6,rn6,rc6,ra7,rn7,rc7,ra8,rn8,rc8,ra9,rn9,rc9,ra10,rn10,rc10,ra11,rn11,rc11,ra12,rn12,rc12,ra13,rn13,rc13,ra14,rn14,rc14⟩ ⟨rfreq,ritv,rcnt,rtil,rwkst,rends,rmon,rweek,ryday,rmday,rday,rhour,rminu,rsec,rpos⟩ sb sm sd q.1 g pb (RA.out.below B5) S5.out.set (by omega) HPB.out).mono ?_
      rintro e w6 ⟨rfl,b6⟩
      have ST:=Lib.hid (S5.out.on b6)
      have IL:=Lib.hid (IL5.out.below b6)
      have B6:=B5.trans (b6.mono B5.size)
      have X6:=X5.below b6
      clear z0 z1 z2 z3 z4 z5 z6 z7 z8 z9 z10 z11 z12 z13 z14 S5 IL5 B5 X5 b6 l5
      cases pb
      ·have E:=Lib.hid (show toldD ⟨rfreq,ritv,rcnt,rtil,rwkst,rends,rmon,rweek,ryday,rmday,rday,rhour,rminu,rsec,rpos⟩ start end_ (fd+k) l (j+1)=toldD ⟨rfreq,ritv,rcnt,rtil,rwkst,rends,rmon,rweek,ryday,rmday,rday,rhour,rminu,rsec,rpos⟩ start end_ (fd+k) l j by rw[NX.out,KP2.out];simp)
       have S7:=Lib.hid (ST.out.same E.out)
       go_wp2
       go_roundw
       case rel=>exact⟨v,sb,sm,sd,q.1,pg,cn,j+1,acc,rfl,rfl,rfl,rfl,by go_num,by omega,S7,IL,AL⟩
       case measure=>simp[intOf];omega
      ·have KP:=Lib.hid (show kp=true from KP2.out)
       clear KP2
       have rz2:w6.cell? ⟨w.heap.size,2,none⟩=some (.int .i64 rcnt):=X6.at_ 2 _ rfl
       have NY:=Lib.hid (show toldD ⟨rfreq,ritv,rcnt,rtil,rwkst,rends,rmon,rweek,ryday,rmday,rday,rhour,rminu,rsec,rpos⟩ start end_ (fd+k) l (j+1)=toldD ⟨rfreq,ritv,rcnt,rtil,rwkst,rends,rmon,rweek,ryday,rmday,rday,rhour,rminu,rsec,rpos⟩ start end_ (fd+k) l j++[g] by rw[NX.out,KP.out];rfl)
       have CN:=ST.out.cnt
       have NM:=ST.out.num
       simp only at CN
       have cb:cn≤316000000000:=by
        obtain⟨z,e⟩:=PRn.out j
        have e:=congrArg List.length e
        rw[List.length_append,NM] at e
        have:=ML.out
        omega
       have W5:IntKind.i64.wrap ((cn:Int)+1)=(cn:Int)+1:=IntWalk.i64_in _ (by omega)
       obtain⟨c0,hc0⟩:∃c,(((cn:Int)==rcnt))=c:=⟨_,rfl⟩
       obtain⟨c1,hc1⟩:∃c,decide (0<rcnt)=c:=⟨_,rfl⟩
       by_cases both:(cn:Int)=rcnt∧0<rcnt
       ·have d0:c0=true:=by rw[←hc0,beq_iff_eq];exact both.1
        have d1:c1=true:=by rw[←hc1];exact decide_eq_true both.2
        subst d0 d1
        have E:=Lib.hid (show x=acc by rw[CUT.out _ (PRn.out j) both.2 (by rw[NM];exact both.1) (by rw[ST.out.eq];exact ST.out.room)];exact ST.out.eq)
        clear both CN NM cb
        go_wp2
        go_ret
        obtain⟨A,c,ev,ia,-,-⟩:=ST.out.own.at_
        subst ev
        rw[E.out]
        exact⟨A,c,rfl,ia,fresh_mono ST.out.own.fresh B0.size,B6⟩
       have CT:=Lib.hid (show rcnt=0∨((cn+1:Nat):Int)≤rcnt by have:=HC.out;omega)
       have PK:(c0&&c1)=false:=by
        rw[←hc0,←hc1]
        by_cases z:(cn:Int)=rcnt
        ·have y:¬0<rcnt:=fun q=>both ⟨z,q⟩
         rw[decide_eq_false y,Bool.and_false]
        ·rw[show ((cn:Int)==rcnt)=false by rw[beq_eq_false_iff_ne];exact z,Bool.false_and]
       go_upto_region 19 with fail
       go_cut [101] from 93 to 101 (fun s wx=>s= .bool false∧wx=w6)
       case first=>
        cases c0
        ·go_wp2
         go_meet
         exact⟨rfl,rfl⟩
        ·cases c1
         ·go_wp2
          go_meet
          exact⟨rfl,rfl⟩
         ·exact absurd PK (by decide)
       case rest=>
        obtain⟨rfl,rfl⟩:=hcut
        rename World=>w6
        clear rz2 both CN hc0 hc1 PK
        have NN:=Lib.hid (show (toldD ⟨rfreq,ritv,rcnt,rtil,rwkst,rends,rmon,rweek,ryday,rmday,rday,rhour,rminu,rsec,rpos⟩ start end_ (fd+k) l (j+1)).length=cn+1 by rw[NY.out,List.length_append,NM];rfl)
        clear NM
        have rm:=ST.out.room
        by_cases q2:after<g
        rotate_left
        ·have t5:decide (after<g)=false:=decide_eq_false q2
         have S4:WSt w0 w6 ⟨rfreq,ritv,rcnt,rtil,rwkst,rends,rmon,rweek,ryday,rmday,rday,rhour,rminu,rsec,rpos⟩ start after most v sb sm q.1 pg (cn+1) (toldD ⟨rfreq,ritv,rcnt,rtil,rwkst,rends,rmon,rweek,ryday,rmday,rday,rhour,rminu,rsec,rpos⟩ start end_ (fd+k) l (j+1)) acc:=⟨ST.out.own,by rw[NY.out,List.filter_append,ST.out.eq];simp[q2],ST.out.room,NN.out,CT.out,ST.out.set,ST.out.len,ST.out.per,ST.out.far,ST.out.below⟩
         obtain⟨A,c,ev,-,-,-⟩:=ST.out.own.at_
         subst ev
         obtain⟨z,hz⟩:∃z,acc.length=z:=⟨_,rfl⟩
         have S4:=Lib.hid S4
         have HZ:=Lib.hid hz
         have s6:decide (most<((acc.length:Nat):Int))=false:=decide_eq_false (by omega)
         clear q2 hz
         go_wp2
         go_roundw
         case rel=>exact⟨_,sb,sm,sd,q.1,pg,cn+1,j+1,acc,rfl,rfl,rfl,by go_num,by go_num,by omega,S4,IL,AL⟩
         case measure=>simp[intOf];omega
        have t5:decide (after<g)=true:=decide_eq_true q2
        have R:acc.length≤1000000:=by omega
        have FX:=Lib.hid (show (toldD ⟨rfreq,ritv,rcnt,rtil,rwkst,rends,rmon,rweek,ryday,rmday,rday,rhour,rminu,rsec,rpos⟩ start end_ (fd+k) l (j+1)).filter (fun y=>decide (after<y))=acc++[g] by rw[NY.out,List.filter_append,ST.out.eq];simp[q2])
        clear q2
        go_wp2_with (at_builtin;refine append_numF rfl _ _ rfl v acc rfl ST.out.own ST.out.below _ _ _ rfl R _ m l IL.out AL.out sb sm q.1 ST.out.set ST.out.far ?_)
        intro v6 w6 ow6 hb6 i6 ap6 i7 ap7
        have OW:=Lib.hid ow6
        have I6:=Lib.hid i6
        have AP6:=Lib.hid ap6
        have I7:=Lib.hid i7
        have AP7:=Lib.hid ap7
        obtain⟨A,c,ev,-,-,-⟩:=ow6.at_
        clear ow6 i6 ap6 i7 ap7
        subst ev
        obtain⟨z,hz⟩:∃z,(acc++[g]).length=z:=⟨_,rfl⟩
        have hz2:=hz
        rw[List.length_append] at hz2
        simp only[List.length_cons,List.length_nil] at hz2
        rw[hz] at OW AP6 AP7 ⊢
        have HZ:=Lib.hid hz
        clear hz
        by_cases big:most<(z:Int)
        ·have s6:decide (most<(z:Int))=true:=decide_eq_true big
         have E:=Lib.hid (show x=acc++[g] by rw[FULL.out _ (PRn.out (j+1)) (by rw[NN.out];exact CT.out) (by rw[FX.out,HZ.out];omega)];exact FX.out)
         have BF:=B0.trans (hb6.mono B0.size)
         go_wp2
         go_ret
         rw[E.out]
         rw[←HZ.out] at OW ⊢
         exact⟨A,c,rfl,by obtain⟨A',c',ev,ia,-,-⟩:=OW.out.at_;injection ev with e1 e2 e3;subst e1;exact ia,fresh_mono OW.out.fresh B0.size,BF⟩
        ·have s6:decide (most<(z:Int))=false:=decide_eq_false big
         have S4:=Lib.hid (show WSt w0 w6 ⟨rfreq,ritv,rcnt,rtil,rwkst,rends,rmon,rweek,ryday,rmday,rday,rhour,rminu,rsec,rpos⟩ start after most (.slice A z c) sb sm q.1 pg (cn+1) (toldD ⟨rfreq,ritv,rcnt,rtil,rwkst,rends,rmon,rweek,ryday,rmday,rday,rhour,rminu,rsec,rpos⟩ start end_ (fd+k) l (j+1)) (acc++[g]) from ⟨OW.out,FX.out,by rw[HZ.out];omega,NN.out,CT.out,I7.out,ST.out.len,ST.out.per,AP7.out,hb6⟩)
         go_wp2
         go_roundw
         case rel=>exact⟨_,sb,sm,sd,q.1,pg,cn+1,j+1,acc++[g],rfl,rfl,rfl,by go_num,by go_num,by omega,S4,I6,Lib.hid (fun h0 b2 o2 z2 z3=>AP6.out h0 (by injection z2 with z2;injection z2 with z4 z5;rw[z4];exact z3))⟩
         case measure=>simp[intOf];omega
end Go.Proofs.YtchpjhjjakckbaaGreatDoor.Ex
namespace Go.Proofs.YtchpjhjjakckbaaGreatDoor.Ex
open Go.RowKit Cv St Ru Dd Mb
theorem far_is (w:World) (start end_:Int) (x:Bool) (hs:St.may start=true) (hx:(!St.may end_||decide (316224000<end_-start))=x):
  Calls Tryz.prog 89 #[.int .i64 start,.int .i64 end_] w fun e w'=>e= .returned (.bool x)∧Below w.heap.size w w':=by
 have s1:=of_decide_eq_true hs
 obtain⟨b,hb⟩:∃b,St.may end_=b:=⟨_,rfl⟩
 have HB:=Lib.hid hb
 rw[hb] at hx
 have HX:=Lib.hid hx
 have EB:=Lib.hid (fun (e:b=true)=>of_decide_eq_true (hb.trans e))
 clear hs hx hb
 go_enter Tryz.func89,Tryz.ntmps89
 go_wp2_with fail
 refine(rmay_any end_ _).mono ?_
 rintro e w' ⟨rfl,rfl⟩
 rw[HB.out]
 cases b
 ·go_wp2
  go_ret
  exact⟨ret_bool (by rw[←HX.out];rfl),Below.refl _ _⟩
 ·have e1:=EB.out (by first|rfl|trivial)
  have W1:IntKind.i64.wrap (end_-start)=end_-start:=IntWalk.i64_in _ (by omega)
  obtain⟨c,hc⟩:∃c,decide (316224000<end_-start)=c:=⟨_,rfl⟩
  have E:=Lib.hid (show c=x by rw[←HX.out,←hc];rfl)
  go_wp2
  go_ret
  exact⟨ret_bool E.out,Below.refl _ _⟩
set_option maxRecDepth 100000 in
set_option maxHeartbeats 16000000 in
theorem list6_is (w:World) (S:RS) (r:Ru) (start end_ most:Int) (p:List Int×Int) (h:RuAt w S r) (hp:listR r start end_ most=p):
  Calls Tryz.prog 40 #[S.val r,.int .i64 start,.int .i64 end_,.int .i64 most] w fun e w'=>SetIs w p e w':=by
 have RA:=Lib.hid h
 clear h
 have HM0:=Lib.hid (rfl:mayR r=mayR r)
 obtain⟨m,hm⟩:∃m,mayR r=m:=⟨_,rfl⟩
 obtain⟨a,ha⟩:∃m,St.may start=m:=⟨_,rfl⟩
 obtain⟨f,hf⟩:∃c,(!St.may end_||decide (316224000<end_-start))=c:=⟨_,rfl⟩
 have HM:=Lib.hid hm
 have HA:=Lib.hid ha
 have HF:=Lib.hid hf
 have SB:=Lib.hid (fun (e:a=true)=>show -62135596800≤start∧start≤253402300799 from of_decide_eq_true (ha.trans e))
 have EB:=Lib.hid (fun (e:f=false)=>show St.may end_=true∧end_-start≤316224000 by
  rw[←hf] at e
  cases z:St.may end_
  ·rw[z] at e;simp at e
  ·rw[z] at e;simp at e;exact⟨rfl,by omega⟩)
 have NO:=Lib.hid (fun (g:m=false∨a=false∨f=true∨¬(1≤most∧most≤4096))=>show ([],(1:Int))=p by
  rw[←hp]
  unfold listR mayE
  rw[if_pos]
  rw[hm,ha]
  rcases g with g|g|g|g
  ·rw[g];rfl
  ·rw[g];simp
  ·rw[←hf,Bool.or_eq_true] at g
   rcases g with g|g
   ·rw[show St.may end_=false by simpa using g];simp
   ·rw[show decide (end_-start≤316224000)=false from decide_eq_false (by have:=of_decide_eq_true g;omega)];simp
  ·rw[decide_eq_false g];simp)
 have YES:=Lib.hid (fun (g1:m=true) (g2:a=true) (g3:f=false) (g4:1≤most∧most≤4096)=>show p=if most<((walkR r start end_ (start-1) most).length:Int) then ([],10) else (walkR r start end_ (start-1) most,0) by
  obtain⟨e1,e2⟩:=EB.out g3
  rw[←hp]
  exact walk_list (mayE_mk (hm.trans g1) (ha.trans g2) e1 e2 g4.1 g4.2))
 clear hp hm ha hf HM0
 obtain⟨ra6,rn6,rc6,ra7,rn7,rc7,ra8,rn8,rc8,ra9,rn9,rc9,ra10,rn10,rc10,ra11,rn11,rc11,ra12,rn12,rc12,ra13,rn13,rc13,ra14,rn14,rc14⟩:=S
 obtain⟨rfreq,ritv,rcnt,rtil,rwkst,rends,rmon,rweek,ryday,rmday,rday,rhour,rminu,rsec,rpos⟩:=r
 have YES:=Lib.hid (show m=true→a=true→f=false→(1≤most∧most≤4096)→p=if most<((walkR ⟨rfreq,ritv,rcnt,rtil,rwkst,rends,rmon,rweek,ryday,rmday,rday,rhour,rminu,rsec,rpos⟩ start end_ (start-1) most).length:Int) then ([],10) else (walkR ⟨rfreq,ritv,rcnt,rtil,rwkst,rends,rmon,rweek,ryday,rmday,rday,rhour,rminu,rsec,rpos⟩ start end_ (start-1) most,0) from YES.out)
 show Calls Tryz.prog 40 #[.agg #[.int .i64 rfreq,.int .i64 ritv,.int .i64 rcnt,.int .i64 rtil,.int .i64 rwkst,.bool rends,.slice ra6 rn6 rc6,.slice ra7 rn7 rc7,.slice ra8 rn8 rc8,.slice ra9 rn9 rc9,.slice ra10 rn10 rc10,.slice ra11 rn11 rc11,.slice ra12 rn12 rc12,.slice ra13 rn13 rc13,.slice ra14 rn14 rc14],.int .i64 start,.int .i64 end_,.int .i64 most] w _
 go_enter Tryz.func40,Tryz.ntmps40
 go_upto_region 1 with fail
 obtain⟨B0,Xr0⟩:=box_new w #[.int .i64 rfreq,.int .i64 ritv,.int .i64 rcnt,.int .i64 rtil,.int .i64 rwkst,.bool rends,.slice ra6 rn6 rc6,.slice ra7 rn7 rc7,.slice ra8 rn8 rc8,.slice ra9 rn9 rc9,.slice ra10 rn10 rc10,.slice ra11 rn11 rc11,.slice ra12 rn12 rc12,.slice ra13 rn13 rc13,.slice ra14 rn14 rc14] 25
 generalize w.alloc _=w0 at *
 obtain⟨rz0,rz1,rz2,rz3,rz4,rz5,rz6,rz7,rz8,rz9,rz10,rz11,rz12,rz13,rz14⟩:=cells15 Xr0
 go_wp2_with fail
 refine(right_is _ ⟨ra6,rn6,rc6,ra7,rn7,rc7,ra8,rn8,rc8,ra9,rn9,rc9,ra10,rn10,rc10,ra11,rn11,rc11,ra12,rn12,rc12,ra13,rn13,rc13,ra14,rn14,rc14⟩ ⟨rfreq,ritv,rcnt,rtil,rwkst,rends,rmon,rweek,ryday,rmday,rday,rhour,rminu,rsec,rpos⟩ start m a (RA.out.below B0) HM.out HA.out).mono ?_
 rintro e w1 ⟨rfl,b1⟩
 clear rz0 rz1 rz2 rz3 rz4 rz5 rz6 rz7 rz8 rz9 rz10 rz11 rz12 rz13 rz14
 have B1:=B0.trans (b1.mono B0.size)
 have Xr1:=Xr0.below b1
 clear B0 Xr0
 clear b1
 cases m
 ·have N:=Lib.hid (NO.out (.inl rfl))
  go_wp2
  go_ret2
  exact set_nil N.out B1
 ·cases a
  ·have N:=Lib.hid (NO.out (.inr (.inl rfl)))
   go_wp2
   go_ret2
   exact set_nil N.out B1
  ·go_wp2_with fail
   refine(far_is _ start end_ f HA.out HF.out).mono ?_
   rintro e w2 ⟨rfl,b2⟩
   have B2:=B1.trans (b2.mono B1.size)
   have Xr2:=Xr1.below b2
   clear B1 Xr1
   clear b2
   cases f
   rotate_left
   ·have N:=Lib.hid (NO.out (.inr (.inr (.inl rfl))))
    go_wp2
    go_ret2
    exact set_nil N.out B2
   by_cases c1:most<1
   ·have t1:decide (most<1)=true:=decide_eq_true c1
    have N:=Lib.hid (NO.out (.inr (.inr (.inr (by omega)))))
    go_wp2
    go_ret2
    exact set_nil N.out B2
   have t1:decide (most<1)=false:=decide_eq_false c1
   by_cases c2:4096<most
   ·have t2:decide (4096<most)=true:=decide_eq_true c2
    have N:=Lib.hid (NO.out (.inr (.inr (.inr (by omega)))))
    go_wp2
    go_ret2
    exact set_nil N.out B2
   have t2:decide (4096<most)=false:=decide_eq_false c2
   have Y:=Lib.hid (YES.out (by first|rfl|trivial) (by first|rfl|trivial) (by first|rfl|trivial) ⟨by omega,by omega⟩)
   have sb:=SB.out (by first|rfl|trivial)
   have W1:IntKind.i64.wrap (start-1)=start-1:=IntWalk.i64_in _ (by omega)
   have ME:=Lib.hid (EB.out (by first|rfl|trivial)).1
   obtain⟨l,hl⟩:∃l,walkR ⟨rfreq,ritv,rcnt,rtil,rwkst,rends,rmon,rweek,ryday,rmday,rday,rhour,rminu,rsec,rpos⟩ start end_ (start-1) most=l:=⟨_,rfl⟩
   have HL:=Lib.hid hl
   rw[hl] at Y
   clear hl YES NO
   obtain⟨rz0,rz1,rz2,rz3,rz4,rz5,rz6,rz7,rz8,rz9,rz10,rz11,rz12,rz13,rz14⟩:=cells15 Xr2
   go_wp2_with fail
   refine(walk6_is _ ⟨ra6,rn6,rc6,ra7,rn7,rc7,ra8,rn8,rc8,ra9,rn9,rc9,ra10,rn10,rc10,ra11,rn11,rc11,ra12,rn12,rc12,ra13,rn13,rc13,ra14,rn14,rc14⟩ ⟨rfreq,ritv,rcnt,rtil,rwkst,rends,rmon,rweek,ryday,rmday,rday,rhour,rminu,rsec,rpos⟩ start end_ (start-1) most l (RA.out.below B2) HM.out HA.out ME.out (by omega) (by omega) HL.out).mono ?_
   rintro e w3 ⟨A1,p1,rfl,i1,-,b3⟩
   clear rz0 rz1 rz2 rz3 rz4 rz5 rz6 rz7 rz8 rz9 rz10 rz11 rz12 rz13 rz14
   have B3:=B2.trans (b3.mono B2.size)
   have Xr3:=Xr2.below b3
   clear B2 Xr2
   have K1:=Lib.hid i1
   obtain⟨k,hk⟩:∃k,l.length=k:=⟨_,rfl⟩
   have HK:=Lib.hid hk
   rw[hk] at Y K1 ⊢
   clear i1 hk
   by_cases big:most<(k:Int)
   ·have t3:decide (most<(k:Int))=true:=decide_eq_true big
    have N:=Lib.hid (show ([],(10:Int))=p by rw[Y.out,if_pos big])
    go_wp2
    go_ret2
    exact set_nil N.out B3
   ·have t3:decide (most<(k:Int))=false:=decide_eq_false big
    have N:=Lib.hid (show p=(l,0) by rw[Y.out,if_neg big])
    go_wp2
    go_ret2
    rw[N.out]
    exact⟨A1,p1,by show _=Ending.returned (.tuple #[.slice A1 l.length p1,.int .i64 0]);rw[HK.out];rfl,by show IsAt _ A1 l.length l;rw[HK.out];exact K1.out,B3⟩
end Go.Proofs.YtchpjhjjakckbaaGreatDoor.Ex
namespace Go.Proofs.YtchpjhjjakckbaaGreatDoor.Ex
open Go.RowKit Cv St Ru Dd Mb
theorem iat_head (x:Int) (t:List Int):iat (x::t) 0=x:=rfl
set_option maxRecDepth 100000 in
set_option maxHeartbeats 16000000 in
theorem next6_is (w:World) (S:RS) (r:Ru) (start after end_:Int) (x:Int) (y:Bool) (h:RuAt w S r) (hx:nextR r start after end_=(x,y)):
  Calls Tryz.prog 43 #[S.val r,.int .i64 start,.int .i64 after,.int .i64 end_] w fun e w'=>e= .returned (.tuple #[.int .i64 x,.bool y])∧Below w.heap.size w w':=by
 have RA:=Lib.hid h
 clear h
 have HM0:=Lib.hid (rfl:mayR r=mayR r)
 obtain⟨m,hm⟩:∃m,mayR r=m:=⟨_,rfl⟩
 obtain⟨a,ha⟩:∃m,St.may start=m:=⟨_,rfl⟩
 obtain⟨f,hf⟩:∃c,(!St.may end_||decide (316224000<end_-start))=c:=⟨_,rfl⟩
 have HM:=Lib.hid hm
 have HA:=Lib.hid ha
 have HF:=Lib.hid hf
 have SB:=Lib.hid (fun (e:a=true)=>show -62135596800≤start∧start≤253402300799 from of_decide_eq_true (ha.trans e))
 have EB:=Lib.hid (fun (e:f=false)=>show St.may end_=true∧end_-start≤316224000 by
  rw[←hf] at e
  cases z:St.may end_
  ·rw[z] at e;simp at e
  ·rw[z] at e;simp at e;exact⟨rfl,by omega⟩)
 have NO:=Lib.hid (fun (g:m=false∨a=false∨f=true)=>show ((0:Int),false)=(x,y) by
  rw[←hx]
  unfold nextR
  rw[if_pos]
  left
  unfold mayE
  rw[hm,ha]
  rcases g with g|g|g
  ·rw[g];rfl
  ·rw[g];simp
  ·rw[←hf,Bool.or_eq_true] at g
   rcases g with g|g
   ·rw[show St.may end_=false by simpa using g];simp
   ·rw[show decide (end_-start≤316224000)=false from decide_eq_false (by have:=of_decide_eq_true g;omega)];simp)
 have YES:=Lib.hid (fun (g1:m=true) (g2:a=true) (g3:f=false)=>show (x,y)=match walkR r start end_ after 0 with | []=>((0:Int),false)|z::_=>(z,true) by
  obtain⟨e1,e2⟩:=EB.out g3
  rw[←hx]
  exact walk_next (mayE_mk (hm.trans g1) (ha.trans g2) e1 e2 (by decide) (by decide)))
 clear hx hm ha hf HM0
 obtain⟨ra6,rn6,rc6,ra7,rn7,rc7,ra8,rn8,rc8,ra9,rn9,rc9,ra10,rn10,rc10,ra11,rn11,rc11,ra12,rn12,rc12,ra13,rn13,rc13,ra14,rn14,rc14⟩:=S
 obtain⟨rfreq,ritv,rcnt,rtil,rwkst,rends,rmon,rweek,ryday,rmday,rday,rhour,rminu,rsec,rpos⟩:=r
 have YES:=Lib.hid (show m=true→a=true→f=false→(x,y)=match walkR ⟨rfreq,ritv,rcnt,rtil,rwkst,rends,rmon,rweek,ryday,rmday,rday,rhour,rminu,rsec,rpos⟩ start end_ after 0 with | []=>((0:Int),false)|z::_=>(z,true) from YES.out)
 show Calls Tryz.prog 43 #[.agg #[.int .i64 rfreq,.int .i64 ritv,.int .i64 rcnt,.int .i64 rtil,.int .i64 rwkst,.bool rends,.slice ra6 rn6 rc6,.slice ra7 rn7 rc7,.slice ra8 rn8 rc8,.slice ra9 rn9 rc9,.slice ra10 rn10 rc10,.slice ra11 rn11 rc11,.slice ra12 rn12 rc12,.slice ra13 rn13 rc13,.slice ra14 rn14 rc14],.int .i64 start,.int .i64 after,.int .i64 end_] w _
 go_enter Tryz.func43,Tryz.ntmps43
 go_upto_region 1 with fail
 obtain⟨B0,Xr0⟩:=box_new w #[.int .i64 rfreq,.int .i64 ritv,.int .i64 rcnt,.int .i64 rtil,.int .i64 rwkst,.bool rends,.slice ra6 rn6 rc6,.slice ra7 rn7 rc7,.slice ra8 rn8 rc8,.slice ra9 rn9 rc9,.slice ra10 rn10 rc10,.slice ra11 rn11 rc11,.slice ra12 rn12 rc12,.slice ra13 rn13 rc13,.slice ra14 rn14 rc14] 25
 generalize w.alloc _=w0 at *
 obtain⟨rz0,rz1,rz2,rz3,rz4,rz5,rz6,rz7,rz8,rz9,rz10,rz11,rz12,rz13,rz14⟩:=cells15 Xr0
 go_wp2_with fail
 refine(right_is _ ⟨ra6,rn6,rc6,ra7,rn7,rc7,ra8,rn8,rc8,ra9,rn9,rc9,ra10,rn10,rc10,ra11,rn11,rc11,ra12,rn12,rc12,ra13,rn13,rc13,ra14,rn14,rc14⟩ ⟨rfreq,ritv,rcnt,rtil,rwkst,rends,rmon,rweek,ryday,rmday,rday,rhour,rminu,rsec,rpos⟩ start m a (RA.out.below B0) HM.out HA.out).mono ?_
 rintro e w1 ⟨rfl,b1⟩
 clear rz0 rz1 rz2 rz3 rz4 rz5 rz6 rz7 rz8 rz9 rz10 rz11 rz12 rz13 rz14
 have B1:=B0.trans (b1.mono B0.size)
 have Xr1:=Xr0.below b1
 clear B0 Xr0
 clear b1
 cases m
 ·obtain⟨rfl,rfl⟩:=Prod.mk.inj (NO.out (.inl rfl))
  go_wp2
  go_ret2
  exact⟨rfl,B1⟩
 ·cases a
  ·obtain⟨rfl,rfl⟩:=Prod.mk.inj (NO.out (.inr (.inl rfl)))
   go_wp2
   go_ret2
   exact⟨rfl,B1⟩
  ·go_wp2_with fail
   refine(far_is _ start end_ f HA.out HF.out).mono ?_
   rintro e w2 ⟨rfl,b2⟩
   have B2:=B1.trans (b2.mono B1.size)
   have Xr2:=Xr1.below b2
   clear B1 Xr1
   clear b2
   cases f
   rotate_left
   ·obtain⟨rfl,rfl⟩:=Prod.mk.inj (NO.out (.inr (.inr rfl)))
    go_wp2
    go_ret2
    exact⟨rfl,B2⟩
   have Y:=Lib.hid (YES.out (by first|rfl|trivial) (by first|rfl|trivial) (by first|rfl|trivial))
   have ME:=Lib.hid (EB.out (by first|rfl|trivial)).1
   obtain⟨l,hl⟩:∃l,walkR ⟨rfreq,ritv,rcnt,rtil,rwkst,rends,rmon,rweek,ryday,rmday,rday,rhour,rminu,rsec,rpos⟩ start end_ after 0=l:=⟨_,rfl⟩
   have HL:=Lib.hid hl
   rw[hl] at Y
   clear hl YES NO
   obtain⟨rz0,rz1,rz2,rz3,rz4,rz5,rz6,rz7,rz8,rz9,rz10,rz11,rz12,rz13,rz14⟩:=cells15 Xr2
   go_wp2_with fail
   refine(walk6_is _ ⟨ra6,rn6,rc6,ra7,rn7,rc7,ra8,rn8,rc8,ra9,rn9,rc9,ra10,rn10,rc10,ra11,rn11,rc11,ra12,rn12,rc12,ra13,rn13,rc13,ra14,rn14,rc14⟩ ⟨rfreq,ritv,rcnt,rtil,rwkst,rends,rmon,rweek,ryday,rmday,rday,rhour,rminu,rsec,rpos⟩ start end_ after 0 l (RA.out.below B2) HM.out HA.out ME.out (by decide) (by decide) HL.out).mono ?_
   rintro e w3 ⟨A1,p1,rfl,i1,-,b3⟩
   clear rz0 rz1 rz2 rz3 rz4 rz5 rz6 rz7 rz8 rz9 rz10 rz11 rz12 rz13 rz14
   have B3:=B2.trans (b3.mono B2.size)
   have Xr3:=Xr2.below b3
   clear B2 Xr2
   clear HL
   cases l with
   |nil=>
    obtain⟨rfl,rfl⟩:=Prod.mk.inj Y.out
    go_wp2
    go_ret2
    exact⟨rfl,B3⟩
   |cons z t=>
    obtain⟨rfl,rfl⟩:=Prod.mk.inj Y.out
    obtain⟨bl,of,rfl,hb,hc⟩:=i1.2 (by simp)
    have c0:w3.cell? ⟨bl,of,none⟩=some (.int .i64 x):=hc 0 (by simp)
    obtain⟨k,hk⟩:∃k,(x::t).length=k:=⟨_,rfl⟩
    have k0:0<k:=by rw[←hk];simp
    have k1:(0:Int)<k:=by omega
    have k2:((k:Int)==0)=false:=by rw[beq_eq_false_iff_ne];omega
    have k3:(k==0)=false:=by rw[beq_eq_false_iff_ne];omega
    rw[hk]
    clear i1 hc hk Y
    go_wp2
    go_ret2
    exact⟨rfl,B3⟩
end Go.Proofs.YtchpjhjjakckbaaGreatDoor.Ex
