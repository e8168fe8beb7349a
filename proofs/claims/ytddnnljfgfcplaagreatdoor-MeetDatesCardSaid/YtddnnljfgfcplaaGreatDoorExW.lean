/- The walks of package expand's unit, common and spread. The walk of package expand's reached. The walk of package expand's picked. The walk of package expand's split. -/
import Derived.Test.YtddnnljfgfcplaaGreatDoorMbX1
import Derived.Test.YtddnnljfgfcplaaGreatDoorExM
set_option maxRecDepth 100000
set_option maxHeartbeats 8000000
set_option linter.unusedVariables false
namespace Go.Proofs.YtddnnljfgfcplaaGreatDoor.Ex
open Lib (hid)
open Go.RowKit Cv St Ru Dd Mb
theorem unit_is (w:World) (S:RS) (r:Ru) (k:Int) (hk:unitR r=k):
  Calls Tryz.prog 223 #[S.val r] w fun e w'=>e= .returned (.int .i64 k)/\Below w.heap.size w w':=by
 have F5:=hid (fun (e:r.freq=5)=>show 3600=k by rw[<-hk];unfold unitR;rw[if_pos e])
 have F6:=hid (fun (e:r.freq=6)=>show 60=k by rw[<-hk];unfold unitR;rw[if_neg (by omega),if_pos e])
 have F7:=hid (fun (e:r.freq=7)=>show 1=k by rw[<-hk];unfold unitR;rw[if_neg (by omega),if_neg (by omega),if_pos e])
 have F8:=hid (fun (a:r.freq≠5) (b:r.freq≠6) (c:r.freq≠7)=>show 86400=k by rw[<-hk];unfold unitR;rw[if_neg a,if_neg b,if_neg c])
 clear hk
 obtain⟨ra6,rn6,rc6,ra7,rn7,rc7,ra8,rn8,rc8,ra9,rn9,rc9,ra10,rn10,rc10,ra11,rn11,rc11,ra12,rn12,rc12,ra13,rn13,rc13,ra14,rn14,rc14⟩:=S
 obtain⟨rfreq,ritv,rcnt,rtil,rwkst,rends,rmon,rweek,ryday,rmday,rday,rhour,rminu,rsec,rpos⟩:=r
 show Calls Tryz.prog 223 #[.agg #[.int .i64 rfreq,.int .i64 ritv,.int .i64 rcnt,.int .i64 rtil,.int .i64 rwkst,.bool rends,.slice ra6 rn6 rc6,.slice ra7 rn7 rc7,.slice ra8 rn8 rc8,.slice ra9 rn9 rc9,.slice ra10 rn10 rc10,.slice ra11 rn11 rc11,.slice ra12 rn12 rc12,.slice ra13 rn13 rc13,.slice ra14 rn14 rc14]] w _
 go_enter Tryz.func223,Tryz.ntmps223
 go_upto_region 1 with fail
 obtain⟨B0,Xr0⟩:=box_new w #[.int .i64 rfreq,.int .i64 ritv,.int .i64 rcnt,.int .i64 rtil,.int .i64 rwkst,.bool rends,.slice ra6 rn6 rc6,.slice ra7 rn7 rc7,.slice ra8 rn8 rc8,.slice ra9 rn9 rc9,.slice ra10 rn10 rc10,.slice ra11 rn11 rc11,.slice ra12 rn12 rc12,.slice ra13 rn13 rc13,.slice ra14 rn14 rc14] 25
 generalize w.alloc _=w0 at *
 have rz0:w0.cell? ⟨w.heap.size,0,none⟩=some (.int .i64 rfreq):=Xr0.at_ 0 _ rfl
 by_cases h5:rfreq=5
 ·have t5:((rfreq:Int)==5)=true:=by rw[beq_iff_eq];omega
  have Y:=hid h5;clear h5;have E:=hid (F5.out Y.out);clear F5 F6 F7 F8;go_wp2;go_ret;exact⟨ret_int E.out,B0⟩
 ·have t5:((rfreq:Int)==5)=false:=by rw[beq_eq_false_iff_ne];omega
  by_cases h6:rfreq=6
  ·have t6:((rfreq:Int)==6)=true:=by rw[beq_iff_eq];omega
   have Y:=hid h6;clear h6 h5;have E:=hid (F6.out Y.out);clear F5 F6 F7 F8;go_wp2;go_ret;exact⟨ret_int E.out,B0⟩
  ·have t6:((rfreq:Int)==6)=false:=by rw[beq_eq_false_iff_ne];omega
   by_cases h7:rfreq=7
   ·have t7:((rfreq:Int)==7)=true:=by rw[beq_iff_eq];omega
    have Y:=hid h7;clear h7 h6 h5;have E:=hid (F7.out Y.out);clear F5 F6 F7 F8;go_wp2;go_ret;exact⟨ret_int E.out,B0⟩
   ·have t7:((rfreq:Int)==7)=false:=by rw[beq_eq_false_iff_ne];omega
    have Y:=hid h7;have Y5:=hid h5;have Y6:=hid h6;clear h5 h6 h7;have E:=hid (F8.out Y5.out Y6.out Y.out);clear F5 F6 F7 F8;go_wp2;go_ret;exact⟨ret_int E.out,B0⟩
theorem common_is (w:World) (a b:Nat) (ha:a<=1000000) (hb:b<=1000000):
  Calls Tryz.prog 256 #[.int .i64 a,.int .i64 b] w fun e w'=>e= .returned (.int .i64 (Nat.gcd a b))/\Below w.heap.size w w':=by
 obtain⟨g,hg⟩:∃g,Nat.gcd a b=g:=⟨_,rfl⟩
 have HG:=hid hg
 rw[hg]
 clear hg
 go_enter Tryz.func256,Tryz.ntmps256
 go_wp2
 go_loopw [0,1] (fun x y wr=>∃a b:Nat,x= .int .i64 a/\y= .int .i64 b/\Hid (Nat.gcd a b=g)/\a<=1000000/\b<=1000000/\Below w.heap.size w wr) (fun _ y _=>(intOf y).toNat)
 case atStart=>exact⟨a,b,rfl,rfl,HG.out,ha,hb,by first|exact Below.refl _ _|exact (Below.refl _ _).drew⟩
 case round=>
  clear ha hb HG;obtain⟨a,b,rfl,rfl,G,ha,hb,hB⟩:=hrel
  by_cases h:b=0
  ·subst h
   have E:=hid (show (a:Int)=(g:Int) by rw[<-G.out];simp);go_wp2;go_ret;exact⟨ret_int E.out,by first|exact hB|exact hB.drew⟩
  ·have t0:((b:Int)==0)=false:=by rw[beq_eq_false_iff_ne];omega
   have n0:¬(b:Int)=0:=by omega
   have M:=hid (show (a:Int).tmod b=((a % b:Nat):Int) from (Int.ofNat_tmod a b).symm);have LT:=hid (Nat.mod_lt a (by omega:0<b));have X:=hid (show Nat.gcd b (a % b)=g by rw[<-G.out,Nat.gcd_comm a b];exact(Nat.gcd_rec b a).symm ▸ (by rw[Nat.gcd_comm]));clear h;go_wp2
   go_big_quiet (fail)
   go_wp2
   go_roundw
   case rel=>exact⟨b,a % b,rfl,by first|rfl|(congr 1;exact M.out)|(simp),X.out,hb,by have:=LT.out;omega,by first|exact hB.trans (Below.drewN' _ _ _)|exact hB.drew.trans (Below.drewN' _ _ _)⟩
   case measure=>have:=LT.out;have:=M.out;simp[intOf];omega
theorem fresh_mono {B B':Nat} {A:Option Addr} (h:Fresh B A) (hb:B'<=B):Fresh B' A:=fun b off e=>⟨Nat.le_trans hb (h b off e).1,(h b off e).2⟩
def ListF (w:World) (m:List Int) (e:Ending) (w':World):Prop:=∃A c,e= .returned (.slice A m.length c)/\IsAt w' A m.length m/\Fresh w.heap.size A/\Below w.heap.size w w'
structure SprOk (T N:List Int) (k:Int):Prop where
 room:T.length*N.length<=100000
 bT:∀x∈T,0<=x/\x<=1000000
 bN:∀x∈N,0<=x/\x<=1000000/\0<=x*k/\x*k<=1000000
def rowL (t:Int) (N:List Int) (k:Int):List Int:=N.map fun n=>t+n*k
theorem spread_take {T N:List Int} {k:Int} {t:Nat} (ht:t<T.length):spreadL (T.take (t+1)) N k=spreadL (T.take t) N k++rowL (iat T t) N k:=by
 unfold spreadL;rw[take_at ht,List.flatMap_append];simp[rowL]
theorem row_take {N:List Int} {t k:Int} {u:Nat} (hu:u<N.length):rowL t (N.take (u+1)) k=rowL t (N.take u) k++[t+iat N u*k]:=by
 unfold rowL;rw[take_at hu,List.map_append];rfl
theorem spread_len (T N:List Int) (k:Int):(spreadL T N k).length=T.length*N.length:=flat_len fun x _=>by simp
theorem row_len (t:Int) (N:List Int) (k:Int):(rowL t N k).length=N.length:=by simp[rowL]
theorem roomS {T N:List Int} {t u:Nat} {x k:Int} (h:T.length*N.length<=100000) (ht:t<T.length):(spreadL (T.take t) N k++rowL x (N.take u) k).length<=1000000:=by
 rw[List.length_append,spread_len,row_len,List.length_take,List.length_take]
 have a:min t T.length*N.length<=T.length*N.length:=Nat.mul_le_mul (by omega) (Nat.le_refl _)
 have b:N.length<=T.length*N.length:=by
  have:=Nat.mul_le_mul (show 1<=T.length by omega) (Nat.le_refl N.length)
  omega
 omega
theorem spread_is (w:World) (A B:Option Addr) (n m c d:Nat) (T N:List Int) (k:Int) (hT:IsAt w A n T) (hN:IsAt w B m N) (h1:n<=1000000) (h2:m<=1000000) (ok:SprOk T N k) (x:List Int) (hx:spreadL T N k=x):
  Calls Tryz.prog 255 #[.slice A n c,.slice B m d,.int .i64 k] w (ListF w x):=by
 have LN1:=hid hT.1.symm
 have LN2:=hid hN.1.symm
 have K1:=hid hT
 have K2:=hid hN
 have BT:=hid ok.bT
 have BN:=hid ok.bN
 have PN:n*m<=100000:=by rw[hT.1,hN.1];exact ok.room
 have RM:=hid (fun (t u:Nat) (g:Int) (h:t<T.length)=>roomS (T:=T) (N:=N) (t:=t) (u:=u) (x:=g) (k:=k) ok.room h)
 have XT:=hid hx
 clear hT hN ok hx
 have PE:=hid (show (n:Int)*(m:Int)=((n*m:Nat):Int) by simp)
 have IW:IntKind.i64.wrap ((n:Int)*(m:Int))=(n:Int)*(m:Int):=IntWalk.i64_in _ (by rw[PE.out];omega)
 obtain⟨i0,hi,hz0,hz1,hz2⟩:=info_parts info_int
 go_enter Tryz.func255,Tryz.ntmps255
 go_wp2_with (at_make;refine wpList_make_own _ rfl _ _ 22 rfl w.heap.size 3 i0 (.int .i64 0) 1 Tryz.underlying22 hi hz0 hz1 .i64 .i64 _ (n*m) rfl rfl (by rw[<-PE.out]) (by rw[hz2];omega) (by unfold maxLen;omega) (Nat.le_refl _) ?_)
 intro wm hown hg
 have OW0:=hid (show OwnI w wm (.slice (some ⟨w.heap.size,0,none⟩) 0 (n*m)) [] from hown)
 have BW:=hid (show Below w.heap.size w wm from (Below.refl _ _).grown hg (Nat.le_refl _) (fun k hk=>by cases hk))
 clear hown hg hi hz0 hz1 hz2 i0 IW
 go_wp2
 go_loopw [7,20] (fun ov i wr=>∃(v:Value) (t1:Nat) (acc:List Int),t1<=n/\v=ov/\i= .int .i64 t1/\OwnI w wr v acc/\Hid (spreadL (T.take t1) N k=acc)/\Below w.heap.size w wr) (fun _ i _=>n-(intOf i).toNat)
 case atStart=>exact⟨_,0,[],Nat.zero_le _,rfl,rfl,OW0.out,hid rfl,BW.out⟩
 case round=>
  obtain⟨wo,rfl⟩:∃wo:World,wo=wr:=⟨_,rfl⟩;obtain⟨v0,t1,acc1,ht1,rfl,rfl,ov1,D1,hB1⟩:=hrel;have OV1:=hid ov1;clear ov1
  by_cases hlt1:t1<n
  ·obtain⟨bl1,of1,ea1,hl1,hc1⟩:=K1.out.2 (show 0<n by omega)
   subst ea1;have c1:=(hB1.cell (p:=⟨bl1,_,none⟩) hl1).trans (hc1 t1 hlt1);have e1:=BT.out (iat T t1) (by rw[iat_lt (by rw[LN1.out];exact hlt1)];exact List.getElem_mem _);have N1:=hid (spread_take (T:=T) (N:=N) (k:=k) (t:=t1) (by rw[LN1.out];exact hlt1));have RR:=hid (fun u=>RM.out t1 u (iat T t1) (by rw[LN1.out];exact hlt1));clear hc1;generalize iat T t1=g1 at *;go_wp2
   go_loopw [7,26] (fun ov i wr=>∃(v:Value) (t2:Nat) (acc:List Int),t2<=m/\v=ov/\i= .int .i64 t2/\OwnI w wr v acc/\Hid (acc1++rowL g1 (N.take t2) k=acc)/\Below w.heap.size w wr) (fun _ i _=>m-(intOf i).toNat)
   case atStart=>exact⟨_,0,acc1,Nat.zero_le _,rfl,rfl,OV1.out,hid (by simp[rowL]),hB1⟩
   case round=>
    obtain⟨v1,t2,acc2,ht2,rfl,rfl,ov2,D2,hB2⟩:=hrel;have OV2:=hid ov2;clear ov2
    by_cases hlt2:t2<m
    ·obtain⟨bl2,of2,ea2,hl2,hc2⟩:=K2.out.2 (show 0<m by omega)
     subst ea2;have c2:=(hB2.cell (p:=⟨bl2,_,none⟩) hl2).trans (hc2 t2 hlt2);obtain⟨e2,e3,e4,e5⟩:=BN.out (iat N t2) (by rw[iat_lt (by rw[LN2.out];exact hlt2)];exact List.getElem_mem _);have N2:=hid (row_take (N:=N) (t:=g1) (k:=k) (u:=t2) (by rw[LN2.out];exact hlt2));have R:=RR.out t2;rw[D1.out,D2.out] at R;clear hc2;generalize iat N t2=g2 at *;have W1:IntKind.i64.wrap (g2*k)=g2*k:=IntWalk.i64_in _ (by omega)
     have W2:IntKind.i64.wrap (g1+g2*k)=g1+g2*k:=IntWalk.i64_in _ (by omega)
     go_wp2_with (at_builtin;refine append_num rfl _ _ rfl _ acc2 rfl OV2.out hB2 _ _ _ rfl R ?_)
     intro v4 w4 ow4 hb4;have OW:=hid ow4;clear ow4;go_wp2
     go_roundw
     case rel=>exact⟨v4,t2+1,_,by omega,rfl,by go_num,OW.out,hid (by rw[N2.out,<-List.append_assoc,D2.out]),hb4⟩
     case measure=>simp[intOf];omega
    ·obtain rfl:m=t2:=by omega
     have E2:=hid (show acc1++rowL g1 N k=acc2 by rw[<-D2.out,List.take_of_length_le (by rw[LN2.out];exact Nat.le_refl _)]);go_wp2
     go_roundw
     case rel=>exact⟨v1,t1+1,acc2,by omega,rfl,by go_num,OV2.out,hid (by rw[N1.out,D1.out,E2.out]),hB2⟩
     case measure=>simp[intOf];omega
  ·obtain rfl:n=t1:=by omega
   have E1:=hid (show x=acc1 by rw[<-XT.out,<-D1.out,List.take_of_length_le (by rw[LN1.out];exact Nat.le_refl _)]);go_wp2;go_ret;obtain⟨A,c,rfl,ia,-,-⟩:=OV1.out.at_;have e:=E1.out;subst e;exact⟨A,c,rfl,ia,OV1.out.fresh,hB1⟩
end Go.Proofs.YtddnnljfgfcplaaGreatDoor.Ex
namespace Go.Proofs.YtddnnljfgfcplaaGreatDoor.Ex
open Lib (hid)
open Go.RowKit Cv St Ru Dd Mb
theorem unit_01 {r:Ru} (h:mayR r=true):unitR r=86400\/unitR r=3600\/unitR r=60\/unitR r=1:=by rcases unit_cases h with ⟨-,u⟩|⟨-,u⟩|⟨-,u⟩|⟨-,u⟩<;>rw[u]<;>simp
theorem unit_div {r:Ru} (h:mayR r=true):(86400:Int).tdiv (unitR r)=((86400 / unitR r).toNat:Int)/\(86400 / unitR r).toNat<=86400/\1<=(86400 / unitR r).toNat/\86400 / unitR r=((86400 / unitR r).toNat:Int):=by
 rcases unit_01 h with u|u|u|u<;>rw[u]<;>decide
theorem tdiv_nn {s u:Int} (h:0<=s):s.tdiv u=s / u:=Int.tdiv_eq_ediv_of_nonneg h
def reachB (r:Ru) (p g s:Int):Bool:=decide ((p+s / unitR r) % g=0)
theorem filt_yes {q:Int->Bool} {T:List Int} {k:Nat} (hk:k<T.length) (h:q (iat T k)=true):(T.take (k+1)).filter q=(T.take k).filter q++[iat T k]:=by
 rw[take_at hk,List.filter_append];simp[h]
theorem filt_no {q:Int->Bool} {T:List Int} {k:Nat} (hk:k<T.length) (h:q (iat T k)=false):(T.take (k+1)).filter q=(T.take k).filter q:=by
 rw[take_at hk,List.filter_append];simp[h]
theorem filt_room {q:Int->Bool} {T:List Int} {k:Nat} (h:T.length<=100000):((T.take k).filter q).length<=1000000:=by
 have:=List.length_filter_le q (T.take k)
 rw[List.length_take] at this
 omega
theorem reached_is (w:World) (S:RS) (r:Ru) (start:Int) (A:Option Addr) (n c:Nat) (T x:List Int) (h:RuAt w S r) (hm:mayR r=true) (hs:St.may start=true) (hT:IsAt w A n T) (bT:∀x∈T,0<=x/\x<=86399) (lT:T.length<=100000) (hx:reachL r start T=x):
  Calls Tryz.prog 220 #[S.val r,.int .i64 start,.slice A n c] w (ListF w x):=by
 have RA:=hid h
 have st:=of_decide_eq_true hs
 obtain⟨itv1,itv2⟩:=(freq_may hm).2
 obtain⟨N,hN⟩:∃N:Nat,r.itv=(N:Int):=⟨r.itv.toNat,by omega⟩
 obtain⟨U,hU⟩:∃U,unitR r=U:=⟨_,rfl⟩
 obtain⟨d1,d2,d3,d4⟩:=unit_div hm
 rw[hU] at d1 d2 d3 d4
 obtain⟨K,hK⟩:∃K,(86400 / U).toNat=K:=⟨_,rfl⟩
 rw[hK] at d1 d2 d3 d4
 have U1:=unit_01 hm
 rw[hU] at U1
 obtain⟨p,hp⟩:∃p,per r (start / 86400*86400)-per r start=p:=⟨_,rfl⟩
 have md:=may_day hs
 have pb1:=per_bd hm hs
 have pb2:=per_bd hm md
 have HP:=hid (show perR r start (start / 86400*86400)=(p,true) by unfold perR;rw[if_pos (by rw[hm,hs,md];rfl),hp])
 have p1:-4000000000000<=p:=by omega
 have p2:p<=4000000000000:=by omega
 have XT:=hid (show T.filter (reachB r p (Nat.gcd N K:Int))=x by
  rw[<-hx];unfold reachL reachB;rw[hU,d4,hN,hp]
  rfl)
 have HU:=hid hU
 have DV:=hid d1
 have LN:=hid hT.1.symm
 have KT:=hid hT
 have BT:=hid bT
 have LL:n<=100000:=by rw[hT.1];exact lT
 have RMX:=hid (fun k q=>filt_room (q:=q) (k:=k) lT)
 have G0:=hid (Nat.gcd_pos_of_pos_right N (show 0<K by omega))
 have G1:=hid (Nat.le_of_dvd (show 0<K by omega) (Nat.gcd_dvd_right N K))
 have HN:=hid hN
 have SD:-719162<=start / 86400/\start / 86400<=2932896:=by omega
 have s1:-9223372036854775808<=start:=by omega
 have s2:start<=9223372036854775807:=by omega
 have n1:N<=1000:=by omega
 clear h hx hT bT lT hU hK md pb1 pb2 st hm hs hp d1 d4 itv1 itv2 hN
 obtain⟨ra6,rn6,rc6,ra7,rn7,rc7,ra8,rn8,rc8,ra9,rn9,rc9,ra10,rn10,rc10,ra11,rn11,rc11,ra12,rn12,rc12,ra13,rn13,rc13,ra14,rn14,rc14⟩:=S
 obtain⟨rfreq,ritv,rcnt,rtil,rwkst,rends,rmon,rweek,ryday,rmday,rday,rhour,rminu,rsec,rpos⟩:=r
 have HN:=hid (show ritv=(N:Int) from HN.out)
 show Calls Tryz.prog 220 #[.agg #[.int .i64 rfreq,.int .i64 ritv,.int .i64 rcnt,.int .i64 rtil,.int .i64 rwkst,.bool rends,.slice ra6 rn6 rc6,.slice ra7 rn7 rc7,.slice ra8 rn8 rc8,.slice ra9 rn9 rc9,.slice ra10 rn10 rc10,.slice ra11 rn11 rc11,.slice ra12 rn12 rc12,.slice ra13 rn13 rc13,.slice ra14 rn14 rc14],.int .i64 start,.slice A n c] w _
 go_enter Tryz.func220,Tryz.ntmps220
 go_upto_region 1 with fail
 obtain⟨B0,Xr0⟩:=box_new w #[.int .i64 rfreq,.int .i64 ritv,.int .i64 rcnt,.int .i64 rtil,.int .i64 rwkst,.bool rends,.slice ra6 rn6 rc6,.slice ra7 rn7 rc7,.slice ra8 rn8 rc8,.slice ra9 rn9 rc9,.slice ra10 rn10 rc10,.slice ra11 rn11 rc11,.slice ra12 rn12 rc12,.slice ra13 rn13 rc13,.slice ra14 rn14 rc14] 25
 generalize w.alloc _=w0 at *
 have KT:=hid (KT.out.below B0)
 go_wp2_with fail
 refine(day_any start _ s1 s2).mono ?_
 rintro e w' ⟨rfl,rfl⟩
 obtain⟨n0,hn0⟩:∃n0,start / 86400=n0:=⟨_,rfl⟩
 rw[hn0] at HP SD ⊢
 clear hn0
 have IW:IntKind.i64.wrap (n0*86400)=n0*86400:=IntWalk.i64_in _ (by omega)
 obtain⟨rz0,rz1,rz2,rz3,rz4,rz5,rz6,rz7,rz8,rz9,rz10,rz11,rz12,rz13,rz14⟩:=cells15 Xr0
 go_wp2_with fail
 refine(periodP_is _ ⟨ra6,rn6,rc6,ra7,rn7,rc7,ra8,rn8,rc8,ra9,rn9,rc9,ra10,rn10,rc10,ra11,rn11,rc11,ra12,rn12,rc12,ra13,rn13,rc13,ra14,rn14,rc14⟩ ⟨rfreq,ritv,rcnt,rtil,rwkst,rends,rmon,rweek,ryday,rmday,rday,rhour,rminu,rsec,rpos⟩ start (n0*86400) p true (RA.out.below B0) HP.out).mono ?_
 rintro e w1 ⟨rfl,b1⟩
 clear rz0 rz1 rz2 rz3 rz4 rz5 rz6 rz7 rz8 rz9 rz10 rz11 rz12 rz13 rz14
 have B1:=B0.trans (b1.mono B0.size)
 have Xr1:=Xr0.below b1
 clear B0 Xr0
 have KT:=hid (KT.out.below b1)
 clear b1
 go_upto_region 3 with fail
 refine wp_region_late (fun _=>false) (fun v=>Below w1.heap.size w1 v) (by kernel_rfl) ?_
 have D0:Below w1.heap.size w1 w1.drew:=(Below.refl _ _).drew
 refine Late.take 0 (.pointer (some ⟨w.heap.size,1,none⟩)) rfl (by kernel_rfl) (by kernel_rfl) (by kernel_rfl) (by kernel_rfl) (fun _ _ _ h=>h) (.inl ⟨rfl,fun w' hs => ?_⟩) D0 ?_
 ·go_simp
 refine Late.take 1 (.int .i64 ritv) rfl (by kernel_rfl) (by kernel_rfl) (by kernel_rfl) (by kernel_rfl) (fun _ _ _ h=>h) (.inl ⟨rfl,fun w' hs => ?_⟩) D0 ?_
 ·have XQ:=Xr1.below hs
  have z1:w'.cell? ⟨w.heap.size,1,none⟩=some (.int .i64 ritv):=XQ.at_ 1 _ rfl
  clear XQ
  go_simp
 refine Late.take 2 (.agg #[.int .i64 rfreq,.int .i64 ritv,.int .i64 rcnt,.int .i64 rtil,.int .i64 rwkst,.bool rends,.slice ra6 rn6 rc6,.slice ra7 rn7 rc7,.slice ra8 rn8 rc8,.slice ra9 rn9 rc9,.slice ra10 rn10 rc10,.slice ra11 rn11 rc11,.slice ra12 rn12 rc12,.slice ra13 rn13 rc13,.slice ra14 rn14 rc14]) rfl (by kernel_rfl) (by kernel_rfl) (by kernel_rfl) (by kernel_rfl) (fun _ _ _ h=>h) (.inl ⟨rfl,fun w' hs => ?_⟩) D0 ?_
 ·have XQ:=Xr1.below hs
  obtain⟨z0,z1,z2,z3,z4,z5,z6,z7,z8,z9,z10,z11,z12,z13,z14⟩:=cells15 XQ;clear XQ
  go_simp
 have C0:=B1.trans (D0.mono B1.size)
 refine Late.one 3 rfl (by kernel_rfl) rfl ?_
 go_simp
 refine(unit_is _ ⟨ra6,rn6,rc6,ra7,rn7,rc7,ra8,rn8,rc8,ra9,rn9,rc9,ra10,rn10,rc10,ra11,rn11,rc11,ra12,rn12,rc12,ra13,rn13,rc13,ra14,rn14,rc14⟩ ⟨rfreq,ritv,rcnt,rtil,rwkst,rends,rmon,rweek,ryday,rmday,rday,rhour,rminu,rsec,rpos⟩ U HU.out).mono ?_
 rintro e x1 ⟨rfl,y1⟩
 have D1:=D0.trans (y1.mono D0.size)
 refine⟨D1,?_⟩
 have u0:¬U=0:=by omega
 have u1:((U:Int)==0)=false:=by rw[beq_eq_false_iff_ne];omega
 have TD:=DV.out
 have WK:IntKind.i64.wrap (K:Int)=(K:Int):=IntWalk.i64_in _ (by omega)
 refine Late.take 4 (.int .i64 K) rfl (by kernel_rfl) (by kernel_rfl) (by kernel_rfl) (by kernel_rfl) (fun _ _ _ h=>h) (.inl ⟨rfl,fun w' hs => ?_⟩) D1 ?_
 ·go_simp
 have EN:=HN.out
 subst EN
 refine Late.one 5 rfl (by kernel_rfl) rfl ?_
 go_simp
 refine(common_is _ N K (by omega) (by omega)).mono ?_
 rintro e x2 ⟨rfl,y2⟩
 have D2:=D1.trans (y2.mono D1.size)
 refine⟨D2,?_⟩
 obtain⟨g,hg⟩:∃g,Nat.gcd N K=g:=⟨_,rfl⟩
 rw[hg] at XT G0 G1 ⊢
 clear hg
 refine Late.take 6 (.int .i64 g) rfl (by kernel_rfl) (by kernel_rfl) (by kernel_rfl) (by kernel_rfl) (fun _ _ _ h=>h) (.inl ⟨rfl,fun w' hs => ?_⟩) D2 ?_
 ·go_simp
 refine Late.done (by kernel_rfl) ?_
 have g0:1<=g:=G0.out
 have g1:g<=100000:=by have:=G1.out;omega
 have HB:=B1.trans (D2.mono B1.size)
 have XR:=Xr1.below D2
 have KT:=hid (KT.out.below D2)
 clear y1 y2 D0 D1 D2 C0 B1 Xr1 TD WK G0 G1 HN
 obtain⟨i0,hi,hz0,hz1,hz2⟩:=info_parts info_int
 go_wp2_with (at_make;refine wpList_make_own _ rfl _ _ 22 rfl x2.heap.size 3 i0 (.int .i64 0) 1 Tryz.underlying22 hi hz0 hz1 .i64 .i64 _ n rfl rfl rfl (by rw[hz2];omega) (by unfold maxLen;omega) (Nat.le_refl _) ?_)
 intro wm hown hg
 have OW0:=hid (show OwnI x2 wm (.slice (some ⟨x2.heap.size,0,none⟩) 0 n) [] from hown)
 have BW:=hid (show Below x2.heap.size x2 wm from (Below.refl _ _).grown hg (Nat.le_refl _) (fun k hk=>by cases hk))
 clear hown hg hi hz0 hz1 hz2 i0
 go_wp2
 go_loopw [12,39] (fun ov i wr=>∃(v:Value) (t1:Nat) (acc:List Int),t1<=n/\v=ov/\i= .int .i64 t1/\OwnI x2 wr v acc/\Hid ((T.take t1).filter (reachB ⟨rfreq,(N:Int),rcnt,rtil,rwkst,rends,rmon,rweek,ryday,rmday,rday,rhour,rminu,rsec,rpos⟩ p g)=acc)/\Below x2.heap.size x2 wr) (fun _ i _=>n-(intOf i).toNat)
 case atStart=>exact⟨_,0,[],Nat.zero_le _,rfl,rfl,OW0.out,hid rfl,BW.out⟩
 case round=>
  obtain⟨v0,t1,acc1,ht1,rfl,rfl,ov1,D1,hB1⟩:=hrel;have OV1:=hid ov1;clear ov1
  by_cases hlt1:t1<n
  ·obtain⟨bl1,of1,ea1,hl1,hc1⟩:=KT.out.2 (show 0<n by omega)
   subst ea1;have c1:=(hB1.cell (p:=⟨bl1,_,none⟩) hl1).trans (hc1 t1 hlt1);have e1:=BT.out (iat T t1) (by rw[iat_lt (by rw[LN.out];exact hlt1)];exact List.getElem_mem _);have R:=RMX.out t1 (reachB ⟨rfreq,(N:Int),rcnt,rtil,rwkst,rends,rmon,rweek,ryday,rmday,rday,rhour,rminu,rsec,rpos⟩ p g);rw[D1.out] at R;obtain⟨f,hf⟩:∃f,reachB ⟨rfreq,(N:Int),rcnt,rtil,rwkst,rends,rmon,rweek,ryday,rmday,rday,rhour,rminu,rsec,rpos⟩ p g (iat T t1)=f:=⟨_,rfl⟩;have FY:=hid (fun (e:f=true)=>show (T.take (t1+1)).filter (reachB ⟨rfreq,(N:Int),rcnt,rtil,rwkst,rends,rmon,rweek,ryday,rmday,rday,rhour,rminu,rsec,rpos⟩ p g)=acc1++[iat T t1] by rw[filt_yes (by rw[LN.out];exact hlt1) (hf.trans e),D1.out]);have FN:=hid (fun (e:f=false)=>show (T.take (t1+1)).filter (reachB ⟨rfreq,(N:Int),rcnt,rtil,rwkst,rends,rmon,rweek,ryday,rmday,rday,rhour,rminu,rsec,rpos⟩ p g)=acc1 by rw[filt_no (by rw[LN.out];exact hlt1) (hf.trans e),D1.out]);have TF:=hid (show (((p+iat T t1 / U:Int).tmod g:Int)==0)=f by rw[tmod_z,<-hf];unfold reachB;rw[HU.out]);clear hc1 hf;generalize iat T t1=g1 at *;have XRr:=XR.below hB1;have BR:=HB.trans (hB1.mono HB.size);obtain⟨rz0,rz1,rz2,rz3,rz4,rz5,rz6,rz7,rz8,rz9,rz10,rz11,rz12,rz13,rz14⟩:=cells15 XRr;go_wp2_with fail;refine(unit_is _ ⟨ra6,rn6,rc6,ra7,rn7,rc7,ra8,rn8,rc8,ra9,rn9,rc9,ra10,rn10,rc10,ra11,rn11,rc11,ra12,rn12,rc12,ra13,rn13,rc13,ra14,rn14,rc14⟩ ⟨rfreq,(N:Int),rcnt,rtil,rwkst,rends,rmon,rweek,ryday,rmday,rday,rhour,rminu,rsec,rpos⟩ U HU.out).mono ?_;rintro e w5 ⟨rfl,b5⟩;clear rz0 rz1 rz2 rz3 rz4 rz5 rz6 rz7 rz8 rz9 rz10 rz11 rz12 rz13 rz14;have hB5:=hB1.trans (b5.mono hB1.size);have OV5:=hid (OV1.out.on b5);have q1:=tdiv_nn (u:=U) e1.1;have q2:0<=g1 / U:=Int.ediv_nonneg e1.1 (by omega)
   have q3:g1 / U<=g1:=Int.ediv_le_self U e1.1
   obtain⟨q,hq⟩:∃q,g1 / U=q:=⟨_,rfl⟩;rw[hq] at q1 q2 q3 TF;clear hq;have W0:IntKind.i64.wrap q=q:=IntWalk.i64_in _ (by omega)
   have W1:IntKind.i64.wrap (p+q)=p+q:=IntWalk.i64_in _ (by omega)
   have z1:¬(g:Int)=0:=by omega
   have z2:((g:Int)==0)=false:=by rw[beq_eq_false_iff_ne];omega
   have T1:=TF.out;clear TF;cases f
   ·have F2:=FN.out rfl
    have F3:=hid F2;clear FN FY F2;go_wp2
    go_roundw
    case rel=>exact⟨v0,t1+1,acc1,by omega,rfl,by go_num,OV5.out,F3,hB5⟩
    case measure=>simp[intOf];omega
   ·have F2:=FY.out rfl
    have F3:=hid F2;clear FN FY F2
    go_wp2_with (at_builtin;refine append_num rfl _ _ rfl _ acc1 rfl OV5.out hB5 _ _ _ rfl R ?_)
    intro v4 w4 ow4 hb4;have OW:=hid ow4;clear ow4;go_wp2
    go_roundw
    case rel=>exact⟨v4,t1+1,_,by omega,rfl,by go_num,OW.out,F3,hb4⟩
    case measure=>simp[intOf];omega
  ·obtain rfl:n=t1:=by omega
   have E1:=hid (show x=acc1 by rw[<-XT.out,<-D1.out,List.take_of_length_le (by rw[LN.out];exact Nat.le_refl _)]);go_wp2;go_ret;obtain⟨A,c,rfl,ia,-,-⟩:=OV1.out.at_;have e:=E1.out;subst e;exact⟨A,c,rfl,ia,fresh_mono OV1.out.fresh HB.size,HB.trans (hB1.mono HB.size)⟩
end Go.Proofs.YtddnnljfgfcplaaGreatDoor.Ex
namespace Go.Proofs.YtddnnljfgfcplaaGreatDoor.Ex
open Lib (hid)
open Go.RowKit Cv St Ru Dd Mb
def atI (l:List Int) (p:Int):Int:=if p<0 then l.length+p else p-1
def oneP (l:List Int) (p:Int):List Int:=if 0<=atI l p/\atI l p<l.length then [iat l (atI l p).toNat] else []
def accL (P l:List Int):List Int:=P.flatMap (oneP l)
theorem acc_take {P l:List Int} {k:Nat} (h:k<P.length):accL (P.take (k+1)) l=accL (P.take k) l++oneP l (iat P k):=by
 unfold accL;rw[take_at h,List.flatMap_append];simp
theorem one_le (l:List Int) (p:Int):(oneP l p).length<=1:=by unfold oneP;split<;>simp
theorem acc_len (l:List Int):∀P:List Int,(accL P l).length<=P.length
 | []=>by simp[accL]
 |p::P=>by
  have:=acc_len l P
  have e:accL (p::P) l=oneP l p++accL P l:=rfl
  rw[e,List.length_append,List.length_cons]
  have:=one_le l p
  omega
theorem mem_acc {P l:List Int} {x:Int}:x∈accL P l↔∃p∈P,0<=atI l p/\atI l p<l.length/\iat l (atI l p).toNat=x:=by
 unfold accL oneP
 rw[List.mem_flatMap]
 constructor
 ·rintro⟨p,hp,hx⟩
  split at hx
  ·rename_i c;exact⟨p,hp,c.1,c.2,(by simpa using hx:x=_).symm⟩
  ·cases hx
 ·rintro⟨p,hp,a,b,rfl⟩
  exact⟨p,hp,by rw[if_pos ⟨a,b⟩];simp⟩
theorem pick_acc {P l:List Int} (hr:l.Pairwise (· < ·)) (hP:P≠[]):Lib.compact ((accL P l).mergeSort fun x y=>decide (x<=y))=pickL P l:=by
 have hp:((accL P l).mergeSort fun x y=>decide (x<=y)).Pairwise (fun a b=>iltB b a=false):=by
  have:=List.pairwise_mergeSort (le:=fun x y:Int=>decide (x<=y)) (fun a b c h1 h2=>by simp at *;omega) (fun a b=>by simp;omega) (accL P l)
  exact this.imp fun h=>by unfold iltB;simp at *;omega
 obtain⟨h1,h2⟩:=comp_spec (lt:=iltB) (fun a b h1 h2=>by unfold iltB at *;simp at *;omega) hp
 refine Mb.rise_ext (h1.imp fun h=>of_decide_eq_true h) (pick_rise hr) fun x => ?_
 rw[h2,List.mem_mergeSort,mem_acc,mem_pick]
 constructor
 ·rintro⟨p,hp,a,b,e⟩
  have hk:(atI l p).toNat<l.length:=by omega
  rw[iat_lt hk] at e;refine⟨e ▸ List.getElem_mem _,.inr ?_⟩;rw[<-e,idx_rise hr hk];unfold atI at a b ⊢
  split at a
  ·rename_i c
   rw[if_pos c] at b ⊢
   right
   rw[show (((l.length+p:Int).toNat:Nat):Int)-l.length=p by omega];exact hp
  ·rename_i c
   rw[if_neg c] at b ⊢
   left
   rw[show (((p-1:Int).toNat:Nat):Int)+1=p by omega];exact hp
 ·rintro⟨hx,hq⟩
  obtain⟨k,hk,rfl⟩:=List.getElem_of_mem hx;rw[idx_rise hr hk] at hq
  rcases hq with q|q|q
  ·exact absurd q hP
  ·refine⟨_,q,?_⟩
   have e:atI l ((k:Int)+1)=k:=by unfold atI;rw[if_neg (by omega)];omega
   rw[e];exact⟨by omega,by omega,by rw[Int.toNat_natCast,iat_lt hk]⟩
  ·refine⟨_,q,?_⟩
   have e:atI l ((k:Int)-l.length)=k:=by unfold atI;rw[if_pos (by omega)];omega
   rw[e];exact⟨by omega,by omega,by rw[Int.toNat_natCast,iat_lt hk]⟩
theorem sortO_is (W w:World) (v:Value) (l:List Int) (h:OwnI W w v l) (hb:Below W.heap.size W w) (hl:l.length<=1000000):
  Calls Tryz.prog 48 #[v] w fun e w'=>e= .returned (.tuple #[])/\OwnI W w' v (l.mergeSort fun x y=>decide (x<=y))/\Below W.heap.size W w':=by
 by_cases h0:l=[]
 ·subst h0
  obtain⟨A,c,rfl,-,-,-⟩:=h.at_;refine(Tryz.slices_Sort_int_none A c w).mono ?_;rintro e w' ⟨rfl,rfl⟩;exact⟨rfl,by simpa using h,hb⟩
 ·obtain⟨g,cap,rfl,g1,g2,g3,g4,-,hH⟩:=Lib.holds_of_ownsRow (enc:=Value.int .i64) (zs:=l) h (by rintro rfl;exact h0 (List.length_eq_zero_iff.1 (by obtain⟨A,c,e,-⟩:=h.at_;injection e with _ e _;exact e.symm)))
  refine(Tryz.slices_Sort_int g 0 cap l w hH g2 (by omega)).mono ?_;rintro e w' ⟨rfl,n,os,rfl⟩
  have:=OwnI.sorted h hb (m:=l.mergeSort fun x y=>decide (x<=y)) (by simp) n os
  exact⟨rfl,this.1,this.2⟩
def PickIs (w:World) (A:Option Addr) (q:Prop) (m:List Int) (e:Ending) (w':World):Prop:=∃B c,e= .returned (.slice B m.length c)/\IsAt w' B m.length m/\(q/\B=A\/Fresh w.heap.size B)/\Below w.heap.size w w'
theorem picked_is (w:World) (S:RS) (r:Ru) (A:Option Addr) (n c:Nat) (l x:List Int) (h:RuAt w S r) (hP:∀p∈r.pos,-366<=p/\p<=366) (h60:r.pos.length<=60) (hl:IsAt w A n l) (hr:l.Pairwise (· < ·)) (hn:l.length<=1000000) (hx:pickL r.pos l=x):
  Calls Tryz.prog 216 #[S.val r,.slice A n c] w (PickIs w A (r.pos=[]) x):=by
 have K14:=hid h.h14
 have LN:=hid h.h14.1.symm
 have L60:=hid h60
 have NN:n<=1000000:=by rw[hl.1];exact hn
 have LL:=hid hl.1.symm
 have KL:=hid hl
 have X0:=hid (fun (e:r.pos=[])=>show l=x by rw[<-hx,e];rfl)
 have X1:=hid (fun (e:r.pos≠[])=>show Lib.compact ((accL r.pos l).mergeSort fun x y=>decide (x<=y))=x by rw[<-hx];exact pick_acc hr e)
 have HP:=hid hP
 have l14:S.n14<=1000000:=by rw[h.h14.1];omega
 clear h hl hr hx hP hn h60
 obtain⟨ra6,rn6,rc6,ra7,rn7,rc7,ra8,rn8,rc8,ra9,rn9,rc9,ra10,rn10,rc10,ra11,rn11,rc11,ra12,rn12,rc12,ra13,rn13,rc13,ra14,rn14,rc14⟩:=S
 obtain⟨rfreq,ritv,rcnt,rtil,rwkst,rends,rmon,rweek,ryday,rmday,rday,rhour,rminu,rsec,rpos⟩:=r
 replace l14:rn14<=1000000:=l14
 replace K14:Hid (IsAt w ra14 rn14 rpos):=K14
 replace LN:Hid (rpos.length=rn14):=LN
 replace HP:Hid (∀p∈rpos,-366<=p/\p<=366):=HP
 replace X0:Hid (rpos=[]->l=x):=X0
 replace X1:Hid (rpos≠[]->Lib.compact ((accL rpos l).mergeSort fun x y=>decide (x<=y))=x):=X1
 show Calls Tryz.prog 216 #[.agg #[.int .i64 rfreq,.int .i64 ritv,.int .i64 rcnt,.int .i64 rtil,.int .i64 rwkst,.bool rends,.slice ra6 rn6 rc6,.slice ra7 rn7 rc7,.slice ra8 rn8 rc8,.slice ra9 rn9 rc9,.slice ra10 rn10 rc10,.slice ra11 rn11 rc11,.slice ra12 rn12 rc12,.slice ra13 rn13 rc13,.slice ra14 rn14 rc14],.slice A n c] w _
 go_enter Tryz.func216,Tryz.ntmps216
 go_upto_region 1 with fail
 obtain⟨B0,Xr0⟩:=box_new w #[.int .i64 rfreq,.int .i64 ritv,.int .i64 rcnt,.int .i64 rtil,.int .i64 rwkst,.bool rends,.slice ra6 rn6 rc6,.slice ra7 rn7 rc7,.slice ra8 rn8 rc8,.slice ra9 rn9 rc9,.slice ra10 rn10 rc10,.slice ra11 rn11 rc11,.slice ra12 rn12 rc12,.slice ra13 rn13 rc13,.slice ra14 rn14 rc14] 25
 generalize w.alloc _=w0 at *
 have K14:=hid (K14.out.below B0)
 have KL:=hid (KL.out.below B0)
 have rz14:w0.cell? ⟨w.heap.size,14,none⟩=some (.slice ra14 rn14 rc14):=Xr0.at_ 14 _ rfl
 by_cases h0:rn14=0
 ·have t0:((rn14:Int)==0)=true:=by rw[beq_iff_eq];omega
  have PE:=hid (show rpos=[] from List.length_eq_zero_iff.1 (by rw[LN.out];exact h0));have E:=hid (X0.out PE.out);have EL:=hid (show n=x.length by rw[<-E.out,LL.out]);clear X0 X1;go_wp2;go_ret;have e:=E.out;subst e;have q:=KL.out;have en:=EL.out;clear LL KL NN;subst en;exact⟨A,c,rfl,q,.inl ⟨PE.out,rfl⟩,B0⟩
 ·have t0:((rn14:Int)==0)=false:=by rw[beq_eq_false_iff_ne];omega
  have XE:=hid (X1.out (by rintro rfl;have:=LN.out;simp at this;omega));clear X0 X1 h0;go_wp2
  go_loopw [5,17] (fun ov i wr=>∃(v:Value) (t1:Nat) (acc:List Int),t1<=rn14/\v=ov/\i= .int .i64 t1/\OwnI w0 wr v acc/\Hid (accL (rpos.take t1) l=acc)/\Below w0.heap.size w0 wr) (fun _ i _=>rn14-(intOf i).toNat)
  case atStart=>exact⟨_,0,[],Nat.zero_le _,rfl,rfl,OwnI.nil _ _,hid rfl,by first|exact Below.refl _ _|exact (Below.refl _ _).drew⟩
  case round=>
   obtain⟨v0,t1,acc1,ht1,rfl,rfl,ov1,D1,hB1⟩:=hrel;have OV1:=hid ov1;clear ov1
   have R:acc1.length<=1000000:=by
    have a:=acc_len l (rpos.take t1);rw[D1.out,List.length_take] at a
    have:=LN.out
    omega
   by_cases hlt1:t1<rn14
   ·obtain⟨bl1,of1,ea1,hl1,hc1⟩:=K14.out.2 (show 0<rn14 by omega)
    subst ea1;have c1:=(hB1.cell (p:=⟨bl1,_,none⟩) hl1).trans (hc1 t1 hlt1);have e1:=HP.out (iat rpos t1) (by rw[iat_lt (by rw[LN.out];exact hlt1)];exact List.getElem_mem _);have N1:=hid (acc_take (P:=rpos) (l:=l) (k:=t1) (by rw[LN.out];exact hlt1));clear hc1;generalize iat rpos t1=g at *;obtain⟨a,ha⟩:∃a,atI l g=a:=⟨_,rfl⟩;have OY:=hid (fun (q:0<=a/\a<n)=>show accL (rpos.take (t1+1)) l=acc1++[iat l a.toNat] by rw[N1.out,D1.out];unfold oneP;rw[ha,if_pos ⟨q.1,by rw[LL.out];exact q.2⟩]);have ON:=hid (fun (q:¬(0<=a/\a<n))=>show accL (rpos.take (t1+1)) l=acc1 by rw[N1.out,D1.out];unfold oneP;rw[ha,if_neg (by rw[LL.out];exact q)];simp)
    have HA:=hid (show (g<0->(n:Int)+g=a)/\(¬g<0->g-1=a) by
     rw[<-ha];unfold atI
     exact⟨fun q=>by rw[if_pos q,LL.out],fun q=>by rw[if_neg q]⟩)
    clear ha N1;have W1:IntKind.i64.wrap (g-1)=g-1:=IntWalk.i64_in _ (by omega)
    have W2:IntKind.i64.wrap ((n:Int)+g)=(n:Int)+g:=IntWalk.i64_in _ (by omega)
    by_cases q0:g<0
    ·have u0:decide (g<0)=true:=decide_eq_true q0
     have EA:=HA.out.1 q0;clear HA;rw[EA] at W2
     by_cases q1:0<=a
     ·have u1:decide (0<=a)=true:=decide_eq_true q1
      by_cases q2:a<n
      ·have u2:decide (a<(n:Int))=true:=decide_eq_true q2
       obtain⟨bl2,of2,ea2,hl2,hc2⟩:=KL.out.2 (show 0<n by omega);subst ea2;obtain⟨m,hm⟩:∃m:Nat,a=m:=⟨a.toNat,by omega⟩;subst hm;have q3:m<n:=by omega
       have c2:=(hB1.cell (p:=⟨bl2,_,none⟩) hl2).trans (hc2 m q3);have F:=hid (show accL (rpos.take (t1+1)) l=acc1++[iat l m] by have:=OY.out ⟨q1,q2⟩;rwa [Int.toNat_natCast] at this);clear OY ON hc2;generalize iat l m=h2 at *
       go_wp2_with (at_builtin;refine append_num rfl _ _ rfl _ acc1 rfl OV1.out hB1 _ _ _ rfl R ?_)
       intro v4 w4 ow4 hb4;have OW:=hid ow4;clear ow4;go_wp2
       go_roundw
       case rel=>exact⟨v4,t1+1,_,by omega,rfl,by go_num,OW.out,F,hb4⟩
       case measure=>simp[intOf];omega
      ·have u2:decide (a<(n:Int))=false:=decide_eq_false q2
       have F:=hid (ON.out (fun q=>q2 q.2));clear OY ON;go_wp2
       go_roundw
       case rel=>exact⟨v0,t1+1,acc1,by omega,rfl,by go_num,OV1.out,F,hB1⟩
       case measure=>simp[intOf];omega
     ·have u1:decide (0<=a)=false:=decide_eq_false q1
      have F:=hid (ON.out (fun q=>q1 q.1));clear OY ON;go_wp2
      go_roundw
      case rel=>exact⟨v0,t1+1,acc1,by omega,rfl,by go_num,OV1.out,F,hB1⟩
      case measure=>simp[intOf];omega
    ·have u0:decide (g<0)=false:=decide_eq_false q0
     have EA:=HA.out.2 q0;clear HA;rw[EA] at W1
     by_cases q1:0<=a
     ·have u1:decide (0<=a)=true:=decide_eq_true q1
      by_cases q2:a<n
      ·have u2:decide (a<(n:Int))=true:=decide_eq_true q2
       obtain⟨bl2,of2,ea2,hl2,hc2⟩:=KL.out.2 (show 0<n by omega);subst ea2;obtain⟨m,hm⟩:∃m:Nat,a=m:=⟨a.toNat,by omega⟩;subst hm;have q3:m<n:=by omega
       have c2:=(hB1.cell (p:=⟨bl2,_,none⟩) hl2).trans (hc2 m q3);have F:=hid (show accL (rpos.take (t1+1)) l=acc1++[iat l m] by have:=OY.out ⟨q1,q2⟩;rwa [Int.toNat_natCast] at this);clear OY ON hc2;generalize iat l m=h2 at *
       go_wp2_with (at_builtin;refine append_num rfl _ _ rfl _ acc1 rfl OV1.out hB1 _ _ _ rfl R ?_)
       intro v4 w4 ow4 hb4;have OW:=hid ow4;clear ow4;go_wp2
       go_roundw
       case rel=>exact⟨v4,t1+1,_,by omega,rfl,by go_num,OW.out,F,hb4⟩
       case measure=>simp[intOf];omega
      ·have u2:decide (a<(n:Int))=false:=decide_eq_false q2
       have F:=hid (ON.out (fun q=>q2 q.2));clear OY ON;go_wp2
       go_roundw
       case rel=>exact⟨v0,t1+1,acc1,by omega,rfl,by go_num,OV1.out,F,hB1⟩
       case measure=>simp[intOf];omega
     ·have u1:decide (0<=a)=false:=decide_eq_false q1
      have F:=hid (ON.out (fun q=>q1 q.1));clear OY ON;go_wp2
      go_roundw
      case rel=>exact⟨v0,t1+1,acc1,by omega,rfl,by go_num,OV1.out,F,hB1⟩
      case measure=>simp[intOf];omega
   ·obtain rfl:rn14=t1:=by omega
    have E1:=hid (show Lib.compact (acc1.mergeSort fun x y=>decide (x<=y))=x by rw[<-XE.out,<-D1.out,List.take_of_length_le (by rw[LN.out];exact Nat.le_refl _)]);clear XE D1;go_wp2_with fail;refine(sortO_is w0 _ v0 acc1 OV1.out hB1 R).mono ?_;rintro e w5 ⟨rfl,o5,h5⟩;have O5:=hid o5;clear o5;go_wp2_with fail;refine(compactI_is w0 _ v0 _ O5.out h5 (by simp;exact R)).mono ?_;rintro e w6 ⟨A6,c6,rfl,i6,f6,h6⟩;have I6:=hid i6;clear i6;have e:=E1.out;clear E1;subst e;go_wp2;go_ret;exact⟨A6,c6,rfl,I6.out,.inr (fresh_mono f6 B0.size),B0.trans (h6.mono B0.size)⟩
end Go.Proofs.YtddnnljfgfcplaaGreatDoor.Ex
namespace Go.Proofs.YtddnnljfgfcplaaGreatDoor.Ex
open Lib (hid)
open Go.RowKit Cv St Ru Dd Mb
theorem one_len {N:List Int} {k:Int}:(spreadL [0] N k).length=N.length:=by rw[spread_len];simp
theorem tim_len {l:List Int} {hi:Int} (h:TimL l hi):l.length<=(hi+1).toNat:=by
 have:=rise_len (a:=0) (b:=hi+1) h.rise fun x hx=>by have:=h.bd x hx;omega
 rw[Int.sub_zero] at this
 exact this
def begK (r:Ru) (start:Int):Nat->List Int
 |0 => [0]
 |1=>begA r start
 |2=>begB r start
 |_=>begL r start
def witK (r:Ru) (start:Int):Nat->List Int
 |0 => [0]
 |1=>witA r start
 |2=>witB r start
 |_=>witL r start
structure PartOk (r:Ru) (start:Int) (H M C:List Int):Prop where
 b0:5<=r.freq->SprOk [0] H 3600/\spreadL [0] H 3600=begA r start/\witA r start=[0]
 w0:r.freq<5->SprOk [0] H 3600/\spreadL [0] H 3600=witA r start/\begA r start=[0]
 b1:6<=r.freq->SprOk (begA r start) M 60/\spreadL (begA r start) M 60=begB r start/\witB r start=witA r start
 w1:r.freq<6->SprOk (witA r start) M 60/\spreadL (witA r start) M 60=witB r start/\begB r start=begA r start
 b2:7<=r.freq->SprOk (begB r start) C 1/\spreadL (begB r start) C 1=begL r start/\witL r start=witB r start
 w2:r.freq<7->SprOk (witB r start) C 1/\spreadL (witB r start) C 1=witL r start/\begL r start=begB r start
 len:∀k,(begK r start k).length<=90000/\(witK r start k).length<=90000
structure Secs (l:List Int) (n:Nat):Prop where
 len:l.length<=n
 bd:∀x∈l,0<=x/\x<=90000
theorem secs_one {l:List Int} {hi k:Int} (n:Nat) (h:TimL l hi) (hk:0<=k) (hn:(hi+1).toNat<=n) (hh:hi*k<=90000):Secs (spreadL [0] l k) n:=
 ⟨by rw[one_len];have:=tim_len h;omega,fun x hx=>by
  obtain⟨a,ha,rfl⟩:=mem_one.1 hx;have b:=h.bd a ha;have c:=Int.mul_nonneg b.1 hk;have d:=Int.mul_le_mul_of_nonneg_right b.2 hk
  omega⟩
theorem spr_of {T N:List Int} {k hi:Int} {n:Nat} (t:Secs T n) (h:TimL N hi) (h2:hi<=1000) (hk:0<=k) (hh:hi*k<=1000000) (hr:n*(hi+1).toNat<=100000):SprOk T N k:=
 ⟨Nat.le_trans (Nat.mul_le_mul t.len (tim_len h)) hr,fun x hx=>by have:=t.bd x hx;omega,fun x hx=>by
  have b:=h.bd x hx;have c:=Int.mul_nonneg b.1 hk;have d:=Int.mul_le_mul_of_nonneg_right b.2 hk
  omega⟩
theorem part_ok {r:Ru} (start:Int) (h:mayR r=true):PartOk r start (timH r start) (timM r start) (timS r start):=by
 have H:=timH_ok start h;have M:=timM_ok start h;have C:=timS_ok start h
 have s0:∀n,1<=n->Secs [0] n:=fun n hn=>⟨by simp;omega,fun x hx=>by simp at hx;subst hx;omega⟩
 have sH:Secs (spreadL [0] (timH r start) 3600) 24:=secs_one 24 H (by omega) (by decide) (by omega)
 have sM:Secs (spreadL [0] (timM r start) 60) 60:=secs_one 60 M (by omega) (by decide) (by omega)
 have lH:=tim_len H;have lM:=tim_len M
 have sHM:Secs (spreadL (spreadL [0] (timH r start) 3600) (timM r start) 60) 1440:=⟨by
  rw[spread_len,one_len]
  exact Nat.le_trans (Nat.mul_le_mul lH lM) (by decide),fun x hx=>by have:=(mem_hm H.bd M.bd).1 hx;omega⟩
 have A1:5<=r.freq->begA r start=spreadL [0] (timH r start) 3600/\witA r start=[0]:=fun q=>⟨by unfold begA;rw[if_pos q],by unfold witA;rw[if_pos q]⟩
 have A0:r.freq<5->begA r start=[0]/\witA r start=spreadL [0] (timH r start) 3600:=fun q=>⟨by unfold begA;rw[if_neg (by omega)],by unfold witA;rw[if_neg (by omega)]⟩
 have B1:6<=r.freq->begB r start=spreadL (begA r start) (timM r start) 60/\witB r start=witA r start:=fun q=>⟨by unfold begB;rw[if_pos q],by unfold witB;rw[if_pos q]⟩
 have B0:r.freq<6->begB r start=begA r start/\witB r start=spreadL (witA r start) (timM r start) 60:=fun q=>⟨by unfold begB;rw[if_neg (by omega)],by unfold witB;rw[if_neg (by omega)]⟩
 refine⟨fun q=>⟨spr_of (s0 1 (by omega)) H (by omega) (by omega) (by omega) (by decide),(A1 q).1.symm,(A1 q).2⟩,fun q=>⟨spr_of (s0 1 (by omega)) H (by omega) (by omega) (by omega) (by decide),(A0 q).2.symm,(A0 q).1⟩,
  fun q=>⟨?_,(B1 q).1.symm,(B1 q).2⟩,fun q=>⟨?_,(B0 q).2.symm,(B0 q).1⟩,fun q=>⟨?_,by unfold begL;rw[if_pos q],by unfold witL;rw[if_pos q]⟩,fun q=>⟨?_,by unfold witL;rw[if_neg (by omega)],by unfold begL;rw[if_neg (by omega)]⟩,fun k => ?_⟩
 ·rw[(A1 (by omega)).1];exact spr_of sH M (by omega) (by omega) (by omega) (by decide)
 ·by_cases q5:5<=r.freq
  ·rw[(A1 q5).2];exact spr_of (s0 1 (by omega)) M (by omega) (by omega) (by omega) (by decide)
  ·rw[(A0 (by omega)).2];exact spr_of sH M (by omega) (by omega) (by omega) (by decide)
 ·rw[(B1 (by omega)).1,(A1 (by omega)).1];exact spr_of sHM C (by omega) (by omega) (by omega) (by decide)
 ·by_cases q6:6<=r.freq
  ·rw[(B1 q6).2,(A1 (by omega)).2];exact spr_of (s0 1 (by omega)) C (by omega) (by omega) (by omega) (by decide)
  ·rw[(B0 (by omega)).2]
   by_cases q5:5<=r.freq
   ·rw[(A1 q5).2];exact spr_of sM C (by omega) (by omega) (by omega) (by decide)
   ·rw[(A0 (by omega)).2];exact spr_of sHM C (by omega) (by omega) (by omega) (by decide)
 ·have a1:(begA r start).length<=24:=by
   by_cases q5:5<=r.freq
   ·rw[(A1 q5).1];exact sH.len
   ·rw[(A0 (by omega)).1];simp
  have a2:(witA r start).length<=24:=by
   by_cases q5:5<=r.freq
   ·rw[(A1 q5).2];simp
   ·rw[(A0 (by omega)).2];exact sH.len
  match k with
  |0=>exact⟨by simp[begK],by simp[witK]⟩
  |1=>exact⟨by show (begA r start).length<=90000;omega,by show (witA r start).length<=90000;omega⟩
  |2=>
   refine⟨?_,?_⟩
   ·show (begB r start).length<=90000
    by_cases q6:6<=r.freq
    ·rw[(B1 q6).1,(A1 (by omega)).1];have:=sHM.len;omega
    ·rw[(B0 (by omega)).1];omega
   ·show (witB r start).length<=90000
    by_cases q6:6<=r.freq
    ·rw[(B1 q6).2];omega
    ·rw[(B0 (by omega)).2]
     by_cases q5:5<=r.freq
     ·rw[(A1 q5).2];have:=sM.len;omega
     ·rw[(A0 (by omega)).2];have:=sHM.len;omega
  |k+3=>exact⟨by have:=beg_len start h;show (begL r start).length<=90000;omega,by have:=wit_len start h;show (witL r start).length<=90000;omega⟩
def TwoIs (w:World) (x y:List Int) (e:Ending) (w':World):Prop:=∃A c B d,e= .returned (.tuple #[.slice A x.length c,.slice B y.length d])/\IsAt w' A x.length x/\IsAt w' B y.length y/\Fresh w.heap.size A/\Fresh w.heap.size B/\Below w.heap.size w w'
def Sl (B:Nat) (w:World) (v:Value) (l:List Int):Prop:=∃A c,v= .slice A l.length c/\IsAt w A l.length l/\Fresh B A
theorem split_is (w:World) (S:RS) (r:Ru) (start:Int) (h:RuAt w S r) (hm:mayR r=true) (hs:St.may start=true):
  Calls Tryz.prog 219 #[S.val r,.int .i64 start] w (TwoIs w (begL r start) (witL r start)):=by
 have RA:=hid h
 have E11:=h.h11.1
 have E12:=h.h12.1
 have E13:=h.h13.1
 obtain⟨H,hH⟩:∃l,timH r start=l:=⟨_,rfl⟩
 obtain⟨M,hM⟩:∃l,timM r start=l:=⟨_,rfl⟩
 obtain⟨C,hC⟩:∃l,timS r start=l:=⟨_,rfl⟩
 have PO:=hid (show PartOk r start H M C by rw[<-hH,<-hM,<-hC];exact part_ok start hm)
 obtain⟨u11,u12,u13⟩:=lens_of (mayR_of hm).2.2.1
 have q11:S.n11<=1000000:=by omega
 have q12:S.n12<=1000000:=by omega
 have q13:S.n13<=1000000:=by omega
 have M1:=hid hm
 have M2':=hid hs
 have HH:=hid hH
 have HM:=hid hM
 have HC:=hid hC
 obtain⟨G,hG⟩:∃G,begK r start=G:=⟨_,rfl⟩
 obtain⟨Y,hY⟩:∃Y,witK r start=Y:=⟨_,rfl⟩
 have GY:=hid (show (G 0=[0]/\G 1=begA r start/\G 2=begB r start/\G 3=begL r start)/\(Y 0=[0]/\Y 1=witA r start/\Y 2=witB r start/\Y 3=witL r start) by rw[<-hG,<-hY];exact⟨⟨rfl,rfl,rfl,rfl⟩,rfl,rfl,rfl,rfl⟩)
 have FIN:=hid (show TwoIs w (G 3) (Y 3)=TwoIs w (begL r start) (witL r start) by rw[<-hG,<-hY];rfl)
 rw[<-FIN.out]
 clear FIN
 have P0:=hid (show (5<=r.freq->SprOk (G 0) H 3600/\spreadL (G 0) H 3600=G 1/\Y 1=Y 0)/\(r.freq<5->SprOk (Y 0) H 3600/\spreadL (Y 0) H 3600=Y 1/\G 1=G 0) by
  obtain⟨⟨g0,g1,g2,g3⟩,y0,y1,y2,y3⟩:=GY.out;rw[g0,g1,y0,y1]
  exact⟨PO.out.b0,PO.out.w0⟩)
 have P1:=hid (show (6<=r.freq->SprOk (G 1) M 60/\spreadL (G 1) M 60=G 2/\Y 2=Y 1)/\(r.freq<6->SprOk (Y 1) M 60/\spreadL (Y 1) M 60=Y 2/\G 2=G 1) by
  obtain⟨⟨g0,g1,g2,g3⟩,y0,y1,y2,y3⟩:=GY.out;rw[g1,g2,y1,y2]
  exact⟨PO.out.b1,PO.out.w1⟩)
 have P2:=hid (show (7<=r.freq->SprOk (G 2) C 1/\spreadL (G 2) C 1=G 3/\Y 3=Y 2)/\(r.freq<7->SprOk (Y 2) C 1/\spreadL (Y 2) C 1=Y 3/\G 3=G 2) by
  obtain⟨⟨g0,g1,g2,g3⟩,y0,y1,y2,y3⟩:=GY.out;rw[g2,g3,y2,y3]
  exact⟨PO.out.b2,PO.out.w2⟩)
 have GL:=hid (show ∀k,(G k).length<=90000/\(Y k).length<=90000 by rw[<-hG,<-hY];exact PO.out.len)
 have l1:H.length<=60:=by rw[<-hH];exact(timH_ok start hm).len
 have l2:M.length<=60:=by rw[<-hM];exact(timM_ok start hm).len
 have l3:C.length<=60:=by rw[<-hC];exact(timS_ok start hm).len
 have GZ:=hid (show [0]=G 0/\[0]=Y 0 from ⟨GY.out.1.1.symm,GY.out.2.1.symm⟩)
 clear h hm hs hH hM hC hG hY E11 E12 E13 u11 u12 u13 PO GY
 obtain⟨ra6,rn6,rc6,ra7,rn7,rc7,ra8,rn8,rc8,ra9,rn9,rc9,ra10,rn10,rc10,ra11,rn11,rc11,ra12,rn12,rc12,ra13,rn13,rc13,ra14,rn14,rc14⟩:=S
 obtain⟨rfreq,ritv,rcnt,rtil,rwkst,rends,rmon,rweek,ryday,rmday,rday,rhour,rminu,rsec,rpos⟩:=r
 replace q11:rn11<=1000000:=q11
 replace q12:rn12<=1000000:=q12
 replace q13:rn13<=1000000:=q13
 show Calls Tryz.prog 219 #[.agg #[.int .i64 rfreq,.int .i64 ritv,.int .i64 rcnt,.int .i64 rtil,.int .i64 rwkst,.bool rends,.slice ra6 rn6 rc6,.slice ra7 rn7 rc7,.slice ra8 rn8 rc8,.slice ra9 rn9 rc9,.slice ra10 rn10 rc10,.slice ra11 rn11 rc11,.slice ra12 rn12 rc12,.slice ra13 rn13 rc13,.slice ra14 rn14 rc14],.int .i64 start] w _
 go_enter Tryz.func219,Tryz.ntmps219
 go_upto_region 1 with fail
 obtain⟨B0,Xr0⟩:=box_new w #[.int .i64 rfreq,.int .i64 ritv,.int .i64 rcnt,.int .i64 rtil,.int .i64 rwkst,.bool rends,.slice ra6 rn6 rc6,.slice ra7 rn7 rc7,.slice ra8 rn8 rc8,.slice ra9 rn9 rc9,.slice ra10 rn10 rc10,.slice ra11 rn11 rc11,.slice ra12 rn12 rc12,.slice ra13 rn13 rc13,.slice ra14 rn14 rc14] 25
 generalize w.alloc _=w0 at *
 obtain⟨rz0,rz1,rz2,rz3,rz4,rz5,rz6,rz7,rz8,rz9,rz10,rz11,rz12,rz13,rz14⟩:=cells15 Xr0
 go_wp2_with fail
 refine(timesR_yes _ ⟨ra6,rn6,rc6,ra7,rn7,rc7,ra8,rn8,rc8,ra9,rn9,rc9,ra10,rn10,rc10,ra11,rn11,rc11,ra12,rn12,rc12,ra13,rn13,rc13,ra14,rn14,rc14⟩ ⟨rfreq,ritv,rcnt,rtil,rwkst,rends,rmon,rweek,ryday,rmday,rday,rhour,rminu,rsec,rpos⟩ start (RA.out.below B0) M1.out M2'.out q11 q12 q13).mono ?_
 rintro e w1 ⟨A1,p1,A2,p2,A3,p3,he,a1,a2,a3,b1⟩
 rw[HH.out,HM.out,HC.out] at he
 rw[HH.out] at a1
 rw[HM.out] at a2
 rw[HC.out] at a3
 subst he
 clear rz0 rz1 rz2 rz3 rz4 rz5 rz6 rz7 rz8 rz9 rz10 rz11 rz12 rz13 rz14
 have B1:=B0.trans (b1.mono B0.size)
 have Xr1:=Xr0.below b1
 clear B0 Xr0
 clear b1
 have K1:=hid a1
 have K2:=hid a2
 have K3:=hid a3
 clear a1 a2 a3
 clear q11 q12 q13
 obtain⟨m1,hm1⟩:∃m,H.length=m:=⟨_,rfl⟩
 rw[hm1] at K1 l1 ⊢
 clear hm1
 obtain⟨m2,hm2⟩:∃m,M.length=m:=⟨_,rfl⟩
 rw[hm2] at K2 l2 ⊢
 clear hm2
 obtain⟨m3,hm3⟩:∃m,C.length=m:=⟨_,rfl⟩
 rw[hm3] at K3 l3 ⊢
 clear hm3
 go_upto_region 3 with fail
 have SZ1:=B1.size
 have y1:=alloc_below w1 (.cells #[.int .i64 0] 3)
 have i1:=oneI w1 0
 generalize hx1:w1.alloc (.cells #[.int .i64 0] 3)=x1 at *
 have e1:x1.heap.size=w1.heap.size+1:=by rw[<-hx1];simp
 clear hx1
 have y2:=alloc_below x1 (.cells #[.int .i64 0] 3)
 have i2:=oneI x1 0
 have i1:=i1.below y2
 generalize hx2:x1.alloc (.cells #[.int .i64 0] 3)=x2 at *
 have e2:x2.heap.size=w1.heap.size+2:=by rw[<-hx2];simp[e1]
 clear hx2
 have Y2:=y1.trans (y2.mono y1.size)
 have B2:=B1.trans (Y2.mono B1.size)
 have X2:=Xr1.below Y2
 have K1:=hid (K1.out.below Y2)
 have K2:=hid (K2.out.below Y2)
 have K3:=hid (K3.out.below Y2)
 have I1:=hid i1
 have I2:=hid i2
 clear B1 Xr1 y1 y2 Y2 i1 i2
 obtain⟨B3,XB⟩:=box_new x2 #[.slice A1 m1 p1,.int .i64 3600,.int .i64 5,.slice A2 m2 p2,.int .i64 60,.int .i64 6,.slice A3 m3 p3,.int .i64 1,.int .i64 7] 258
 go_wp2
 generalize x2.alloc (.cells #[.slice A1 m1 p1,.int .i64 3600,.int .i64 5,.slice A2 m2 p2,.int .i64 60,.int .i64 6,.slice A3 m3 p3,.int .i64 1,.int .i64 7] 258)=x3 at *
 have K1:=hid (K1.out.below B3)
 have K2:=hid (K2.out.below B3)
 have K3:=hid (K3.out.below B3)
 have I1:=hid (I1.out.below B3)
 have I2:=hid (I2.out.below B3)
 have X3:=X2.below B3
 have HB:=B2.trans (B3.mono B2.size)
 go_loopw [9,10,30] (fun b c i wr=>∃t1:Nat,t1<=3/\i= .int .i64 t1/\Hid (Sl w.heap.size wr b (G t1))/\Hid (Sl w.heap.size wr c (Y t1))/\Below x3.heap.size x3 wr) (fun _ _ i _=>3-(intOf i).toNat)
 case atStart=>exact⟨0,by omega,rfl,hid ⟨_,_,by rw[<-GZ.out.1];rfl,by rw[<-GZ.out.1];exact I1.out,fun b off e=>by cases e;exact⟨SZ1,rfl⟩⟩,hid ⟨_,_,by rw[<-GZ.out.2];rfl,by rw[<-GZ.out.2];have q:=I2.out;rw[e1] at q;exact q,fun b off e=>by cases e;exact⟨Nat.le_trans SZ1 (Nat.le_succ _),rfl⟩⟩,Below.refl _ _⟩
 case round=>
  obtain⟨t1,ht1,rfl,SB,SC,hB⟩:=hrel;have XR:=X3.below hB;have rz0:wr.cell? ⟨w.heap.size,0,none⟩=some (.int .i64 rfreq):=XR.at_ 0 _ rfl
  have b0:=XB.1
  by_cases hlt:t1<3
  ·rcases(by omega:t1=0\/t1=1\/t1=2) with rfl|rfl|rfl
   ·have q0:wr.cell? ⟨w1.heap.size+2,0,none⟩=some (.slice A1 m1 p1):=by rw[<-e2];exact(hB.cell (p:=⟨x2.heap.size,0,none⟩) b0).trans (XB.2 0 _ rfl)
    have q1:wr.cell? ⟨w1.heap.size+2,1,none⟩=some (.int .i64 3600):=by rw[<-e2];exact(hB.cell (p:=⟨x2.heap.size,1,none⟩) b0).trans (XB.2 1 _ rfl)
    have q2:wr.cell? ⟨w1.heap.size+2,2,none⟩=some (.int .i64 5):=by rw[<-e2];exact(hB.cell (p:=⟨x2.heap.size,2,none⟩) b0).trans (XB.2 2 _ rfl)
    obtain⟨A5,c5,rfl,i5,f5⟩:=SB.out;obtain⟨A6,c6,rfl,i6,f6⟩:=SC.out;have LG:=(GL.out 0).1;have LY:=(GL.out 0).2
    by_cases hf:5<=rfreq
    ·have t0:decide ((5:Int)<=rfreq)=true:=decide_eq_true hf
     have t9:¬rfreq<5:=by omega
     go_upto_region 6 with fail
     obtain⟨y,XY⟩:=box_new wr #[.slice A1 m1 p1,.int .i64 3600,.int .i64 5] 258;generalize wr.alloc _=wy at *;clear q0 q1 q2 rz0;have rz0:wy.cell? ⟨w.heap.size,0,none⟩=some (.int .i64 rfreq):=(XR.below y).at_ 0 _ rfl
     have q0:wy.cell? ⟨wr.heap.size,0,none⟩=some (.slice A1 m1 p1):=XY.2 0 _ rfl
     have q1:wy.cell? ⟨wr.heap.size,1,none⟩=some (.int .i64 3600):=XY.2 1 _ rfl
     have q2:wy.cell? ⟨wr.heap.size,2,none⟩=some (.int .i64 5):=XY.2 2 _ rfl
     have IA:=hid (i5.below y);have IB:=hid (i6.below y);have KK:=hid ((K1.out.below hB).below y);clear i5 i6;obtain⟨sp1,sp2,sp3⟩:=P0.out.1 (by omega);have SP1:=hid sp1;have SP2:=hid sp2;have SP3:=hid sp3;clear sp1 sp2 sp3;go_wp2_with fail;refine(spread_is _ A5 A1 _ m1 c5 p1 (G 0) H 3600 IA.out KK.out (by omega) (by omega) SP1.out _ SP2.out).mono ?_;rintro e w5 ⟨A7,c7,rfl,i7,f7,b7⟩;have I7:=hid i7;clear i7;go_wp2
     go_roundw
     case rel=>exact⟨1,by omega,by go_num,hid ⟨A7,c7,rfl,I7.out,fresh_mono f7 (Nat.le_trans HB.size (Nat.le_trans hB.size y.size))⟩,hid ⟨A6,c6,by rw[SP3.out],by rw[SP3.out];exact IB.out.below b7,f6⟩,(hB.trans (y.mono hB.size)).trans (b7.mono (Nat.le_trans hB.size y.size))⟩
     case measure=>simp[intOf]
    ·have t0:decide ((5:Int)<=rfreq)=false:=decide_eq_false hf
     have t9:rfreq<5:=by omega
     go_upto_region 6 with fail
     obtain⟨y,XY⟩:=box_new wr #[.slice A1 m1 p1,.int .i64 3600,.int .i64 5] 258;generalize wr.alloc _=wy at *;clear q0 q1 q2 rz0;have rz0:wy.cell? ⟨w.heap.size,0,none⟩=some (.int .i64 rfreq):=(XR.below y).at_ 0 _ rfl
     have q0:wy.cell? ⟨wr.heap.size,0,none⟩=some (.slice A1 m1 p1):=XY.2 0 _ rfl
     have q1:wy.cell? ⟨wr.heap.size,1,none⟩=some (.int .i64 3600):=XY.2 1 _ rfl
     have q2:wy.cell? ⟨wr.heap.size,2,none⟩=some (.int .i64 5):=XY.2 2 _ rfl
     have IA:=hid (i6.below y);have IB:=hid (i5.below y);have KK:=hid ((K1.out.below hB).below y);clear i5 i6;obtain⟨sp1,sp2,sp3⟩:=P0.out.2 (by omega);have SP1:=hid sp1;have SP2:=hid sp2;have SP3:=hid sp3;clear sp1 sp2 sp3;go_wp2_with fail;refine(spread_is _ A6 A1 _ m1 c6 p1 (Y 0) H 3600 IA.out KK.out (by omega) (by omega) SP1.out _ SP2.out).mono ?_;rintro e w5 ⟨A7,c7,rfl,i7,f7,b7⟩;have I7:=hid i7;clear i7;go_wp2
     go_roundw
     case rel=>exact⟨1,by omega,by go_num,hid ⟨A5,c5,by rw[SP3.out],by rw[SP3.out];exact IB.out.below b7,f5⟩,hid ⟨A7,c7,rfl,I7.out,fresh_mono f7 (Nat.le_trans HB.size (Nat.le_trans hB.size y.size))⟩,(hB.trans (y.mono hB.size)).trans (b7.mono (Nat.le_trans hB.size y.size))⟩
     case measure=>simp[intOf]
   ·have q0:wr.cell? ⟨w1.heap.size+2,3,none⟩=some (.slice A2 m2 p2):=by rw[<-e2];exact(hB.cell (p:=⟨x2.heap.size,3,none⟩) b0).trans (XB.2 3 _ rfl)
    have q1:wr.cell? ⟨w1.heap.size+2,4,none⟩=some (.int .i64 60):=by rw[<-e2];exact(hB.cell (p:=⟨x2.heap.size,4,none⟩) b0).trans (XB.2 4 _ rfl)
    have q2:wr.cell? ⟨w1.heap.size+2,5,none⟩=some (.int .i64 6):=by rw[<-e2];exact(hB.cell (p:=⟨x2.heap.size,5,none⟩) b0).trans (XB.2 5 _ rfl)
    obtain⟨A5,c5,rfl,i5,f5⟩:=SB.out;obtain⟨A6,c6,rfl,i6,f6⟩:=SC.out;have LG:=(GL.out 1).1;have LY:=(GL.out 1).2
    by_cases hf:6<=rfreq
    ·have t0:decide ((6:Int)<=rfreq)=true:=decide_eq_true hf
     have t9:¬rfreq<6:=by omega
     go_upto_region 6 with fail
     obtain⟨y,XY⟩:=box_new wr #[.slice A2 m2 p2,.int .i64 60,.int .i64 6] 258;generalize wr.alloc _=wy at *;clear q0 q1 q2 rz0;have rz0:wy.cell? ⟨w.heap.size,0,none⟩=some (.int .i64 rfreq):=(XR.below y).at_ 0 _ rfl
     have q0:wy.cell? ⟨wr.heap.size,0,none⟩=some (.slice A2 m2 p2):=XY.2 0 _ rfl
     have q1:wy.cell? ⟨wr.heap.size,1,none⟩=some (.int .i64 60):=XY.2 1 _ rfl
     have q2:wy.cell? ⟨wr.heap.size,2,none⟩=some (.int .i64 6):=XY.2 2 _ rfl
     have IA:=hid (i5.below y);have IB:=hid (i6.below y);have KK:=hid ((K2.out.below hB).below y);clear i5 i6;obtain⟨sp1,sp2,sp3⟩:=P1.out.1 (by omega);have SP1:=hid sp1;have SP2:=hid sp2;have SP3:=hid sp3;clear sp1 sp2 sp3;go_wp2_with fail;refine(spread_is _ A5 A2 _ m2 c5 p2 (G 1) M 60 IA.out KK.out (by omega) (by omega) SP1.out _ SP2.out).mono ?_;rintro e w5 ⟨A7,c7,rfl,i7,f7,b7⟩;have I7:=hid i7;clear i7;go_wp2
     go_roundw
     case rel=>exact⟨2,by omega,by go_num,hid ⟨A7,c7,rfl,I7.out,fresh_mono f7 (Nat.le_trans HB.size (Nat.le_trans hB.size y.size))⟩,hid ⟨A6,c6,by rw[SP3.out],by rw[SP3.out];exact IB.out.below b7,f6⟩,(hB.trans (y.mono hB.size)).trans (b7.mono (Nat.le_trans hB.size y.size))⟩
     case measure=>simp[intOf]
    ·have t0:decide ((6:Int)<=rfreq)=false:=decide_eq_false hf
     have t9:rfreq<6:=by omega
     go_upto_region 6 with fail
     obtain⟨y,XY⟩:=box_new wr #[.slice A2 m2 p2,.int .i64 60,.int .i64 6] 258;generalize wr.alloc _=wy at *;clear q0 q1 q2 rz0;have rz0:wy.cell? ⟨w.heap.size,0,none⟩=some (.int .i64 rfreq):=(XR.below y).at_ 0 _ rfl
     have q0:wy.cell? ⟨wr.heap.size,0,none⟩=some (.slice A2 m2 p2):=XY.2 0 _ rfl
     have q1:wy.cell? ⟨wr.heap.size,1,none⟩=some (.int .i64 60):=XY.2 1 _ rfl
     have q2:wy.cell? ⟨wr.heap.size,2,none⟩=some (.int .i64 6):=XY.2 2 _ rfl
     have IA:=hid (i6.below y);have IB:=hid (i5.below y);have KK:=hid ((K2.out.below hB).below y);clear i5 i6;obtain⟨sp1,sp2,sp3⟩:=P1.out.2 (by omega);have SP1:=hid sp1;have SP2:=hid sp2;have SP3:=hid sp3;clear sp1 sp2 sp3;go_wp2_with fail;refine(spread_is _ A6 A2 _ m2 c6 p2 (Y 1) M 60 IA.out KK.out (by omega) (by omega) SP1.out _ SP2.out).mono ?_;rintro e w5 ⟨A7,c7,rfl,i7,f7,b7⟩;have I7:=hid i7;clear i7;go_wp2
     go_roundw
     case rel=>exact⟨2,by omega,by go_num,hid ⟨A5,c5,by rw[SP3.out],by rw[SP3.out];exact IB.out.below b7,f5⟩,hid ⟨A7,c7,rfl,I7.out,fresh_mono f7 (Nat.le_trans HB.size (Nat.le_trans hB.size y.size))⟩,(hB.trans (y.mono hB.size)).trans (b7.mono (Nat.le_trans hB.size y.size))⟩
     case measure=>simp[intOf]
   ·have q0:wr.cell? ⟨w1.heap.size+2,6,none⟩=some (.slice A3 m3 p3):=by rw[<-e2];exact(hB.cell (p:=⟨x2.heap.size,6,none⟩) b0).trans (XB.2 6 _ rfl)
    have q1:wr.cell? ⟨w1.heap.size+2,7,none⟩=some (.int .i64 1):=by rw[<-e2];exact(hB.cell (p:=⟨x2.heap.size,7,none⟩) b0).trans (XB.2 7 _ rfl)
    have q2:wr.cell? ⟨w1.heap.size+2,8,none⟩=some (.int .i64 7):=by rw[<-e2];exact(hB.cell (p:=⟨x2.heap.size,8,none⟩) b0).trans (XB.2 8 _ rfl)
    obtain⟨A5,c5,rfl,i5,f5⟩:=SB.out;obtain⟨A6,c6,rfl,i6,f6⟩:=SC.out;have LG:=(GL.out 2).1;have LY:=(GL.out 2).2
    by_cases hf:7<=rfreq
    ·have t0:decide ((7:Int)<=rfreq)=true:=decide_eq_true hf
     have t9:¬rfreq<7:=by omega
     go_upto_region 6 with fail
     obtain⟨y,XY⟩:=box_new wr #[.slice A3 m3 p3,.int .i64 1,.int .i64 7] 258;generalize wr.alloc _=wy at *;clear q0 q1 q2 rz0;have rz0:wy.cell? ⟨w.heap.size,0,none⟩=some (.int .i64 rfreq):=(XR.below y).at_ 0 _ rfl
     have q0:wy.cell? ⟨wr.heap.size,0,none⟩=some (.slice A3 m3 p3):=XY.2 0 _ rfl
     have q1:wy.cell? ⟨wr.heap.size,1,none⟩=some (.int .i64 1):=XY.2 1 _ rfl
     have q2:wy.cell? ⟨wr.heap.size,2,none⟩=some (.int .i64 7):=XY.2 2 _ rfl
     have IA:=hid (i5.below y);have IB:=hid (i6.below y);have KK:=hid ((K3.out.below hB).below y);clear i5 i6;obtain⟨sp1,sp2,sp3⟩:=P2.out.1 (by omega);have SP1:=hid sp1;have SP2:=hid sp2;have SP3:=hid sp3;clear sp1 sp2 sp3;go_wp2_with fail;refine(spread_is _ A5 A3 _ m3 c5 p3 (G 2) C 1 IA.out KK.out (by omega) (by omega) SP1.out _ SP2.out).mono ?_;rintro e w5 ⟨A7,c7,rfl,i7,f7,b7⟩;have I7:=hid i7;clear i7;go_wp2
     go_roundw
     case rel=>exact⟨3,by omega,by go_num,hid ⟨A7,c7,rfl,I7.out,fresh_mono f7 (Nat.le_trans HB.size (Nat.le_trans hB.size y.size))⟩,hid ⟨A6,c6,by rw[SP3.out],by rw[SP3.out];exact IB.out.below b7,f6⟩,(hB.trans (y.mono hB.size)).trans (b7.mono (Nat.le_trans hB.size y.size))⟩
     case measure=>simp[intOf]
    ·have t0:decide ((7:Int)<=rfreq)=false:=decide_eq_false hf
     have t9:rfreq<7:=by omega
     go_upto_region 6 with fail
     obtain⟨y,XY⟩:=box_new wr #[.slice A3 m3 p3,.int .i64 1,.int .i64 7] 258;generalize wr.alloc _=wy at *;clear q0 q1 q2 rz0;have rz0:wy.cell? ⟨w.heap.size,0,none⟩=some (.int .i64 rfreq):=(XR.below y).at_ 0 _ rfl
     have q0:wy.cell? ⟨wr.heap.size,0,none⟩=some (.slice A3 m3 p3):=XY.2 0 _ rfl
     have q1:wy.cell? ⟨wr.heap.size,1,none⟩=some (.int .i64 1):=XY.2 1 _ rfl
     have q2:wy.cell? ⟨wr.heap.size,2,none⟩=some (.int .i64 7):=XY.2 2 _ rfl
     have IA:=hid (i6.below y);have IB:=hid (i5.below y);have KK:=hid ((K3.out.below hB).below y);clear i5 i6;obtain⟨sp1,sp2,sp3⟩:=P2.out.2 (by omega);have SP1:=hid sp1;have SP2:=hid sp2;have SP3:=hid sp3;clear sp1 sp2 sp3;go_wp2_with fail;refine(spread_is _ A6 A3 _ m3 c6 p3 (Y 2) C 1 IA.out KK.out (by omega) (by omega) SP1.out _ SP2.out).mono ?_;rintro e w5 ⟨A7,c7,rfl,i7,f7,b7⟩;have I7:=hid i7;clear i7;go_wp2
     go_roundw
     case rel=>exact⟨3,by omega,by go_num,hid ⟨A5,c5,by rw[SP3.out],by rw[SP3.out];exact IB.out.below b7,f5⟩,hid ⟨A7,c7,rfl,I7.out,fresh_mono f7 (Nat.le_trans HB.size (Nat.le_trans hB.size y.size))⟩,(hB.trans (y.mono hB.size)).trans (b7.mono (Nat.le_trans hB.size y.size))⟩
     case measure=>simp[intOf]
  ·obtain rfl:t1=3:=by omega
   obtain⟨A5,c5,rfl,i5,f5⟩:=SB.out;obtain⟨A6,c6,rfl,i6,f6⟩:=SC.out;have IA:=hid i5;have IB:=hid i6;clear i5 i6;go_wp2
   go_ret2
   exact⟨A5,c5,A6,c6,rfl,IA.out,IB.out,f5,f6,HB.trans (hB.mono HB.size)⟩
end Go.Proofs.YtddnnljfgfcplaaGreatDoor.Ex
