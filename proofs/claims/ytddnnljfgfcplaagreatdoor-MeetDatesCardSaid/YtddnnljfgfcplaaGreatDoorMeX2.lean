/- MeX2 -/
import Derived.Test.YtddnnljfgfcplaaGreatDoorMeX1
import Derived.Test.YtddnnljfgfcplaaGreatDoorRpP
set_option maxRecDepth 100000
set_option maxHeartbeats 8000000
set_option linter.unusedVariables false
namespace Go.Proofs.YtddnnljfgfcplaaGreatDoor.Me
open Lib (hid)
open Go.RowKit Cv St Ru Dd
theorem pinM_is (n lo hi:Int) (x:Bool) (w:World) (hx:inI n lo hi=x):Calls Tryz.prog 39 #[.int .i64 n,.int .i64 lo,.int .i64 hi] w fun e w'=>e= .returned (.bool x)/\w'=w:=within_is n lo hi x hx w
theorem mnumber_some (s:ByteArray) (n:Int) (w:World) (T:Tabs w) (hs:s.size<=1000000) (hn:numOf s.data.toList=some n):
  Calls Tryz.prog 116 #[.string s] w fun e w'=>e= .returned (.tuple #[.int .i64 n,.bool true])/\Below w.heap.size w w':=by
 obtain⟨h1,h2,h3⟩:=numOf_some hn
 have A:=hid (show Lib.atoiAll s.data.toList= .ok n by rw[<-h1];exact atoi_itoa h2 h3)
 have I:=hid (show str (Lib.itoa n)=s by rw[h1,str_list])
 have P:=hid (inI_yes h2 h3)
 have TT:=hid T
 clear h1 hn T
 go_enter Tryz.func116,Tryz.ntmps116
 go_wp2_with fail
 refine(atoi_any s _ TT.out hs).mono ?_
 rintro e w1 ⟨m,v,rfl,b1,hv⟩
 have hv':m=n/\v= .nilIface:=by
  rcases hv with ⟨rfl,g⟩|⟨-,g⟩
  ·rw[A.out] at g;injection g with g;exact⟨g.symm,rfl⟩
  ·exact absurd A.out (g n)
 obtain⟨rfl,rfl⟩:=hv'
 have T1:=hid (TT.out.on b1)
 clear hv A TT
 go_wp2_with fail
 refine(pinM_is _ (-999999999) 999999999 _ _ P.out).mono ?_
 rintro e w2 ⟨rfl,rfl⟩
 go_wp2_with fail
 refine(itoa_is _ _ s T1.out (by omega) (by omega) I.out).mono ?_
 rintro e w2 ⟨rfl,b2⟩
 go_wp2
 go_ret2
 exact⟨rfl,b1.trans (b2.mono b1.size)⟩
theorem mnumber_none (s:ByteArray) (w:World) (T:Tabs w) (hs:s.size<=1000000) (hn:numOf s.data.toList=none):
  Calls Tryz.prog 116 #[.string s] w fun e w'=>e= .returned (.tuple #[.int .i64 0,.bool false])/\Below w.heap.size w w':=by
 have N:=hid (fun (n:Int) (h:NumIs s.data.toList n)=>show False by rw[numOf_of h] at hn;cases hn)
 have TT:=hid T
 clear hn T
 go_enter Tryz.func116,Tryz.ntmps116
 go_wp2_with fail
 refine(atoi_any s _ TT.out hs).mono ?_
 rintro e w1 ⟨m,v,rfl,b1,hv⟩
 have T1:=hid (TT.out.on b1)
 clear TT
 rcases hv with ⟨rfl,g⟩|⟨⟨T,p,rfl⟩,g⟩
 ·have A:=hid g
  clear g
  by_cases hb:-999999999<=m/\m<=999999999
  ·have P:=hid (inI_yes hb.1 hb.2)
   have hb1:=hb.1;have hb2:=hb.2;obtain⟨t,ht⟩:∃t,str (Lib.itoa m)=t:=⟨_,rfl⟩;have I:=hid ht
   have hne:t≠s:=fun e=>N.out m ⟨by rw[<-list_str (Lib.itoa m),ht,e],hb.1,hb.2⟩
   have d1:=str_ne hne;have d2:=str_ne' hne;clear ht hne hb;go_wp2_with fail;refine(pinM_is _ (-999999999) 999999999 _ _ P.out).mono ?_;rintro e w2 ⟨rfl,rfl⟩;go_wp2_with fail;refine(itoa_is _ _ t T1.out (by omega) (by omega) I.out).mono ?_;rintro e w2 ⟨rfl,b2⟩;go_wp2
   go_ret2
   exact⟨rfl,b1.trans (b2.mono b1.size)⟩
  ·have P:=hid (inI_no hb)
   clear hb;go_wp2_with fail;refine(pinM_is _ (-999999999) 999999999 _ _ P.out).mono ?_;rintro e w2 ⟨rfl,rfl⟩;go_wp2
   go_ret2
   exact⟨rfl,b1⟩
 ·clear g
  go_wp2
  go_ret2
  exact⟨rfl,b1⟩
end Go.Proofs.YtddnnljfgfcplaaGreatDoor.Me
namespace Go.Proofs.YtddnnljfgfcplaaGreatDoor.Me
open Lib (hid)
open Go.RowKit Cv St Ru Dd
theorem start_is (s x y:ByteArray) (b:Bool) (o:Option Int) (t e0:Int) (w:World) (T:Tabs w) (hs:s.size<=1000000) (hx:x.size<=1000000) (hy:y.size<=1000000)
  (hc:Lib.cut s.data.toList [58]=(x.data.toList,y.data.toList,b)) (ho:numOf x.data.toList=o) (hp:St.parse y.data.toList=(t,e0)):
  Calls Tryz.prog 76 #[.string s] w fun e w'=>e= .returned (.tuple #[.int .i64 (o.getD 0),.int .i64 t,.bool (o.isSome&&decide (e0=0))])/\Below w.heap.size w w':=by
 have TT:=hid T
 have HC:=hid hc
 have HP:=hid hp
 have HO:=hid ho
 clear T hc hp ho
 obtain⟨z,hz⟩:∃z,decide (e0=0)=z:=⟨_,rfl⟩
 have t1:((e0:Int)==0)=z:=by rw[<-hz];rfl
 rw[hz]
 clear hz
 go_enter Tryz.func76,Tryz.ntmps76
 go_wp2_with fail
 refine(cutS_is s 58 _ x y b TT.out hs HC.out).mono ?_
 rintro e w1 ⟨rfl,b1⟩
 have T1:=hid (TT.out.on b1)
 cases o with
 |none=>
  go_wp2_with fail;refine(mnumber_none x _ T1.out hx HO.out).mono ?_;rintro e w2 ⟨rfl,b2⟩;have B2:=b1.trans (b2.mono b1.size);have T2:=hid (T1.out.on b2);go_wp2_with fail;refine(St.parse_is y _ _ (by unfold maxLen;omega) (At.refl T2.out.tab) t e0 HP.out).mono ?_;rintro e w3 ⟨rfl,b3⟩;have B3:=B2.trans (b3.below.mono B2.size);go_wp2
  go_ret3
  exact⟨rfl,B3⟩
 |some k=>
  go_wp2_with fail;refine(mnumber_some x k _ T1.out hx HO.out).mono ?_;rintro e w2 ⟨rfl,b2⟩;have B2:=b1.trans (b2.mono b1.size);have T2:=hid (T1.out.on b2);go_wp2_with fail;refine(St.parse_is y _ _ (by unfold maxLen;omega) (At.refl T2.out.tab) t e0 HP.out).mono ?_;rintro e w3 ⟨rfl,b3⟩;have B3:=B2.trans (b3.below.mono B2.size);go_wp2
  go_ret3
  exact⟨rfl,B3⟩
end Go.Proofs.YtddnnljfgfcplaaGreatDoor.Me
namespace Go.Proofs.YtddnnljfgfcplaaGreatDoor.Me
open Go.RowKit Cv St Ru Dd
theorem duration_is (s:ByteArray) (t e0:Int) (w:World) (T:Tabs w) (hs:s.size<=1000000) (hp:St.durParse s.data.toList=(t,e0)):
  Calls Tryz.prog 77 #[.string s] w fun e w'=>e= .returned (.tuple #[.int .i64 t,.bool (decide (e0=0))])/\Below w.heap.size w w':=by
 have TT:=Lib.hid T
 have HP:=Lib.hid hp
 clear T hp
 obtain⟨z,hz⟩:∃z,decide (e0=0)=z:=⟨_,rfl⟩
 have t1:((e0:Int)==0)=z:=by rw[<-hz];rfl
 rw[hz]
 clear hz
 go_enter Tryz.func77,Tryz.ntmps77
 go_wp2_with fail
 refine(St.durParse_is s _ _ (by unfold maxLen;omega) (At.refl TT.out.tab) t e0 HP.out).mono ?_
 rintro e w3 ⟨rfl,b3⟩
 have B3:=b3.below
 go_wp2
 go_ret2
 exact⟨rfl,B3⟩
end Go.Proofs.YtddnnljfgfcplaaGreatDoor.Me
namespace Go.Proofs.YtddnnljfgfcplaaGreatDoor.Me
open Lib (hid)
open Go.RowKit Cv St Ru Dd
noncomputable def momG:List Int->List (List UInt8)->Option (List Int)
 |acc,[]=>some acc
 |acc,p::t=>match tilOf p with
  |none=>none
  |some n=>if 0<acc.length/\n<=iat acc (acc.length-1) then none else momG (acc++[n]) t
noncomputable def momsOf (v:List UInt8):Option (List Int):=if 64<(cutAt 44 v).length then none else momG [] (cutAt 44 v)
theorem momG_nil (acc:List Int):momG acc []=some acc:=rfl
theorem momG_none {acc:List Int} {p:List UInt8} {t:List (List UInt8)} (h:tilOf p=none):momG acc (p::t)=none:=by rw[momG,h]
theorem momG_fall {acc:List Int} {p:List UInt8} {t:List (List UInt8)} {n:Int} (h:tilOf p=some n) (h0:0<acc.length) (hn:n<=iat acc (acc.length-1)):momG acc (p::t)=none:=by
 rw[momG,h];exact if_pos ⟨h0,hn⟩
theorem momG_some {acc:List Int} {p:List UInt8} {t:List (List UInt8)} {n:Int} (h:tilOf p=some n) (hn:¬(0<acc.length/\n<=iat acc (acc.length-1))):momG acc (p::t)=momG (acc++[n]) t:=by
 rw[momG,h];exact if_neg hn
theorem til_no {l:List UInt8} {a b:Int} (h:St.parse l=(a,b)) (hb:b≠0):tilOf l=none:=by unfold tilOf;rw[h];exact if_neg hb
theorem til_yes {l:List UInt8} {a b:Int} (h:St.parse l=(a,b)) (hb:b=0):tilOf l=some a:=by unfold tilOf;rw[h];exact if_pos hb
def MomIs (w:World) (o:Option (List Int)) (e:Ending) (w':World):Prop:=
 (o=none/\e= .returned (.tuple #[.slice none 0 0,.bool false])\/∃L A c,o=some L/\e= .returned (.tuple #[.slice A L.length c,.bool true])/\IsAt w' A L.length L/\L.length<=c/\(A=none->c=0)/\Fresh w.heap.size A)/\Below w.heap.size w w'
theorem moments_is (s:ByteArray) (o:Option (List Int)) (w:World) (T:Tabs w) (hs:s.size<=1000000) (ho:momsOf s.data.toList=o):
  Calls Tryz.prog 79 #[.string s] w (MomIs w o):=by
 obtain⟨ps,hps⟩:∃ps,cutAt 44 s.data.toList=ps:=⟨_,rfl⟩
 have PL:=hid (fun p (hp:p∈ps)=>show (str p).size<=1000000 by
  rw[str_size]
  have:=cut_len 44 s.data.toList p (by rw[hps];exact hp)
  have hl:s.data.toList.length=s.size:=by simp
  omega)
 have HO:=hid (show (if 64<ps.length then none else momG [] ps)=o by rw[<-ho,<-hps];rfl)
 have HP:=hid hps
 have TT:=hid T
 clear T ho hps
 go_enter Tryz.func79,Tryz.ntmps79
 go_wp2_with fail
 refine(split_is s 44 _ TT.out hs).mono ?_
 rintro e w1 ⟨A,k,cap,rfl,hA,-,b1⟩
 rw[HP.out] at hA
 have hk:=hA.1
 rw[List.length_map] at hk
 have T1:=hid (TT.out.on b1)
 have HK:=hid hk
 have HS:=hid hA
 clear TT hk hA
 by_cases h64:k<=64
 rotate_left
 ·have N:=hid (show none=o by rw[<-HO.out,if_pos (by rw[<-HK.out];omega)])
  have t1:decide ((64:Int)<k)=true:=decide_eq_true (by omega)
  have t2:decide (64<k)=true:=decide_eq_true (by omega)
  go_wp2
  go_ret2
  exact⟨.inl ⟨N.out.symm,rfl⟩,b1⟩
 have t1:decide ((64:Int)<k)=false:=decide_eq_false (by omega)
 have t2:decide (64<k)=false:=decide_eq_false (by omega)
 have HG:=hid (show momG [] ps=o by rw[<-HO.out,if_neg (by rw[<-HK.out];omega)])
 clear HO
 go_wp2
 go_loopw [5,17] (fun ov i wr=>∃(v:Value) (t:Nat) (acc:List Int),t<=k/\v=ov/\i= .int .i64 t/\acc.length=t/\Hid (OwnI w1 wr v acc)/\Hid (momG acc (ps.drop t)=o)/\Below w1.heap.size w1 wr) (fun _ i _=>k-(intOf i).toNat)
 case atStart=>exact⟨_,0,[],Nat.zero_le _,rfl,rfl,rfl,hid (OwnI.nil _ _),hid (by rw[List.drop_zero];exact HG.out),Below.refl _ _⟩
 case round=>
  obtain⟨wo,rfl⟩:∃wo:World,wo=wr:=⟨_,rfl⟩;obtain⟨v0,t,acc,ht,rfl,rfl,al,OV,D,hB⟩:=hrel
  by_cases hlt:t<k
  ·obtain⟨b,off,rfl,hb,hcc⟩:=HS.out.2 (by omega)
   have c0:=hcc t hlt;have hp:t<ps.length:=by rw[<-HK.out];exact hlt
   rw[sat_map hp] at c0
   replace c0:=(hB.cell (p:=⟨b,_,none⟩) hb).trans c0
   have DD:=hid (show momG acc (Ru.pat ps t::ps.drop (t+1))=o by rw[<-D.out,List.drop_eq_getElem_cons hp,Ru.pat_lt hp]);have MM:=hid (show Ru.pat ps t∈ps by rw[Ru.pat_lt hp];exact List.getElem_mem _);have SZ:=PL.out _ MM.out;have T2:=hid (T1.out.on hB);clear hcc D;obtain⟨z,hz⟩:∃z,Ru.pat ps t=z:=⟨_,rfl⟩;rw[hz] at c0 SZ DD;clear hz;obtain⟨⟨x,e0⟩,hx⟩:∃q,St.parse z=q:=⟨_,rfl⟩;have PX:=hid (show St.parse (str z).data.toList=(x,e0) by rw[list_str];exact hx);have ZX:=hid hx;clear hx;have s0:decide ((t:Int)<k)=true:=decide_eq_true (by omega)
   have s00:decide (t<k)=true:=decide_eq_true hlt
   by_cases x0:e0=0
   rotate_left
   ·have q0:(e0 != 0)=true:=by rw[bne_iff_ne];exact x0
    have N:=hid (show none=o by rw[<-DD.out,momG_none (til_no ZX.out x0)]);go_wp2_with fail;refine(St.parse_is (str z) _ _ (by unfold maxLen;omega) (At.refl T2.out.tab) x e0 PX.out).mono ?_;rintro e w2 ⟨rfl,b2⟩;have B2:=b1.trans ((hB.trans (b2.below.mono hB.size)).mono b1.size);go_wp2
    go_ret2
    exact⟨.inl ⟨N.out.symm,rfl⟩,B2⟩
   subst x0;have q0:((0:Int) != 0)=false:=by simp
   go_wp2_with fail;refine(St.parse_is (str z) _ _ (by unfold maxLen;omega) (At.refl T2.out.tab) x 0 PX.out).mono ?_;rintro e w2 ⟨rfl,b2⟩;have hB2:=hB.trans (b2.below.mono hB.size);have B2:=b1.trans (hB2.mono b1.size);have OV2:=hid (OV.out.on b2.below);clear c0 OV hB
   by_cases z0:t=0
   ·subst z0
    have S:=hid (show momG (acc++[x]) (ps.drop (0+1))=o by rw[<-DD.out,momG_some (til_yes ZX.out rfl) (fun g=>by omega)]);have g1:decide ((0:Int)<((0:Nat):Int))=false:=by simp
    go_wp2_with (at_builtin;refine append_num rfl _ _ rfl v0 acc rfl (by first|exact OV2.out|exact OV2.out.on (Below.drewN' _ _ _)) (by first|exact hB2|exact hB2.trans (Below.drewN' _ _ _)) _ _ _ rfl (by omega) ?_)
    intro v6 w6 ow6 hb6;have OW:=hid ow6;clear ow6;go_wp2
    go_roundw
    case rel=>exact⟨v6,1,_,by omega,rfl,by go_num,by rw[List.length_append,al];rfl,OW,S,hb6⟩
    case measure=>simp[intOf];omega
   ·obtain⟨j,rfl⟩:∃j,t=j+1:=⟨t-1,by omega⟩
    obtain⟨A5,c5,rfl,i5,-,-,-⟩:=ownC OV2.out;rw[al] at i5;obtain⟨b5,o5,rfl,hl5,hc5⟩:=i5.2 (by omega);have cy:=hc5 j (by omega);obtain⟨y,hy⟩:∃y,iat acc j=y:=⟨_,rfl⟩;rw[hy] at cy;have HY:=hid (show iat acc (acc.length-1)=y by rw[al,Nat.add_sub_cancel];exact hy);have OV3:=hid OV2.out;rw[al] at OV3 ⊢;clear hc5 hy i5 OV2;have w1':IntKind.i64.wrap (((j+1:Nat):Int)-1)=(j:Int):=by rw[show ((j+1:Nat):Int)-1=(j:Int) from by omega];exact IntWalk.i64_in _ (by omega)
    have w2':IntKind.i64.wrap ((j:Int)+1-1)=(j:Int):=by rw[show (j:Int)+1-1=(j:Int) from by omega];exact IntWalk.i64_in _ (by omega)
    have w3':IntKind.i64.wrap (j:Int)=(j:Int):=IntWalk.i64_in _ (by omega)
    have w4':IntKind.i64.wrap ((j:Int)+1+1)=(j:Int)+1+1:=IntWalk.i64_in _ (by omega)
    have k0:(0:Int)<=(j:Int):=by omega
    have k1:(j:Int)<(j:Int)+1:=by omega
    have k2:j<j+1:=by omega
    have g1:decide ((0:Int)<(j:Int)+1)=true:=decide_eq_true (by omega)
    have g2:decide (0<j+1)=true:=decide_eq_true (by omega)
    by_cases f:x<=y
    ·have f1:decide (x<=y)=true:=decide_eq_true f
     have N:=hid (show none=o by rw[<-DD.out,momG_fall (til_yes ZX.out rfl) (by omega) (by rw[HY.out];exact f)]);go_wp2
     go_ret2
     exact⟨.inl ⟨N.out.symm,rfl⟩,B2⟩
    ·have f1:decide (x<=y)=false:=decide_eq_false f
     have S:=hid (show momG (acc++[x]) (ps.drop (j+1+1))=o by rw[<-DD.out,momG_some (til_yes ZX.out rfl) (fun g=>f (by have:=g.2;rw[HY.out] at this;exact this))])
     go_wp2_with (at_builtin;refine append_num rfl _ _ rfl _ acc rfl (by first|exact OV3.out|exact OV3.out.on (Below.drewN' _ _ _)) (by first|exact hB2|exact hB2.trans (Below.drewN' _ _ _)) _ _ _ rfl (by omega) ?_)
     intro v6 w6 ow6 hb6;have OW:=hid ow6;clear ow6;go_wp2
     go_roundw
     case rel=>exact⟨v6,j+1+1,_,by omega,rfl,by go_num,by rw[List.length_append,al];rfl,OW,S,hb6⟩
     case measure=>simp[intOf];omega
  ·obtain rfl:k=t:=by omega
   have E:=hid (show some acc=o by rw[<-D.out,List.drop_of_length_le (by rw[<-HK.out];exact Nat.le_refl _)];rfl);have s0:decide ((k:Int)<k)=false:=decide_eq_false (by omega)
   have s00:decide (k<k)=false:=decide_eq_false (by omega)
   go_wp2
   go_ret2
   obtain⟨A5,c5,rfl,i5,-,l5,y5⟩:=ownC OV.out;exact⟨.inr ⟨acc,A5,c5,E.out.symm,rfl,i5,l5,y5,(OwnI.fresh OV.out).mono b1.size⟩,b1.trans (hB.mono b1.size)⟩
end Go.Proofs.YtddnnljfgfcplaaGreatDoor.Me
namespace Go.Proofs.YtddnnljfgfcplaaGreatDoor.Me
open Lib (hid)
open Go.RowKit Cv St Ru Dd
def headW:Nat->List UInt8
 |0 => [68,84,83,84,65,82,84,59,84,90,73,68,61]
 |1 => [68,85,82,65,84,73,79,78,58]
 |2 => [82,82,85,76,69,58]
 |3 => [82,68,65,84,69,58]
 |_ => [69,88,68,65,84,69,58]
structure Heads (W:World):Prop where
 low:0<W.heap.size
 at_:∀k,k<5->W.cell? ⟨0,k,none⟩=some (.string (str (headW k)))
theorem Heads.on {W w:World} (h:Heads W) (hb:Below W.heap.size W w):Heads w:=
 ⟨Nat.lt_of_lt_of_le h.low hb.size,fun k hk=>(hb.cell (p:=⟨0,k,none⟩) h.low).trans (h.at_ k hk)⟩
def openG (l:List UInt8):Nat->Nat->Nat×List UInt8×Bool
 |0,_=>(0,[],false)
 |f+1,k=>if Lib.hasPrefix l (headW k)=true then (k,Lib.trimPrefix l (headW k),true) else if k<2 then (0,[],false) else openG l f (k+1)
def openR (l:List UInt8) (next:Nat):Nat×List UInt8×Bool:=openG l (5-next) next
theorem open_is (s:ByteArray) (k0:Nat) (hk:k0<=5) (w:World) (H:Heads w) (r:Nat×List UInt8×Bool) (hr:openR s.data.toList k0=r):
  Calls Tryz.prog 35 #[.string s,.int .i64 k0] w fun e w'=>e= .returned (.tuple #[.int .i64 r.1,.string (str r.2.1),.bool r.2.2])/\w'=w:=by
 have HH:=hid H
 have HR:=hid hr
 clear H hr
 go_enter Tryz.func35,Tryz.ntmps35
 go_wp2
 go_loop [7] (fun kv=>∃t:Nat,k0<=t/\t<=5/\kv= .int .i64 t/\Hid (openG s.data.toList (5-t) t=r)) (fun kv=>5-(intOf kv).toNat)
 case atStart=>exact⟨k0,Nat.le_refl _,hk,rfl,HR⟩
 case round=>
  obtain⟨t,ht,h5,rfl,D⟩:=hrel
  by_cases hlt:t<5
  ·have c0:=HH.out.at_ t hlt
   have s0:decide ((t:Int)<5)=true:=decide_eq_true (by omega)
   have s00:decide (t<5)=true:=decide_eq_true hlt
   have i1:(t:Int)<5:=by omega
   have i0:(0:Int)<=t:=by omega
   obtain⟨f,hf⟩:∃f,5-t=f+1:=⟨5-t-1,by omega⟩;have f2:5-(t+1)=f:=by omega
   have D2:=hid (show (if Lib.hasPrefix s.data.toList (headW t)=true then (t,Lib.trimPrefix s.data.toList (headW t),true) else if t<2 then (0,[],false) else openG s.data.toList f (t+1))=r by
    rw[<-D.out,hf];rfl)
   clear D hf;obtain⟨hp,hhp⟩:∃b,Lib.hasPrefix s.data.toList (headW t)=b:=⟨_,rfl⟩;obtain⟨tp,htp⟩:∃b,Lib.trimPrefix s.data.toList (headW t)=b:=⟨_,rfl⟩;have E1:=hid hhp;have E2:=hid htp;have W1:IntKind.i64.wrap ((t:Int)+1)=(t:Int)+1:=IntWalk.i64_in _ (by omega)
   clear hhp htp;go_wp2_with fail;refine(Tryz.strings_CutPrefix s (str (headW t)) _).mono ?_;rintro e w' ⟨he,rfl⟩;have he:e= .returned (.tuple #[.string (str tp),.bool hp]):=by rw[he,list_str,E1.out,E2.out];rfl
   subst he;cases hp
   ·by_cases t2:t<2
    ·have s1:decide ((t:Int)<2)=true:=decide_eq_true (by omega)
     have s2:decide (t<2)=true:=decide_eq_true t2
     have R:=hid (show (0,[],false)=r by rw[<-D2.out,if_neg (by rw[E1.out];decide),if_pos t2]);clear c0;go_wp2
     go_ret3
     rw[<-R.out];exact⟨rfl,rfl⟩
    ·have s1:decide ((t:Int)<2)=false:=decide_eq_false (by omega)
     have s2:decide (t<2)=false:=decide_eq_false t2
     have R:=hid (show openG s.data.toList (5-(t+1)) (t+1)=r by rw[<-D2.out,if_neg (by rw[E1.out];decide),if_neg t2,f2]);clear c0;go_wp2
     go_round
     case rel=>exact⟨t+1,by omega,by omega,by go_num,R⟩
     case measure=>simp[intOf];omega
   ·have R:=hid (show (t,tp,true)=r by rw[<-D2.out,if_pos E1.out,E2.out])
    clear c0;go_wp2
    go_ret3
    rw[<-R.out];exact⟨rfl,rfl⟩
  ·obtain rfl:t=5:=by omega
   have R:=hid (show (0,[],false)=r by rw[<-D.out];rfl);have s0:decide (((5:Nat):Int)<5)=false:=by decide
   go_wp2
   go_ret3
   rw[<-R.out];exact⟨rfl,rfl⟩
end Go.Proofs.YtddnnljfgfcplaaGreatDoor.Me
