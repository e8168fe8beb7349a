/- MeX1 -/
import Derived.Test.YtddnnljfgfcplaaGreatDoorMbM
import Derived.Test.YtddnnljfgfcplaaGreatDoorRuX1
set_option maxRecDepth 100000
set_option maxHeartbeats 8000000
set_option linter.unusedVariables false
namespace Go.Proofs.YtddnnljfgfcplaaGreatDoor.Me
def mergeL:List Int->List Int->List Int
 | [],b=>b
 |x::a,[]=>x::a
 |x::a,y::b=>if x<y then x::mergeL a (y::b) else if x=y then x::mergeL a b else y::mergeL (x::a) b
 termination_by a b=>a.length+b.length
theorem merge_nil (a:List Int):mergeL a []=a:=by cases a<;>simp[mergeL]
theorem nil_merge (b:List Int):mergeL [] b=b:=by simp[mergeL]
theorem mem_merge (z:Int):∀(a b:List Int),z∈mergeL a b↔z∈a\/z∈b
 | [],b=>by simp[mergeL]
 |x::a,[]=>by simp[mergeL]
 |x::a,y::b=>by
  unfold mergeL
  split
  ·rw[List.mem_cons,mem_merge z a (y::b),List.mem_cons (l:=a),or_assoc]
  ·split
   ·rename_i e
    rw[List.mem_cons,mem_merge z a b,List.mem_cons,List.mem_cons,<-e]
    constructor<;>intro h<;>(try rcases h with h|h)<;>(try rcases h with h|h)<;>simp_all
   ·rw[List.mem_cons,mem_merge z (x::a) b]
    simp only[List.mem_cons]
    constructor<;>intro h<;>rcases h with h|h|h<;>simp_all
 termination_by a b=>a.length+b.length
theorem merge_rise:∀(a b:List Int),a.Pairwise (· < ·)->b.Pairwise (· < ·)->(mergeL a b).Pairwise (· < ·)
 | [],b,_,hb=>by simpa [mergeL] using hb
 |x::a,[],ha,_=>by simpa [mergeL] using ha
 |x::a,y::b,ha,hb=>by
  rw[List.pairwise_cons] at ha hb;unfold mergeL
  split
  ·rename_i c
   rw[List.pairwise_cons];refine⟨fun z hz => ?_,merge_rise a (y::b) ha.2 (List.pairwise_cons.2 hb)⟩
   rcases(mem_merge z _ _).1 hz with h|h
   ·exact ha.1 z h
   ·rcases List.mem_cons.1 h with h|h
    ·omega
    ·have:=hb.1 z h;omega
  ·split
   ·rename_i e
    rw[List.pairwise_cons];refine⟨fun z hz => ?_,merge_rise a b ha.2 hb.2⟩
    rcases(mem_merge z _ _).1 hz with h|h
    ·exact ha.1 z h
    ·have:=hb.1 z h;omega
   ·rw[List.pairwise_cons]
    refine⟨fun z hz => ?_,merge_rise (x::a) b (List.pairwise_cons.2 ha) hb.2⟩
    rcases(mem_merge z _ _).1 hz with h|h
    ·rcases List.mem_cons.1 h with h|h
     ·omega
     ·have:=ha.1 z h;omega
    ·exact hb.1 z h
 termination_by a b=>a.length+b.length
theorem merge_len:∀(a b:List Int),(mergeL a b).length<=a.length+b.length
 | [],b=>by simp[mergeL]
 |x::a,[]=>by simp[mergeL]
 |x::a,y::b=>by
  unfold mergeL
  split
  ·have:=merge_len a (y::b);simp only[List.length_cons] at this ⊢;omega
  ·split
   ·have:=merge_len a b;simp only[List.length_cons] at this ⊢;omega
   ·have:=merge_len (x::a) b;simp only[List.length_cons] at this ⊢;omega
 termination_by a b=>a.length+b.length
def behL (n:Int):List Int->List Int
 | [] => []
 |x::t=>if x=n then t else x::t
theorem merge_step (x y:Int) (a b:List Int):mergeL (x::a) (y::b)=min x y::mergeL (behL (min x y) (x::a)) (behL (min x y) (y::b)):=by
 have bh:∀z n t,behL n (z::t)=if z=n then t else z::t:=fun _ _ _=>rfl
 rw[mergeL,bh,bh]
 by_cases c:x<y
 ·rw[if_pos c,Int.min_def,if_pos (by omega),if_pos rfl,if_neg (by omega)]
 ·by_cases e:x=y
  ·subst e;rw[if_neg c,if_pos rfl,Int.min_self,if_pos rfl,if_pos rfl]
  ·rw[if_neg c,if_neg e,Int.min_def,if_neg (by omega),if_pos rfl,if_neg (by omega)]
def dropL (n:Int) (o:List Int):List Int:=o.dropWhile fun y=>decide (y<n)
def withL:List Int->List Int->List Int
 | [],_ => []
 |n::t,o=>if (dropL n o).head? = some n then withL t (dropL n o) else n::withL t (dropL n o)
theorem drop_mem {n z:Int} {o:List Int} (ho:o.Pairwise (· < ·)) (hz:n<=z):z∈dropL n o↔z∈o:=by
 unfold dropL
 induction o with
 |nil=>simp
 |cons y t ih=>
  rw[List.pairwise_cons] at ho;rw[List.dropWhile_cons]
  split
  ·rename_i c
   have c:=of_decide_eq_true c;rw[ih ho.2,List.mem_cons];constructor
   ·exact .inr
   ·rintro(h|h)
    ·omega
    ·exact h
  ·exact Iff.rfl
theorem drop_rise {n:Int} {o:List Int} (ho:o.Pairwise (· < ·)):(dropL n o).Pairwise (· < ·):=ho.sublist (List.dropWhile_sublist _)
theorem drop_head {n:Int} {o:List Int} (ho:o.Pairwise (· < ·)):(dropL n o).head? = some n↔n∈o:=by
 unfold dropL
 induction o with
 |nil=>simp
 |cons y t ih=>
  rw[List.pairwise_cons] at ho;rw[List.dropWhile_cons]
  split
  ·rename_i c
   have c:=of_decide_eq_true c;rw[ih ho.2,List.mem_cons];constructor
   ·exact .inr
   ·rintro(h|h)
    ·omega
    ·exact h
  ·rename_i c
   have c:¬y<n:=fun h=>c (decide_eq_true h)
   rw[List.head?_cons,List.mem_cons];constructor
   ·intro h;injection h with h;exact .inl h.symm
   ·rintro(h|h)
    ·rw[h]
    ·have:=ho.1 n h;omega
theorem with_is:∀(l o:List Int),l.Pairwise (· < ·)->o.Pairwise (· < ·)->withL l o=l.filter fun x=>decide (x ∉ o)
 | [],_,_,_=>rfl
 |n::t,o,hl,ho=>by
  rw[List.pairwise_cons] at hl
  have e:withL t (dropL n o)=t.filter fun x=>decide (x ∉ o):=by
   rw[with_is t _ hl.2 (drop_rise ho)]
   refine List.filter_congr fun z hz => ?_
   rw[decide_eq_decide,drop_mem ho (by have:=hl.1 z hz;omega)]
  rw[withL,List.filter_cons,e]
  by_cases c:n∈o
  ·rw[if_pos ((drop_head ho).2 c),if_neg (by simp[c])]
  ·rw[if_neg (fun h=>c ((drop_head ho).1 h)),if_pos (by simp[c])]
def joinS (d:Int) (acc:List (Int×Int)) (lo:Int):List (Int×Int):=
 match acc.getLast? with
 |some s=>if lo<=s.2 then acc.dropLast++[(s.1,lo+d)] else acc++[(lo,lo+d)]
 |none => [(lo,lo+d)]
def joinL (d:Int) (l:List Int):List (Int×Int):=l.foldl (joinS d) []
theorem foldl_take {d:Int} {l:List Int} {k:Nat} (h:k<l.length):joinL d (l.take (k+1))=joinS d (joinL d (l.take k)) (l[k]):=by
 unfold joinL
 rw[List.take_succ_eq_append_getElem h,List.foldl_append]
 rfl
structure Joined (d:Int) (l:List Int) (s:List (Int×Int)):Prop where
 apart:s.Pairwise fun a b=>a.2<b.1
 long:∀a∈s,a.1+d<=a.2
 at_:∀a∈s,a.1∈l
 in_:∀x∈l,∃a∈s,a.1<=x/\x+d<=a.2
 last:∀a∈s,∃x∈l,a.2=x+d
end Go.Proofs.YtddnnljfgfcplaaGreatDoor.Me
namespace Go.Proofs.YtddnnljfgfcplaaGreatDoor.Me
open Lib (hid)
open Go.RowKit Cv St Ru Dd Mb
theorem append_is {ops:Array Oper} {rest:List Oper} {o:Oper} {a:Act} {Q:Exit->Act->World->Prop} {W w:World} (hgd:o.guard=none) (s x:Operand)
  (ho:o.op= .call { callee:= .builtin .append,args:=#[s,x],argTypes:=#[22,22] })
  (v:Value) (l:List Int) (hs:a.eval s=v) (hown:OwnI W w v l) (hat:Below W.heap.size W w) (A:Option Addr) (n c:Nat) (k:List Int) (hk:IsAt w A n k) (hz:A=none->c=0)
  (hx:a.eval x= .slice A n c) (hl:l.length<=1000000) (hn:k.length<=1000000)
  (h:∀v' w',OwnI W w' v' (l++k)->Below W.heap.size W w'->wpList Tryz.prog ops Q rest (a.put o.dst v') w'):wpList Tryz.prog ops Q (o::rest) a w:=by
 obtain⟨i0,hi,hz0,hz1,hz2⟩:=info_parts info_int
 cases A with
 |none=>
  obtain rfl:n=0:=by
   rcases Nat.eq_zero_or_pos n with z|z
   ·exact z
   ·obtain⟨b,off,e,-⟩:=hk.2 z;cases e
  obtain rfl:c=0:=hz rfl
  obtain rfl:k=[]:=List.length_eq_zero_iff.1 hk.1.symm
  exact wpList_append_own_none hgd s x 22 ho W.heap.size 3 i0 1 Tryz.underlying22 hi v l.length (l.map (Value.int .i64)) hs hown hx (h v w (by rw[List.append_nil];exact hown) hat)
 |some ad=>
  obtain⟨b,off,sp⟩:=ad;have hkn:=hk.1
  refine wpList_append_own _ hgd s x 22 ho W.heap.size 3 i0 (.int .i64 0) 1 8 Tryz.underlying22 hi hz0 hz1 hz2 rfl (by decide) v l.length (l.map (Value.int .i64)) hs hown
   ⟨b,off,sp⟩ n c (k.map (Value.int .i64)) hx (by rw[List.length_map,hk.1];omega) ?_ (fun u q=>by obtain⟨z,-,rfl⟩:=List.mem_map.1 q;rfl) (by unfold maxLen;omega) (by omega) (by have:=hat.size;omega) ?_
  ·intro j u q
   have hj:j<k.length:=by have:=(List.getElem?_eq_some_iff.1 q).1;simpa using this
   obtain⟨b',off',e,hb,hc⟩:=hk.2 (by rw[hk.1];omega);cases e
   have z:=hc j (by rw[hk.1];exact hj);rw[iat_lt hj] at z;rw[List.getElem?_map,List.getElem?_eq_getElem hj] at q;obtain rfl:Value.int .i64 k[j]=u:=by simpa using q
   rw[addr_off];exact z
  ·intro v' w' hown' hg _
   refine h v' w' ?_ (hat.trans ((Below.refl _ _).grown hg (by have:=hat.size;omega) fun _ hk=>(World.ownsRow.lt hown _ hk).1));unfold OwnI;rw[List.length_append,List.map_append,<-hkn];exact hown'
def ListC (w:World) (m:List Int) (e:Ending) (w':World):Prop:=∃A c,e= .returned (.slice A m.length c)/\IsAt w' A m.length m/\Fresh w.heap.size A/\m.length<=c/\(A=none->c=0)/\Below w.heap.size w w'
def slen:Value->Nat
 | .slice _ n _=>n
 |_=>0
theorem ownC {W w:World} {v:Value} {l:List Int} (h:OwnI W w v l):∃A c,v= .slice A l.length c/\IsAt w A l.length l/\Fresh W.heap.size A/\l.length<=c/\(A=none->c=0):=by
 have hlt:=fun g=>World.ownsRow.lt h g
 have hat:=OwnI.at_ h
 rcases h.2 with ⟨rfl,h0⟩|⟨g,cap,cur,rfl,hb,hg,hnc,hcm,-⟩
 ·have e:l=[]:=List.length_eq_zero_iff.1 h0
  subst e;exact⟨none,0,rfl,IsAt.nil _ _,fun _ _ e=>(by cases e),Nat.le_refl _,fun _=>rfl⟩
 ·obtain⟨A,c,e,ia,lc,-⟩:=hat
  injection e with e1 e2 e3;subst e1 e3;refine⟨_,_,rfl,ia,fun b off e => ?_,lc,fun e=>by cases e⟩;injection e with e;injection e with e1 e2;exact⟨e1 ▸ (hlt g rfl).1,e2.symm⟩
def ListS (w:World) (m:List Int) (e:Ending) (w':World):Prop:=∃g c,e= .returned (.slice (some ⟨g,0,none⟩) m.length c)/\IsAt w' (some ⟨g,0,none⟩) m.length m/\m.length<=c/\Below w.heap.size w w'
theorem own_some {W w:World} {v:Value} {l:List Int} (h:OwnI W w v l) (hl:0<l.length):∃g c,v= .slice (some ⟨g,0,none⟩) l.length c:=by
 rcases h.2 with ⟨rfl,h0⟩|⟨g,cap,cur,rfl,-⟩
 ·omega
 ·exact⟨g,cap,rfl⟩
theorem is_tail {W:World} {bl off n:Nat} {x:Int} {t:List Int} (h:IsAt W (some ⟨bl,off,none⟩) n (x::t)):IsAt W (some ⟨bl,off+1,none⟩) (n-1) t:=by
 have e:n=t.length+1:=h.1
 refine⟨by omega,fun h0 => ?_⟩
 obtain⟨b,o,ea,hlt,hc⟩:=h.2 (by omega)
 injection ea with ea
 injection ea with e1 e2
 subst e1 e2
 refine⟨bl,off+1,rfl,hlt,fun j hj => ?_⟩
 rw[show off+1+j=off+(j+1) by omega,hc (j+1) (by omega)]
 rfl
theorem behind_is (W w:World) (hb:Below W.heap.size W w) (bl off n c:Nat) (x m:Int) (t:List Int) (h:IsAt W (some ⟨bl,off,none⟩) n (x::t)) (hc:n<=c) (hn:n<=1000000):
  Calls Tryz.prog 92 #[.slice (some ⟨bl,off,none⟩) n c,.int .i64 m] w fun e w'=>(∃o k d,e= .returned (.slice (some ⟨bl,o,none⟩) k d)/\IsAt W (some ⟨bl,o,none⟩) k (behL m (x::t))/\k<=d/\k<=n/\(x=m->k<n))/\w'=w:=by
 have e1:n=t.length+1:=h.1
 obtain⟨b,o,ea,hlt,hcc⟩:=h.2 (by omega)
 injection ea with ea
 injection ea with e2 e3
 subst e2 e3
 have c0:w.cell? ⟨bl,off,none⟩=some (.int .i64 x):=(hb.cell (p:=⟨bl,_,none⟩) hlt).trans (hcc 0 (by omega))
 have TL:=hid (is_tail h)
 have HH:=hid h
 have n0:0<n:=by omega
 have n1:(0:Int)<n:=by omega
 have n2:1<=n:=by omega
 have n3:(1:Int)<=n:=by omega
 clear h hcc e1 hb
 by_cases e:x=m
 ·have s:((x:Int)==m)=true:=by rw[beq_iff_eq];exact e
  have E:=hid (show behL m (x::t)=t from if_pos e);clear e
  by_cases k1:c=1
  ·subst k1
   obtain rfl:n=1:=by omega
   have E2:=hid (show IsAt W (some ⟨bl,off,none⟩) 0 (behL m (x::t)) by
    rw[E.out,List.length_eq_zero_iff.1 (show t.length=0 by have:=HH.out.1;simp at this;rw[this];rfl)];exact IsAt.nil _ _)
   go_enter Tryz.func92,Tryz.ntmps92
   go_wp2;go_ret;exact⟨⟨_,_,_,rfl,E2.out,by omega,by omega,fun _=>by omega⟩,rfl⟩
  ·have k2:¬c-1=0:=by omega
   have k3:¬c=1:=k1
   have k4:¬1=c:=by omega
   go_enter Tryz.func92,Tryz.ntmps92
   go_wp2;go_ret;exact⟨⟨_,_,_,rfl,by rw[E.out];exact TL.out,by omega,by omega,fun _=>by omega⟩,rfl⟩
 ·have s:((x:Int)==m)=false:=by rw[beq_eq_false_iff_ne];exact e
  have E:=hid (show behL m (x::t)=x::t from if_neg e);have NE:=hid e;clear e
  go_enter Tryz.func92,Tryz.ntmps92
  go_wp2;go_ret;exact⟨⟨_,_,_,rfl,by rw[E.out];exact HH.out,by omega,by omega,fun e=>absurd e NE.out⟩,rfl⟩
end Go.Proofs.YtddnnljfgfcplaaGreatDoor.Me
namespace Go.Proofs.YtddnnljfgfcplaaGreatDoor.Me
open Lib (hid)
open Go.RowKit Cv St Ru Dd Mb
theorem merged_is (w:World) (A B:Option Addr) (n m c d:Nat) (a b r:List Int) (hA:IsAt w A n a) (hB:IsAt w B m b) (hc:n<=c) (hd:m<=d) (zA:A=none->c=0) (zB:B=none->d=0) (h1:n<=400000) (h2:m<=400000) (hr:mergeL a b=r):
  Calls Tryz.prog 52 #[.slice A n c,.slice B m d] w (ListC w r):=by
 have IW:IntKind.i64.wrap ((n:Int)+(m:Int))=(n:Int)+(m:Int):=IntWalk.i64_in _ (by omega)
 have PE:=hid (show (n:Int)+(m:Int)=((n+m:Nat):Int) by omega)
 have LR:=hid (show r.length<=n+m by rw[<-hr,hA.1,hB.1];exact merge_len a b)
 obtain⟨i0,hi,hz0,hz1,hz2⟩:=info_parts info_int
 have HR:=hid hr
 have KA:=hid hA
 have KB:=hid hB
 have ZA:=hid zA
 have ZB:=hid zB
 clear hr hA hB zA zB
 go_enter Tryz.func52,Tryz.ntmps52
 go_wp2_with (at_make;refine wpList_make_own _ rfl _ _ 22 rfl w.heap.size 3 i0 (.int .i64 0) 1 Tryz.underlying22 hi hz0 hz1 .i64 .i64 _ (n+m) rfl rfl (by rw[<-PE.out]) (by rw[hz2];omega) (by unfold maxLen;omega) (Nat.le_refl _) ?_)
 intro wm hown hg
 have OW0:=hid (show OwnI w wm (.slice (some ⟨w.heap.size,0,none⟩) 0 (n+m)) [] from hown)
 have BW:=hid (show Below w.heap.size w wm from (Below.refl _ _).grown hg (Nat.le_refl _) (fun k hk=>by cases hk))
 clear hown hg hi hz0 hz1 hz2 i0 IW
 go_wp2
 go_loopw [0,1,5] (fun va vb ov wr=>∃(A1:Option Addr) (n1 c1:Nat) (B1:Option Addr) (m1 d1:Nat) (a1 b1 acc:List Int) (v:Value),va= .slice A1 n1 c1/\vb= .slice B1 m1 d1/\v=ov/\n1<=c1/\m1<=d1/\n1<=n/\m1<=m/\Hid (A1=none->c1=0)/\Hid (B1=none->d1=0)/\Hid (IsAt w A1 n1 a1)/\Hid (IsAt w B1 m1 b1)/\Hid (acc++mergeL a1 b1=r)/\Hid (OwnI w wr v acc)/\Below w.heap.size w wr) (fun va vb _ _=>slen va+slen vb)
 case atStart=>exact⟨_,_,_,_,_,_,a,b,[],_,rfl,rfl,rfl,hc,hd,Nat.le_refl _,Nat.le_refl _,ZA,ZB,KA,KB,hid (by rw[List.nil_append];exact HR.out),OW0,BW.out⟩
 case round=>
  obtain⟨wo,rfl⟩:∃wo:World,wo=wr:=⟨_,rfl⟩;obtain⟨A1,n1,c1,B1,m1,d1,a1,b1,acc,v,rfl,rfl,rfl,q1,q2,q3,q4,z1,z2,ia,ib,D,OV,hB⟩:=hrel
  have LA:=hid (show acc.length<=n+m/\a1.length<=1000000/\b1.length<=1000000 by
   have:=LR.out
   rw[<-D.out,List.length_append] at this
   have:=ia.out.1
   have:=ib.out.1
   omega)
  clear OW0 BW KA KB ZA ZB HR
  by_cases k1:0<n1
  ·by_cases k2:0<m1
   ·cases a1 with
    |nil=>exact absurd ia.out.1 (by simp;omega)
    |cons x ta=>
    cases b1 with
    |nil=>exact absurd ib.out.1 (by simp;omega)
    |cons y tb=>
    obtain⟨bl1,of1,rfl,hl1,hc1⟩:=ia.out.2 k1;obtain⟨bl2,of2,rfl,hl2,hc2⟩:=ib.out.2 k2;have cx:wo.cell? ⟨bl1,of1,none⟩=some (.int .i64 x):=(hB.cell (p:=⟨bl1,_,none⟩) hl1).trans (hc1 0 k1)
    have cy:wo.cell? ⟨bl2,of2,none⟩=some (.int .i64 y):=(hB.cell (p:=⟨bl2,_,none⟩) hl2).trans (hc2 0 k2)
    have i1:(0:Int)<n1:=by omega
    have i2:(0:Int)<m1:=by omega
    have g1:decide ((0:Int)<n1)=true:=decide_eq_true i1
    have g2:decide ((0:Int)<m1)=true:=decide_eq_true i2
    have g3:decide (0<n1)=true:=decide_eq_true k1
    have g4:decide (0<m1)=true:=decide_eq_true k2
    have D2:=hid (show (acc++[min x y])++mergeL (behL (min x y) (x::ta)) (behL (min x y) (y::tb))=r by
     rw[<-D.out,merge_step,List.append_assoc];rfl)
    obtain⟨q,hq⟩:∃q,min x y=q:=⟨_,rfl⟩;have QQ:=hid (show x=q\/y=q by omega);rw[hq] at D2;have la:=LA.out;clear hc1 hc2 D z1 z2;go_wp2
    go_big_quiet (fail)
    go_wp2_with (at_builtin;refine append_num rfl _ _ rfl v acc rfl (by first|exact OV.out|exact OV.out.on (Below.drewN' _ _ _)) (by first|exact hB|exact hB.trans (Below.drewN' _ _ _)) _ _ _ rfl (by omega) ?_)
    intro v4 w4 ow4 hb4;have OW:=hid ow4;clear ow4 OV hB cx cy hq;go_wp2_with fail;refine(behind_is w _ hb4 bl1 of1 n1 c1 x q ta ia.out q1 (by omega)).mono ?_;rintro e w' ⟨⟨o5,k5,d5,rfl,i5,h51,h52,h53⟩,rfl⟩;go_wp2_with fail;refine(behind_is w _ hb4 bl2 of2 m1 d1 y q tb ib.out q2 (by omega)).mono ?_;rintro e w' ⟨⟨o6,k6,d6,rfl,i6,h61,h62,h63⟩,rfl⟩;go_wp2
    go_roundw
    case rel=>exact⟨_,_,_,_,_,_,_,_,_,v4,rfl,rfl,rfl,h51,h61,by omega,by omega,hid (fun e=>by cases e),hid (fun e=>by cases e),hid i5,hid i6,D2,OW,hb4⟩
    case measure=>
     have:=QQ.out
     simp only[slen]
     rcases this with e|e
     ·have:=h53 e;omega
     ·have:=h63 e;omega
   ·have g0:decide ((0:Int)<n1)=true:=decide_eq_true (by omega)
    have g2:decide (0<n1)=true:=decide_eq_true k1
    have g1:decide ((0:Int)<m1)=false:=decide_eq_false (by omega)
    have g3:decide (0<m1)=false:=decide_eq_false k2
    have E:=hid (show acc++(a1++b1)=r by
     obtain rfl:b1=[]:=List.length_eq_zero_iff.1 (by rw[<-ib.out.1];omega)
     rw[List.append_nil,<-D.out,merge_nil])
    clear D;have LB:=hid (show (acc++a1).length<=1000000 by have:=LR.out;rw[<-E.out,List.length_append,List.length_append] at this;rw[List.length_append];omega)
    go_wp2_with (at_builtin;refine append_is rfl _ _ rfl v acc rfl OV.out hB A1 n1 c1 a1 (ia.out.below hB) z1.out rfl (by have:=LA.out;omega) (by have:=LA.out;omega) ?_)
    intro v4 w4 ow4 hb4;have OW4:=hid ow4;clear ow4 OV hB
    go_wp2_with (at_builtin;refine append_is rfl _ _ rfl v4 (acc++a1) rfl OW4.out hb4 B1 m1 d1 b1 (ib.out.below hb4) z2.out rfl LB.out (by have:=LA.out;omega) ?_)
    intro v5 w5 ow5 hb5;obtain⟨A5,c5,rfl,i5,f5,l5,y5⟩:=ownC ow5;rw[E.out] at i5 l5 ⊢;go_wp2;go_ret;exact⟨A5,c5,rfl,i5,f5,l5,y5,hb5⟩
  ·have g1:decide ((0:Int)<n1)=false:=decide_eq_false (by omega)
   have g3:decide (0<n1)=false:=decide_eq_false k1
   have E:=hid (show acc++(a1++b1)=r by
    obtain rfl:a1=[]:=List.length_eq_zero_iff.1 (by rw[<-ia.out.1];omega)
    rw[List.nil_append,<-D.out,nil_merge])
   clear D;have LB:=hid (show (acc++a1).length<=1000000 by have:=LR.out;rw[<-E.out,List.length_append,List.length_append] at this;rw[List.length_append];omega)
   go_wp2_with (at_builtin;refine append_is rfl _ _ rfl v acc rfl OV.out hB A1 n1 c1 a1 (ia.out.below hB) z1.out rfl (by have:=LA.out;omega) (by have:=LA.out;omega) ?_)
   intro v4 w4 ow4 hb4;have OW4:=hid ow4;clear ow4 OV hB
   go_wp2_with (at_builtin;refine append_is rfl _ _ rfl v4 (acc++a1) rfl OW4.out hb4 B1 m1 d1 b1 (ib.out.below hb4) z2.out rfl LB.out (by have:=LA.out;omega) ?_)
   intro v5 w5 ow5 hb5;obtain⟨A5,c5,rfl,i5,f5,l5,y5⟩:=ownC ow5;rw[E.out] at i5 l5 ⊢;go_wp2;go_ret;exact⟨A5,c5,rfl,i5,f5,l5,y5,hb5⟩
end Go.Proofs.YtddnnljfgfcplaaGreatDoor.Me
namespace Go.Proofs.YtddnnljfgfcplaaGreatDoor.Me
open Lib (hid)
open Go.RowKit Cv St Ru Dd Mb
theorem drop_yes {n y:Int} {t:List Int} (h:y<n):dropL n (y::t)=dropL n t:=by
 unfold dropL;rw[List.dropWhile_cons,if_pos (decide_eq_true h)]
theorem drop_no {n y:Int} {t:List Int} (h:¬y<n):dropL n (y::t)=y::t:=by
 unfold dropL;rw[List.dropWhile_cons,if_neg (fun e=>h (of_decide_eq_true e))]
theorem drop_nil (n:Int):dropL n []=[]:=rfl
theorem with_cons {n:Int} {t o:List Int}:withL (n::t) o=if (dropL n o).head? = some n then withL t (dropL n o) else n::withL t (dropL n o):=rfl
theorem with_len:∀(l o:List Int),(withL l o).length<=l.length
 | [],_=>by simp[withL]
 |n::t,o=>by
  rw[with_cons]
  have:=with_len t (dropL n o)
  split<;>simp only[List.length_cons]<;>omega
theorem without_is (w:World) (A B:Option Addr) (n m c d:Nat) (a b r:List Int) (hA:IsAt w A n a) (hB:IsAt w B m b) (hd:m<=d) (h1:n<=900000) (h2:m<=900000) (hr:withL a b=r):
  Calls Tryz.prog 51 #[.slice A n c,.slice B m d] w (ListS w r):=by
 have LN:=hid hA.1.symm
 have LR:=hid (show r.length<=n by rw[<-hr,hA.1];exact with_len a b)
 obtain⟨i0,hi,hz0,hz1,hz2⟩:=info_parts info_int
 have HR:=hid hr
 have KA:=hid hA
 have KB:=hid hB
 clear hr hA hB
 go_enter Tryz.func51,Tryz.ntmps51
 go_wp2_with (at_make;refine wpList_make_own _ rfl _ _ 22 rfl w.heap.size 3 i0 (.int .i64 0) 1 Tryz.underlying22 hi hz0 hz1 .i64 .i64 _ n rfl rfl rfl (by rw[hz2];omega) (by unfold maxLen;omega) (Nat.le_refl _) ?_)
 intro wm hown hg
 have OW0:=hid (show OwnI w wm (.slice (some ⟨w.heap.size,0,none⟩) 0 n) [] from hown)
 have BW:=hid (show Below w.heap.size w wm from (Below.refl _ _).grown hg (Nat.le_refl _) (fun k hk=>by cases hk))
 clear hown hg hi hz0 hz1 hz2 i0
 go_wp2
 go_loopw [1,5,13] (fun vb ov i wr=>∃(B1:Option Addr) (m1 d1 t:Nat) (b1 acc:List Int) (v:Value),vb= .slice B1 m1 d1/\v=ov/\i= .int .i64 t/\t<=n/\m1<=d1/\m1<=m/\acc.length<=t/\Hid (IsAt w B1 m1 b1)/\Hid (acc++withL (a.drop t) b1=r)/\Hid (OwnI w wr v acc)/\Hid (∃g cp,v= .slice (some ⟨g,0,none⟩) acc.length cp)/\Below w.heap.size w wr) (fun _ _ i _=>n-(intOf i).toNat)
 case atStart=>exact⟨_,_,_,0,b,[],_,rfl,rfl,rfl,Nat.zero_le _,hd,Nat.le_refl _,Nat.zero_le _,KB,hid (by rw[List.drop_zero,List.nil_append];exact HR.out),OW0,hid ⟨_,_,rfl⟩,BW.out⟩
 case round=>
  obtain⟨wo,rfl⟩:∃wo:World,wo=wr:=⟨_,rfl⟩;obtain⟨B1,m1,d1,t,b1,acc,v,rfl,rfl,rfl,ht,q1,q2,q3,ib,D,OV,SV,hB⟩:=hrel;clear OW0 BW KB HR
  by_cases hlt:t<n
  ·obtain⟨bl1,of1,ea,hl1,hc1⟩:=KA.out.2 (by omega)
   subst ea;have cx:=(hB.cell (p:=⟨bl1,_,none⟩) hl1).trans (hc1 t hlt)
   have D1:=hid (show acc++withL (iat a t::a.drop (t+1)) b1=r by
    have hl:t<a.length:=by rw[LN.out];exact hlt
    rw[<-D.out,iat_lt hl,List.drop_eq_getElem_cons hl])
   clear D hc1;generalize iat a t=x at *;have s0:decide ((t:Int)<n)=true:=decide_eq_true (by omega)
   have s00:decide (t<n)=true:=decide_eq_true hlt
   go_wp2
   go_loop [1] (fun vb=>∃(B2:Option Addr) (m2 d2:Nat) (b2:List Int),vb= .slice B2 m2 d2/\m2<=d2/\m2<=m/\Hid (IsAt w B2 m2 b2)/\Hid (dropL x b2=dropL x b1)) (fun vb=>slen vb)
   case atStart=>exact⟨_,_,_,b1,rfl,q1,q2,ib,hid rfl⟩
   case round=>
    obtain⟨B2,m2,d2,b2,rfl,p1,p2,ib2,E⟩:=hrel
    by_cases k2:0<m2
    ·cases b2 with
     |nil=>exact absurd ib2.out.1 (by simp;omega)
     |cons y tb=>
     obtain⟨bl2,of2,rfl,hl2,hc2⟩:=ib2.out.2 k2;have cy:wo.cell? ⟨bl2,of2,none⟩=some (.int .i64 y):=(hB.cell (p:=⟨bl2,_,none⟩) hl2).trans (hc2 0 k2)
     have TL:=hid (show IsAt w (if d2=1 then some ⟨bl2,of2,none⟩ else some ⟨bl2,of2+1,none⟩) (m2-1) tb by
      split
      ·obtain rfl:m2=1:=by omega
       obtain rfl:tb=[]:=by have:=ib2.out.1;simp at this;exact this
       exact IsAt.nil _ _
      ·exact is_tail ib2.out)
     clear hc2;have i2:(0:Int)<m2:=by omega
     have g2:decide ((0:Int)<m2)=true:=decide_eq_true i2
     have g4:decide (0<m2)=true:=decide_eq_true k2
     have g6:((m2:Int)==0)=false:=by rw[beq_eq_false_iff_ne];omega
     have g7:(m2==0)=false:=by rw[beq_eq_false_iff_ne];omega
     have j1:(1:Int)<=m2:=by omega
     have j2:1<=m2:=k2
     by_cases c:y<x
     ·have s1:decide (y<x)=true:=decide_eq_true c
      have E2:=hid (show dropL x tb=dropL x b1 by rw[<-E.out,drop_yes c]);clear E;go_wp2
      go_round
      case rel=>exact⟨_,_,_,tb,rfl,by omega,by omega,TL,E2⟩
      case measure=>simp only[slen];omega
     ·have s1:decide (y<x)=false:=decide_eq_false c
      have E2:=hid (show dropL x b1=y::tb by rw[<-E.out,drop_no c]);clear E c TL
      by_cases e:y=x
      ·have s2:((y:Int) != x)=false:=by simp[e]
       have D2:=hid (show acc++withL (a.drop (t+1)) (y::tb)=r by
        rw[<-D1.out,with_cons,E2.out,if_pos (by rw[List.head?_cons,e])])
       clear e D1 E2;go_wp2
       go_roundw
       case rel=>exact⟨_,_,_,t+1,y::tb,acc,v,rfl,rfl,by go_num,by omega,by omega,by omega,by omega,ib2,D2,OV,SV,hB⟩
       case measure=>simp[intOf];omega
      ·have s2:((y:Int) != x)=true:=by rw[bne_iff_ne];exact e
       have D2:=hid (show (acc++[x])++withL (a.drop (t+1)) (y::tb)=r by
        rw[<-D1.out,with_cons,E2.out,if_neg (by rw[List.head?_cons];intro h;injection h with h;exact e h),List.append_assoc];rfl)
       clear e D1 E2
       go_wp2_with (at_builtin;refine append_num rfl _ _ rfl v acc rfl (by first|exact OV.out|exact OV.out.on (Below.drewN' _ _ _)) (by first|exact hB|exact hB.trans (Below.drewN' _ _ _)) _ _ _ rfl (by omega) ?_)
       intro v4 w4 ow4 hb4;have OW:=hid ow4;clear ow4;go_wp2
       go_roundw
       case rel=>exact⟨_,_,_,t+1,y::tb,acc++[x],v4,rfl,rfl,by go_num,by omega,by omega,by omega,by rw[List.length_append];simp;omega,ib2,D2,OW,hid (own_some OW.out (by simp)),hb4⟩
       case measure=>simp[intOf];omega
    ·obtain rfl:m2=0:=by omega
     obtain rfl:b2=[]:=List.length_eq_zero_iff.1 ib2.out.1.symm
     have D2:=hid (show (acc++[x])++withL (a.drop (t+1)) []=r by
      rw[<-D1.out,with_cons,<-E.out,drop_nil,if_neg (by simp),List.append_assoc];rfl)
     clear D1 E
     go_wp2_with (at_builtin;refine append_num rfl _ _ rfl v acc rfl (by first|exact OV.out|exact OV.out.on (Below.drewN' _ _ _)) (by first|exact hB|exact hB.trans (Below.drewN' _ _ _)) _ _ _ rfl (by omega) ?_)
     intro v4 w4 ow4 hb4;have OW:=hid ow4;clear ow4;go_wp2
     go_roundw
     case rel=>exact⟨_,_,_,t+1,[],acc++[x],v4,rfl,rfl,by go_num,by omega,by omega,by omega,by rw[List.length_append];simp;omega,ib2,D2,OW,hid (own_some OW.out (by simp)),hb4⟩
     case measure=>simp[intOf];omega
  ·obtain rfl:n=t:=by omega
   have E:=hid (show acc=r by
    rw[<-D.out,List.drop_of_length_le (by rw[LN.out];exact Nat.le_refl _)];simp[withL])
   have s0:decide ((n:Int)<n)=false:=decide_eq_false (by omega)
   have s00:decide (n<n)=false:=decide_eq_false (by omega)
   go_wp2;go_ret;obtain⟨g,cp,rfl⟩:=SV.out;obtain⟨A5,c5,e5,i5,f5,l5,y5⟩:=ownC OV.out;injection e5 with e6 e7 e8;subst e6 e8;rw[E.out] at i5 l5 ⊢;exact⟨g,_,rfl,i5,l5,hB⟩
end Go.Proofs.YtddnnljfgfcplaaGreatDoor.Me
namespace Go.Proofs.YtddnnljfgfcplaaGreatDoor.Me
open Go.RowKit Cv St Ru Dd
def pat (l:List (Int×Int)) (j:Nat):Int×Int:=l[j]?.getD (0,0)
theorem pat_lt {l:List (Int×Int)} {j:Nat} (h:j<l.length):pat l j=l[j]:=by unfold pat;rw[List.getElem?_eq_getElem h];rfl
def spCells:List (Int×Int)->List Value
 | [] => []
 |s::l => .int .i64 s.1 :: .int .i64 s.2::spCells l
theorem spCells_app:∀l k:List (Int×Int),spCells (l++k)=spCells l++spCells k
 | [],_=>rfl
 |s::l,k=>by simp only[List.cons_append,spCells,spCells_app l k]
theorem spCells_get:∀(l:List (Int×Int)) (j:Nat),j<l.length->(spCells l)[j*2]? = some (.int .i64 (pat l j).1)/\(spCells l)[j*2+1]? = some (.int .i64 (pat l j).2)
 | [],j,h=>by simp at h
 |s::l,0,_=>⟨rfl,rfl⟩
 |s::l,j+1,h=>by
  have:=spCells_get l j (by simpa using h)
  have e:pat (s::l) (j+1)=pat l j:=by simp[pat]
  rw[e,show (j+1)*2=j*2+2 from by omega];exact this
def SpAt (W:World) (A:Option Addr) (n:Nat) (l:List (Int×Int)):Prop:=
 n=l.length/\(0<n->∃b off,A=some ⟨b,off,none⟩/\b<W.heap.size/\∀j,j<n->W.cell? ⟨b,off+j*2,none⟩=some (.int .i64 (pat l j).1)/\W.cell? ⟨b,off+j*2+1,none⟩=some (.int .i64 (pat l j).2))
theorem SpAt.below {W w:World} {A:Option Addr} {n:Nat} {l:List (Int×Int)} (h:SpAt W A n l) (hb:Below W.heap.size W w):SpAt w A n l:=
 ⟨h.1,fun h0=>by
  obtain⟨b,off,e,hlt,hc⟩:=h.2 h0
  exact⟨b,off,e,Nat.lt_of_lt_of_le hlt hb.size,fun j hj=>⟨(hb.cell (p:=⟨b,_,none⟩) hlt).trans (hc j hj).1,(hb.cell (p:=⟨b,_,none⟩) hlt).trans (hc j hj).2⟩⟩⟩
def OwnP (W w:World) (v:Value) (l:List (Int×Int)):Prop:=w.ownsRow W.heap.size 52 2 v l.length (spCells l)
theorem OwnP.nil (W w:World):OwnP W w (.slice none 0 0) []:=World.ownsRow_nil _ _ _ _
theorem OwnP.on {W w w':World} {v:Value} {l:List (Int×Int)} (h:OwnP W w v l) (hb:Below w.heap.size w w'):OwnP W w' v l:=
 World.ownsRow.kept (row:=none) h ⟨hb.1,hb.2,hb.3,hb.4,fun k hk _=>hb.5 k hk⟩ (by cases v.ownBlock<;>simp)
theorem OwnP.form {W w:World} {v:Value} {l:List (Int×Int)} (h:OwnP W w v l):(v= .slice none 0 0/\l=[])\/∃g c,v= .slice (some ⟨g,0,none⟩) l.length c/\SpAt w (some ⟨g,0,none⟩) l.length l/\W.heap.size<=g/\g<w.heap.size/\l.length<=c:=by
 have hb:=fun g=>World.ownsRow.lt h g
 have cc:=fun g (e:v.ownBlock=some g)=>World.ownsRow.cells h (g:=g) e
 rcases h.2 with ⟨rfl,e⟩|⟨g,cap,cur,rfl,hB,hg,hn,hm,hs,ht⟩
 ·exact .inl ⟨rfl,List.eq_nil_of_length_eq_zero e⟩
 ·refine .inr ⟨g,cap,rfl,⟨rfl,fun h0=>⟨g,0,rfl,(hb g rfl).2,fun j hj => ?_⟩⟩,(hb g rfl).1,(hb g rfl).2,hn⟩
  obtain⟨a,b⟩:=spCells_get l j hj;exact⟨by have:=cc g rfl _ _ a;rwa [addr_off] at this,by have:=cc g rfl _ _ b;rwa [addr_off] at this⟩
theorem info_sp:(Tryz.prog.info? 52).map (fun i=>(i.zero,i.size,i.bytes))=some (some (.agg #[.int .i64 0,.int .i64 0]),2,16):=by kernel_rfl
theorem append_sp {ops:Array Oper} {rest:List Oper} {o:Oper} {a:Act} {Q:Exit->Act->World->Prop} {W w:World} (hgd:o.guard=none) (s x:Operand)
  (ho:o.op= .call { callee:= .builtin .append,args:=#[s,x],argTypes:=#[41,41] })
  (v:Value) (l:List (Int×Int)) (hs:a.eval s=v) (hown:OwnP W w v l) (hat:Below W.heap.size W w) (p q:Int) (T:TypeId) (c:Nat)
  (hx:a.eval x= .slice (some ⟨w.heap.size,0,none⟩) 1 c) (hl:l.length<=1000000)
  (h:∀v' w',OwnP W w' v' (l++[(p,q)])->Below W.heap.size W w'->wpList Tryz.prog ops Q rest (a.put o.dst v') w'):wpList Tryz.prog ops Q (o::rest) a (w.alloc (.cells #[.int .i64 p,.int .i64 q] T)):=by
 obtain⟨i0,hi,hz0,hz1,hz2⟩:=info_parts info_sp
 refine wpList_append_own _ hgd s x 41 ho W.heap.size 52 i0 _ 2 16 Tryz.underlying41 hi hz0 hz1 hz2 rfl (by decide) v l.length (spCells l) hs (World.ownsRow.alloc hown _)
  ⟨w.heap.size,0,none⟩ 1 c [.int .i64 p,.int .i64 q] hx rfl ?_ (by intro u hu;simp only[List.mem_cons,List.not_mem_nil,or_false] at hu;rcases hu with rfl|rfl<;>rfl) (by unfold maxLen;omega) (by omega) (by have:=hat.size;simp;omega) ?_
 ·intro j u hj
  rw[addr_off]
  match j,hj with
  |0,hj=>obtain rfl:Value.int .i64 p=u:=by simpa using hj
         rw[World.cell?_alloc_new];rfl
  |1,hj=>obtain rfl:Value.int .i64 q=u:=by simpa using hj
         rw[World.cell?_alloc_new];rfl
  |j+2,hj=>simp at hj
 ·intro v' w' hown' hg _
  have hat1:Below W.heap.size W (w.alloc (.cells #[.int .i64 p,.int .i64 q] T)):=hat.trans ((Below.refl _ _).alloc hat.size _)
  refine h v' w' ?_ (hat1.trans ((Below.refl _ _).grown hg (by have:=hat.size;simp;omega) fun _ hk=>(World.ownsRow.lt hown _ hk).1));unfold OwnP;rw[List.length_append,spCells_app];exact hown'
theorem spCells_set:∀(l:List (Int×Int)) (j:Nat) (x:Int),j<l.length->(spCells l).set (j*2+1) (.int .i64 x)=spCells (l.set j ((pat l j).1,x))
 | [],j,x,h=>by simp at h
 |s::l,0,x,_=>rfl
 |s::l,j+1,x,h=>by
  have e:pat (s::l) (j+1)=pat l j:=by simp[pat]
  rw[e,List.set_cons_succ,spCells,spCells,<-spCells_set l j x (by simpa using h),show (j+1)*2+1=(j*2+1)+1+1 by omega,List.set_cons_succ,List.set_cons_succ]
theorem OwnP.store {W w:World} {g cap:Nat} {l:List (Int×Int)} (h:OwnP W w (.slice (some ⟨g,0,none⟩) l.length cap) l) (hat:Below W.heap.size W w) (j:Nat) (hj:j<l.length) (x:Int):
  OwnP W (w.setCell ⟨g,j*2+1,none⟩ (.int .i64 x)) (.slice (some ⟨g,0,none⟩) l.length cap) (l.set j ((pat l j).1,x))/\Below W.heap.size W (w.setCell ⟨g,j*2+1,none⟩ (.int .i64 x)):=by
 obtain⟨h1,h2⟩:=World.ownsRow.stored h (j*2+1) (.int .i64 x)
 refine⟨?_,hat.trans ((Below.refl _ _).grown h2 hat.size fun k hk => ?_)⟩
 ·unfold OwnP
  rw[List.length_set,<-spCells_set l j x hj];exact h1
 ·injection hk with hk;subst hk
  exact(World.ownsRow.lt h g rfl).1
end Go.Proofs.YtddnnljfgfcplaaGreatDoor.Me
namespace Go.Proofs.YtddnnljfgfcplaaGreatDoor.Me
open Lib (hid)
open Go.RowKit Cv St Ru Dd Mb
theorem joinS_in {d lo:Int} {acc:List (Int×Int)} {k:Nat} (hk:acc.length=k+1) (h:lo<=(pat acc k).2):joinS d acc lo=acc.set k ((pat acc k).1,lo+d):=by
 obtain⟨p,z,rfl⟩:∃p z,acc=p++[z]:=⟨_,_,(List.dropLast_concat_getLast (by intro e;rw[e] at hk;simp at hk)).symm⟩
 have hp:p.length=k:=by simpa using hk
 have e:pat (p++[z]) k=z:=by rw[pat_lt (by simp;omega)];simp[<-hp]
 rw[e] at h ⊢
 unfold joinS
 rw[List.getLast?_concat]
 dsimp only
 rw[if_pos h,List.dropLast_concat,<-hp]
 simp
theorem joinS_out {d lo:Int} {acc:List (Int×Int)} {k:Nat} (hk:acc.length=k+1) (h:¬lo<=(pat acc k).2):joinS d acc lo=acc++[(lo,lo+d)]:=by
 obtain⟨p,z,rfl⟩:∃p z,acc=p++[z]:=⟨_,_,(List.dropLast_concat_getLast (by intro e;rw[e] at hk;simp at hk)).symm⟩
 have hp:p.length=k:=by simpa using hk
 have e:pat (p++[z]) k=z:=by rw[pat_lt (by simp;omega)];simp[<-hp]
 rw[e] at h
 unfold joinS
 rw[List.getLast?_concat]
 dsimp only
 rw[if_neg h]
theorem joinS_nil (d lo:Int):joinS d [] lo=[(lo,lo+d)]:=rfl
theorem joinS_len (d lo:Int) (acc:List (Int×Int)):(joinS d acc lo).length<=acc.length+1:=by
 unfold joinS
 split
 ·split
  ·simp
  ·simp
 ·simp
theorem joinL_len (d:Int) (l:List Int):∀k,(joinL d (l.take k)).length<=k
 |0=>by rw[List.take_zero];exact Nat.le_refl _
 |k+1=>by
  by_cases h:k<l.length
  ·rw[foldl_take h]
   have:=joinS_len d l[k] (joinL d (l.take k))
   have:=joinL_len d l k
   omega
  ·rw[List.take_of_length_le (by omega),<-List.take_of_length_le (l:=l) (i:=k) (by omega)]
   have:=joinL_len d l k
   omega
def SpansIs (w:World) (m:List (Int×Int)) (e:Ending) (w':World):Prop:=∃A c,e= .returned (.slice A m.length c)/\SpAt w' A m.length m/\Below w.heap.size w w'
theorem OwnP.spans {W w:World} {v:Value} {l:List (Int×Int)} (h:OwnP W w v l):∃A c,v= .slice A l.length c/\SpAt w A l.length l:=by
 rcases h.form with ⟨rfl,rfl⟩|⟨g,c,rfl,s,-⟩
 ·exact⟨none,0,rfl,rfl,fun h0=>absurd h0 (by simp)⟩
 ·exact⟨_,_,rfl,s⟩
theorem joined_is (w:World) (A:Option Addr) (n c:Nat) (d:Int) (l:List Int) (r:List (Int×Int)) (hA:IsAt w A n l) (h1:n<=900000) (d0:0<=d) (d1:d<=1000000000) (bl:∀x∈l,-1000000000000<=x/\x<=1000000000000) (hr:joinL d l=r):
  Calls Tryz.prog 49 #[.slice A n c,.int .i64 d] w (SpansIs w r):=by
 have LN:=hid hA.1.symm
 have HR:=hid hr
 have KA:=hid hA
 have BL:=hid bl
 have STEP:=hid (fun (t:Nat) (h:t<n)=>show joinL d (l.take (t+1))=joinS d (joinL d (l.take t)) (iat l t) by
  rw[iat_lt (by rw[<-hA.1];exact h)];exact foldl_take (by rw[<-hA.1];exact h))
 have LEN:=hid (joinL_len d l)
 clear hr hA bl
 go_enter Tryz.func49,Tryz.ntmps49
 go_wp2
 go_loopw [5,11] (fun ov i wr=>∃(t:Nat) (acc:List (Int×Int)) (v:Value),v=ov/\i= .int .i64 t/\t<=n/\Hid (joinL d (l.take t)=acc)/\Hid (OwnP w wr v acc)/\Below w.heap.size w wr) (fun _ i _=>n-(intOf i).toNat)
 case atStart=>exact⟨0,[],_,rfl,rfl,Nat.zero_le _,hid rfl,hid (OwnP.nil _ _),Below.refl _ _⟩
 case round=>
  obtain⟨wo,rfl⟩:∃wo:World,wo=wr:=⟨_,rfl⟩;obtain⟨t,acc,v,rfl,rfl,ht,D,OV,hB⟩:=hrel
  by_cases hlt:t<n
  ·obtain⟨bl1,of1,ea,hl1,hc1⟩:=KA.out.2 (by omega)
   subst ea;have cx:=(hB.cell (p:=⟨bl1,_,none⟩) hl1).trans (hc1 t hlt);obtain⟨b1,b2⟩:=BL.out (iat l t) (by rw[iat_lt (by rw[LN.out];exact hlt)];exact List.getElem_mem _);have ST:=hid (STEP.out t hlt);have al:acc.length<=t:=by rw[<-D.out];exact LEN.out t
   rw[D.out] at ST;clear hc1;generalize iat l t=x at *;have s0:decide ((t:Int)<n)=true:=decide_eq_true (by omega)
   have s00:decide (t<n)=true:=decide_eq_true hlt
   have W1:IntKind.i64.wrap (x+d)=x+d:=IntWalk.i64_in _ (by omega)
   have W2:IntKind.i64.wrap ((t:Int)+1)=(t:Int)+1:=IntWalk.i64_in _ (by omega)
   rcases OV.out.form with ⟨rfl,rfl⟩|⟨g,cap,rfl,sp,hg1,hg2,hcap⟩
   ·have S:=hid (show joinL d (l.take (t+1))=[]++[(x,x+d)] by rw[ST.out,joinS_nil];rfl)
    clear ST D
    go_wp2_with (at_builtin;refine append_sp rfl _ _ rfl _ [] rfl (by first|exact OV.out|exact OV.out.on (Below.drewN' _ _ _)) (by first|exact hB|exact hB.trans (Below.drewN' _ _ _)) _ _ _ _ rfl (by simp) ?_)
    intro v4 w4 ow4 hb4;have OW:=hid ow4;clear ow4;go_wp2
    go_roundw
    case rel=>exact⟨t+1,_,v4,rfl,by go_num,by omega,S,OW,hb4⟩
    case measure=>simp[intOf];omega
   ·by_cases k0:acc.length=0
    ·obtain rfl:acc=[]:=List.length_eq_zero_iff.1 k0
     have S:=hid (show joinL d (l.take (t+1))=[]++[(x,x+d)] by rw[ST.out,joinS_nil];rfl);clear ST D sp
     go_wp2_with (at_builtin;refine append_sp rfl _ _ rfl _ [] rfl (by first|exact OV.out|exact OV.out.on (Below.drewN' _ _ _)) (by first|exact hB|exact hB.trans (Below.drewN' _ _ _)) _ _ _ _ rfl (by simp) ?_)
     intro v4 w4 ow4 hb4;have OW:=hid ow4;clear ow4;go_wp2
     go_roundw
     case rel=>exact⟨t+1,_,v4,rfl,by go_num,by omega,S,OW,hb4⟩
     case measure=>simp[intOf];omega
    ·obtain⟨k,hk⟩:∃k,acc.length=k+1:=⟨acc.length-1,by omega⟩
     have cz:wo.cell? ⟨g,k*2+1,none⟩=some (.int .i64 (pat acc k).2):=by
      obtain⟨b,o,e,-,hc⟩:=sp.2 (by omega);injection e with e;injection e with e1 e2;subst e1 e2
      have:=(hc k (by omega)).2
      rwa [Nat.zero_add] at this
     have IN:=hid (fun (h:x<=(pat acc k).2)=>show joinL d (l.take (t+1))=acc.set k ((pat acc k).1,x+d) by rw[ST.out,joinS_in hk h]);have OUT:=hid (fun (h:¬x<=(pat acc k).2)=>show joinL d (l.take (t+1))=acc++[(x,x+d)] by rw[ST.out,joinS_out hk h]);have SO:=hid (OwnP.store OV.out hB k (by omega) (x+d));have fz:=World.ownsRow.frozenAt OV.out (k*2+1);have OVK:=hid OV.out;rw[hk] at OVK SO;clear ST D sp OV;generalize (pat acc k).2=hi at *;have w1:IntKind.i64.wrap (((k+1:Nat):Int)-1)=(k:Int):=by rw[show ((k+1:Nat):Int)-1=(k:Int) from by omega];exact IntWalk.i64_in _ (by omega)
     have w2':IntKind.i64.wrap ((k:Int)+1-1)=(k:Int):=by rw[show (k:Int)+1-1=(k:Int) from by omega];exact IntWalk.i64_in _ (by omega)
     have w3':IntKind.i64.wrap (k:Int)=(k:Int):=IntWalk.i64_in _ (by omega)
     have i1:(k:Int)<(k:Int)+1:=by omega
     have i0:(0:Int)<=(k:Int):=by omega
     have i2:k<k+1:=by omega
     have i3:(0:Int)<(k:Int)+1:=by omega
     have i4:decide ((0:Int)<(k:Int)+1)=true:=decide_eq_true i3
     have i5:decide (0<k+1)=true:=decide_eq_true (by omega)
     rw[hk]
     by_cases c1:x<=hi
     ·have s1:decide (x<=hi)=true:=decide_eq_true c1
      have S:=hid (IN.out c1);clear IN OUT;go_wp2
      go_roundw
      case rel=>exact⟨t+1,_,_,rfl,by go_num,by omega,S,hid (by have:=SO.out.1;simpa using this),by simpa using SO.out.2⟩
      case measure=>simp[intOf];omega
     ·have s1:decide (x<=hi)=false:=decide_eq_false c1
      have S:=hid (OUT.out c1);clear IN OUT
      go_wp2_with (at_builtin;refine append_sp rfl _ _ rfl _ acc rfl (by first|exact OVK.out|exact OVK.out.on (Below.drewN' _ _ _)) (by first|exact hB|exact hB.trans (Below.drewN' _ _ _)) _ _ _ _ rfl (by omega) ?_)
      intro v4 w4 ow4 hb4;have OW:=hid ow4;clear ow4;go_wp2
      go_roundw
      case rel=>exact⟨t+1,_,v4,rfl,by go_num,by omega,S,OW,hb4⟩
      case measure=>simp[intOf];omega
  ·obtain rfl:n=t:=by omega
   have E:=hid (show acc=r by
    rw[<-D.out,List.take_of_length_le (by rw[LN.out];exact Nat.le_refl _)];exact HR.out)
   have s0:decide ((n:Int)<n)=false:=decide_eq_false (by omega)
   have s00:decide (n<n)=false:=decide_eq_false (by omega)
   go_wp2;go_ret;obtain⟨A5,c5,rfl,i5⟩:=OV.out.spans;rw[E.out] at i5 ⊢;exact⟨A5,c5,rfl,i5,hB⟩
end Go.Proofs.YtddnnljfgfcplaaGreatDoor.Me
namespace Go.Proofs.YtddnnljfgfcplaaGreatDoor.Me
open Lib (hid)
open Go.RowKit Cv St Ru Dd
def innerB (t:Int):Bool:=decide (-62104060800<=t/\t<=253370764799)
def datesB (l:List Int):Bool:=decide (l.length<=64)&&(riseB l&&l.all innerB)
theorem within_is (n lo hi:Int) (x:Bool) (hx:decide (lo<=n/\n<=hi)=x) (w:World):
  Calls Tryz.prog 39 #[.int .i64 n,.int .i64 lo,.int .i64 hi] w fun e w'=>e= .returned (.bool x)/\w'=w:=by
 by_cases a:lo<=n
 ·have t1:decide (lo<=n)=true:=decide_eq_true a
  by_cases b:n<=hi
  ·have t2:decide (n<=hi)=true:=decide_eq_true b
   have X:=hid (show true=x by rw[<-hx];exact(decide_eq_true ⟨a,b⟩).symm);clear hx
   go_enter Tryz.func39,Tryz.ntmps39
   go_wp2;go_ret;exact⟨ret_bool X.out,rfl⟩
  ·have t2:decide (n<=hi)=false:=decide_eq_false b
   have X:=hid (show false=x by rw[<-hx];exact(decide_eq_false (fun h=>b h.2)).symm);clear hx
   go_enter Tryz.func39,Tryz.ntmps39
   go_wp2;go_ret;exact⟨ret_bool X.out,rfl⟩
 ·have t1:decide (lo<=n)=false:=decide_eq_false a
  have X:=hid (show false=x by rw[<-hx];exact(decide_eq_false (fun h=>a h.1)).symm);clear hx
  go_enter Tryz.func39,Tryz.ntmps39
  go_wp2;go_ret;exact⟨ret_bool X.out,rfl⟩
theorem mayMoment_is (t:Int) (x:Bool) (hx:innerB t=x) (w:World):
  Calls Tryz.prog 40 #[.int .i64 t] w fun e w'=>e= .returned (.bool x)/\w'=w:=by
 have HX:=hid hx
 clear hx
 go_enter Tryz.func40,Tryz.ntmps40
 go_wp2_with fail
 refine(within_is t _ _ x HX.out _).mono ?_
 rintro e w' ⟨rfl,rfl⟩
 go_wp2
 go_ret
 exact⟨rfl,rfl⟩
theorem dates_long {l:List Int} (h:¬l.length<=64):false=datesB l:=by unfold datesB;rw[decide_eq_false h];rfl
theorem dates_out {l:List Int} {t:Nat} (ht:t<l.length) (h:innerB (iat l t)=false):false=datesB l:=by
 symm
 unfold datesB
 rw[show l.all innerB=false from List.all_eq_false.2 ⟨iat l t,by rw[iat_lt ht];exact List.getElem_mem ht,by rw[h];simp⟩,Bool.and_false,Bool.and_false]
theorem dates_fall {l:List Int} {t:Nat} (ht:t<l.length) (h0:0<t) (h:iat l t<=iat l (t-1)):false=datesB l:=by
 symm
 unfold datesB
 have:riseB l=false:=by
  cases c:riseB l
  ·rfl
  ·have:=rise_of c (j:=t-1) (by omega)
   rw[show t-1+1=t by omega] at this;omega
 rw[this,Bool.false_and,Bool.and_false]
theorem dates_yes {l:List Int} (h:l.length<=64) (hr:riseTo l l.length) (hi:∀j,j<l.length->innerB (iat l j)=true):true=datesB l:=by
 symm
 unfold datesB
 rw[decide_eq_true h,Bool.true_and,Bool.and_eq_true]
 refine⟨decide_eq_true (rise_adj fun j hj=>hr j hj),List.all_eq_true.2 fun x hx => ?_⟩
 obtain⟨j,hj,rfl⟩:=List.getElem_of_mem hx
 have:=hi j hj
 rwa [iat_lt hj] at this
theorem mayMoments_is (w:World) (A:Option Addr) (n c:Nat) (l:List Int) (x:Bool) (hA:IsAt w A n l) (h1:n<=9223372036854775807) (hx:datesB l=x):
  Calls Tryz.prog 42 #[.slice A n c] w fun e w'=>e= .returned (.bool x)/\w'=w:=by
 have LN:=hid hA.1.symm
 have KA:=hid hA
 have HX:=hid hx
 clear hA hx
 by_cases h64:n<=64
 rotate_left
 ·have X:=hid (show false=x by rw[<-HX.out];exact dates_long (by rw[LN.out];exact h64))
  have t1:decide ((64:Int)<n)=true:=decide_eq_true (by omega)
  have t2:decide (64<n)=true:=decide_eq_true (by omega)
  go_enter Tryz.func42,Tryz.ntmps42
  go_wp2;go_ret;exact⟨ret_bool X.out,rfl⟩
 have t1:decide ((64:Int)<n)=false:=decide_eq_false (by omega)
 have t2:decide (64<n)=false:=decide_eq_false (by omega)
 go_enter Tryz.func42,Tryz.ntmps42
 go_wp2
 go_loop [10] (fun i=>∃t:Nat,t<=n/\i= .int .i64 t/\Hid (∀j,j<t->innerB (iat l j)=true)/\Hid (riseTo l t)) (fun i=>n-(intOf i).toNat)
 case atStart=>exact⟨0,Nat.zero_le _,rfl,hid (fun j h=>absurd h (by omega)),hid (fun j h=>absurd h (by omega))⟩
 case round=>
  obtain⟨t,ht,rfl,D1,D2⟩:=hrel
  by_cases hlt:t<n
  ·obtain⟨bl1,of1,ea,hl1,hc1⟩:=KA.out.2 (by omega)
   subst ea;have cx:=hc1 t hlt;have s0:decide ((t:Int)<n)=true:=decide_eq_true (by omega)
   have s00:decide (t<n)=true:=decide_eq_true hlt
   by_cases i1:innerB (iat l t)=true
   ·by_cases z:t=0
    ·have N1:=hid (show ∀j,j<t+1->innerB (iat l j)=true from fun j hj=>by
      by_cases e:j=t
      ·rw[e];exact i1
      ·exact D1.out j (by omega))
     have N2:=hid (show riseTo l (t+1) from fun j hj=>absurd hj (by omega));have I1:=hid i1;subst z
     replace cx:w.cell? ⟨bl1,of1,none⟩=some (.int .i64 (iat l 0)):=hc1 0 hlt
     clear D1 D2 hc1 i1;generalize iat l 0=y at *;go_wp2_with fail;refine(mayMoment_is y true I1.out _).mono ?_;rintro e w' ⟨rfl,rfl⟩;go_wp2
     go_round
     case rel=>exact⟨1,by omega,by go_num,N1,N2⟩
     case measure=>simp[intOf];omega
    ·have cy:=hc1 (t-1) (by omega)
     have hz:0<t:=by omega
     have s1:decide ((0:Int)<t)=true:=decide_eq_true (by omega)
     have s2:decide (0<t)=true:=decide_eq_true hz
     obtain⟨k,rfl⟩:∃k,t=k+1:=⟨t-1,by omega⟩;rw[Nat.add_sub_cancel] at cy;have w1:IntKind.i64.wrap (((k+1:Nat):Int)-1)=(k:Int):=by rw[show ((k+1:Nat):Int)-1=(k:Int) from by omega];exact IntWalk.i64_in _ (by omega)
     have w2':IntKind.i64.wrap ((k:Int)+1-1)=(k:Int):=by rw[show (k:Int)+1-1=(k:Int) from by omega];exact IntWalk.i64_in _ (by omega)
     have w3':IntKind.i64.wrap (k:Int)=(k:Int):=IntWalk.i64_in _ (by omega)
     have w4:IntKind.i64.wrap ((k:Int)+1+1)=(k:Int)+1+1:=IntWalk.i64_in _ (by omega)
     have k0:(0:Int)<=(k:Int):=by omega
     have k1:(k:Int)<n:=by omega
     have k2:k<n:=by omega
     have k3:(k:Int)+1<n:=by omega
     have k4:decide ((k:Int)+1<n)=true:=decide_eq_true k3
     have k5:decide ((0:Int)<(k:Int)+1)=true:=decide_eq_true (by omega)
     have I1:=hid i1
     by_cases f:iat l (k+1)<=iat l k
     ·have X:=hid (show false=x by rw[<-HX.out];exact dates_fall (t:=k+1) (by rw[LN.out];exact hlt) (by omega) f)
      clear D1 D2 hc1 i1;generalize iat l (k+1)=y at *;generalize iat l k=v at *;have s3:decide (y<=v)=true:=decide_eq_true f
      go_wp2_with fail;refine(mayMoment_is y true I1.out _).mono ?_;rintro e w' ⟨rfl,rfl⟩;go_wp2;go_ret;exact⟨ret_bool X.out,rfl⟩
     ·have N1:=hid (show ∀j,j<k+1+1->innerB (iat l j)=true from fun j hj=>by
       by_cases e:j=k+1
       ·rw[e];exact i1
       ·exact D1.out j (by omega))
      have N2:=hid (show riseTo l (k+1+1) from D2.out.succ (by rw[Nat.add_sub_cancel];omega));clear D1 D2 hc1 i1;generalize iat l (k+1)=y at *;generalize iat l k=v at *;have s3:decide (y<=v)=false:=decide_eq_false f
      go_wp2_with fail;refine(mayMoment_is y true I1.out _).mono ?_;rintro e w' ⟨rfl,rfl⟩;go_wp2
      go_round
      case rel=>exact⟨k+1+1,by omega,by go_num,N1,N2⟩
      case measure=>simp[intOf];omega
   ·have i2:innerB (iat l t)=false:=by simpa using i1
    have X:=hid (show false=x by rw[<-HX.out];exact dates_out (by rw[LN.out];exact hlt) i2);have I1:=hid i2;clear D1 D2 hc1 i1 i2;generalize iat l t=y at *;go_wp2_with fail;refine(mayMoment_is y false I1.out _).mono ?_;rintro e w' ⟨rfl,rfl⟩;go_wp2;go_ret;exact⟨ret_bool X.out,rfl⟩
  ·obtain rfl:n=t:=by omega
   have X:=hid (show true=x by
    rw[<-HX.out];have e:=LN.out
    exact dates_yes (by omega) (by rw[e];exact D2.out) (by rw[e];exact D1.out))
   have s0:decide ((n:Int)<n)=false:=decide_eq_false (by omega)
   have s00:decide (n<n)=false:=decide_eq_false (by omega)
   go_wp2;go_ret;exact⟨ret_bool X.out,rfl⟩
end Go.Proofs.YtddnnljfgfcplaaGreatDoor.Me
namespace Go.Proofs.YtddnnljfgfcplaaGreatDoor.Me
open Go.RowKit Cv St Ru Dd
theorem search_is (w:World) (g n c:Nat) (l:List Int) (x:Int) (h:IsAt w (some ⟨g,0,none⟩) n l) (hr:l.Pairwise (· < ·)) (hn:n<=1000000):
  Calls Tryz.prog 53 #[.slice (some ⟨g,0,none⟩) n c,.int .i64 x] w fun e w'=>∃f:Bool,e= .returned (.tuple #[.int .i64 ((l.countP fun y=>decide (y<x):Nat)),.bool f])/\Below w.heap.size w w':=by
 have hl:=h.1
 have tk:l.take n=l:=List.take_of_length_le (by omega)
 refine(Tryz.slices_BinarySearch_int g 0 n c l x w (by omega) (by omega) (fun j hj => ?_) (by rw[tk];exact hr.imp (fun h=>by omega))).mono ?_
 ·obtain⟨b,off,e,-,hc⟩:=h.2 (by omega)
  injection e with e;injection e with e1 e2;subst e1 e2;exact hc j (by omega)
 ·rintro e w' ⟨rfl,q,rfl⟩
  rw[tk];exact⟨_,rfl,Below.drewN' _ _ _⟩
end Go.Proofs.YtddnnljfgfcplaaGreatDoor.Me
namespace Go.Proofs.YtddnnljfgfcplaaGreatDoor.Me
open Lib (hid)
open Go.RowKit Cv St Ru Dd
def spTo (l m:List (Int×Int)) (k:Nat):Prop:=∀j,j<k->pat l j=pat m j
theorem spTo.succ {l m:List (Int×Int)} {k:Nat} (h:spTo l m k) (e:pat l k=pat m k):spTo l m (k+1):=fun j hj=>by
 by_cases c:j=k
 ·subst c;exact e
 ·exact h j (by omega)
theorem sp_ext {l m:List (Int×Int)} (e:l.length=m.length) (h:∀j,j<l.length->pat l j=pat m j):l=m:=by
 refine List.ext_getElem e fun j h1 h2 => ?_
 have:=h j h1
 rwa [pat_lt h1,pat_lt h2] at this
theorem spans_any (w:World) (A B:Option Addr) (n c m d:Nat) (l k:List (Int×Int)) (hl:SpAt w A n l) (hk:SpAt w B m k) (h1:n<=9223372036854775807) (h2:m<=9223372036854775807):
  Calls Tryz.prog 28 #[.slice A n c,.slice B m d] w fun e w'=>e= .returned (.bool (decide (l=k)))/\Below w.heap.size w w':=by
 obtain⟨en,hc⟩:=hl
 obtain⟨en2,hc2⟩:=hk
 by_cases hn:n=m
 ·subst hn
  have EN:=hid en;have EN2:=hid en2;clear en en2
  go_enter Tryz.func28,Tryz.ntmps28
  go_wp2
  go_loopw [5] (fun i wr=>∃t:Nat,t<=n/\i= .int .i64 t/\Hid (spTo l k t)/\∃q:Nat,wr=w.drewN q) (fun i _=>n-(intOf i).toNat)
  case atStart=>exact⟨0,Nat.zero_le _,rfl,hid (fun j hj=>absurd hj (by omega)),0,rfl⟩
  case round=>
   obtain⟨t,ht,rfl,D,q,rfl⟩:=hrel
   by_cases hlt:t<n
   ·obtain⟨b,off,rfl,hb,hcc⟩:=hc (by omega)
    obtain⟨b2,off2,rfl,hb2,hcc2⟩:=hc2 (by omega);obtain⟨c0,c1⟩:=hcc t hlt;obtain⟨d0,d1⟩:=hcc2 t hlt;clear hc hc2 hcc hcc2;have X:=hid (fun (e1:(pat l t).1=(pat k t).1) (e2:(pat l t).2=(pat k t).2)=>D.out.succ (Prod.ext e1 e2));have F1:=hid (fun (h:(pat l t).1≠(pat k t).1)=>show false=decide (l=k) from no_bool (fun e=>h (by rw[e])));have F2:=hid (fun (h:(pat l t).2≠(pat k t).2)=>show false=decide (l=k) from no_bool (fun e=>h (by rw[e])));clear D
    by_cases p1:(pat l t).1=(pat k t).1
    ·have s1:(((pat l t).1:Int) != (pat k t).1)=false:=by rw[bne_eq_false_iff_eq];exact p1
     by_cases p2:(pat l t).2=(pat k t).2
     ·have s2:(((pat l t).2:Int) != (pat k t).2)=false:=by rw[bne_eq_false_iff_eq];exact p2
      have Y:=hid (X.out p1 p2);clear p1 p2 X F1 F2;go_wp2
      go_big_quiet (fail)
      go_wp2
      go_roundw
      case rel=>exact⟨t+1,by omega,by go_num,Y,_,rfl⟩
      case measure=>simp[intOf];omega
     ·have s2:(((pat l t).2:Int) != (pat k t).2)=true:=by rw[bne_iff_ne];exact p2
      have F:=hid (F2.out p2);clear p1 p2 X F1 F2;go_wp2
      go_big_quiet (fail)
      go_wp2;go_ret;exact⟨ret_bool F.out,(Below.drewN' _ _ _).trans (Below.drewN' _ _ _)⟩
    ·have s1:(((pat l t).1:Int) != (pat k t).1)=true:=by rw[bne_iff_ne];exact p1
     have F:=hid (F1.out p1);clear p1 X F1 F2;go_wp2
     go_big_quiet (fail)
     go_wp2;go_ret;exact⟨ret_bool F.out,(Below.drewN' _ _ _).trans (Below.drewN' _ _ _)⟩
   ·obtain rfl:n=t:=by omega
    have F:=hid (show true=decide (l=k) from yes_bool (sp_ext (by rw[<-EN.out,<-EN2.out]) (by rw[<-EN.out];exact D.out)));go_wp2;go_ret;exact⟨ret_bool F.out,Below.drewN' _ _ _⟩
 ·have F:=hid (show false=decide (l=k) from no_bool (fun e=>hn (by rw[en,en2,e])))
  have t1:((n:Int) != m)=true:=by rw[bne_iff_ne];omega
  clear en en2 hc hc2 hn
  go_enter Tryz.func28,Tryz.ntmps28
  go_wp2;go_ret;exact⟨ret_bool F.out,Below.refl _ _⟩
end Go.Proofs.YtddnnljfgfcplaaGreatDoor.Me
