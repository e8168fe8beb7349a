/- RuX3 -/
import Derived.Test.YtddnnljfgfcplaaGreatDoorRuX1
import Derived.Deep.AppendLies
import Derived.Deep.RegionHeldLaw
set_option linter.unusedVariables false
namespace Go.Proofs.YtddnnljfgfcplaaGreatDoor.Ru
open Go.RowKit Cv St
def lowTo (l:List Int) (x:Int) (k:Nat):Prop:=∀j,j<k->iat l j<x
theorem lowTo.zero (l:List Int) (x:Int):lowTo l x 0:=fun j h=>absurd h (by omega)
theorem lowTo.succ {l:List Int} {x:Int} {k:Nat} (h:lowTo l x k) (e:iat l k<x):lowTo l x (k+1):=fun j hj=>by
 by_cases c:j=k
 ·subst c;exact e
 ·exact h j (by omega)
theorem iat_cons (y:Int) (l:List Int) (j:Nat):iat (y::l) (j+1)=iat l j:=by unfold iat;simp
theorem iat_head (y:Int) (l:List Int):iat (y::l) 0=y:=rfl
theorem ins_there {x:Int}:∀ {l:List Int} {k:Nat},lowTo l x k->k<l.length->iat l k=x->ins iltB x l=l
 | [],k,_,h,_=>absurd h (by simp)
 |y::l,0,_,_,e=>by
  rw[iat_head] at e;subst e;unfold ins iltB;rw[if_neg (by simp),if_neg (by simp)]
 |y::l,k+1,lo,h,e=>by
  have h0:=lo 0 (by omega);rw[iat_head] at h0;rw[iat_cons] at e;unfold ins;rw[if_pos (show iltB y x=true from decide_eq_true h0),ins_there (k:=k) (fun j hj=>by have:=lo (j+1) (by omega);rwa [iat_cons] at this) (by simpa using h) e]
theorem ins_new {x:Int}:∀ {l:List Int} {k:Nat},lowTo l x k->k<=l.length->(k<l.length->x<iat l k)->ins iltB x l=l.take k++x::l.drop k
 | [],0,_,_,_=>rfl
 | [],k+1,_,h,_=>absurd h (by simp)
 |y::l,0,_,_,e=>by
  have:=e (by simp)
  rw[iat_head] at this;unfold ins;rw[if_neg (show ¬iltB y x=true by unfold iltB;simp;omega),if_pos (show iltB x y=true from decide_eq_true this)];rfl
 |y::l,k+1,lo,h,e=>by
  have h0:=lo 0 (by omega);rw[iat_head] at h0;unfold ins;rw[if_pos (show iltB y x=true from decide_eq_true h0),ins_new (k:=k) (fun j hj=>by have:=lo (j+1) (by omega);rwa [iat_cons] at this) (by simpa using h) (fun hk=>by have:=e (by simpa using hk);rwa [iat_cons] at this)];rfl
theorem sortU_take {l:List Int} {t:Nat} (h:t<l.length):sortU iltB (l.take (t+1))=ins iltB (iat l t) (sortU iltB (l.take t)):=by
 unfold sortU
 rw[List.take_succ_eq_append_getElem h,List.foldl_append,iat_lt h]
 rfl
theorem sortU_take_len (l:List Int) (t:Nat):(sortU iltB (l.take t)).length<=l.length:=by
 have:=(sort_all (l:=l.take t)).2.1
 have h2:=List.length_take_le t l
 have h3:(l.take t).length<=l.length:=by rw[List.length_take];omega
 omega
theorem own_cut {w:World} {base:Nat} {e:TypeId} {g n k cap:Nat} {xs:List Value} (h:w.ownsRow base e 1 (.slice (some ⟨g,0,none⟩) n cap) n xs) (hk:k<=n):w.ownsRow base e 1 (.slice (some ⟨g,0,none⟩) k cap) k (xs.take k):=by
 obtain⟨h1,h2⟩:=h
 refine⟨by rw[List.length_take];omega,?_⟩
 rcases h2 with ⟨q,_⟩|⟨g',cap',cur,q,a1,a2,a3,a4,a5,a6⟩
 ·cases q
 ·injection q with q1 q2 q3
  injection q1 with q1;injection q1 with q1 _;subst q1 q3;refine .inr ⟨g,cap,cur,rfl,a1,a2,by omega,a4,a5,?_⟩;rw[<-a6,List.take_take]
  congr 1;omega
end Go.Proofs.YtddnnljfgfcplaaGreatDoor.Ru
namespace Go.Proofs.YtddnnljfgfcplaaGreatDoor.Ru
open Lib (hid)
open Go.RowKit Cv St
theorem dr3 (w:World) (a b c:Nat):Below w.heap.size w (((w.drewN a).drewN b).drewN c):=((Below.drewN' _ _ _).trans (Below.drewN' _ _ _)).trans (Below.drewN' _ _ _)
theorem lit_own (w:World) (x:Int):((w.drew).alloc (.cells #[.int .i64 x] 3)).ownsRow w.heap.size 3 1 (.slice (some ⟨w.heap.size,0,none⟩) 1 1) 1 [.int .i64 x]:=by
 have:=World.ownsRow_lit (base:=w.heap.size) (e:=3) (size:=1) w.drew #[.int .i64 x] 1 (Nat.le_refl _) (by decide) rfl
 exact this
theorem step_own {P:Program} {w:World} {ops:Array Oper} {o:Oper} {a:Act} {K:Act->World->Prop} {Q:Exit->Act->World->Prop} {E:Prop} (hgd:o.guard=none) (s x:Operand) (t:TypeId)
  (ho:o.op= .call { callee:= .builtin .append,args:=#[s,x],argTypes:=#[t,t] })
  (base:Nat) (e:TypeId) (i:TypeInfo) (z:Value) (size bytes:Nat) (ht:P.underlying t=some (.slice e)) (hi:P.info? e=some i) (hz:i.zero=some z)
  (hsize:i.size=size) (hby:i.bytes=bytes) (hzs:z.cells.size=size) (hsz:0<size)
  (v:Value) (n:Nat) (xs:List Value) (hs:a.eval s=v) (hown:w.ownsRow base e size v n xs)
  (ad:Addr) (m c:Nat) (news:List Value) (hx:a.eval x= .slice (some ad) m c) (hl:news.length=m*size) (hnews:∀j u,news[j]? = some u->w.cell? (ad.add j)=some u) (h1:∀u∈news,u.oneCell'=true)
  (h63:n+m<=maxLen) (hbytes:(n+m)*bytes<=140737488355328) (hbase:base<=w.heap.size)
  (h:∀v' w',w'.ownsRow base e size v' (n+m) (xs++news)->w.grownBy w' v.ownBlock->K (a.put o.dst v') w'):
  if Region.wanted o (yielded ops a.tmps)=true then Oper.wp P o a w K Q else E:=by
 rw[if_pos (by simp[Region.wanted,hgd])]
 exact wp_append_own w s x t ho base e i z size bytes ht hi hz hsize hby hzs hsz v n xs hs hown ad m c news hx hl hnews h1 h63 hbytes hbase fun v' w' h2 h3 _=>h v' w' h2 h3
theorem step_nil {P:Program} {w:World} {ops:Array Oper} {o:Oper} {a:Act} {K:Act->World->Prop} {Q:Exit->Act->World->Prop} {E:Prop} (hgd:o.guard=none) (s x:Operand) (t:TypeId)
  (ho:o.op= .call { callee:= .builtin .append,args:=#[s,x],argTypes:=#[t,t] })
  (base:Nat) (e:TypeId) (i:TypeInfo) (size:Nat) (ht:P.underlying t=some (.slice e)) (hi:P.info? e=some i)
  (v:Value) (n:Nat) (xs:List Value) (hs:a.eval s=v) (hown:w.ownsRow base e size v n xs) (hx:a.eval x= .slice none 0 0)
  (h:K (a.put o.dst v) w):if Region.wanted o (yielded ops a.tmps)=true then Oper.wp P o a w K Q else E:=by
 rw[if_pos (by simp[Region.wanted,hgd])]
 have hrun:=run_append_owned_none (P:=P) (w:=w) base t o.type e i size ht hi v n xs hown
 unfold Oper.wp
 simp[execOp,ho,resolve,invoke,builtin,hs,hx,hrun,Result.andThen]
 exact h
def SortR (w:World) (l:List Int) (e:Ending) (w':World):Prop:=∃v,e= .returned v/\OwnI w w' v (sortU iltB l)/\Below w.heap.size w w'
set_option maxRecDepth 100000 in
set_option maxHeartbeats 8000000 in
theorem sorted_is (w:World) (A:Option Addr) (n c:Nat) (l:List Int) (h:IsAt w A n l) (h1:n<=5000):Calls Tryz.prog 21 #[.slice A n c] w (SortR w l):=by
 obtain⟨en,hc⟩:=h
 obtain⟨O,hO⟩:∃O:Nat->List Int,∀t,sortU iltB (l.take t)=O t:=⟨_,fun _=>rfl⟩
 have OL:=hid (fun t=>show (O t).length<=n by rw[<-hO,en];exact sortU_take_len l t)
 have ON:=hid (fun (t:Nat) (ht:t<n)=>show O (t+1)=ins iltB (iat l t) (O t) by rw[<-hO,<-hO];exact sortU_take (by omega))
 have OE:=hid (show sortU iltB l=O n by rw[<-hO,en,List.take_length])
 have O0:=hid (show O 0=[] by rw[<-hO];rfl)
 clear hO en
 go_enter Tryz.func21,Tryz.ntmps21
 go_wp2
 go_loopw [3,4] (fun ov i wr=>∃(v:Value) (t:Nat),t<=n/\v=ov/\i= .int .i64 t/\OwnI w wr v (O t)/\Below w.heap.size w wr) (fun _ i _=>n-(intOf i).toNat)
 case atStart=>exact⟨_,0,Nat.zero_le _,rfl,rfl,O0.out ▸ OwnI.nil _ _,Below.refl _ _⟩
 case round=>
  rename_i wr
  obtain⟨v,t,ht,rfl,rfl,ov,hB⟩:=hrel
  by_cases hlt:t<n
  ·obtain⟨b,off,rfl,hb,hcc⟩:=hc (by omega)
   have c0:=(hB.cell (p:=⟨b,off+t,none⟩) hb).trans (hcc t hlt);have N1:=hid (ON.out t hlt);have hL:=OL.out t;obtain⟨x,hx⟩:∃x,iat l t=x:=⟨_,rfl⟩;obtain⟨L,hLL⟩:∃L,O t=L:=⟨_,rfl⟩;rw[hx] at c0 N1;rw[hLL] at ov N1 hL;obtain⟨A2,c2,rfl,hA2,hmc,hmx⟩:=ov.at_;have OV:=hid ov;obtain⟨m,hm⟩:∃m,L.length=m:=⟨_,rfl⟩;have HM:=hid hm;rw[hm] at hA2 hmc hL OV ⊢;have hc2:=hA2.2;clear hx hLL hcc hc hA2 ov hm hmx;go_wp2
   go_loopw [5] (fun kv wx=>∃(k:Nat) (q:Nat),k<=m/\kv= .int .i64 k/\Hid (lowTo L x k)/\wx=wr.drewN q) (fun kv _=>m-(intOf kv).toNat)
   case atStart=>exact⟨0,0,Nat.zero_le _,rfl,hid (lowTo.zero _ _),rfl⟩
   case round=>
    obtain⟨k,q,hk,rfl,D,rfl⟩:=hrel
    by_cases hkm:k<m
    ·obtain⟨b2,off2,rfl,hb2,hcc2⟩:=hc2 (by omega)
     have e0:=hcc2 k hkm;have dk:decide (k<m)=true:=decide_eq_true hkm
     clear hcc2 hc2;obtain⟨y,hy⟩:∃y,iat L k=y:=⟨_,rfl⟩;rw[hy] at e0;have HY:=hid hy;clear hy
     by_cases hyx:y<x
     ·have Y:=hid (D.out.succ (by rw[HY.out];exact hyx))
      have t1:decide (y<x)=true:=decide_eq_true hyx
      clear D;go_wp2
      go_big_quiet (fail)
      go_wp2
      go_roundw
      case rel=>exact⟨k+1,_,by omega,by go_num,Y,rfl⟩
      case measure=>simp[intOf];omega
     ·have t1:decide (y<x)=false:=decide_eq_false hyx
      by_cases hyx2:y=x
      ·have NN:=hid (show O (t+1)=L by rw[N1.out];exact ins_there D.out (by rw[HM.out];exact hkm) (by rw[HY.out];exact hyx2))
       have t2:((y:Int)==x)=true:=beq_iff_eq.2 hyx2
       clear D hyx hyx2;go_wp2
       go_big_quiet (fail)
       go_wp2
       go_big_quiet (fail)
       go_wp2
       go_roundw
       case rel=>exact⟨_,t+1,by omega,rfl,by go_num,by rw[NN.out];exact OV.out.on (Below.drewN' _ _ _),hB.trans ((Below.drewN' _ _ _).mono hB.size)⟩
       case measure=>simp[intOf];omega
      ·have NN:=hid (show O (t+1)=L.take k++x::L.drop k by rw[N1.out];exact ins_new D.out (by rw[HM.out];omega) (fun _=>by rw[HY.out];omega))
       have t2:((y:Int)==x)=false:=beq_eq_false_iff_ne.2 hyx2
       clear D hyx hyx2;go_wp2
       go_big_quiet (fail)
       go_wp2
       go_big_quiet (fail)
       go_upto_region 9 with fail
       rename_i nq0
       have bq:=dr3 wr q nq0 nq;have OQ:=OV.out.on bq;have cq:=(bq.cell (p:=⟨b,off+t,none⟩) (Nat.lt_of_lt_of_le hb hB.size)).trans c0;generalize ((wr.drewN q).drewN nq0).drewN nq=wq at *;have bB:=hB.trans (bq.mono hB.size);have OQ2:wq.ownsRow w.heap.size 3 1 (.slice (some ⟨b2,off2,none⟩) m c2) m (L.map (Value.int .i64)):=by have z:=OQ;unfold OwnI at z;rw[HM.out] at z;exact z
       obtain⟨g,cap,hv,hg1,hg2⟩:=World.ownsRow.form OQ2 (by omega);injection hv with hv1 hv2 hv3;injection hv1 with hv1;injection hv1 with hv4 hv5;clear hv2;subst hv4 hv5 hv3;have CUT:=hid (own_cut OQ2 (Nat.le_of_lt hkm))
       have GET:=hid (fun j u (q:((L.drop k).map (Value.int .i64))[j]? = some u)=>show wq.cell? ((⟨b2,k,none⟩:Addr).add j)=some u by
        rw[addr_off];have z:=World.ownsRow.cells OQ2 (g:=b2) rfl (k+j) u (by rw[List.map_drop,List.getElem?_drop] at q;exact q)
        rwa [addr_off,Nat.zero_add] at z)
       have LEN:=hid (show ((L.drop k).map (Value.int .i64)).length=(m-k)*1 by rw[List.length_map,List.length_drop,HM.out];omega);have LIT:=hid (lit_own wq x);have bw:=bB.size;have nbg:b≠b2:=by omega
       have i1:(0:Int)<=(k:Int):=by omega
       have i2:(k:Int)<=(m:Int):=by omega
       have i3:k<=c2:=by omega
       have i4:k<c2:=by omega
       have i5:(k:Int)<=(c2:Int):=by omega
       have j1:¬c2=k:=by omega
       clear e0 bq;obtain⟨i0,hi,hz0,hz1,hz2⟩:=info_parts info_int
       have GET2:=hid (fun j u (q:((L.drop k).map (Value.int .i64))[j]? = some u)=>show ((wq.drew).alloc (.cells #[.int .i64 x] 3)).cell? ((⟨b2,k,none⟩:Addr).add j)=some u by
        have z:=GET.out j u q;rw[addr_off] at z ⊢
        exact((((Below.refl _ _).drew).alloc (Nat.le_refl _) _:Below wq.heap.size wq ((wq.drew).alloc (.cells #[.int .i64 x] 3))).cell (p:=⟨b2,k+j,none⟩) hg2).trans z)
       have ONE:=hid (fun u (q:u∈(L.drop k).map (Value.int .i64))=>show u.oneCell'=true by obtain⟨z,-,rfl⟩:=List.mem_map.1 q;rfl)
       have ONE2:=hid (fun u (q:u∈[Value.int .i64 x]++(L.drop k).map (Value.int .i64))=>show u.oneCell'=true by
        rcases List.mem_append.1 q with q|q
        ·obtain rfl:=List.mem_singleton.1 q;rfl
        ·exact ONE.out u q)
       have CUT2:=hid (World.ownsRow.alloc (World.ownsRow.drew CUT.out) (.cells #[.int .i64 x] 3));have CX:=(((((Below.refl _ _).drew).alloc (Nat.le_refl _) _:Below wq.heap.size wq ((wq.drew).alloc (.cells #[.int .i64 x] 3)))).cell (p:=⟨b,off+t,none⟩) (by show b<wq.heap.size;omega)).trans cq;have LA:wq.heap.size+1=((wq.drew).alloc (.cells #[.int .i64 x] 3)).heap.size:=by simp
       have CX1:=fun {w1:World} (q:World.grownBy ((wq.drew).alloc (.cells #[.int .i64 x] 3)) w1 (Value.ownBlock (.slice (some ⟨wq.heap.size,0,none⟩) 1 1)))=>(World.grownBy.cell_far q ⟨b,off+t,none⟩ (by show b<_;omega) (by simp[Value.ownBlock];omega)).trans CX
       have CX2:=fun {w1 w2:World} (q:World.grownBy w1 w2 (Value.ownBlock (.slice (some ⟨b2,0,none⟩) k c2))) (z:w1.cell? ⟨b,off+t,none⟩=some (.int .i64 x)) (y:b<w1.heap.size)=>(World.grownBy.cell_far q ⟨b,off+t,none⟩ y (by simp[Value.ownBlock];omega)).trans z
       have CX3:=fun {w1:World} (q:World.grownBy ((wq.drew).alloc (.cells #[.int .i64 x] 3)) w1 (Value.ownBlock (.slice (some ⟨wq.heap.size,0,none⟩) 1 1)))=>show b<w1.heap.size from Nat.lt_of_lt_of_le (Nat.lt_of_lt_of_le (show b<wq.heap.size+1 by omega) (Nat.le_of_eq LA)) q.size
       have CX4:=fun {w1:World} (q:World.grownBy ((wq.drew).alloc (.cells #[.int .i64 x] 3)) w1 (Value.ownBlock (.slice (some ⟨wq.heap.size,0,none⟩) 1 1)))=>show w.heap.size<=w1.heap.size from Nat.le_trans (Nat.le_trans (show w.heap.size<=wq.heap.size+1 by omega) (Nat.le_of_eq LA)) q.size
       have BX:=hid (fun (w1 w2:World) (q:World.grownBy ((wq.drew).alloc (.cells #[.int .i64 x] 3)) w1 (Value.ownBlock (.slice (some ⟨wq.heap.size,0,none⟩) 1 1))) (z:World.grownBy w1 w2 (Value.ownBlock (.slice (some ⟨b2,0,none⟩) k c2)))=>show Below w.heap.size w w2 from
        (((bB.drew).alloc bB.size _).grown q (Nat.le_trans (show w.heap.size<=wq.heap.size+1 by omega) (Nat.le_of_eq LA)) (fun j hj=>by injection hj with hj;show w.heap.size<=j;rw[<-hj];exact bB.size)).grown z (Nat.le_trans (Nat.le_trans (show w.heap.size<=wq.heap.size+1 by omega) (Nat.le_of_eq LA)) q.size) (fun j hj=>by injection hj with hj;show w.heap.size<=j;rw[<-hj];exact hg1))
       have WX:=hid (fun (w2:World) (g2 cap2:Nat) (q:w2.ownsRow w.heap.size 3 1 (.slice (some ⟨g2,0,none⟩) (k+(1+(m-k))) cap2) (k+(1+(m-k))) ((L.map (Value.int .i64)).take k++([.int .i64 x]++(L.drop k).map (Value.int .i64))))=>show OwnI w w2 (.slice (some ⟨g2,0,none⟩) (k+(1+(m-k))) cap2) (O (t+1)) by
        rw[NN.out];unfold OwnI;have e:(L.take k++x::L.drop k).length=k+(1+(m-k)):=by rw[List.length_append,List.length_cons,List.length_take,List.length_drop,HM.out];omega
        rw[e,List.map_append,List.map_cons,List.map_take];exact q)
       clear CX LA;have sz1:1+(m-k)<=maxLen:=by unfold maxLen;omega
       have sz2:k+(1+(m-k))<=maxLen:=by unfold maxLen;omega
       have SZ1:=hid sz1;have SZ2:=hid sz2;clear sz1 sz2
       go_region_held_law (fun w'=>w'.cell? ⟨b,off+t,none⟩=some (.int .i64 x)) (first|exact CX2 hgr2 (CX1 hgr1) (CX3 hgr1)|exact CX1 hgr1|go_keep)
        (first
         | (refine step_append_lies _ (by rfl) (.tmp 51) (.tmp 54) _ (by rfl) wq.heap.size 3 i0 _ 1 8 Tryz.underlying22 hi hz0 hz1 hz2 rfl (by omega) (.slice (some ⟨wq.heap.size,0,none⟩) 1 1) 1 [.int .i64 x] (by rfl) LIT.out ⟨b2,k,none⟩ (m-k) (c2-k) ((L.drop k).map (Value.int .i64)) (by rfl) LEN.out GET2.out ONE.out (by omega) SZ1.out (by omega) (by simp) (wq.heap.size+1) (by simp) ?_;intro g1 cap1 w1 hown1 hgr1 hat1 hlt1)
         | (refine step_append_lies _ (by rfl) (.tmp 46) (.tmp 55) _ (by rfl) w.heap.size 3 i0 _ 1 8 Tryz.underlying22 hi hz0 hz1 hz2 rfl (by omega) (.slice (some ⟨b2,0,none⟩) k c2) k ((L.map (Value.int .i64)).take k) (by rfl) (World.ownsRow.kept CUT2.out hgr1 (.inr (by simp[Value.ownBlock];omega))) ⟨g1,0,none⟩ (1+(m-k)) cap1 ([.int .i64 x]++(L.drop k).map (Value.int .i64)) (by rfl) hown1.1 (World.ownsRow.cells hown1 rfl) ONE2.out (by omega) SZ2.out (by omega) (CX4 hgr1) w1.heap.size rfl ?_;intro g2 cap2 w2 hown2 hgr2 hat2 hlt2))
       all_goals
        have OW:=hid (WX.out _ _ _ hown2);have BW:=hid (BX.out _ _ hgr1 hgr2);clear hown1 hown2 hgr1 hgr2 hat1 hat2 hlt1 hlt2 CX1 CX2 CX3 CX4;go_wp2
        go_roundw
        case rel=>exact⟨_,t+1,by omega,rfl,by go_num,OW.out,BW.out⟩
        case measure=>simp[intOf];omega
    ·obtain rfl:k=m:=by omega
     have NN:=hid (show O (t+1)=L++[x] by
      rw[N1.out,ins_new D.out (by rw[HM.out];omega) (fun q=>absurd q (by rw[HM.out];omega))]
      rw[List.take_of_length_le (by rw[HM.out];exact Nat.le_refl _),List.drop_eq_nil_of_le (by rw[HM.out];exact Nat.le_refl _)])
     clear D
     rcases OV.out.2 with ⟨hv,h0⟩|⟨g,cap,cur,hv,hg1,-⟩
     ·have hL0:L=[]:=List.length_eq_zero_iff.1 h0
      injection hv with hv1 hv2 hv3;subst hL0 hv1 hv2 hv3;clear h0 hc2;go_wp2
      go_big_quiet (fail)
      go_wp2
      go_big_quiet (fail)
      go_upto_region 9 with fail
      rename_i nq0
      have bq:=dr3 wr q nq0 nq;have cq:=(bq.cell (p:=⟨b,off+t,none⟩) (Nat.lt_of_lt_of_le hb hB.size)).trans c0;generalize ((wr.drewN q).drewN nq0).drewN nq=wq at *;have bB:=hB.trans (bq.mono hB.size);have LIT:=hid (lit_own wq x);have bw:=bB.size;have NILO:=hid (World.ownsRow_nil ((wq.drew).alloc (.cells #[.int .i64 x] 3)) w.heap.size 3 1);clear bq;obtain⟨i0,hi,hz0,hz1,hz2⟩:=info_parts info_int;have CX:=(((((Below.refl _ _).drew).alloc (Nat.le_refl _) _:Below wq.heap.size wq ((wq.drew).alloc (.cells #[.int .i64 x] 3)))).cell (p:=⟨b,off+t,none⟩) (by show b<wq.heap.size;omega)).trans cq
      have CX1:=fun (w1:World) (z:World.grownBy ((wq.drew).alloc (.cells #[.int .i64 x] 3)) w1 none)=>(World.grownBy.cell_far z ⟨b,off+t,none⟩ (by show b<((wq.drew).alloc (.cells #[.int .i64 x] 3)).heap.size;simp;omega) (by simp)).trans CX
      have BX:=hid (fun (w1:World) (z:World.grownBy ((wq.drew).alloc (.cells #[.int .i64 x] 3)) w1 none)=>show Below w.heap.size w w1 from ((bB.drew).alloc bB.size _).grown z (by simp;omega) (fun j hj=>by cases hj));have NW:=hid (World.ownsRow.cells LIT.out (g:=wq.heap.size) rfl);clear CX
      go_region_held_law (fun w'=>w'.cell? ⟨b,off+t,none⟩=some (.int .i64 x)) (first|exact CX1 _ hgr2|go_keep)
       (first
        | (refine step_nil (by rfl) (.tmp 51) (.tmp 54) _ (by rfl) wq.heap.size 3 i0 1 Tryz.underlying22 hi (.slice (some ⟨wq.heap.size,0,none⟩) 1 1) 1 [.int .i64 x] (by rfl) LIT.out (by rfl) ?_)
        | (refine step_append_lies _ (by rfl) (.tmp 46) (.tmp 55) _ (by rfl) w.heap.size 3 i0 _ 1 8 Tryz.underlying22 hi hz0 hz1 hz2 rfl (by omega) (.slice none 0 0) 0 [] (by rfl) NILO.out ⟨wq.heap.size,0,none⟩ 1 1 [.int .i64 x] (by rfl) (by rfl) NW.out (by intro u q;obtain rfl:=List.mem_singleton.1 q;rfl) (by omega) (by decide) (by omega) (by simp;omega) (wq.heap.size+1) (by simp) ?_;intro g2 cap2 w2 hown2 hgr2 hat2 hlt2))
      all_goals
       have OW:=hid (show OwnI w w2 (.slice (some ⟨g2,0,none⟩) (0+1) cap2) (O (t+1)) by rw[NN.out];exact hown2);have BW:=hid (BX.out _ hgr2);clear hown2 hgr2 hat2 hlt2 CX1;go_wp2
       go_roundw
       case rel=>exact⟨_,t+1,by omega,rfl,by go_num,OW.out,BW.out⟩
       case measure=>simp[intOf];omega
     ·injection hv with hv1 hv2 hv3
      clear hv2;subst hv1 hv3;have hg2:=(World.ownsRow.lt OV.out g rfl).2;have SZ2:=hid (show k+1<=maxLen by unfold maxLen;omega);have i1:(0:Int)<=(k:Int):=by omega
      clear hc2
      by_cases hck:c2=k
      ·subst hck
       go_wp2
       go_big_quiet (fail)
       go_wp2
       go_big_quiet (fail)
       go_upto_region 9 with fail
       rename_i nq0
       have bq:=dr3 wr q nq0 nq;have OQ:=OV.out.on bq;have cq:=(bq.cell (p:=⟨b,off+t,none⟩) (Nat.lt_of_lt_of_le hb hB.size)).trans c0;generalize ((wr.drewN q).drewN nq0).drewN nq=wq at *;have bB:=hB.trans (bq.mono hB.size);have OQ2:wq.ownsRow w.heap.size 3 1 (.slice (some ⟨g,0,none⟩) c2 c2) c2 (L.map (Value.int .i64)):=by have z:=OQ;unfold OwnI at z;rw[HM.out] at z;exact z
       have hg3:=Nat.lt_of_lt_of_le hg2 bq.size;have LIT:=hid (lit_own wq x);have OQ3:=hid (World.ownsRow.alloc (World.ownsRow.drew OQ2) (.cells #[.int .i64 x] 3));have bw:=bB.size;have nbg:b≠g:=by omega
       clear bq OQ OQ2;obtain⟨i0,hi,hz0,hz1,hz2⟩:=info_parts info_int;have CX:=(((((Below.refl _ _).drew).alloc (Nat.le_refl _) _:Below wq.heap.size wq ((wq.drew).alloc (.cells #[.int .i64 x] 3)))).cell (p:=⟨b,off+t,none⟩) (by show b<wq.heap.size;omega)).trans cq;have LA:wq.heap.size+1=((wq.drew).alloc (.cells #[.int .i64 x] 3)).heap.size:=by simp
       have CX1:=fun {w1:World} (z:World.grownBy ((wq.drew).alloc (.cells #[.int .i64 x] 3)) w1 (Value.ownBlock (.slice (some ⟨wq.heap.size,0,none⟩) 1 1)))=>(World.grownBy.cell_far z ⟨b,off+t,none⟩ (by show b<_;omega) (by simp[Value.ownBlock];omega)).trans CX
       have CX2:=fun {w1 w2:World} (z:World.grownBy w1 w2 (Value.ownBlock (.slice (some ⟨g,0,none⟩) c2 c2))) (z1:w1.cell? ⟨b,off+t,none⟩=some (.int .i64 x)) (y:b<w1.heap.size)=>(World.grownBy.cell_far z ⟨b,off+t,none⟩ y (by simp[Value.ownBlock];omega)).trans z1
       have CX3:=fun {w1:World} (z:World.grownBy ((wq.drew).alloc (.cells #[.int .i64 x] 3)) w1 (Value.ownBlock (.slice (some ⟨wq.heap.size,0,none⟩) 1 1)))=>show b<w1.heap.size from Nat.lt_of_lt_of_le (Nat.lt_of_lt_of_le (show b<wq.heap.size+1 by omega) (Nat.le_of_eq LA)) z.size
       have CX4:=fun {w1:World} (z:World.grownBy ((wq.drew).alloc (.cells #[.int .i64 x] 3)) w1 (Value.ownBlock (.slice (some ⟨wq.heap.size,0,none⟩) 1 1)))=>show w.heap.size<=w1.heap.size from Nat.le_trans (Nat.le_trans (show w.heap.size<=wq.heap.size+1 by omega) (Nat.le_of_eq LA)) z.size
       have BX:=hid (fun (w1 w2:World) (z1:World.grownBy ((wq.drew).alloc (.cells #[.int .i64 x] 3)) w1 (Value.ownBlock (.slice (some ⟨wq.heap.size,0,none⟩) 1 1))) (z:World.grownBy w1 w2 (Value.ownBlock (.slice (some ⟨g,0,none⟩) c2 c2)))=>show Below w.heap.size w w2 from
        (((bB.drew).alloc bB.size _).grown z1 (Nat.le_trans (show w.heap.size<=wq.heap.size+1 by omega) (Nat.le_of_eq LA)) (fun j hj=>by injection hj with hj;show w.heap.size<=j;rw[<-hj];exact bB.size)).grown z (Nat.le_trans (Nat.le_trans (show w.heap.size<=wq.heap.size+1 by omega) (Nat.le_of_eq LA)) z1.size) (fun j hj=>by injection hj with hj;show w.heap.size<=j;rw[<-hj];exact hg1))
       have WX:=hid (fun (w2:World) (v2:Value) (z:w2.ownsRow w.heap.size 3 1 v2 (c2+1) (L.map (Value.int .i64)++[.int .i64 x]))=>show OwnI w w2 v2 (O (t+1)) by
        rw[NN.out];unfold OwnI
        rw[List.length_append,HM.out,List.map_append];exact z)
       clear CX LA
       go_region_held_law (fun w'=>w'.cell? ⟨b,off+t,none⟩=some (.int .i64 x)) (first|exact CX2 hgr2 (CX1 hgr1) (CX3 hgr1)|exact CX1 hgr1|go_keep)
        (first
         | (refine step_own (by rfl) (.tmp 51) (.tmp 54) _ (by rfl) wq.heap.size 3 i0 _ 1 8 Tryz.underlying22 hi hz0 hz1 hz2 rfl (by omega) (.slice (some ⟨wq.heap.size,0,none⟩) 1 1) 1 [.int .i64 x] (by rfl) LIT.out ⟨g,0,none⟩ 0 0 [] (by rfl) (by rfl) (by intro j u q;simp at q) (by intro u q;simp at q) (by decide) (by decide) (by simp) ?_;intro v1 w1 hown1 hgr1;obtain⟨g1,cap1,rfl,hq1,hq2⟩:=World.ownsRow.form hown1 (by omega))
         | (refine step_own (by rfl) (.tmp 46) (.tmp 55) _ (by rfl) w.heap.size 3 i0 _ 1 8 Tryz.underlying22 hi hz0 hz1 hz2 rfl (by omega) (.slice (some ⟨g,0,none⟩) c2 c2) c2 (L.map (Value.int .i64)) (by rfl) (World.ownsRow.kept OQ3.out hgr1 (.inr (by simp[Value.ownBlock];omega))) ⟨g1,0,none⟩ 1 cap1 [.int .i64 x] (by rfl) (by rfl) (World.ownsRow.cells hown1 rfl) (by intro u q;obtain rfl:=List.mem_singleton.1 q;rfl) SZ2.out (by omega) (CX4 hgr1) ?_;intro v2 w2 hown2 hgr2))
       all_goals
        have OW:=hid (WX.out _ _ hown2);have BW:=hid (BX.out _ _ hgr1 hgr2);clear hown1 hown2 hgr1 hgr2 hq1 hq2 CX1 CX2 CX3 CX4;go_wp2
        go_roundw
        case rel=>exact⟨_,t+1,by omega,rfl,by go_num,OW.out,BW.out⟩
        case measure=>simp[intOf];omega
      ·have i3:k<=c2:=hmc
       have i5:(k:Int)<=(c2:Int):=by omega
       go_wp2
       go_big_quiet (fail)
       go_wp2
       go_big_quiet (fail)
       go_upto_region 9 with fail
       rename_i nq0
       have bq:=dr3 wr q nq0 nq;have OQ:=OV.out.on bq;have cq:=(bq.cell (p:=⟨b,off+t,none⟩) (Nat.lt_of_lt_of_le hb hB.size)).trans c0;generalize ((wr.drewN q).drewN nq0).drewN nq=wq at *;have bB:=hB.trans (bq.mono hB.size);have OQ2:wq.ownsRow w.heap.size 3 1 (.slice (some ⟨g,0,none⟩) k c2) k (L.map (Value.int .i64)):=by have z:=OQ;unfold OwnI at z;rw[HM.out] at z;exact z
       have hg3:=Nat.lt_of_lt_of_le hg2 bq.size;have LIT:=hid (lit_own wq x);have OQ3:=hid (World.ownsRow.alloc (World.ownsRow.drew OQ2) (.cells #[.int .i64 x] 3));have bw:=bB.size;have nbg:b≠g:=by omega
       clear bq OQ OQ2;obtain⟨i0,hi,hz0,hz1,hz2⟩:=info_parts info_int;have CX:=(((((Below.refl _ _).drew).alloc (Nat.le_refl _) _:Below wq.heap.size wq ((wq.drew).alloc (.cells #[.int .i64 x] 3)))).cell (p:=⟨b,off+t,none⟩) (by show b<wq.heap.size;omega)).trans cq;have LA:wq.heap.size+1=((wq.drew).alloc (.cells #[.int .i64 x] 3)).heap.size:=by simp
       have CX1:=fun {w1:World} (z:World.grownBy ((wq.drew).alloc (.cells #[.int .i64 x] 3)) w1 (Value.ownBlock (.slice (some ⟨wq.heap.size,0,none⟩) 1 1)))=>(World.grownBy.cell_far z ⟨b,off+t,none⟩ (by show b<_;omega) (by simp[Value.ownBlock];omega)).trans CX
       have CX2:=fun {w1 w2:World} (z:World.grownBy w1 w2 (Value.ownBlock (.slice (some ⟨g,0,none⟩) k c2))) (z1:w1.cell? ⟨b,off+t,none⟩=some (.int .i64 x)) (y:b<w1.heap.size)=>(World.grownBy.cell_far z ⟨b,off+t,none⟩ y (by simp[Value.ownBlock];omega)).trans z1
       have CX3:=fun {w1:World} (z:World.grownBy ((wq.drew).alloc (.cells #[.int .i64 x] 3)) w1 (Value.ownBlock (.slice (some ⟨wq.heap.size,0,none⟩) 1 1)))=>show b<w1.heap.size from Nat.lt_of_lt_of_le (Nat.lt_of_lt_of_le (show b<wq.heap.size+1 by omega) (Nat.le_of_eq LA)) z.size
       have CX4:=fun {w1:World} (z:World.grownBy ((wq.drew).alloc (.cells #[.int .i64 x] 3)) w1 (Value.ownBlock (.slice (some ⟨wq.heap.size,0,none⟩) 1 1)))=>show w.heap.size<=w1.heap.size from Nat.le_trans (Nat.le_trans (show w.heap.size<=wq.heap.size+1 by omega) (Nat.le_of_eq LA)) z.size
       have BX:=hid (fun (w1 w2:World) (z1:World.grownBy ((wq.drew).alloc (.cells #[.int .i64 x] 3)) w1 (Value.ownBlock (.slice (some ⟨wq.heap.size,0,none⟩) 1 1))) (z:World.grownBy w1 w2 (Value.ownBlock (.slice (some ⟨g,0,none⟩) k c2)))=>show Below w.heap.size w w2 from
        (((bB.drew).alloc bB.size _).grown z1 (Nat.le_trans (show w.heap.size<=wq.heap.size+1 by omega) (Nat.le_of_eq LA)) (fun j hj=>by injection hj with hj;show w.heap.size<=j;rw[<-hj];exact bB.size)).grown z (Nat.le_trans (Nat.le_trans (show w.heap.size<=wq.heap.size+1 by omega) (Nat.le_of_eq LA)) z1.size) (fun j hj=>by injection hj with hj;show w.heap.size<=j;rw[<-hj];exact hg1))
       have WX:=hid (fun (w2:World) (v2:Value) (z:w2.ownsRow w.heap.size 3 1 v2 (k+1) (L.map (Value.int .i64)++[.int .i64 x]))=>show OwnI w w2 v2 (O (t+1)) by
        rw[NN.out];unfold OwnI
        rw[List.length_append,HM.out,List.map_append];exact z)
       clear CX LA
       go_region_held_law (fun w'=>w'.cell? ⟨b,off+t,none⟩=some (.int .i64 x)) (first|exact CX2 hgr2 (CX1 hgr1) (CX3 hgr1)|exact CX1 hgr1|go_keep)
        (first
         | (refine step_own (by rfl) (.tmp 51) (.tmp 54) _ (by rfl) wq.heap.size 3 i0 _ 1 8 Tryz.underlying22 hi hz0 hz1 hz2 rfl (by omega) (.slice (some ⟨wq.heap.size,0,none⟩) 1 1) 1 [.int .i64 x] (by rfl) LIT.out ⟨g,k,none⟩ 0 (c2-k) [] (by rfl) (by rfl) (by intro j u q;simp at q) (by intro u q;simp at q) (by decide) (by decide) (by simp) ?_;intro v1 w1 hown1 hgr1;obtain⟨g1,cap1,rfl,hq1,hq2⟩:=World.ownsRow.form hown1 (by omega))
         | (refine step_own (by rfl) (.tmp 46) (.tmp 55) _ (by rfl) w.heap.size 3 i0 _ 1 8 Tryz.underlying22 hi hz0 hz1 hz2 rfl (by omega) (.slice (some ⟨g,0,none⟩) k c2) k (L.map (Value.int .i64)) (by rfl) (World.ownsRow.kept OQ3.out hgr1 (.inr (by simp[Value.ownBlock];omega))) ⟨g1,0,none⟩ 1 cap1 [.int .i64 x] (by rfl) (by rfl) (World.ownsRow.cells hown1 rfl) (by intro u q;obtain rfl:=List.mem_singleton.1 q;rfl) SZ2.out (by omega) (CX4 hgr1) ?_;intro v2 w2 hown2 hgr2))
       all_goals
        have OW:=hid (WX.out _ _ hown2);have BW:=hid (BX.out _ _ hgr1 hgr2);clear hown1 hown2 hgr1 hgr2 hq1 hq2 CX1 CX2 CX3 CX4;go_wp2
        go_roundw
        case rel=>exact⟨_,t+1,by omega,rfl,by go_num,OW.out,BW.out⟩
        case measure=>simp[intOf];omega
  ·obtain rfl:n=t:=by omega
   have ov2:OwnI w wr v (sortU iltB l):=by rw[OE.out];exact ov
   go_wp2;go_ret;exact⟨_,rfl,ov2,hB⟩
end Go.Proofs.YtddnnljfgfcplaaGreatDoor.Ru
