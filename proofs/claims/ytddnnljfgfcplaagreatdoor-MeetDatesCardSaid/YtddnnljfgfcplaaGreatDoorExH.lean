/- The walk of package expand's List. -/
import Derived.Test.YtddnnljfgfcplaaGreatDoorExV
set_option linter.unusedVariables false
namespace Go.Proofs.YtddnnljfgfcplaaGreatDoor.Ex
open Go Go.RowKit Go.Shelf Cv St Ru Dd Mb
attribute [local go_sem] Oper.semAt_some
theorem four_cells (w:World) (cs:Array Value) (a b c:Value) (T1 T2 T3 T4:TypeId) (v:World) (hv:(((w.alloc (.cells cs T1)).alloc (.cells #[a] T2)).alloc (.cells #[b] T3)).alloc (.cells #[c] T4)=v):
  Box v w.heap.size cs/\(v.cell? ⟨w.heap.size+1,0,none⟩=some a/\v.cell? ⟨w.heap.size+1+1,0,none⟩=some b/\v.cell? ⟨w.heap.size+1+1+1,0,none⟩=some c)/\(v.frozen? ⟨w.heap.size+1+1,0,none⟩=false/\v.frozen? ⟨w.heap.size+1+1+1,0,none⟩=false)/\Below w.heap.size w v/\v.heap.size=w.heap.size+4:=by
 subst hv
 have one:∀(u:World) (x:Value) (T:TypeId),(u.alloc (.cells #[x] T)).cell? ⟨u.heap.size,0,none⟩=some x/\(u.alloc (.cells #[x] T)).frozen? ⟨u.heap.size,0,none⟩=false:=fun u x T=>⟨by rw[World.cell?_alloc_new];rfl,by simp[go_sem]⟩
 obtain⟨v1,h1⟩:∃v,w.alloc (.cells cs T1)=v:=⟨_,rfl⟩
 obtain⟨v2,h2⟩:∃v,v1.alloc (.cells #[a] T2)=v:=⟨_,rfl⟩
 obtain⟨v3,h3⟩:∃v,v2.alloc (.cells #[b] T3)=v:=⟨_,rfl⟩
 have X0:=Box.new w cs T1
 have A1:=one v1 a T2
 have A2:=one v2 b T3
 have A3:=one v3 c T4
 have b1:=alloc_below v1 (.cells #[a] T2)
 have b2:=alloc_below v2 (.cells #[b] T3)
 have b3:=alloc_below v3 (.cells #[c] T4)
 have b0:=alloc_below w (.cells cs T1)
 have e1:v1.heap.size=w.heap.size+1:=by rw[<-h1];simp
 have e2:v2.heap.size=w.heap.size+1+1:=by rw[<-h2];simp[e1]
 have e3:v3.heap.size=w.heap.size+1+1+1:=by rw[<-h3];simp[e2]
 rw[h1] at X0 b0 ⊢
 rw[h2] at A1 b1 ⊢
 rw[h3] at A2 b2 ⊢
 rw[e1] at A1
 rw[e2] at A2
 rw[e3] at A3
 refine⟨((X0.below b1).below b2).below b3,⟨?_,?_,A3.1⟩,⟨?_,A3.2⟩,((b0.trans (b1.mono b0.size)).trans (b2.mono (by omega))).trans (b3.mono (by omega)),by simp[e3]⟩
 ·exact(b3.cell (p:=⟨_,_,none⟩) (by simp;omega)).trans ((b2.cell (p:=⟨_,_,none⟩) (by simp;omega)).trans A1.1)
 ·exact(b3.cell (p:=⟨_,_,none⟩) (by simp;omega)).trans A2.1
 ·exact(b3.frozen (p:=⟨_,_,none⟩) (by simp;omega)).trans A2.2
theorem row_keeps {w w':World} {B k:Nat} {e:TypeId} {s:Nat} {v:Value} {xs:List Value} (h:w.ownsRow B e s v k xs) (hg:∀g o,v.ownBlock=some g->w.heap[g]? = some o->w'.heap[g]? = some o):w'.ownsRow B e s v k xs:=by
 refine⟨h.1,?_⟩
 rcases h.2 with h|⟨g,cap,cur,rfl,h1,h2,h3⟩
 ·exact .inl h
 ·exact .inr ⟨g,cap,cur,rfl,h1,hg g _ rfl h2,h3⟩
theorem row_at {w:World} {B:Nat} {v:Value} {l:List Int} (h:w.ownsRow B 3 1 v l.length (l.map (Value.int .i64))):∃A c,v= .slice A l.length c/\IsAt w A l.length l/\Fresh B A:=by
 rcases h.2 with ⟨rfl,h0⟩|⟨g,cap,cur,rfl,hb,hg,hnc,hcm,-⟩
 ·have e:l=[]:=List.length_eq_zero_iff.1 h0
  subst e;exact⟨none,0,rfl,IsAt.nil _ _,fun b off e=>by cases e⟩
 ·refine⟨some ⟨g,0,none⟩,cap,rfl,⟨rfl,fun h0=>⟨g,0,rfl,(World.ownsRow.lt h g rfl).2,fun j hj => ?_⟩⟩,fun b off e=>by cases e;exact⟨hb,rfl⟩⟩
  rw[Nat.zero_add,World.ownsRow.cellAt h j (by omega),iat_lt hj]
  simp[hj]
theorem row_mono {w:World} {B B' k:Nat} {e:TypeId} {s:Nat} {v:Value} {xs:List Value} (h:w.ownsRow B e s v k xs) (hb:B'<=B):w.ownsRow B' e s v k xs:=by
 refine⟨h.1,?_⟩
 rcases h.2 with h|⟨g,cap,cur,rfl,h1,h2⟩
 ·exact .inl h
 ·exact .inr ⟨g,cap,cur,rfl,Nat.le_trans hb h1,h2⟩
theorem run_append_x (w:World) (B:Nat) (v:Value) (l:List Int) (h:w.ownsRow B 3 1 v l.length (l.map (Value.int .i64))) (ty:TypeId) (ad:Addr) (c:Nat) (x:Int) (hx:∀j u,[Value.int .i64 x][j]? = some u->w.cell? (ad.add j)=some u) (hB:B<=w.heap.size) (hl:l.length<=1000000):
  ∃v' w',(Builtin.append_ #[22,22] ty #[v,.slice (some ad) 1 c]).run Tryz.prog w= .ok v' w'/\w'.ownsRow B 3 1 v' (l++[x]).length ((l++[x]).map (Value.int .i64))/\w.grownBy w' v.ownBlock/\∀g,v'.ownBlock=some g->v.ownBlock=some g\/w.heap.size<=g:=by
 obtain⟨i0,hi,hz0,hz1,hz2⟩:=info_parts info_int
 have one:∀u∈[Value.int .i64 x],u.oneCell'=true:=by intro u hu;obtain rfl:u= .int .i64 x:=by simpa using hu
                                                    rfl
 rw[List.length_append,List.map_append]
 rcases h.2 with ⟨rfl,h0⟩|⟨g,cap,cur,rfl,h1,h2,h3⟩
 ·obtain⟨v',w',e,o,gr,-⟩:=run_append_own (P:=Tryz.prog) w w.heap.size 22 ty 3 i0 (.int .i64 0) 1 8 Tryz.underlying22 hi hz0 hz1 hz2 rfl (by decide) (.slice none 0 0) l.length (l.map (Value.int .i64)) ⟨by simp,.inl ⟨rfl,h0⟩⟩ ad 1 c [.int .i64 x] rfl hx one (by unfold maxLen;omega) (by omega) (Nat.le_refl _)
  exact⟨v',w',e,row_mono o hB,gr,fun g q => .inr (World.ownsRow.lt o g q).1⟩
 ·by_cases hc:l.length+1<=cap
  ·obtain⟨w',e,o,gr⟩:=run_append_fits (P:=Tryz.prog) w B 22 ty 3 i0 1 Tryz.underlying22 hi hz1 g l.length cap (l.map (Value.int .i64)) h ad 1 c [.int .i64 x] rfl hx one hc
   exact⟨_,w',e,o,gr,fun g' q => .inl q⟩
  ·obtain⟨v',w',e,o,gr⟩:=run_append_arg_grows (P:=Tryz.prog) w 22 ty 3 i0 (.int .i64 0) 1 8 Tryz.underlying22 hi hz0 hz1 hz2 rfl (by decide) ⟨g,0,none⟩ l.length cap (l.map (Value.int .i64)) (by simp) (fun j u hu=>by
     have hj:j<(l.map (Value.int .i64)).length:=(List.getElem?_eq_some_iff.1 hu).1
     have q:=World.ownsRow.cellAt h j (by simpa using hj);rw[<-hu,<-q]
     first|rfl|simp [Addr.add_lit]) ad 1 c [.int .i64 x] rfl hx (by omega) (by unfold maxLen;omega) (by omega)
   exact⟨v',w',e,row_mono o hB,⟨gr.os,gr.tape,gr.output,gr.size,fun k hk _=>gr.block k hk (by simp)⟩,fun g q => .inr (World.ownsRow.lt o g q).1⟩
theorem wpListIn_append_x {F:Fence} {n:Nat} (w:World) {ops:Array Oper} {rest:List Oper} {o:Oper} {a:Act} {Q:Exit->Act->World->Prop}
  (hg:o.guard=none) (s x:Operand) (hop:o.op=Op.call { callee:=Callee.builtin Builtin.append,args:=#[s,x],argTypes:=#[22,22] })
  (B:Nat) (v:Value) (l:List Int) (hs:a.eval s=v) (h:w.ownsRow B 3 1 v l.length (l.map (Value.int .i64))) (ad:Addr) (c:Nat) (y:Int) (hx:a.eval x= .slice (some ad) 1 c)
  (hc:∀j u,[Value.int .i64 y][j]? = some u->w.cell? (ad.add j)=some u) (hB:B<=w.heap.size) (hl:l.length<=1000000)
  (hK:∀v' w',w'.ownsRow B 3 1 v' (l++[y]).length ((l++[y]).map (Value.int .i64))->w.grownBy w' v.ownBlock->(∀g,v'.ownBlock=some g->v.ownBlock=some g\/w.heap.size<=g)->wpListIn F n Tryz.prog ops Q rest (a.put o.dst v') w'):
  wpListIn F n Tryz.prog ops Q (o::rest) a w:=by
 refine wpListIn_plain hg fun K hK' => ?_
 obtain⟨v',w',hrun,r1,r2,r3⟩:=run_append_x w B v l h o.type ad c y hc hB hl
 unfold Oper.wpIn
 refine⟨?_,?_⟩
 ·simp[Oper.about,hop,resolve,Target.leads,Sem.run_pure]
 ·rw[Oper.semAt_plain F _ _ (by rw[hop];intro c hc';cases hc')]
  simp[execOp,hop,resolve,invoke,builtin,hs,hx,hrun,Result.andThen]
  exact hK' _ _ (hK v' w' r1 r2 r3)
structure ListI (w:World) (most:Int) (G E:Nat) (X:Nat->Prop) (pre:List Int) (W:World):Prop where
 below:Below w.heap.size w W
 far:∀k,(k<w.heap.size+4\/k=G)->¬X k
 size:E<=W.heap.size
 m:W.cell? ⟨w.heap.size+1,0,none⟩=some (.int .i64 most)
 r2:W.cell? ⟨w.heap.size+1+1,0,none⟩=some (.slice none 0 0)
 r3:W.cell? ⟨w.heap.size+1+1+1,0,none⟩=some (.int .i64 0)
 f2:W.frozen? ⟨w.heap.size+1+1,0,none⟩=false
 f3:W.frozen? ⟨w.heap.size+1+1+1,0,none⟩=false
 v:∃v,W.cell? ⟨G,0,none⟩=some v/\W.ownsRow E 3 1 v pre.length (pre.map (Value.int .i64))/\∀g,v.ownBlock=some g->¬X g
 f4:W.frozen? ⟨G,0,none⟩=false
 le:(pre.length:Int)<=most
theorem listI_foot {w:World} {most:Int} {G E:Nat} (hE:w.heap.size+4<=E) (hG:G<E):Foot (ListI w most G E):=by
 intro X X' s W W' h hk hx
 obtain⟨v,v1,v2,v3⟩:=h.v
 have n1:=h.far (w.heap.size+1) (.inl (by omega))
 have n2:=h.far (w.heap.size+1+1) (.inl (by omega))
 have n3:=h.far (w.heap.size+1+1+1) (.inl (by omega))
 have n4:=h.far G (.inr rfl)
 refine⟨h.below.trans ((hk.mono (Y:=fun k=>k<w.heap.size) fun k hk=>h.far k (.inl (by omega))).below h.below.size),?_,Nat.le_trans h.size hk.size,hk.cell n1 h.m,hk.cell n2 h.r2,hk.cell n3 h.r3,hk.frozen n2 h.r2 h.f2,hk.frozen n3 h.r3 h.f3,⟨v,hk.cell n4 v1,row_keeps v2 fun g o e ho=>hk.block (v3 g e) ho,?_⟩,hk.frozen n4 v1 h.f4,h.le⟩
 ·intro k hk' q
  have:=h.size
  rcases hx k q with q|q
  ·exact h.far k hk' q
  ·rcases hk' with c|c<;>omega
 ·intro g e q
  rcases hx g q with q|q
  ·exact v3 g e q
  ·have:=(World.ownsRow.lt v2 g e).2;omega
structure ListX (w:World) (most:Int) (XS:List Int) (c:Code) (X:Nat->Prop) (pre:List Int) (W:World):Prop where
 e:c= .ret
 below:Below w.heap.size w W
 size:w.heap.size+4<=W.heap.size
 far:∀k,k<w.heap.size+4->¬X k
 r2:W.cell? ⟨w.heap.size+1+1,0,none⟩=some (.slice none 0 0)
 r3:W.cell? ⟨w.heap.size+1+1+1,0,none⟩=some (.int .i64 10)
 long:most<XS.length
theorem listX_foot {w:World} {most:Int} {XS:List Int} (c:Code):Foot (ListX w most XS c):=by
 intro X X' s W W' h hk hx
 have n2:=h.far (w.heap.size+1+1) (by omega)
 have n3:=h.far (w.heap.size+1+1+1) (by omega)
 refine⟨h.e,h.below.trans ((hk.mono (Y:=fun k=>k<w.heap.size) fun k hk=>h.far k (by omega)).below h.below.size),Nat.le_trans h.size hk.size,?_,hk.cell n2 h.r2,hk.cell n3 h.r3,h.long⟩
 intro k hk' q
 have:=h.size
 rcases hx k q with q|q
 ·exact h.far k hk' q
 ·omega
theorem hi_bd {r:Ru} {end_:Int} (h:mayR r=true) (he:St.may end_=true):-62135596800<=hiR r end_/\hiR r end_<=253402300800:=by
 have b:=of_decide_eq_true he
 unfold hiR
 split
 ·rename_i c
  have f:=(mayR_of h).2.1;unfold endB at f;rw[if_pos c] at f;simp only[Bool.and_eq_true] at f
  have:=of_decide_eq_true f.2
  omega
 ·omega
end Go.Proofs.YtddnnljfgfcplaaGreatDoor.Ex
