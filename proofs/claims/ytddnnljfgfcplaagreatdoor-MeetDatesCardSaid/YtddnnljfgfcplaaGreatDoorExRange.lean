/- A range over a function whose iterator keeps cells of its own, in a chain of iterators: what may be turned by whom is said by sets of blocks. -/
import Derived.RangeFuncNested
import Derived.RangeFuncBound
set_option linter.unusedVariables false
namespace Go.Proofs.YtddnnljfgfcplaaGreatDoor.Ex
open Go Go.RowKit
structure Keeps (X:Nat->Prop) (w w':World):Prop where
 os:w'.os=w.os
 tape:w'.tape=w.tape
 output:w'.output=w.output
 size:w.heap.size<=w'.heap.size
 same:∀k,X k->k<w.heap.size->w'.heap[k]? = w.heap[k]?
theorem Keeps.refl (X:Nat->Prop) (w:World):Keeps X w w:=⟨rfl,rfl,rfl,Nat.le_refl _,fun _ _ _=>rfl⟩
theorem Keeps.trans {X:Nat->Prop} {a b c:World} (h:Keeps X a b) (k:Keeps X b c):Keeps X a c:=
 ⟨k.os.trans h.os,k.tape.trans h.tape,k.output.trans h.output,Nat.le_trans h.size k.size,fun i hi hl=>(k.same i hi (Nat.lt_of_lt_of_le hl h.size)).trans (h.same i hi hl)⟩
theorem Keeps.mono {X Y:Nat->Prop} {a b:World} (h:Keeps X a b) (s:∀k,Y k->X k):Keeps Y a b:=⟨h.os,h.tape,h.output,h.size,fun k hk=>h.same k (s k hk)⟩
theorem Keeps.of_below {X:Nat->Prop} {a b:World} (h:Below a.heap.size a b):Keeps X a b:=⟨h.os,h.tape,h.output,h.size,fun k _ hl=>h.block k hl⟩
theorem Keeps.below {B:Nat} {a b:World} (h:Keeps (fun k=>k<B) a b) (hB:B<=a.heap.size):Below B a b:=⟨h.os,h.tape,h.output,h.size,fun k hk=>h.same k hk (Nat.lt_of_lt_of_le hk hB)⟩
theorem Keeps.alloc {X:Nat->Prop} (a:World) (o:Obj):Keeps X a (a.alloc o):= .of_below ((Below.refl _ a).alloc (Nat.le_refl _) o)
theorem Keeps.putObj {X:Nat->Prop} (a:World) (l:Nat) (o:Obj) (h:¬X l):Keeps X a (a.putObj l o):=
 ⟨rfl,rfl,rfl,by simp,fun k hk _=>World.putObj_heap_other (fun e=>h (e ▸ hk))⟩
theorem Keeps.setCell {X:Nat->Prop} (a:World) (p:Addr) (v:Value) (h:¬X p.block):Keeps X a (a.setCell p v):=
 ⟨rfl,rfl,rfl,by simp[World.setCell],fun k hk _=>Below.heap_setCell _ _ _ _ (fun e=>h (e ▸ hk))⟩
theorem Keeps.grown {X:Nat->Prop} {a b:World} {row:Option Nat} (h:a.grownBy b row) (hr:∀k,row=some k->¬X k):Keeps X a b:=
 ⟨h.os,h.tape,h.output,h.size,fun k hk hl=>h.block k hl (fun e=>hr k e.symm hk)⟩
theorem Keeps.block {X:Nat->Prop} {a b:World} (h:Keeps X a b) {k:Nat} {o:Obj} (hX:X k) (ho:a.heap[k]? = some o):b.heap[k]? = some o:=
 (h.same k hX (Array.getElem?_eq_some_iff.1 ho).1).trans ho
theorem Keeps.cell {X:Nat->Prop} {a b:World} (h:Keeps X a b) {p:Addr} {v:Value} (hX:X p.block) (hc:a.cell? p=some v):b.cell? p=some v:=by
 obtain⟨o,ho,-⟩:=cells_of_cell hc
 exact(World.cell?_of_block (w:=a) (h.same _ hX (Array.getElem?_eq_some_iff.1 ho).1)).trans hc
def Foot (J:(Nat->Prop)->List Int->World->Prop):Prop:=
 ∀(X X':Nat->Prop) (s:List Int) (W W':World),J X s W->Keeps (fun k=>¬X k) W W'->(∀k,X' k->X k\/W.heap.size<=k)->J X' s W'
abbrev noneX:Nat->Prop:=fun _=>False
def SeqX (F:Fence) (n:Nat) (P:Program) (g:Nat) (lb:Array Value) (C:Nat->Prop) (In:World->Prop) (xs:List Int):Prop:=
 ∀(l:Nat) (J Jx:(Nat->Prop)->List Int->World->Prop) (W:World),In W->Foot J->Foot Jx->
  (∀X pre x W1,J X pre W1->(∀k,X k->k<W1.heap.size)->(∀k,X k->¬C k)->(pre++[x]) <+: xs->YieldAt F (n-1) P l #[.int .i64 x] W1 fun e W'=>
   (e= .returned (.bool true)/\J X (pre++[x]) W'/\Keeps (fun k=>X k\/C k) W1 W')\/(e= .returned (.bool false)/\Jx X (pre++[x]) W'/\Keeps (fun k=>X k\/C k) W1 W'))->
  J noneX [] W->
  CallsIn F n P g (#[.func (.yield l) #[] #[]]++lb) W fun e W'=>(∃v,e= .returned v)/\(J noneX xs W'\/∃pre,pre <+: xs/\Jx noneX pre W')
theorem SeqX.inRound {F:Fence} {n:Nat} {P:Program} {g:Nat} {lb:Array Value} {C:Nat->Prop} {In:World->Prop} {xs:List Int} (l:Nat) (h:SeqX F n P g lb C In xs):SeqX (F.inRound l) n P g lb C In xs:=h
def postX (I:(Nat->Prop)->List Int->World->Prop) (Ix:Code->(Nat->Prop)->List Int->World->Prop) (C X:Nat->Prop) (xs:List Int) (W:World):Exit->Act->World->Prop
 | .normal,_,W'=>Keeps (fun k=>X k\/C k) W W'/\I X xs W'
 | .ret,_,W'=>Keeps (fun k=>X k\/C k) W W'/\Ix .ret X xs W'
 | .exit id,_,W'=>Keeps (fun k=>X k\/C k) W W'/\Ix (.exit id) X xs W'
 | .goto t,_,W'=>Keeps (fun k=>X k\/C k) W W'/\Ix (.goto t) X xs W'
 | .panic _,_,_=>False
 | .outgrown,_,_=>False
variable {F:Fence} {n:Nat} {P:Program}
theorem wpIn_rangeX {g:Operand} {p:Tmp} {assign body:Code} {Q:Exit->Act->World->Prop} {a:Act} {w:World}
  (hro:F.round=none) (h1:1<=n) {gf:Nat} {lb:Array Value} (hg:a.eval g= .func (.func gf) #[] lb) (hFg:F.fn gf) (eg:∀args w,(callFunc gf args).run P w= .ok (.enter gf args) w)
  {C:Nat->Prop} {In:World->Prop} {xs:List Int} (hseq:SeqX F (n-1) P gf lb C In xs) (hC:∀k,C k->k<w.heap.size) (hIn:∀W,Keeps (fun k=>k<w.heap.size) w W->In W)
  (I:(Nat->Prop)->List Int->World->Prop) (Ix:Code->(Nat->Prop)->List Int->World->Prop) (hI:Foot I) (hIx:∀c,Foot (Ix c)) (h0:I noneX [] w) (a₁:Int->Act)
  (hassign:∀(l:Nat) (x:Int) (W:World) (K:Act->World->Prop),K (a₁ x) W->
   assign.wpIn (F.inRound l) (n-1-1) P (Exit.then K (fun _ _ _=>False)) { tmps:=(#[p].zip #[Value.int .i64 x]).foldl (fun t (p,v)=>t.setIfInBounds p v) a.tmps,defers:= [] } W)
  (hbody:∀(l:Nat) (X:Nat->Prop) (pre:List Int) (x:Int) (W:World),I X pre W->(∀k,X k->k<W.heap.size)->(∀k,X k->¬C k)->X w.heap.size->X (w.heap.size+1)->(pre++[x]) <+: xs->body.wpIn (F.inRound l) (n-1-1) P (postX I Ix C X (pre++[x]) W) (a₁ x) W)
  (hdone:∀(D:Nat) (W:World),w.heap.size<=D->I (fun k=>k=D) xs W->W.heap[D]? = some (.deferred (some []))->Q .normal { a with defers:={ target:= .collected D,args:=#[] }::a.defers } W)
  (hstop:∀(D:Nat) (c:Code) (pre:List Int) (W:World),w.heap.size<=D->pre <+: xs->Ix c (fun k=>k=D) pre W->W.heap[D]? = some (.deferred (some []))->c.wpIn F n P Q { a with defers:={ target:= .collected D,args:=#[] }::a.defers } W):
  (Code.rangeFunc g #[p] assign body).wpIn F n P Q a w:=by
 refine wpIn_rangeFunc ?_
 intro fn hfn
 rw[hro]
 obtain⟨rec,hrec⟩:∃rec:LoopState->Option Code->Loop,rec=fun st pe=>{ state:=st,pending:=pe,fn,tmps:=a.tmps,params:=#[p],assign,body,defers:=w.heap.size }:=⟨_,rfl⟩
 obtain⟨W1,hW1⟩:∃W1,(w.alloc (.deferred (some []))).alloc (.loop (rec .ready none))=W1:=⟨_,rfl⟩
 have hL1:W1.heap[w.heap.size+1]? = some (.loop (rec .ready none)):=by
  rw[<-hW1];have:=World.alloc_heap_new (w.alloc (.deferred (some []))) (.loop (rec .ready none));rwa [World.size_alloc] at this
 have hK1:W1.heap[w.heap.size]? = some (.deferred (some [])):=by
  rw[<-hW1];exact(Below.heap_alloc _ _ _ (by simp)).trans (World.alloc_heap_new w _)
 have hk1:∀X,Keeps X w W1:=fun X=>by rw[<-hW1];exact(Keeps.alloc _ _).trans (Keeps.alloc _ _)
 refine⟨w.heap.size+1,[{ target:= .collected w.heap.size,args:=#[] }],W1,{ target:= .fn (.func gf) lb,args:=#[.func (.yield (w.heap.size+1)) #[] #[]] },W1,gf,
  #[.func (.yield (w.heap.size+1)) #[] #[]]++lb,W1,?_,?_,?_,?_,fun _=>h1,?_⟩
 ·rw[<-hW1,hrec];exact run_enterLoop_outer _ _ _ _ _
 ·simp only[resolve,hg]
  simp[go_sem]
 ·intro f' hf';simp[Target.leads] at hf';subst hf';exact hFg
 ·simp[invoke,go_sem,eg]
 ·let Y:(Nat->Prop)->Nat->Prop:=fun X k=>X k\/k=w.heap.size\/k=w.heap.size+1
  have foot:∀(I:(Nat->Prop)->List Int->World->Prop) (st:LoopState) (hI:Foot I) (pe:Option Code),Foot (fun X pre W=>I (Y X) pre W/\W.heap[w.heap.size+1]? = some (.loop (rec st pe))/\W.heap[w.heap.size]? = some (.deferred (some []))/\¬X w.heap.size/\¬X (w.heap.size+1)):=by
   intro I st hI pe X X' s W W' ⟨hi,hl,hd,n1,n2⟩ hk hx;have s1:=(Array.getElem?_eq_some_iff.1 hl).1;refine⟨hI _ _ s W W' hi (hk.mono fun k hk hx=>hk (.inl hx)) ?_,hk.block n2 hl,hk.block n1 hd,?_,?_⟩
   ·rintro k (h|h)
    ·rcases hx k h with q|q
     ·exact .inl (.inl q)
     ·exact .inr q
    ·exact .inl (.inr h)
   ·intro h;rcases hx _ h with q|q
    ·exact n1 q
    ·omega
   ·intro h;rcases hx _ h with q|q
    ·exact n2 q
    ·omega
  have hY:∀(X:Nat->Prop) k,¬(Y X) k->¬X k:=fun X k h g=>h (.inl g)
  have put:∀(I:(Nat->Prop)->List Int->World->Prop),Foot I->∀(X:Nat->Prop) s (W:World) o,I (Y X) s W->I (Y X) s (W.putObj (w.heap.size+1) o):=fun I hI X s W o h=>
   hI _ _ s W _ h (Keeps.putObj _ _ _ (fun q=>q (.inr (.inr rfl)))) (fun k q => .inl q)
  refine(hseq (w.heap.size+1)
   (fun X pre W=>I (Y X) pre W/\W.heap[w.heap.size+1]? = some (.loop (rec .ready none))/\W.heap[w.heap.size]? = some (.deferred (some []))/\¬X w.heap.size/\¬X (w.heap.size+1))
   (fun X pre W=>∃c,Ix c (Y X) pre W/\W.heap[w.heap.size+1]? = some (.loop (rec .done (some c)))/\W.heap[w.heap.size]? = some (.deferred (some []))/\¬X w.heap.size/\¬X (w.heap.size+1))
   W1 (hIn W1 (hk1 _)) (foot I .ready hI none) (fun X X' s W W' ⟨c,h⟩ hk hx=>⟨c,foot (Ix c) .done (hIx c) (some c) X X' s W W' h hk hx⟩) ?_
   ⟨hI _ _ [] w W1 h0 (hk1 _) (fun k hk => .inr (by rcases hk with h|h|h<;>first|exact h.elim|omega)),hL1,hK1,fun h=>h,fun h=>h⟩).mono ?_
  ·rintro X pre x W ⟨hi,hl,hk,n1,n2⟩ hX hXC hpre
   have hlt:w.heap.size+1<W.heap.size:=(Array.getElem?_eq_some_iff.1 hl).1
   have hy:=run_yield (P:=P) (args:=#[.int .i64 x]) hl (by rw[hrec];rfl);rw[hrec] at hy;refine⟨fn,_,assign,body,hy,roundIn_of_wpIn hfn (hassign _ x W _ ?_)⟩;clear hy;refine⟨_,run_beginRound hl (by rw[hrec]),?_⟩;have hl2:(W.putObj (w.heap.size+1) (.loop { rec .ready none with state:= .busy })).heap[w.heap.size+1]? = some (.loop { rec .ready none with state:= .busy }):=World.putObj_heap_same hlt
   have hk2:(W.putObj (w.heap.size+1) (.loop { rec .ready none with state:= .busy })).heap[w.heap.size]? = some (.deferred (some [])):=(World.putObj_heap_other (by omega)).trans hk
   have nC:∀k,C k->k<w.heap.size:=hC
   have hw2:Keeps (fun k=>X k\/C k) W (W.putObj (w.heap.size+1) (.loop { rec .ready none with state:= .busy })):=Keeps.putObj _ _ _ (by rintro(h|h);exact n2 h;have:=nC _ h;omega)
   refine wpIn_mono (hbody _ (Y X) pre x _ (put I hI X _ _ _ hi) ?_ ?_ (.inr (.inl rfl)) (.inr (.inr rfl)) hpre) ?_
   ·rintro k (h|h|h)
    ·have:=hX k h;simp;omega
    ·simp;omega
    ·simp;omega
   ·rintro k (h|h|h) c
    ·exact hXC k h c
    ·have:=nC _ c;omega
    ·have:=nC _ c;omega
   have fin:∀(jump:Option Code) (W3:World),Keeps (fun k=>Y X k\/C k) (W.putObj (w.heap.size+1) (.loop { rec .ready none with state:= .busy })) W3->
     (Instr.endRound (w.heap.size+1) jump).run P W3= .ok (.bool jump.isNone) (W3.putObj (w.heap.size+1) (.loop (rec (if jump.isNone then .ready else .done) jump)))/\
     (W3.putObj (w.heap.size+1) (.loop (rec (if jump.isNone then .ready else .done) jump))).heap[w.heap.size+1]? = some (.loop (rec (if jump.isNone then .ready else .done) jump))/\
     (W3.putObj (w.heap.size+1) (.loop (rec (if jump.isNone then .ready else .done) jump))).heap[w.heap.size]? = some (.deferred (some []))/\
     Keeps (fun k=>X k\/C k) W (W3.putObj (w.heap.size+1) (.loop (rec (if jump.isNone then .ready else .done) jump))):=fun jump W3 hk3=>by
    have hl3:=hk3.block (.inl (.inr (.inr rfl))) hl2
    have:=run_endRound (P:=P) jump hl3
    rw[hrec] at this ⊢;refine⟨this,World.putObj_heap_same (Array.getElem?_eq_some_iff.1 hl3).1,(World.putObj_heap_other (by omega)).trans (hk3.block (.inl (.inr (.inl rfl))) hk2),?_⟩;rw[hrec] at hw2 hk3;refine(hw2.trans (hk3.mono ?_)).trans (Keeps.putObj _ _ _ ?_)
    ·rintro k (h|h)
     ·exact .inl (.inl h)
     ·exact .inr h
    ·rintro(h|h)
     ·exact n2 h
     ·have:=nC _ h;omega
   rintro e a3 W3 hp
   cases e with
   |normal=>
    obtain⟨hk3,hi3⟩:=hp;obtain⟨hr,hl4,hk4,kk⟩:=fin none W3 hk3;exact⟨_,_,hr,.inl ⟨rfl,⟨put I hI X _ _ _ hi3,hl4,hk4,n1,n2⟩,kk⟩⟩
   |ret=>
    obtain⟨hk3,hi3⟩:=hp;obtain⟨hr,hl4,hk4,kk⟩:=fin (some .ret) W3 hk3;exact⟨_,_,hr,.inr ⟨rfl,⟨.ret,put _ (hIx _) X _ _ _ hi3,hl4,hk4,n1,n2⟩,kk⟩⟩
   |exit id=>
    obtain⟨hk3,hi3⟩:=hp;obtain⟨hr,hl4,hk4,kk⟩:=fin (some (.exit id)) W3 hk3;exact⟨_,_,hr,.inr ⟨rfl,⟨.exit id,put _ (hIx _) X _ _ _ hi3,hl4,hk4,n1,n2⟩,kk⟩⟩
   |goto t=>
    obtain⟨hk3,hi3⟩:=hp;obtain⟨hr,hl4,hk4,kk⟩:=fin (some (.goto t)) W3 hk3;exact⟨_,_,hr,.inr ⟨rfl,⟨.goto t,put _ (hIx _) X _ _ _ hi3,hl4,hk4,n1,n2⟩,kk⟩⟩
   |panic ch=>exact hp.elim
   |outgrown=>exact hp.elim
  ·have out:∀(I:(Nat->Prop)->List Int->World->Prop) (hI:Foot I) s (W:World),I (Y noneX) s W->I (fun k=>k=w.heap.size) s W:=fun I hI s W h=>hI _ _ s W W h (Keeps.refl _ _) (fun k q => .inl (.inr (.inl q)))
   rintro e W2 ⟨⟨v,rfl⟩,(⟨hi,hl,hk,-,-⟩|⟨pre,hSp,c,hi,hl,hk,-,-⟩)⟩
   ·exact⟨none,_,by have:=run_endLoop (P:=P) hl (by rw[hrec];simp);rw[hrec] at this;exact this,hdone _ _ (Nat.le_refl _) (out I hI _ _ (put I hI _ _ _ _ hi)) ((World.putObj_heap_other (by omega)).trans hk)⟩
   ·exact⟨some c,_,by have:=run_endLoop (P:=P) hl (by rw[hrec];simp);rw[hrec] at this;exact this,hstop _ c pre _ (Nat.le_refl _) hSp (out _ (hIx c) _ _ (put _ (hIx c) _ _ _ _ hi)) ((World.putObj_heap_other (by omega)).trans hk)⟩
end Go.Proofs.YtddnnljfgfcplaaGreatDoor.Ex
