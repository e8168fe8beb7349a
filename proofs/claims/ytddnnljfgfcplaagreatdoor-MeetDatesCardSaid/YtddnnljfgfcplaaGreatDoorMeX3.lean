/- MeX3 -/
import Derived.Test.YtddnnljfgfcplaaGreatDoorStX
import Derived.RangeFuncNested
import Derived.RangeFuncBound
set_option maxRecDepth 100000
set_option maxHeartbeats 8000000
set_option linter.unusedVariables false
namespace Go.Proofs.YtddnnljfgfcplaaGreatDoor.Zn
open Cv
structure Sh where
 t:Int
 o:Int
 deriving DecidableEq
structure Yr where
 m:Int
 k:Int
 d:Int
 s:Int
 o:Int
 deriving DecidableEq
def mayT (t:Int):Bool:=decide (-62135596800<=t/\t<=253402300799)
def offB (o:Int):Bool:=decide (-64800<=o/\o<=64800)
def yrB (r:Yr):Bool:=decide (1<=r.m/\r.m<=12/\1<=r.k/\r.k<=5/\0<=r.d/\r.d<=6/\0<=r.s/\r.s<=86399/\-64800<=r.o/\r.o<=64800)
def inY (r:Yr) (y:Int):Sh:=⟨86400*num y r.m (nth y r.m r.k r.d)+r.s,r.o⟩
def at_ (l:List Sh) (i:Nat):Sh:=l[i]?.getD ⟨0,0⟩
def okAt (l:List Sh) (i:Nat):Bool:=mayT (at_ l i).t&&offB (at_ l i).o&&(i==0||decide (200000<=(at_ l i).t-(at_ l (i-1)).t))
def endB (l:List Sh) (f:Int):Bool:=l.length==0||decide (200000<=86400*ny f-(at_ l (l.length-1)).t)
def year (u:Int):Int:=yr (u / 86400)
def cols (ys:List Yr) (y:Int):List Sh:=ys.map (fun r=>inY r y)
theorem offB_of {o:Int} (h:offB o=true):-64800<=o/\o<=64800:=of_decide_eq_true h
theorem mayT_of {t:Int} (h:mayT t=true):-62135596800<=t/\t<=253402300799:=of_decide_eq_true h
theorem year_may {u:Int} (h:mayT u=true):1<=year u/\year u<=9999/\86400*ny (year u)<=u/\u<86400*ny (year u+1):=by
 obtain⟨h1,h2⟩:=mayT_of h
 have a:=yr_day (u / 86400) (by omega) (by omega)
 have b:=yr_spec (u / 86400)
 unfold year
 omega
section
variable {b:Int} {l:List Sh} {ys:List Yr} {f:Int}
end
def run (ys:List Yr):Int->Nat->List Sh
 |_,0 => []
 |a,n+1=>cols ys a++run ys (a+1) n
section
variable {b:Int} {l:List Sh} {ys:List Yr} {f:Int}
end
end Go.Proofs.YtddnnljfgfcplaaGreatDoor.Zn
namespace Go.Proofs.YtddnnljfgfcplaaGreatDoor.Zn
open Go.RowKit Cv St
structure At (W w:World):Prop where
 below:Below W.heap.size W w
theorem At.refl {W:World}:At W W:=⟨Below.refl _ _⟩
theorem At.on {W w w':World} (h:At W w) (hb:Below W.heap.size w w'):At W w':=⟨h.below.trans hb⟩
theorem At.size {W w:World} (h:At W w):W.heap.size<=w.heap.size:=h.below.size
theorem At.drewN {W w:World} (h:At W w) (n:Nat):At W (w.drewN n):=h.on (Below.drewN' _ _ _)
theorem At.alloc {W w:World} (h:At W w) (o:Obj):At W (w.alloc o):=h.on ((Below.refl _ _).alloc h.size _)
theorem At.drew {W w:World} (h:At W w):At W w.drew:=h.on ((Below.refl _ _).drew)
theorem no_bool {p:Prop} [Decidable p] (h:¬p):false=decide p:=(decide_eq_false h).symm
theorem mayOff_any (o:Int) (w:World):
  Calls Tryz.prog 85 #[.int .i64 o] w fun e w'=>e= .returned (.bool (offB o))/\w=w':=by
 by_cases h1:-64800<=o
 ·go_enter Tryz.func85,Tryz.ntmps85
  go_wp2;go_ret;exact⟨ret_bool (by simp[offB,h1]),rfl⟩
 ·have h2:o < -64800:=by omega
  clear h1
  go_enter Tryz.func85,Tryz.ntmps85
  go_wp2;go_ret;exact⟨ret_bool (by simp[offB];omega),rfl⟩
theorem mayOff_yes (o:Int) (w:World) (h:offB o=true):
  Calls Tryz.prog 85 #[.int .i64 o] w fun e w'=>e= .returned (.bool true)/\w=w':=by
 have:=mayOff_any o w;rwa [h] at this
abbrev yrV (r:Yr):Value:= .agg #[.int .i64 r.m,.int .i64 r.k,.int .i64 r.d,.int .i64 r.s,.int .i64 r.o]
abbrev shV (s:Sh):Value:= .agg #[.int .i64 s.t,.int .i64 s.o]
theorem yearOf_any' (u:Int) (w:World) (hu:mayT u=true):
  Calls Tryz.prog 138 #[.int .i64 u] w fun e w'=>e= .returned (.int .i64 (year u))/\w=w':=by
 obtain⟨h1,h2⟩:=mayT_of hu
 clear hu
 go_enter Tryz.func138,Tryz.ntmps138
 go_wp2_with fail
 refine(day_any _ _ (by omega) (by omega)).mono ?_
 rintro e w' ⟨rfl,rfl⟩
 go_wp2_with fail
 refine(yearDay_yes _ _ (by omega) (by omega)).mono ?_
 rintro e w' ⟨rfl,rfl⟩
 go_wp2
 go_ret
 exact⟨rfl,rfl⟩
def ShAt (W:World) (A:Option Addr) (n:Nat) (l:List Sh):Prop:=
 n=l.length/\(0<n->∃b off,A=some ⟨b,off,none⟩/\b<W.heap.size/\∀j,j<n->W.cell? ⟨b,off+j*2,none⟩=some (.int .i64 (at_ l j).t)/\W.cell? ⟨b,off+j*2+1,none⟩=some (.int .i64 (at_ l j).o))
def yat (l:List Yr) (i:Nat):Yr:=l[i]?.getD ⟨0,0,0,0,0⟩
def YrAt (W:World) (A:Option Addr) (n:Nat) (ys:List Yr):Prop:=
 n=ys.length/\(0<n->∃b off,A=some ⟨b,off,none⟩/\b<W.heap.size/\∀j,j<n->W.cell? ⟨b,off+j*5,none⟩=some (.int .i64 (yat ys j).m)/\W.cell? ⟨b,off+j*5+1,none⟩=some (.int .i64 (yat ys j).k)/\
  W.cell? ⟨b,off+j*5+2,none⟩=some (.int .i64 (yat ys j).d)/\W.cell? ⟨b,off+j*5+3,none⟩=some (.int .i64 (yat ys j).s)/\W.cell? ⟨b,off+j*5+4,none⟩=some (.int .i64 (yat ys j).o))
theorem ShAt.below {W w:World} {A:Option Addr} {n:Nat} {l:List Sh} (h:ShAt W A n l) (hb:Below W.heap.size W w):ShAt w A n l:=
 ⟨h.1,fun h0=>by
  obtain⟨b,off,e,hlt,hc⟩:=h.2 h0
  exact⟨b,off,e,Nat.lt_of_lt_of_le hlt hb.size,fun j hj=>⟨(hb.cell (p:=⟨b,_,none⟩) hlt).trans (hc j hj).1,(hb.cell (p:=⟨b,_,none⟩) hlt).trans (hc j hj).2⟩⟩⟩
theorem YrAt.below {W w:World} {A:Option Addr} {n:Nat} {l:List Yr} (h:YrAt W A n l) (hb:Below W.heap.size W w):YrAt w A n l:=
 ⟨h.1,fun h0=>by
  obtain⟨b,off,e,hlt,hc⟩:=h.2 h0;refine⟨b,off,e,Nat.lt_of_lt_of_le hlt hb.size,fun j hj => ?_⟩;obtain⟨c0,c1,c2,c3,c4⟩:=hc j hj
  exact⟨(hb.cell (p:=⟨b,_,none⟩) hlt).trans c0,(hb.cell (p:=⟨b,_,none⟩) hlt).trans c1,(hb.cell (p:=⟨b,_,none⟩) hlt).trans c2,(hb.cell (p:=⟨b,_,none⟩) hlt).trans c3,(hb.cell (p:=⟨b,_,none⟩) hlt).trans c4⟩⟩
theorem ShAt.nil (W:World) (A:Option Addr):ShAt W A 0 []:=⟨rfl,fun h=>absurd h (by omega)⟩
theorem YrAt.nil (W:World) (A:Option Addr):YrAt W A 0 []:=⟨rfl,fun h=>absurd h (by omega)⟩
end Go.Proofs.YtddnnljfgfcplaaGreatDoor.Zn
namespace Go.Proofs.YtddnnljfgfcplaaGreatDoor.Zn
open Go.RowKit Cv St
theorem bcell {W w1:World} (hb:Below W.heap.size W w1):(∀b o,b<W.heap.size->w1.cell? ⟨b,o,none⟩=W.cell? ⟨b,o,none⟩)/\(∀b o,b<W.heap.size->w1.frozen? ⟨b,o,none⟩=W.frozen? ⟨b,o,none⟩):=
 ⟨fun b o h=>hb.cell (p:=⟨b,o,none⟩) h,fun b o h=>hb.frozen (p:=⟨b,o,none⟩) h⟩
structure ZnAt (W:World) (A:Option Addr) (n:Nat) (A':Option Addr) (n':Nat) (l:List Sh) (ys:List Yr):Prop where
 sh:ShAt W A n l
 yr:YrAt W A' n' ys
 sn:n<=9223372036854775807
 yn:n'<=9223372036854775807
theorem ZnAt.below {W w:World} {A:Option Addr} {n:Nat} {A':Option Addr} {n':Nat} {l:List Sh} {ys:List Yr} (h:ZnAt W A n A' n' l ys) (hb:Below W.heap.size W w):ZnAt w A n A' n' l ys:=⟨h.sh.below hb,h.yr.below hb,h.sn,h.yn⟩
end Go.Proofs.YtddnnljfgfcplaaGreatDoor.Zn
namespace Go.Proofs.YtddnnljfgfcplaaGreatDoor.Zn
open Go.RowKit Go.Shelf Cv St
attribute [local go_sem] Oper.semAt_some
abbrev Yok:={ r:Yr // yrB r=true }
theorem shBack1_nil_in (F:Fence) (n:Nat) (h7:F.fn 183) (hro:F.round=none) (l Bs:Nat) (A:Option Addr) (cap:Nat) (J:List (Nat×Sh)->World->Prop) (W:World) (hBs:W.cell? ⟨Bs,0,none⟩=some (.slice A 0 cap)) (h0:J [] W):
  CallsIn F n Tryz.prog 183 #[.func (.yield l) #[] #[],.pointer (some ⟨Bs,0,none⟩)] W fun e W'=>(∃v,e= .returned v)/\J [] W':=by
 refine callsIn_of_wp Tryz.func183 rfl h7 ?_ hro
 simp only[Tryz.ntmps183,List.size_toArray,List.length_cons,List.length_nil,Nat.reduceAdd,Nat.reduceSub,Array.replicate_succ,Array.replicate_zero,List.push_toArray,List.append_toArray,List.nil_append,List.cons_append]
 gi_wp2
 gi_loopw [3] (fun i wr=>i= .int .i64 (-1)/\J [] wr) (fun _ _=>0)
 case atStart=>exact⟨rfl,h0⟩
 case round=>
  obtain⟨rfl,hJs⟩:=hrel
  gi_wp2
  go_end0
  exact⟨⟨_,rfl⟩,hJs⟩
theorem shBack_in (F:Fence) (n:Nat) (h5:F.fn 141) (hro:F.round=none) (a:Option Addr) (len cap:Nat) (w:World):
  CallsIn F n Tryz.prog 141 #[.slice a len cap] w fun e w'=>e= .returned (.func (.func 183) #[] #[.pointer (some ⟨w.heap.size,0,none⟩)])/\w'=w.alloc (.cells #[.slice a len cap] 47):=by
 refine callsIn_of_wp Tryz.func141 rfl h5 ?_ hro
 simp only[Tryz.ntmps141,List.size_toArray,List.length_cons,List.length_nil,Nat.reduceAdd,Nat.reduceSub,Array.replicate_succ,Array.replicate_zero,List.push_toArray,List.append_toArray,List.nil_append,List.cons_append]
 gi_wp2
 go_ret
 exact⟨rfl,rfl⟩
theorem yrBack1_nil_in (F:Fence) (n:Nat) (h7:F.fn 181) (hro:F.round=none) (l Bs:Nat) (A:Option Addr) (cap:Nat) (J:List (Nat×Yok)->World->Prop) (W:World) (hBs:W.cell? ⟨Bs,0,none⟩=some (.slice A 0 cap)) (h0:J [] W):
  CallsIn F n Tryz.prog 181 #[.func (.yield l) #[] #[],.pointer (some ⟨Bs,0,none⟩)] W fun e W'=>(∃v,e= .returned v)/\J [] W':=by
 refine callsIn_of_wp Tryz.func181 rfl h7 ?_ hro
 simp only[Tryz.ntmps181,List.size_toArray,List.length_cons,List.length_nil,Nat.reduceAdd,Nat.reduceSub,Array.replicate_succ,Array.replicate_zero,List.push_toArray,List.append_toArray,List.nil_append,List.cons_append]
 gi_wp2
 gi_loopw [3] (fun i wr=>i= .int .i64 (-1)/\J [] wr) (fun _ _=>0)
 case atStart=>exact⟨rfl,h0⟩
 case round=>
  obtain⟨rfl,hJs⟩:=hrel
  gi_wp2
  go_end0
  exact⟨⟨_,rfl⟩,hJs⟩
theorem yrBack_in (F:Fence) (n:Nat) (h5:F.fn 139) (hro:F.round=none) (a:Option Addr) (len cap:Nat) (w:World):
  CallsIn F n Tryz.prog 139 #[.slice a len cap] w fun e w'=>e= .returned (.func (.func 181) #[] #[.pointer (some ⟨w.heap.size,0,none⟩)])/\w'=w.alloc (.cells #[.slice a len cap] 48):=by
 refine callsIn_of_wp Tryz.func139 rfl h5 ?_ hro
 simp only[Tryz.ntmps139,List.size_toArray,List.length_cons,List.length_nil,Nat.reduceAdd,Nat.reduceSub,Array.replicate_succ,Array.replicate_zero,List.push_toArray,List.append_toArray,List.nil_append,List.cons_append]
 gi_wp2
 go_ret
 exact⟨rfl,rfl⟩
end Go.Proofs.YtddnnljfgfcplaaGreatDoor.Zn
namespace Go.Proofs.YtddnnljfgfcplaaGreatDoor.Zn
open Go.RowKit Go.Shelf Cv St
def Blk (w:World) (g:Nat) (t:TypeId) (cs:Array Value):Prop:=w.heap[g]? = some (.cells cs t (0,0))
section
variable {w w':World} {g:Nat} {t:TypeId} {cs:Array Value}
theorem Blk.lt (h:Blk w g t cs):g<w.heap.size:=(Array.getElem?_eq_some_iff.1 h).1
theorem Blk.cell (h:Blk w g t cs) (i:Nat):w.cell? ⟨g,i,none⟩=cs[i]? :=cell_of_row w g i cs t (0,0) h
theorem Blk.frozen (h:Blk w g t cs) (i:Nat):w.frozen? ⟨g,i,none⟩=false:=by unfold Blk at h;simp[World.frozen?,h]
theorem Blk.new (w:World) (t:TypeId) (cs:Array Value):Blk (w.alloc (.cells cs t)) w.heap.size t cs:=World.alloc_heap_new w _
theorem Blk.below {B:Nat} (h:Blk w g t cs) (hb:Below B w w') (hg:g<B):Blk w' g t cs:=(hb.block g hg).trans h
theorem Blk.alloc (h:Blk w g t cs) (o:Obj):Blk (w.alloc o) g t cs:=(Below.heap_alloc w o g h.lt).trans h
theorem Blk.set_ (h:Blk w g t cs) (i:Nat) (u:Value):Blk (w.setCell ⟨g,i,none⟩ u) g t (cs.setIfInBounds i u):=by
 unfold Blk at h ⊢
 simp[World.setCell,Array.getElem?_modify,h]
theorem Blk.far (h:Blk w g t cs) {p:Addr} (hp:g≠p.block) (u:Value):Blk (w.setCell p u) g t cs:=(Below.heap_setCell w p u g hp).trans h
theorem Blk.drew (h:Blk w g t cs):Blk w.drew g t cs:=h
end
theorem blk_own {β:Type} (g:Nat) (t:TypeId) (f:β->Array Value):Own (fun s W=>Blk W g t (f s)):=fun s X Y row hs hg hrow=>
 (hg.block g (Blk.lt hs) (fun e'=>by obtain⟨o,ho,hc⟩:=hrow g e'.symm;rw[show X.heap[g]? = _ from hs] at ho;cases ho;cases hc)).trans hs
def Dfs (n0 top:Nat) (ds:List Nat) (w:World):Prop:=ds.Nodup/\∀D∈ds,n0<=D/\D<top/\w.heap[D]? = some (.deferred (some []))
def dsl (ds:List Nat):List Deferred:=ds.map fun D=>{ target:= .collected D,args:=#[] }
theorem Dfs.below {n0 top B:Nat} {ds:List Nat} {w w':World} (h:Dfs n0 top ds w) (hb:Below B w w') (ht:top<=B):Dfs n0 top ds w':=
 ⟨h.1,fun D hD=>⟨(h.2 D hD).1,(h.2 D hD).2.1,(hb.block D (by have:=(h.2 D hD).2.1;omega)).trans (h.2 D hD).2.2⟩⟩
theorem Dfs.far {n0 top:Nat} {ds:List Nat} {w:World} {g:Nat} {t:TypeId} {cs:Array Value} (h:Dfs n0 top ds w) (hg:Blk w g t cs) (i:Nat) (v:Value):Dfs n0 top ds (w.setCell ⟨g,i,none⟩ v):=
 ⟨h.1,fun D hD=>⟨(h.2 D hD).1,(h.2 D hD).2.1,(Below.heap_setCell w ⟨g,i,none⟩ v D (fun e=>by
  have h1:=(h.2 D hD).2.2;simp only at e
  subst e
  rw[show w.heap[D]? = _ from hg] at h1;cases h1)).trans (h.2 D hD).2.2⟩⟩
theorem Dfs.cons {n0 top top' D:Nat} {ds:List Nat} {w:World} (h:Dfs n0 top ds w) (h1:top<=D) (h2:D<top') (h3:n0<=D) (hD:w.heap[D]? = some (.deferred (some []))):Dfs n0 top' (D::ds) w:=by
 refine⟨List.nodup_cons.2 ⟨fun hm=>by have:=(h.2 D hm).2.1;omega,h.1⟩,fun E hE => ?_⟩
 rcases List.mem_cons.1 hE with rfl|hE
 ·exact⟨h3,h2,hD⟩
 ·have:=h.2 E hE;exact⟨this.1,by omega,this.2.2⟩
theorem dfs_own {β:Type} (n0 top:Nat) (ds:List Nat):OwnFrom top (fun (_:β) W=>Dfs n0 top ds W):=fun s X Y row hs hg hr=>
 ⟨hs.1,fun D hD=>⟨(hs.2 D hD).1,(hs.2 D hD).2.1,(hg.block D (Array.getElem?_eq_some_iff.1 (hs.2 D hD).2.2).1 (fun e=>by have:=(hr D e.symm).1;have:=(hs.2 D hD).2.1;omega)).trans (hs.2 D hD).2.2⟩⟩
theorem leaves_of {F:Fence} {n:Nat} {P:Program} {fn:Func} {tmps:Array Value} {R:Ending->World->Prop} {n0 top:Nat}:∀(ds:List Nat) (w:World),Dfs n0 top ds w->n0<=w.heap.size->
  (∀w',Below n0 w w'->(∀g t cs,Blk w g t cs->Blk w' g t cs)->∃v,(results fn tmps).run P w'= .ok v w'/\R (.returned v) w')->LeavesInM F n P fn tmps R (dsl ds) .returning w
 | [],w,_,_,h=>show ∃v,(results fn tmps).run P w= .ok v w/\R (.returned v) w from h w (Below.refl _ _) fun _ _ _ h=>h
 |D::ds,w,hd,hn,h=>by
  have hD:=hd.2 D (List.mem_cons_self ..);have hlt:=(Array.getElem?_eq_some_iff.1 hD.2.2).1;have hg:=grownBy_putObj' w D (.deferred none);have hb:Below n0 w (w.putObj D (.deferred none)):=(Below.refl n0 w).grown hg hn (fun k e=>by cases e;exact hD.1)
  refine⟨by simp,.inl ⟨_,_,rfl,run_takeDeferred hD.2.2,?_⟩⟩
  refine leaves_of (n0:=n0) (top:=top) ds _ ⟨(List.nodup_cons.1 hd.1).2,fun E hE => ?_⟩ (Nat.le_trans hn hb.size) fun w' h1 h2=>h w' (hb.trans h1) fun g t cs hk=>h2 g t cs ?_
  ·have hE':=hd.2 E (List.mem_cons_of_mem _ hE)
   exact⟨hE'.1,hE'.2.1,(hg.block E (Array.getElem?_eq_some_iff.1 hE'.2.2).1 (fun e=>(List.nodup_cons.1 hd.1).1 (by cases e;exact hE))).trans hE'.2.2⟩
  ·exact(hg.block g hk.lt (fun e=>by
    have e':g=D:=Option.some.inj e
    have h3:=hD.2.2
    rw[<-e',show w.heap[g]? = _ from hk] at h3;cases h3)).trans hk
end Go.Proofs.YtddnnljfgfcplaaGreatDoor.Zn
namespace Go.Proofs.YtddnnljfgfcplaaGreatDoor.Zn
open Go.RowKit Go.Shelf Cv St
attribute [local go_sem] Oper.semAt_some
theorem wide_call {n:Nat} {f:FuncId} {args:Array Value} {w:World} {R:Ending->World->Prop} (h:Calls Tryz.prog f args w R):CallsIn Fence.wide n Tryz.prog f args w R:=callsIn_wide.2 h
theorem Blk.cell0 {w:World} {g:Nat} {t:TypeId} {v:Value} (h:Blk w g t #[v]):w.cell? ⟨g,0,none⟩=some v:=h.cell 0
theorem OwnFrom.more {β:Type} {B B':Nat} {I:β->World->Prop} (h:OwnFrom B I) (hB:B<=B'):OwnFrom B' I:=fun s X Y row hs hg hr=>h s X Y row hs hg fun r e=>⟨Nat.le_trans hB (hr r e).1,(hr r e).2⟩
theorem Dfs.more {n0 top top':Nat} {ds:List Nat} {w:World} (h:Dfs n0 top ds w) (ht:top<=top'):Dfs n0 top' ds w:=⟨h.1,fun D hD=>⟨(h.2 D hD).1,Nat.lt_of_lt_of_le (h.2 D hD).2.1 ht,(h.2 D hD).2.2⟩⟩
theorem size_own {β:Type} {B:Nat} (m:Nat):OwnFrom B (fun (_:β) W=>m<=W.heap.size):=fun _ _ _ _ hs hg _=>Nat.le_trans hs hg.size
def Ctx (w:World) (zc:Array Value) (u:Int) (rc:Array Value) (ok:Value) (W:World):Prop:=
 (((Blk W w.heap.size 50 zc/\Blk W (w.heap.size+1) 3 #[.int .i64 u])/\Blk W (w.heap.size+1+1) 137 rc)/\Blk W (w.heap.size+1+1+1) 4 #[ok])/\Below w.heap.size w W
theorem Ctx.on {w:World} {zc:Array Value} {u:Int} {rc:Array Value} {ok:Value} {W W':World} (h:Ctx w zc u rc ok W) (hb:Below W.heap.size W W'):Ctx w zc u rc ok W':=
 ⟨⟨⟨⟨h.1.1.1.1.below hb h.1.1.1.1.lt,h.1.1.1.2.below hb h.1.1.1.2.lt⟩,h.1.1.2.below hb h.1.1.2.lt⟩,h.1.2.below hb h.1.2.lt⟩,h.2.trans (hb.mono h.2.size)⟩
theorem ctx_own {β:Type} {w:World} {zc:Array Value} {u:Int} {rc:Array Value} {ok:Value} {B':Nat} (hB:w.heap.size<=B'):OwnFrom B' (fun (_:β) W=>Ctx w zc u rc ok W):=
 OwnFrom.and (OwnFrom.and (OwnFrom.and (OwnFrom.and ((blk_own _ _ (fun (_:β)=>zc)).from _) ((blk_own _ _ (fun (_:β) => #[.int .i64 u])).from _)) ((blk_own _ _ (fun (_:β)=>rc)).from _)) ((blk_own _ _ (fun (_:β) => #[ok])).from _)) (ownFrom_below (Nat.le_refl _) hB)
theorem ctx_new (w:World) (zc:Array Value) (u:Int) (rc:Array Value) (ok:Value) (yv:Value):
  Ctx w zc u rc ok (((((w.alloc (.cells zc 50)).alloc (.cells #[.int .i64 u] 3)).alloc (.cells rc 137)).alloc (.cells #[ok] 4)).alloc (.cells #[yv] 3))/\
   Blk (((((w.alloc (.cells zc 50)).alloc (.cells #[.int .i64 u] 3)).alloc (.cells rc 137)).alloc (.cells #[ok] 4)).alloc (.cells #[yv] 3)) (w.heap.size+1+1+1+1) 3 #[yv]:=by
 obtain⟨w1,e1⟩:∃w1,w.alloc (.cells zc 50)=w1:=⟨_,rfl⟩
 have b1:=Blk.new w 50 zc
 have s1:w1.heap.size=w.heap.size+1:=by rw[<-e1];simp
 have l1:Below w.heap.size w w1:=by rw[<-e1];exact(Below.refl _ _).alloc (Nat.le_refl _) _
 rw[e1] at b1 ⊢
 obtain⟨w2,e2⟩:∃w2,w1.alloc (.cells #[.int .i64 u] 3)=w2:=⟨_,rfl⟩
 have b2:=Blk.new w1 3 #[.int .i64 u]
 have s2:w2.heap.size=w.heap.size+1+1:=by rw[<-e2];simp[s1]
 have l2:Below w1.heap.size w1 w2:=by rw[<-e2];exact(Below.refl _ _).alloc (Nat.le_refl _) _
 rw[e2] at b2 ⊢
 obtain⟨w3,e3⟩:∃w3,w2.alloc (.cells rc 137)=w3:=⟨_,rfl⟩
 have b3:=Blk.new w2 137 rc
 have s3:w3.heap.size=w.heap.size+1+1+1:=by rw[<-e3];simp[s2]
 have l3:Below w2.heap.size w2 w3:=by rw[<-e3];exact(Below.refl _ _).alloc (Nat.le_refl _) _
 rw[e3] at b3 ⊢
 obtain⟨w4,e4⟩:∃w4,w3.alloc (.cells #[ok] 4)=w4:=⟨_,rfl⟩
 have b4:=Blk.new w3 4 #[ok]
 have s4:w4.heap.size=w.heap.size+1+1+1+1:=by rw[<-e4];simp[s3]
 have l4:Below w3.heap.size w3 w4:=by rw[<-e4];exact(Below.refl _ _).alloc (Nat.le_refl _) _
 rw[e4] at b4 ⊢
 have b5:=Blk.new w4 3 #[yv]
 have l5:Below w4.heap.size w4 (w4.alloc (.cells #[yv] 3)):=(Below.refl _ _).alloc (Nat.le_refl _) _
 rw[s1] at b2;rw[s2] at b3;rw[s3] at b4;rw[s4] at b5
 rw[s1] at l2;rw[s2] at l3;rw[s3] at l4;rw[s4] at l5
 refine⟨⟨⟨⟨⟨?_,?_⟩,?_⟩,?_⟩,?_⟩,b5⟩
 ·exact(((b1.below l2 (by omega)).below l3 (by omega)).below l4 (by omega)).below l5 (by omega)
 ·exact((b2.below l3 (by omega)).below l4 (by omega)).below l5 (by omega)
 ·exact(b3.below l4 (by omega)).below l5 (by omega)
 ·exact b4.below l5 (by omega)
 ·exact(((l1.trans (l2.mono (by omega))).trans (l3.mono (by omega))).trans (l4.mono (by omega))).trans (l5.mono (by omega))
theorem ctx_lost {w:World} {zc:Array Value} {u:Int} {W:World} {a0 a1 x:Value} {top:Nat} {ds:List Nat} (h:Ctx w zc u #[a0,a1] x W) (hd:Dfs w.heap.size top ds W):
  Ctx w zc u #[.int .i64 0,.int .i64 0] (.bool false) (((W.setCell ⟨w.heap.size+1+1,0,none⟩ (.int .i64 0)).setCell ⟨w.heap.size+1+1,1,none⟩ (.int .i64 0)).setCell ⟨w.heap.size+1+1+1,0,none⟩ (.bool false))/\
  Dfs w.heap.size top ds (((W.setCell ⟨w.heap.size+1+1,0,none⟩ (.int .i64 0)).setCell ⟨w.heap.size+1+1,1,none⟩ (.int .i64 0)).setCell ⟨w.heap.size+1+1+1,0,none⟩ (.bool false)):=by
 obtain⟨⟨⟨⟨bz,bu⟩,br⟩,bo⟩,hB⟩:=h
 have r1:Blk (W.setCell ⟨w.heap.size+1+1,0,none⟩ (.int .i64 0)) (w.heap.size+1+1) 137 #[.int .i64 0,a1]:=by have:=br.set_ 0 (.int .i64 0);simpa using this
 have r2:Blk ((W.setCell ⟨w.heap.size+1+1,0,none⟩ (.int .i64 0)).setCell ⟨w.heap.size+1+1,1,none⟩ (.int .i64 0)) (w.heap.size+1+1) 137 #[.int .i64 0,.int .i64 0]:=by have:=r1.set_ 1 (.int .i64 0);simpa using this
 have o1:Blk (W.setCell ⟨w.heap.size+1+1,0,none⟩ (.int .i64 0)) (w.heap.size+1+1+1) 4 #[x]:=bo.far (by simp) _
 have o2:Blk ((W.setCell ⟨w.heap.size+1+1,0,none⟩ (.int .i64 0)).setCell ⟨w.heap.size+1+1,1,none⟩ (.int .i64 0)) (w.heap.size+1+1+1) 4 #[x]:=o1.far (by simp) _
 refine⟨⟨⟨⟨⟨?_,?_⟩,?_⟩,?_⟩,?_⟩,?_⟩
 ·exact((bz.far (by simp<;>omega) _).far (by simp<;>omega) _).far (by simp<;>omega) _
 ·exact((bu.far (by simp<;>omega) _).far (by simp<;>omega) _).far (by simp<;>omega) _
 ·exact r2.far (by simp) _
 ·have:=o2.set_ 0 (.bool false);simpa using this
 ·exact((hB.setCell (p:=⟨_,_,none⟩) (by simp<;>omega) _).setCell (p:=⟨_,_,none⟩) (by simp<;>omega) _).setCell (p:=⟨_,_,none⟩) (by simp<;>omega) _
 ·exact((hd.far br 0 _).far r1 1 _).far o2 0 _
def BefPost (w:World) (x:Option Sh) (e:Ending) (w':World):Prop:=e= .returned (.tuple #[shV (x.getD ⟨0,0⟩),.bool x.isSome])/\Below w.heap.size w w'
end Go.Proofs.YtddnnljfgfcplaaGreatDoor.Zn
namespace Go.Proofs.YtddnnljfgfcplaaGreatDoor.Zn
open Go.RowKit Go.Shelf Cv St
attribute [local go_sem] Oper.semAt_some
theorem yrStops0 (F:Fence) (n:Nat) (h7:F.fn 181) (hro:F.round=none) (Bs cap:Nat) (w:World) (hBs:Bs<w.heap.size) (hc:w.cell? ⟨Bs,0,none⟩=some (.slice none 0 cap)):
  SeqStopsK F n Tryz.prog 181 #[.pointer (some ⟨Bs,0,none⟩)] (fun x:Nat×Yok => #[Value.int .i64 (x.1:Int),yrV x.2.1]) (Below w.heap.size) (fun ys=>ys=[]) (fun pre=>pre=[]) 0 w:=fun l J Jx W hW _ _ hY h0=>by
 have hc':W.cell? ⟨Bs,0,none⟩=some (.slice none 0 cap):=(hW.cell (p:=⟨Bs,0,none⟩) hBs).trans hc
 exact(yrBack1_nil_in F n h7 hro l Bs none cap J W hc' h0).mono fun e W' ⟨he,hj⟩=>⟨he,.inl ⟨_,rfl,hj⟩⟩
theorem shStops0 (F:Fence) (n:Nat) (h7:F.fn 183) (hro:F.round=none) (Bs cap:Nat) (w:World) (hBs:Bs<w.heap.size) (hc:w.cell? ⟨Bs,0,none⟩=some (.slice none 0 cap)):
  SeqStopsK F n Tryz.prog 183 #[.pointer (some ⟨Bs,0,none⟩)] (fun x:Nat×Sh => #[Value.int .i64 (x.1:Int),shV x.2]) (Below w.heap.size) (fun ys=>ys=[]) (fun pre=>pre=[]) 0 w:=fun l J Jx W hW _ _ hY h0=>by
 have hc':W.cell? ⟨Bs,0,none⟩=some (.slice none 0 cap):=(hW.cell (p:=⟨Bs,0,none⟩) hBs).trans hc
 exact(shBack1_nil_in F n h7 hro l Bs none cap J W hc' h0).mono fun e W' ⟨he,hj⟩=>⟨he,.inl ⟨_,rfl,hj⟩⟩
theorem before_plain (w:World) (b u:Int) (hu:mayT u=true) (h3:3<=year u):
  CallsIn Fence.wide 40 Tryz.prog 95 #[.agg #[.int .i64 b,.slice none 0 0,.slice none 0 0,.int .i64 0],.int .i64 u] w (BefPost w none):=by
 obtain⟨y1,y2,_,_⟩:=year_may hu
 refine callsIn_of_wp_marks Tryz.func95 rfl trivial ?_ rfl
 simp only[Tryz.ntmps95,List.size_toArray,List.length_cons,List.length_nil,Nat.reduceAdd,Nat.reduceSub,Array.replicate_succ,Array.replicate_zero,List.push_toArray,List.append_toArray,List.nil_append,List.cons_append]
 gi_wp2_with fail
 refine⟨trivial,?_⟩
 refine(wide_call (yearOf_any' u _ hu)).mono ?_
 rintro e w' ⟨rfl,rfl⟩
 gi_wp2
 have HU:=Lib.hid hu
 clear hu
 refine wpIn_loop_ghost_k (fun k a W'=>∃(ds:List Nat) (By:Nat) (y:Int) (u16 u17 u18 u19 u20 u21 u22 u23 u24 u25 u26 u27 u38:Value),a={ tmps:=#[.agg #[.int .i64 b,.slice none 0 0,.slice none 0 0,.int .i64 0],.int .i64 u,.pointer (some ⟨w.heap.size,0,none⟩),.pointer (some ⟨w.heap.size+1,0,none⟩),.pointer (some ⟨w.heap.size+1+1,0,none⟩),.pointer (some ⟨w.heap.size+1+1+1,0,none⟩),.int .i64 (year u),.pointer (some ⟨By,0,none⟩),undef,undef,undef,undef,undef,.int .i64 u,.int .i64 (year u),.int .i64 (year u),u16,u17,u18,u19,u20,u21,u22,u23,u24,u25,u26,u27,undef,undef,undef,undef,undef,undef,undef,undef,undef,undef,u38,undef,undef,undef,undef,undef,undef,undef,undef,undef,undef,undef],defers:=dsl ds }/\Ctx w #[.int .i64 b,.slice none 0 0,.slice none 0 0,.int .i64 0] u #[.int .i64 0,.int .i64 0] (.bool false) W'/\
   Blk W' By 3 #[.int .i64 y]/\w.heap.size+1+1+1<By/\Dfs w.heap.size W'.heap.size ds W'/\y=year u-2+k/\k<=2) 2 ?start ?round
 case start=>
  exact⟨[],_,year u,undef,undef,undef,undef,undef,undef,undef,undef,undef,undef,undef,undef,undef,rfl,(ctx_new w _ u _ _ _).1,(ctx_new w _ u _ _ _).2,by omega,⟨List.nodup_nil,fun _ h=>by simp at h⟩,by omega,by omega⟩
 case round=>
  rintro k a W1 ⟨ds,By,y,u16,u17,u18,u19,u20,u21,u22,u23,u24,u25,u26,u27,u38,rfl,ctx,by1,by2,dfs,ey,k2⟩ J K hJ hK;have EY:=Lib.hid ey;have yl:year u-2<=y:=by omega
  have yh:y<=year u:=by omega
  clear ey;obtain⟨⟨⟨⟨bz,bu⟩,br⟩,bo⟩,hB⟩:=ctx;have hs:=hB.size;have cz0:=bz.cell 1;have cz1:=bz.cell 2;have cz2:=bz.cell 3;have cy:=by1.cell 0;simp at cz0 cz1 cz2 cy
  have hm:(0:Int)<year u-1:=by omega
  have mx:max 0 (year u-1)=year u-1:=by omega
  by_cases hc:year u-1<=y
  ·gi_wp2_with (refine⟨trivial,?_⟩;gi_at_call 139;refine(yrBack_in _ _ trivial rfl _ _ _ _).mono ?_;rintro e w' ⟨rfl,rfl⟩)
   refine wpIn_rangeFunc_ownH rfl (by omega) (gf:=181) (lb:=#[.pointer (some ⟨W1.heap.size,0,none⟩)]) rfl trivial (enters_of Tryz.func181 (by kernel_rfl) rfl)
    (yrStops0 Fence.wide _ trivial rfl W1.heap.size 0 _ (by simp) (Blk.new W1 _ _).cell0) belowK_t (belowK_b (Nat.le_refl _)) (Below.refl _ _) (fun _=>rfl)
    (fun pre W'=>((∀x∈pre,decide ((inY x.2.1 y).t<=u)=false)/\Ctx w #[.int .i64 b,.slice none 0 0,.slice none 0 0,.int .i64 0] u #[.int .i64 0,.int .i64 0] (.bool false) W')/\Blk W' By 3 #[.int .i64 y]/\Dfs w.heap.size (W1.heap.size+1) ds W'/\W1.heap.size+1<=W'.heap.size)
    (fun cc pre W'=>(∃ini x,(cc= .ret/\pre=ini++[x]/\(∀x∈ini,decide ((inY x.2.1 y).t<=u)=false)/\(inY x.2.1 y).t<=u)/\Ctx w #[.int .i64 b,.slice none 0 0,.slice none 0 0,.int .i64 0] u #[.int .i64 (inY x.2.1 y).t,.int .i64 (inY x.2.1 y).o] (.bool true) W')/\Dfs w.heap.size (W1.heap.size+1) ds W')
    (OwnFrom.and (OwnFrom.and (ownFrom_pure _ _) (ctx_own (by simp;omega))) (OwnFrom.and ((blk_own _ _ (fun _ => #[.int .i64 y])).from _) (OwnFrom.and (OwnFrom.more (dfs_own _ _ _) (by simp)) (size_own _))))
    (fun cc=>OwnFrom.and (fun s A B row hs hg hr=>by obtain⟨ini,x,h1,h2⟩:=hs;exact⟨ini,x,h1,ctx_own (B':=(W1.alloc (.cells #[.slice none 0 0] 48)).heap.size) (by simp;omega) () A B row h2 hg hr⟩) (OwnFrom.more (dfs_own _ _ _) (by simp)))
    ⟨⟨by simp,Ctx.on ⟨⟨⟨⟨bz,bu⟩,br⟩,bo⟩,hB⟩ ((Below.refl _ _).alloc (Nat.le_refl _) _)⟩,by1.alloc _,(dfs.below ((Below.refl _ _).alloc (Nat.le_refl _) _) (Nat.le_refl _)).more (by omega),by simp⟩
    (fun x a' W'=>∃Bx,w.heap.size+1+1+1<Bx/\Blk W' Bx 165 #[.int .i64 x.2.1.m,.int .i64 x.2.1.k,.int .i64 x.2.1.d,.int .i64 x.2.1.s,.int .i64 x.2.1.o]/\a'={ tmps:=#[.agg #[.int .i64 b,.slice none 0 0,.slice none 0 0,.int .i64 0],.int .i64 u,.pointer (some ⟨w.heap.size,0,none⟩),.pointer (some ⟨w.heap.size+1,0,none⟩),.pointer (some ⟨w.heap.size+1+1,0,none⟩),.pointer (some ⟨w.heap.size+1+1+1,0,none⟩),.int .i64 (year u),.pointer (some ⟨By,0,none⟩),undef,.pointer (some ⟨Bx,0,none⟩),undef,undef,undef,.int .i64 u,.int .i64 (year u),.int .i64 (year u),.int .i64 y,.pointer (some ⟨w.heap.size,3,none⟩),.int .i64 0,.int .i64 (year u),.int .i64 (year u-1),.int .i64 (year u-1),.bool true,u23,u24,.pointer (some ⟨w.heap.size,2,none⟩),.slice none 0 0,.func (.func 181) #[] #[.pointer (some ⟨W1.heap.size,0,none⟩)],.int .i64 (x.1:Int),yrV x.2.1,undef,undef,undef,undef,undef,undef,undef,undef,u38,undef,undef,undef,undef,undef,undef,undef,undef,undef,undef,undef],defers:= [] })
    (fun x a' _ X Y row hs hg hr=>by obtain⟨Bx,e1,e2,e3⟩:=hs;exact⟨Bx,e1,blk_own Bx _ (fun (_:Unit)=>_) () X Y row e2 hg (fun r e=>(hr r e).2),e3⟩)
    ?assign ?body ?done ?stop
   case assign=>
    rintro l0 pre x W' K ⟨⟨hp,ctx'⟩,by',dfs',sz'⟩ hK
    gi_wp2
    exact hK _ _ ((KeepsOthers.alloc _ _).from _) ((Below.refl _ W').alloc (by simp;omega) _) ⟨⟨hp,ctx'.on ((Below.refl _ _).alloc (Nat.le_refl _) _)⟩,by'.alloc _,dfs'.below ((Below.refl _ _).alloc (Nat.le_refl _) _) sz',by simp;omega⟩ ⟨W'.heap.size,ctx'.1.2.lt,Blk.new W' _ _,rfl⟩
   case body=>
    rintro l0 pre x a' W2 hl hr hs hx hlen;exact absurd hlen (by omega)
   case done=>
    rintro D zs W4 hD rfl ⟨⟨hp,ctx4⟩,yb,dfs4,sz4⟩ hK';simp only[World.size_alloc] at hD;have hD':=(Array.getElem?_eq_some_iff.1 hK').1;have s4:=ctx4.2.size;have v0:=yb.cell 0;simp at v0
    have l2:=yb.lt;have ba:=(Below.refl _ _).alloc (Nat.le_refl _) (.cells #[.int .i64 (y-1)] 3) (w:=W4)
    gi_wp2
    refine⟨k-1,by have:=EY.out;omega,hJ _ _ _ ⟨D::ds,W4.heap.size,y-1,_,_,_,_,_,_,_,_,_,_,_,_,_,rfl,ctx4.on ba,Blk.new _ _ _,ctx4.1.2.lt,((dfs4.cons hD hD' (by omega) hK').below ba (Nat.le_refl _)).more ba.size,by have:=EY.out;omega,by omega⟩⟩
   case stop=>
    rintro D cc pre W4 hD rfl ⟨⟨ini,x,⟨-,e1,-⟩,-⟩,-⟩;simp at e1
  ·have hc':y<year u-1:=by omega
   have hd:decide (year u-1<=y)=false:=decide_eq_false hc
   clear hc
   gi_wp2_with (refine⟨trivial,?_⟩;gi_at_call 141;refine(shBack_in _ _ trivial rfl _ _ _ _).mono ?_;rintro e w' ⟨rfl,rfl⟩)
   refine wpIn_rangeFunc_ownH rfl (by omega) (gf:=183) (lb:=#[.pointer (some ⟨W1.heap.size,0,none⟩)]) rfl trivial (enters_of Tryz.func183 (by kernel_rfl) rfl)
    (shStops0 Fence.wide _ trivial rfl W1.heap.size 0 _ (by simp) (Blk.new W1 _ _).cell0) belowK_t (belowK_b (Nat.le_refl _)) (Below.refl _ _) (fun _=>rfl)
    (fun pre W'=>((∀x∈pre,decide (x.2.t<=u)=false)/\Ctx w #[.int .i64 b,.slice none 0 0,.slice none 0 0,.int .i64 0] u #[.int .i64 0,.int .i64 0] (.bool false) W')/\Dfs w.heap.size (W1.heap.size+1) ds W'/\W1.heap.size+1<=W'.heap.size)
    (fun cc pre W'=>(∃ini x,(cc= .ret/\pre=ini++[x]/\(∀x∈ini,decide (x.2.t<=u)=false)/\x.2.t<=u)/\Ctx w #[.int .i64 b,.slice none 0 0,.slice none 0 0,.int .i64 0] u #[.int .i64 x.2.t,.int .i64 x.2.o] (.bool true) W')/\Dfs w.heap.size (W1.heap.size+1) ds W')
    (OwnFrom.and (OwnFrom.and (ownFrom_pure _ _) (ctx_own (by simp;omega))) (OwnFrom.and (OwnFrom.more (dfs_own _ _ _) (by simp)) (size_own _)))
    (fun cc=>OwnFrom.and (fun s X Y row hs hg hr=>by obtain⟨ini,x,h1,h2⟩:=hs;exact⟨ini,x,h1,ctx_own (B':=(W1.alloc (.cells #[.slice none 0 0] 47)).heap.size) (by simp;omega) () X Y row h2 hg hr⟩) (OwnFrom.more (dfs_own _ _ _) (by simp)))
    ⟨⟨by simp,Ctx.on ⟨⟨⟨⟨bz,bu⟩,br⟩,bo⟩,hB⟩ ((Below.refl _ _).alloc (Nat.le_refl _) _)⟩,(dfs.below ((Below.refl _ _).alloc (Nat.le_refl _) _) (Nat.le_refl _)).more (by omega),by simp⟩
    (fun x a' W'=>∃Bx,w.heap.size+1+1+1<Bx/\Blk W' Bx 137 #[.int .i64 x.2.t,.int .i64 x.2.o]/\a'={ tmps:=#[.agg #[.int .i64 b,.slice none 0 0,.slice none 0 0,.int .i64 0],.int .i64 u,.pointer (some ⟨w.heap.size,0,none⟩),.pointer (some ⟨w.heap.size+1,0,none⟩),.pointer (some ⟨w.heap.size+1+1,0,none⟩),.pointer (some ⟨w.heap.size+1+1+1,0,none⟩),.int .i64 (year u),.pointer (some ⟨By,0,none⟩),undef,undef,undef,undef,.pointer (some ⟨Bx,0,none⟩),.int .i64 u,.int .i64 (year u),.int .i64 (year u),.int .i64 y,.pointer (some ⟨w.heap.size,3,none⟩),.int .i64 0,.int .i64 (year u),.int .i64 (year u-1),.int .i64 (year u-1),.bool false,u23,u24,u25,u26,u27,undef,undef,undef,undef,undef,undef,undef,undef,undef,undef,u38,.pointer (some ⟨w.heap.size,1,none⟩),.slice none 0 0,.func (.func 183) #[] #[.pointer (some ⟨W1.heap.size,0,none⟩)],.int .i64 (x.1:Int),shV x.2,undef,undef,undef,undef,undef,undef],defers:= [] })
    (fun x a' _ X Y row hs hg hr=>by obtain⟨Bx,e1,e2,e3⟩:=hs;exact⟨Bx,e1,blk_own Bx _ (fun (_:Unit)=>_) () X Y row e2 hg (fun r e=>(hr r e).2),e3⟩)
    ?assign ?body ?done ?stop
   case assign=>
    rintro l0 pre x W' K ⟨⟨hp,ctx'⟩,dfs',sz'⟩ hK
    gi_wp2
    exact hK _ _ ((KeepsOthers.alloc _ _).from _) ((Below.refl _ W').alloc (by simp;omega) _) ⟨⟨hp,ctx'.on ((Below.refl _ _).alloc (Nat.le_refl _) _)⟩,dfs'.below ((Below.refl _ _).alloc (Nat.le_refl _) _) sz',by simp;omega⟩ ⟨W'.heap.size,ctx'.1.2.lt,Blk.new W' _ _,rfl⟩
   case body=>
    rintro l0 pre x a' W2 hl hr hs hx hlen;exact absurd hlen (by omega)
   case done=>
    rintro D zs W4 hD rfl ⟨⟨hp,ctx4⟩,dfs4,sz4⟩ hK';simp only[World.size_alloc] at hD;have hD':=(Array.getElem?_eq_some_iff.1 hK').1;have s4:=ctx4.2.size;have ctx3:=ctx4;obtain⟨⟨⟨⟨_,bu2⟩,br2⟩,bo2⟩,hB2⟩:=ctx3;have g0:=br2.frozen 0;have g1:=br2.frozen 1;have g2:=bo2.frozen 0;have i0:=br2.cell 0;have i1:=br2.cell 1;have i2:=bo2.cell 0;simp at i0 i1 i2
    have l4:=br2.lt;have l5:=bo2.lt
    gi_wp2
    obtain⟨c5,d5⟩:=ctx_lost ctx4 (dfs4.cons hD hD' (by omega) hK');refine leaves_of (n0:=w.heap.size) (top:=W4.heap.size) (D::ds) _ d5 c5.2.size ?_;intro w' hb hk;have q0:=(hk _ _ _ c5.1.1.2).cell 0;have q1:=(hk _ _ _ c5.1.1.2).cell 1;have q2:=(hk _ _ _ c5.1.2).cell 0;simp at q0 q1 q2
    refine⟨.tuple #[shV ⟨0,0⟩,.bool false],by simp[results,Tryz.f95,go_sem,q0,q1,q2],?_⟩;exact⟨rfl,c5.2.trans hb⟩
   case stop=>
    rintro D cc pre W4 hD rfl ⟨⟨ini,x,⟨-,e1,-⟩,-⟩,-⟩;simp at e1
theorem beforeP (w:World) (b u:Int) (hu:mayT u=true) (h3:3<=year u):
  Calls Tryz.prog 95 #[.agg #[.int .i64 b,.slice none 0 0,.slice none 0 0,.int .i64 0],.int .i64 u] w fun e w'=>e= .returned (.tuple #[.agg #[.int .i64 0,.int .i64 0],.bool false])/\Below w.heap.size w w':=
 callsIn_wide.1 (before_plain w b u hu h3)
theorem year_3 {u:Int} (hu:mayT u=true) (h:900000000<=u):3<=year u:=by
 obtain⟨y1,y2,y3,y4⟩:=year_may hu
 rcases(by omega:year u=1\/year u=2\/3<=year u) with e|e|e
 ·rw[e] at y4
  have:(86400:Int)*ny (1+1)<=0:=by decide
  omega
 ·rw[e] at y4
  have:(86400:Int)*ny (2+1)<=0:=by decide
  omega
 ·exact e
theorem offsetP (w:World) (b u:Int) (h1:900000000<=u) (h2:u<=2100000000):
  Calls Tryz.prog 54 #[.agg #[.int .i64 b,.slice none 0 0,.slice none 0 0,.int .i64 0],.int .i64 u] w fun e w'=>e= .returned (.int .i64 b)/\Below w.heap.size w w':=by
 have ba:=((Below.refl _ _).alloc (Nat.le_refl _) (.cells #[.int .i64 b,.slice none 0 0,.slice none 0 0,.int .i64 0] 50) (w:=w))
 have hu:mayT u=true:=decide_eq_true (by omega)
 have C1:=Lib.hid (fun v=>beforeP v b u hu (year_3 hu h1))
 clear hu
 go_enter Tryz.func54,Tryz.ntmps54
 go_wp2_with fail
 refine(C1.out _).mono ?_
 rintro e w1 ⟨rfl,hb1⟩
 obtain⟨k1,k2⟩:=bcell hb1
 have z1:w.heap.size<w1.heap.size:=by have:=hb1.size;simp at this;omega
 go_wp2
 go_ret
 exact⟨rfl,(ba.trans (hb1.mono (by simp))).alloc (by omega) _⟩
theorem mayShifts0 (w:World):Calls Tryz.prog 86 #[.slice none 0 0] w fun e w'=>e= .returned (.bool true)/\w'=w:=by
 go_enter Tryz.func86,Tryz.ntmps86
 go_wp2
 go_loop [10] (fun i=>i= .int .i64 0) (fun _=>0)
 case atStart=>exact rfl
 case round=>
  obtain rfl:=hrel
  go_wp2;go_ret;exact⟨rfl,rfl⟩
theorem mayYears0 (w:World) (b:Int):Calls Tryz.prog 87 #[.agg #[.int .i64 b,.slice none 0 0,.slice none 0 0,.int .i64 0]] w fun e w'=>e= .returned (.bool true)/\Below w.heap.size w w':=by
 have ba:=((Below.refl _ _).alloc (Nat.le_refl _) (.cells #[.int .i64 b,.slice none 0 0,.slice none 0 0,.int .i64 0] 50) (w:=w))
 go_enter Tryz.func87,Tryz.ntmps87
 go_wp2
 go_ret
 exact⟨rfl,ba⟩
theorem zMayP (w:World) (b:Int) (hb:offB b=true):Calls Tryz.prog 47 #[.agg #[.int .i64 b,.slice none 0 0,.slice none 0 0,.int .i64 0]] w fun e w'=>e= .returned (.bool true)/\Below w.heap.size w w':=by
 have ba:=((Below.refl _ _).alloc (Nat.le_refl _) (.cells #[.int .i64 b,.slice none 0 0,.slice none 0 0,.int .i64 0] 50) (w:=w))
 have O:=Lib.hid hb
 clear hb
 go_enter Tryz.func47,Tryz.ntmps47
 go_wp2_with fail
 refine(mayOff_yes _ _ O.out).mono ?_
 rintro e w1 ⟨rfl,rfl⟩
 go_wp2_with fail
 refine(mayShifts0 _).mono ?_
 rintro e w1 ⟨rfl,rfl⟩
 go_wp2_with fail
 refine(mayYears0 _ b).mono ?_
 rintro e w2 ⟨rfl,b2⟩
 have B2:=ba.trans (b2.mono (by simp))
 clear b2
 go_wp2
 go_ret
 exact⟨rfl,B2⟩
theorem UTCP (w:World) (b L:Int) (hb:offB b=true) (l1:1000000000<=L) (l2:L<=2000000000):
  Calls Tryz.prog 18 #[.agg #[.int .i64 b,.slice none 0 0,.slice none 0 0,.int .i64 0],.int .i64 L] w fun e w'=>e= .returned (.int .i64 (L-b))/\Below w.heap.size w w':=by
 have ba:=((Below.refl _ _).alloc (Nat.le_refl _) (.cells #[.int .i64 b,.slice none 0 0,.slice none 0 0,.int .i64 0] 50) (w:=w))
 have hA:=Blk.new w 50 #[.int .i64 b,.slice none 0 0,.slice none 0 0,.int .i64 0]
 obtain⟨b1,b2⟩:=offB_of hb
 have H:=Lib.hid hb
 clear hb
 go_enter Tryz.func18,Tryz.ntmps18
 go_wp2_with fail
 refine(zMayP _ b H.out).mono ?_
 rintro e w1 ⟨rfl,hb1⟩
 have hA1:=hA.below hb1 hA.lt
 have lz:=hA1.lt
 have z0:=hA1.cell 0;have z1:=hA1.cell 1;have z2:=hA1.cell 2;have z3:=hA1.cell 3
 simp at z0 z1 z2 z3
 go_wp2_with fail
 refine(offsetP _ b _ (by omega) (by omega)).mono ?_
 rintro e w2 ⟨rfl,hc2⟩
 have hb2:=hb1.trans (hc2.mono hb1.size)
 have hA2:=hA.below hb2 hA.lt
 clear lz z0 z1 z2 z3
 have lz:=hA2.lt
 have z0:=hA2.cell 0;have z1:=hA2.cell 1;have z2:=hA2.cell 2;have z3:=hA2.cell 3
 simp at z0 z1 z2 z3
 go_wp2_with fail
 refine(offsetP _ b _ (by omega) (by omega)).mono ?_
 rintro e w3 ⟨rfl,hc3⟩
 have hb3:=hb2.trans (hc3.mono hb2.size)
 have hA3:=hA.below hb3 hA.lt
 clear lz z0 z1 z2 z3
 have lz:=hA3.lt
 have z0:=hA3.cell 0;have z1:=hA3.cell 1;have z2:=hA3.cell 2;have z3:=hA3.cell 3
 simp at z0 z1 z2 z3
 go_wp2_with fail
 refine(offsetP _ b _ (by omega) (by omega)).mono ?_
 rintro e w4 ⟨rfl,hc4⟩
 have hb4:=hb3.trans (hc4.mono hb3.size)
 have hA4:=hA.below hb4 hA.lt
 clear lz z0 z1 z2 z3
 have lz:=hA4.lt
 have z0:=hA4.cell 0;have z1:=hA4.cell 1;have z2:=hA4.cell 2;have z3:=hA4.cell 3
 simp at z0 z1 z2 z3
 have t1:((L-b+b:Int) != L)=false:=by rw[bne_eq_false_iff_eq];omega
 go_wp2
 go_ret
 exact⟨rfl,ba.trans (hb4.mono (by simp))⟩
end Go.Proofs.YtddnnljfgfcplaaGreatDoor.Zn
