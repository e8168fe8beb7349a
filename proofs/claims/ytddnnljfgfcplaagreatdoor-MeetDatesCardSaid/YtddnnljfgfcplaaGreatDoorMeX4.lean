/- MeX4 -/
import Derived.Test.YtddnnljfgfcplaaGreatDoorMeX2
import Derived.Test.YtddnnljfgfcplaaGreatDoorMeN
set_option maxRecDepth 100000
set_option maxHeartbeats 4000000
set_option linter.unusedVariables false
namespace Go.Proofs.YtddnnljfgfcplaaGreatDoor.Me
open Lib (hid)
open Go.RowKit Cv St Ru Dd
theorem there_new (w:World) (c:Array Value) (T:TypeId) {n:Nat} (h:n<=c.size):(w.alloc (.cells c T)).there w.heap.size 0 n:=fun j hj=>by
 rw[Nat.zero_add,World.cell?_alloc_new]
 exact⟨by rw[Array.getElem?_eq_getElem (by omega)];rfl,by simp[go_sem]⟩
theorem there_below {w w':World} {g o n:Nat} (h:w.there g o n) (hg:g<w.heap.size) (b:Below w.heap.size w w'):w'.there g o n:=fun j hj=>by
 obtain⟨h1,h2⟩:=h j hj
 exact⟨by rw[b.cell (p:=⟨g,_,none⟩) hg];exact h1,by rw[b.frozen (p:=⟨g,_,none⟩) hg];exact h2⟩
theorem range_below {w w':World} {g o:Nat} {cs:List Value} (h:w.rangeAt g o cs) (hg:g<w.heap.size) (b:Below w.heap.size w w'):w'.rangeAt g o cs:=fun j v hv=>(b.cell (p:=⟨g,_,none⟩) hg).trans (h j v hv)
theorem cells_below {B:Nat} {W:World} {g:Nat} (hg:B<=g):∀(l:List Value) (i:Nat) (w:World),Below B W w->Below B W (w.setCells g i l)
 | [],_,_,h=>h
 |u::l,i,w,h=>cells_below hg l (i+1) _ (h.setCell (p:=⟨g,i,none⟩) hg u)
theorem RuAt.cells {S:RS} {r:Ru} {g:Nat} (f:RFar S g):∀(l:List Value) (i:Nat) (w:World),RuAt w S r->RuAt (w.setCells g i l) S r
 | [],_,_,h=>h
 |u::l,i,w,h=>RuAt.cells f l (i+1) _ (h.set f)
theorem rcells_size (S:RS) (r:Ru):(S.cells r).size=15:=rfl
theorem rcells_len (S:RS) (r:Ru):(S.cells r).toList.length=15:=rfl
theorem rcells_one (S:RS) (r:Ru):(S.cells r).all (·.oneCell')=true:=by
 unfold RS.cells
 simp[Value.oneCell']
theorem there_rule (w:World) (c:Array Value) (T:TypeId) (S:RS) (r:Ru) (hc:c.size=15):(w.alloc (.cells c T)).there w.heap.size 0 (S.cells r).size:=there_new w c T (by rw[hc];exact Nat.le_refl 15)
theorem there_rule' (w:World) (c:Array Value) (T:TypeId) (S:RS) (r:Ru) (hc:c.size=15):(w.alloc (.cells c T)).there w.heap.size 0 (S.cells r).toList.length:=there_new w c T (by rw[hc];exact Nat.le_refl 15)
theorem info_ru15 (S:RS) (r:Ru):(Tryz.prog.info? 25).map (·.size)=some (S.cells r).size:=by
 rw[rcells_size];kernel_rfl
theorem info_ru15' (S:RS) (r:Ru):(Tryz.prog.info? 25).map (·.size)=some (S.cells r).toList.length:=by
 rw[rcells_len];kernel_rfl
theorem getD_of {tm:Array Value} {k:Nat} {v:Value} (h:tm[k]? = some v):tm.getD k undef=v:=by
 rw[Array.getD_eq_getD_getElem?,h];rfl
theorem res_rec {tm:Array Value} {w:World} {g:Nat} {S:RS} {r:Ru} {b:Value} (hr:w.rangeAt g 0 (S.cells r).toList) (t2:tm[2]? = some (.pointer (some ⟨g,0,none⟩))) (t3:tm[3]? = some b):
  (results Tryz.f78 tm).run Tryz.prog w= .ok (.tuple #[.agg (S.cells r),b]) w:=by
 have:=run_loadVar_mid w g 0 25 (S.cells r).toList _ hr Tryz.underlying25 rfl (info_ru15' S r)
 rw[results_cell_tmp Tryz.results78,getD_of t2,getD_of t3]
 simp only[asAddr,Sem.run_pure,Result.andThen_ok,this]
def RecR (w:World) (r:Ru) (x:Int) (e:Ending) (w':World):Prop:=∃S:RS,e= .returned (.tuple #[.agg (S.cells r),.bool (decide (x=0))])/\RuAt w' S r/\RZero w.heap.size S/\Below w.heap.size w w'
theorem recurrence_is (s:ByteArray) (w:World) (T:Tabs w) (r:Ru) (a x:Int) (h:ruParse s.data.toList=(r,a,x)):
  Calls Tryz.prog 78 #[.string s] w (RecR w r x):=by
 have TT:=hid T
 have HH:=hid h
 clear T h
 obtain⟨z,hz⟩:∃z,decide (x=0)=z:=⟨_,rfl⟩
 have t1:((x:Int)==0)=z:=by rw[<-hz];rfl
 unfold RecR
 rw[hz]
 clear hz
 go_enter Tryz.func78,Tryz.ntmps78
 go_wp2_with fail
 have ba:=Ru.alloc_below w (.cells (S0.cells Ru.zeroR) 25)
 have TH0:=hid (there_new w (S0.cells Ru.zeroR) 25 (n:=15) (by decide))
 have z0:w.heap.size<(w.alloc (.cells (S0.cells Ru.zeroR) 25)).heap.size:=by simp
 refine(parse_okF s _ (TT.out.on ba) r a x HH.out).mono ?_
 rintro e w1 ⟨S,he,ra,rz,b1⟩
 have he':e= .returned (.tuple #[.agg (S.cells r),.int .i64 a,.int .i64 x]):=he
 subst he'
 have RA:=hid ra
 have RZ:=hid rz
 have B1:=hid (ba.trans (b1.mono ba.size))
 have T1:=hid (there_below TH0.out z0 b1)
 have ZZ:=hid (Nat.lt_of_lt_of_le z0 b1.size)
 have NE:=hid rz
 clear he ba ra rz b1 z0 TH0 TT HH
 have w1s:=B1.out.size
 obtain⟨w2,hw2⟩:∃w2:World,w2=(w1.alloc (.cells #[.int .i64 0,.int .i64 0,.int .i64 0,.int .i64 0,.int .i64 0,.bool false,.slice none 0 0,.slice none 0 0,.slice none 0 0,.slice none 0 0,.slice none 0 0,.slice none 0 0,.slice none 0 0,.slice none 0 0,.slice none 0 0] 25)).setCells w1.heap.size 0 (S.cells r).toList:=⟨_,rfl⟩
 have st:Below w1.heap.size w1 w2:=by rw[hw2];exact cells_below (Nat.le_refl _) _ _ _ (Ru.alloc_below w1 _)
 have rg:w2.rangeAt w1.heap.size 0 (S.cells r).toList:=by rw[hw2];exact World.rangeAt_setCells_same _ _ _ _ (there_rule' w1 _ _ S r rfl)
 have TH:=hid (show w2.there w.heap.size 0 (S.cells r).size from there_below T1.out ZZ.out st)
 have TH':=hid (show w2.there w.heap.size 0 (S.cells r).toList.length from TH.out)
 have RA2:=hid (RA.out.below st)
 have B2:=hid (B1.out.trans (st.mono w1s))
 have RG:=hid rg
 have FR:=hid (far_low (RZ.out.mono (show w.heap.size+1<=(w.alloc (.cells (S0.cells Ru.zeroR) 25)).heap.size by simp)) (Nat.lt_succ_self _))
 have RZ':=hid (RZ.out.mono (show w.heap.size<=(w.alloc (.cells (S0.cells Ru.zeroR) 25)).heap.size by simp))
 clear st rg RA B1 T1 RZ NE
 go_wp2_with (first
  | (refine wpList_store_mid rfl 25 _ _ rfl w1.heap.size 0 (S.cells r) rfl rfl (there_rule w1 #[.int .i64 0,.int .i64 0,.int .i64 0,.int .i64 0,.int .i64 0,.bool false,.slice none 0 0,.slice none 0 0,.slice none 0 0,.slice none 0 0,.slice none 0 0,.slice none 0 0,.slice none 0 0,.slice none 0 0,.slice none 0 0] 25 S r rfl) (info_ru15 S r) (rcells_one S r) ?_;rw[<-hw2];clear hw2)
  | (refine wpList_load_mid rfl 25 _ rfl w1.heap.size 0 rfl (S.cells r).toList _ RG.out Tryz.underlying25 rfl (info_ru15' S r) ?_)
  | (refine wpList_store_mid rfl 25 _ _ rfl w.heap.size 0 (S.cells r) rfl rfl TH.out (info_ru15 S r) (rcells_one S r) ?_)
  |fail)
 exact bodyPost_ret (res_rec (World.rangeAt_setCells_same _ _ _ _ TH'.out) rfl rfl) rfl ⟨S,rfl,RuAt.cells FR.out _ _ _ RA2.out,RZ'.out,cells_below (Nat.le_refl _) _ _ _ B2.out⟩
end Go.Proofs.YtddnnljfgfcplaaGreatDoor.Me
namespace Go.Proofs.YtddnnljfgfcplaaGreatDoor.Me
open Lib (hid)
open Go.RowKit Cv St Ru Dd Go.Proofs.YtddnnljfgfcplaaGreatDoor.Fd
def mcells (S:MS) (m:Mt):List Value:= [.int .i64 m.zone,.int .i64 m.start,.int .i64 m.dur,.bool m.recs,.int .i64 m.rule.freq,.int .i64 m.rule.itv,.int .i64 m.rule.cnt,.int .i64 m.rule.til,.int .i64 m.rule.wkst,.bool m.rule.ends,.slice S.R.a6 S.R.n6 S.R.c6,.slice S.R.a7 S.R.n7 S.R.c7,.slice S.R.a8 S.R.n8 S.R.c8,.slice S.R.a9 S.R.n9 S.R.c9,.slice S.R.a10 S.R.n10 S.R.c10,.slice S.R.a11 S.R.n11 S.R.c11,.slice S.R.a12 S.R.n12 S.R.c12,.slice S.R.a13 S.R.n13 S.R.c13,.slice S.R.a14 S.R.n14 S.R.c14,.slice S.ad S.nd S.cd,.slice S.ae S.ne S.ce]
theorem mcells_len (S:MS) (m:Mt):(mcells S m).length=21:=rfl
structure Kg (g:Nat) (w w':World):Prop where
 os:w'.os=w.os
 tape:w'.tape=w.tape
 output:w'.output=w.output
 size:w.heap.size<=w'.heap.size
 block:∀k,k<w.heap.size->k≠g->w'.heap[k]? = w.heap[k]?
theorem Kg.refl (g:Nat) (w:World):Kg g w w:=⟨rfl,rfl,rfl,Nat.le_refl _,fun _ _ _=>rfl⟩
theorem Kg.of {g:Nat} {w w':World} (b:Below w.heap.size w w'):Kg g w w':=⟨b.os,b.tape,b.output,b.size,fun k hk _=>b.block k hk⟩
theorem Kg.trans {g:Nat} {a b c:World} (h:Kg g a b) (k:Kg g b c):Kg g a c:=
 ⟨k.os.trans h.os,k.tape.trans h.tape,k.output.trans h.output,Nat.le_trans h.size k.size,fun i hi hf=>(k.block i (Nat.lt_of_lt_of_le hi h.size) hf).trans (h.block i hi hf)⟩
theorem Kg.cells {g:Nat}:∀(l:List Value) (i:Nat) (w:World),Kg g w (w.setCells g i l)
 | [],_,_=>Kg.refl _ _
 |u::l,i,w=>Kg.trans (b:=w.setCell ⟨g,i,none⟩ u) ⟨rfl,rfl,rfl,by simp[World.setCell],fun k hk hf=>Below.heap_setCell _ _ _ _ (fun e=>hf e)⟩ (Kg.cells l (i+1) _)
theorem Kg.one {g:Nat} (w:World) (i:Nat) (u:Value):Kg g w (w.setCell ⟨g,i,none⟩ u):=Kg.cells [u] i w
theorem Kg.below {g B:Nat} {w w':World} (h:Kg g w w') (hB:B<=w.heap.size) (hg:B<=g):Below B w w':=⟨h.os,h.tape,h.output,h.size,fun k hk=>h.block k (by omega) (by omega)⟩
theorem Kg.cell {g:Nat} {w w':World} (h:Kg g w w') {b o:Nat} (hb:b<w.heap.size) (hn:b≠g):w'.cell? ⟨b,o,none⟩=w.cell? ⟨b,o,none⟩:=World.cell?_of_block (w:=w) (h.block b hb hn)
theorem range_set {w:World} {g k:Nat} {cs:List Value} {u:Value} (h:w.rangeAt g 0 cs) (hk:k<cs.length):(w.setCell ⟨g,k,none⟩ u).rangeAt g 0 (cs.set k u):=fun j v hv=>by
 rw[Nat.zero_add]
 by_cases e:j=k
 ·subst e
  rw[List.getElem?_set_self hk] at hv;injection hv with hv;subst hv
  have:=h j _ (List.getElem?_eq_getElem hk)
  rw[Nat.zero_add] at this;exact World.cell?_setCell_same _ _ _ this
 ·rw[List.getElem?_set_ne (fun q=>e q.symm)] at hv
  have:=h j v hv
  rw[Nat.zero_add] at this;exact(World.cell?_setCell_other _ _ _ _ (by intro q;injection q with _ q;exact e q.symm)).trans this
theorem there_set {w:World} {g n k:Nat} {u:Value} (h:w.there g 0 n):(w.setCell ⟨g,k,none⟩ u).there g 0 n:=World.there_setCells h g k [u]
structure MBox (w:World) (g:Nat) (S:MS) (m:Mt):Prop where
 lt:g<w.heap.size
 cells:w.rangeAt g 0 (mcells S m)
 there:w.there g 0 21
 at_:MtAt w S m
 fr:RFar S.R g
 fd:Far S.ad g
 fe:Far S.ae g
section
variable {w w':World} {g:Nat} {S:MS} {m:Mt}
theorem MBox.below (h:MBox w g S m) (b:Below w.heap.size w w'):MBox w' g S m:=
 ⟨Nat.lt_of_lt_of_le h.lt b.size,range_below h.cells h.lt b,there_below h.there h.lt b,h.at_.below b,h.fr,h.fd,h.fe⟩
theorem MBox.cell (h:MBox w g S m) {k:Nat} {u:Value} (e:(mcells S m)[k]? = some u):w.cell? ⟨g,k,none⟩=some u:=by
 have:=h.cells k u e
 rwa [Nat.zero_add] at this
theorem MBox.free (h:MBox w g S m) {k:Nat} (hk:k<21):w.frozen? ⟨g,k,none⟩=false:=by
 have:=(h.there k hk).2
 rwa [Nat.zero_add] at this
theorem MtAt.set {k:Nat} {u:Value} (h:MtAt w S m) (fr:RFar S.R g) (fd:Far S.ad g) (fe:Far S.ae g):MtAt (w.setCell ⟨g,k,none⟩ u) S m:=⟨h.rule.set fr,h.dates.set fd,h.exc.set fe,h.ld,h.le,h.dc,h.ec,h.zd⟩
theorem MBox.put {k:Nat} {u:Value} (h:MBox w g S m) (hk:k<21) {m':Mt} (e:(mcells S m).set k u=mcells S m') (e1:m'.rule=m.rule) (e2:m'.dates=m.dates) (e3:m'.exc=m.exc):MBox (w.setCell ⟨g,k,none⟩ u) g S m':=by
 refine⟨by simpa [World.setCell] using h.lt,by rw[<-e];exact range_set h.cells (by rw[mcells_len];exact hk),there_set h.there,?_,h.fr,h.fd,h.fe⟩
 have a:=MtAt.set (k:=k) (u:=u) h.at_ h.fr h.fd h.fe
 exact⟨by rw[e1];exact a.rule,by rw[e2];exact a.dates,by rw[e3];exact a.exc,a.ld,a.le,a.dc,a.ec,a.zd⟩
end
def startM (m:Mt) (n:Option Int) (p:Int×Int):Option Mt:=match n with
 |none=>none
 |some z=>if p.2=0 then some { m with zone:=z,start:=p.1 } else none
noncomputable def takeM (m:Mt):Nat->List UInt8->Option Mt
 |0,l=>startM m (numOf (Lib.cut l [58]).1) (St.parse (Lib.cut l [58]).2.1)
 |1,l=>if (St.durParse l).2=0 then some { m with dur:=(St.durParse l).1 } else none
 |2,l=>if (ruParse l).2.2=0 then some { m with recs:=true,rule:=(ruParse l).1 } else none
 |3,l=>(momsOf l).map fun d=>{ m with dates:=d }
 |_,l=>(momsOf l).map fun d=>{ m with exc:=d }
structure MZero (B:Nat) (S:MS):Prop where
 r:RZero B S.R
 d:Fresh B S.ad
 e:Fresh B S.ae
def TakeR (w:World) (g:Nat) (S:MS) (o:Option Mt) (e:Ending) (w':World):Prop:=
 Kg g w w'/\(o=none/\e= .returned (.bool false)\/∃m' S',o=some m'/\e= .returned (.bool true)/\MBox w' g S' m'/\∀B,B<=w.heap.size->MZero B S->MZero B S')
theorem cut_len58 {l x y:List UInt8} {b:Bool} (h:Lib.cut l [58]=(x,y,b)):x.length<=l.length/\y.length<=l.length:=by
 rw[cut_eq] at h
 split at h
 ·injection h with h1 h2;injection h2 with h2 h3
  rw[<-h1,<-h2];exact⟨bef1_len 58 l,aft1_len 58 l⟩
 ·injection h with h1 h2;injection h2 with h2 h3
  rw[<-h1,<-h2];exact⟨Nat.le_refl _,Nat.zero_le _⟩
theorem take0 (w:World) (T:Tabs w) (g:Nat) (S:MS) (m:Mt) (s:ByteArray) (hs:s.size<=100000) (h:MBox w g S m) (o:Option Mt) (ho:takeM m 0 s.data.toList=o):
  Calls Tryz.prog 36 #[.pointer (some ⟨g,0,none⟩),.int .i64 0,.string s] w (TakeR w g S o):=by
 have TT:=hid T
 have HH:=hid h
 obtain⟨x,y,b,hc⟩:∃x y b,Lib.cut s.data.toList [58]=(x,y,b):=⟨_,_,_,rfl⟩
 obtain⟨n,hn⟩:∃n,numOf x=n:=⟨_,rfl⟩
 obtain⟨t,e0,hp⟩:∃t e0,St.parse y=(t,e0):=⟨_,_,rfl⟩
 have hl:=cut_len58 hc
 have HO:=hid (show startM m n (t,e0)=o by rw[<-ho,show takeM m 0 s.data.toList=startM m (numOf (Lib.cut s.data.toList [58]).1) (St.parse (Lib.cut s.data.toList [58]).2.1) from rfl,hc,hn,hp])
 have ST:=hid (fun w T=>start_is s (str x) (str y) b n t e0 w T (by omega) (by rw[str_size];have:=hl.1;simp at this;omega) (by rw[str_size];have:=hl.2;simp at this;omega) (by rw[list_str,list_str];exact hc) (by rw[list_str];exact hn) (by rw[list_str];exact hp))
 clear T h ho hc hn hp hl
 go_enter Tryz.func36,Tryz.ntmps36
 go_wp2_with fail
 refine(ST.out w TT.out).mono ?_
 rintro e w1 ⟨rfl,b1⟩
 have M1:=hid (HH.out.below b1)
 have K1:=hid (Kg.of (g:=g) b1)
 have z0:=M1.out.cell (k:=0) rfl
 have z1:=M1.out.cell (k:=1) rfl
 have y0:=M1.out.free (k:=0) (by decide)
 have y1:=M1.out.free (k:=1) (by decide)
 clear b1 ST HH TT
 obtain⟨nz,hnz⟩:∃z,z=n.getD 0:=⟨_,rfl⟩
 obtain⟨bz,hbz⟩:∃z,z=(n.isSome&&decide (e0=0)):=⟨_,rfl⟩
 rw[<-hnz,<-hbz]
 have M2:=hid (show MBox ((w1.setCell ⟨g,0,none⟩ (.int .i64 nz)).setCell ⟨g,1,none⟩ (.int .i64 t)) g S { m with zone:=nz,start:=t } from (M1.out.put (k:=0) (u:= .int .i64 nz) (by decide) (m':={ m with zone:=nz }) rfl rfl rfl rfl).put (k:=1) (by decide) rfl rfl rfl rfl)
 have K2:=hid (K1.out.trans ((Kg.one w1 0 (.int .i64 nz)).trans (Kg.one _ 1 (.int .i64 t))))
 have HN:=hid hnz
 have HB:=hid hbz
 clear hnz hbz M1 K1
 go_wp2
 go_ret
 refine⟨K2.out,?_⟩
 have e1:=HO.out
 have e2:=HB.out
 have e3:=HN.out
 cases n with
 |none=>exact .inl ⟨e1.symm,by rw[e2];rfl⟩
 |some z=>
  obtain rfl:nz=z:=e3
  by_cases q:e0=0
  ·rw[show startM m (some nz) (t,e0)=some { m with zone:=nz,start:=t } from if_pos q] at e1
   exact .inr ⟨_,S,e1.symm,by rw[e2,q];rfl,M2.out,fun _ _ z=>z⟩
  ·rw[show startM m (some nz) (t,e0)=none from if_neg q] at e1
   exact .inl ⟨e1.symm,by rw[e2];simp[q]⟩
theorem IsAt.cells {g:Nat} {A:Option Addr} {n:Nat} {x:List Int} (f:Far A g):∀(l:List Value) (i:Nat) (w:World),IsAt w A n x->IsAt (w.setCells g i l) A n x
 | [],_,_,h=>h
 |u::l,i,w,h=>IsAt.cells f l (i+1) _ (h.set f)
theorem take1 (w:World) (T:Tabs w) (g:Nat) (S:MS) (m:Mt) (s:ByteArray) (hs:s.size<=100000) (h:MBox w g S m) (o:Option Mt) (ho:takeM m 1 s.data.toList=o):
  Calls Tryz.prog 36 #[.pointer (some ⟨g,0,none⟩),.int .i64 1,.string s] w (TakeR w g S o):=by
 have TT:=hid T
 have HH:=hid h
 obtain⟨t,e0,hp⟩:∃t e0,St.durParse s.data.toList=(t,e0):=⟨_,_,rfl⟩
 have HO:=hid (show (if e0=0 then some { m with dur:=t } else none)=o by rw[<-ho,show takeM m 1 s.data.toList=if (St.durParse s.data.toList).2=0 then some { m with dur:=(St.durParse s.data.toList).1 } else none from rfl,hp])
 have ST:=hid (fun w T=>duration_is s t e0 w T (by omega) hp)
 clear T h ho hp
 go_enter Tryz.func36,Tryz.ntmps36
 go_wp2_with fail
 refine(ST.out w TT.out).mono ?_
 rintro e w1 ⟨rfl,b1⟩
 have M1:=hid (HH.out.below b1)
 have K1:=hid (Kg.of (g:=g) b1)
 have z0:=M1.out.cell (k:=2) rfl
 have y0:=M1.out.free (k:=2) (by decide)
 clear b1 ST HH TT
 obtain⟨bz,hbz⟩:∃z,z=decide (e0=0):=⟨_,rfl⟩
 rw[<-hbz]
 have M2:=hid (show MBox (w1.setCell ⟨g,2,none⟩ (.int .i64 t)) g S { m with dur:=t } from M1.out.put (k:=2) (by decide) rfl rfl rfl rfl)
 have K2:=hid (K1.out.trans (Kg.one w1 2 (.int .i64 t)))
 have HB:=hid hbz
 clear hbz M1 K1
 go_wp2
 go_ret
 refine⟨K2.out,?_⟩
 have e1:=HO.out
 have e2:=HB.out
 by_cases q:e0=0
 ·rw[if_pos q] at e1
  exact .inr ⟨_,S,e1.symm,by rw[e2,q];rfl,M2.out,fun _ _ z=>z⟩
 ·rw[if_neg q] at e1
  exact .inl ⟨e1.symm,by rw[e2];simp[q]⟩
theorem range_mid {w:World} {g k:Nat} {cs l:List Value} (h:w.rangeAt g 0 cs) (hk:k+l.length<=cs.length):(w.setCells g k l).rangeAt g 0 (cs.take k++(l++cs.drop (k+l.length))):=fun j v hv=>by
 rw[Nat.zero_add]
 have some_:∀i,i<l.length->(w.cell? ⟨g,k+i,none⟩).isSome=true:=fun i hi=>by
  have:=h (k+i) _ (List.getElem?_eq_getElem (by omega))
  rw[Nat.zero_add] at this;rw[this];rfl
 have hc:(cs.take k).length=k:=by rw[List.length_take];omega
 by_cases h1:j<k
 ·rw[List.getElem?_append_left (by omega),List.getElem?_take,if_pos h1] at hv
  have:=h j v hv
  rw[Nat.zero_add] at this;exact(World.cell?_setCells_out g l k w ⟨g,j,none⟩ (fun _ _ => .inl h1)).trans this
 ·rw[List.getElem?_append_right (by omega),hc] at hv
  by_cases h2:j-k<l.length
  ·rw[List.getElem?_append_left h2] at hv
   have:=World.cell?_setCells_in g l k w some_ (j-k) h2
   rw[show k+(j-k)=j by omega] at this;rw[this,<-hv,List.getElem?_eq_getElem h2]
  ·rw[List.getElem?_append_right (by omega),List.getElem?_drop,show k+l.length+(j-k-l.length)=j by omega] at hv
   have:=h j v hv
   rw[Nat.zero_add] at this;exact(World.cell?_setCells_out g l k w ⟨g,j,none⟩ (fun _ _ => .inr (by show k+l.length<=j;omega))).trans this
theorem there_part {w:World} {g k n:Nat} (h:w.there g 0 21) (hn:k+n<=21):w.there g k n:=fun j hj=>by
 have:=h (k+j) (by omega)
 rwa [Nat.zero_add] at this
theorem take2 (w:World) (T:Tabs w) (g:Nat) (S:MS) (m:Mt) (s:ByteArray) (hs:s.size<=100000) (h:MBox w g S m) (o:Option Mt) (ho:takeM m 2 s.data.toList=o):
  Calls Tryz.prog 36 #[.pointer (some ⟨g,0,none⟩),.int .i64 2,.string s] w (TakeR w g S o):=by
 have TT:=hid T
 have HH:=hid h
 obtain⟨r,a,x,hp⟩:∃r a x,ruParse s.data.toList=(r,a,x):=⟨_,_,_,rfl⟩
 have HO:=hid (show (if x=0 then some { m with recs:=true,rule:=r } else none)=o by rw[<-ho,show takeM m 2 s.data.toList=if (ruParse s.data.toList).2.2=0 then some { m with recs:=true,rule:=(ruParse s.data.toList).1 } else none from rfl,hp])
 have ST:=hid (fun w T=>recurrence_is s w T r a x hp)
 clear T h ho hp
 go_enter Tryz.func36,Tryz.ntmps36
 go_wp2_with fail
 refine(ST.out w TT.out).mono ?_
 rintro e w1 ⟨R,rfl,ra,rz,b1⟩
 have m1:=HH.out.below b1
 have k1:=Kg.of (g:=g) b1
 obtain⟨bz,hbz⟩:∃z,z=decide (x=0):=⟨_,rfl⟩
 rw[<-hbz]
 have HB:=hid hbz
 obtain⟨w2,hw2⟩:∃w2:World,w2=w1.setCells g 4 (R.cells r).toList:=⟨_,rfl⟩
 have fr:=far_low rz HH.out.lt
 have RZ:=hid rz
 have M2:=hid (show MBox w2 g { S with R:=R } { m with rule:=r } from by
  rw[hw2];have a1:=range_mid (k:=4) (l:=(R.cells r).toList) m1.cells (by rw[mcells_len,rcells_len];decide);refine⟨Nat.lt_of_lt_of_le m1.lt (Kg.cells _ _ _).size,a1,World.there_setCells m1.there _ _ _,?_,fr,m1.fd,m1.fe⟩;have rr:=RuAt.cells fr (R.cells r).toList 4 w1 ra;have dd:=IsAt.cells m1.fd (R.cells r).toList 4 w1 m1.at_.dates;have ee:=IsAt.cells m1.fe (R.cells r).toList 4 w1 m1.at_.exc
  exact⟨rr,dd,ee,m1.at_.ld,m1.at_.le,m1.at_.dc,m1.at_.ec,m1.at_.zd⟩)
 have K2:=hid (show Kg g w w2 by rw[hw2];exact k1.trans (Kg.cells _ _ _))
 have TH:=hid (show w1.there g 4 (R.cells r).size from there_part m1.there (by rw[rcells_size];decide))
 have z3:=M2.out.cell (k:=3) rfl
 have y3:=M2.out.free (k:=3) (by decide)
 have M3:=hid (show MBox (w2.setCell ⟨g,3,none⟩ (.bool true)) g { S with R:=R } { m with recs:=true,rule:=r } from M2.out.put (k:=3) (by decide) rfl rfl rfl rfl)
 have K3:=hid (K2.out.trans (Kg.one w2 3 (.bool true)))
 clear hbz m1 k1 fr ra rz b1 M2 K2 ST HH TT
 go_wp2_with (first
  | (refine wpList_store_mid rfl 25 _ _ rfl g 4 (R.cells r) rfl rfl TH.out (info_ru15 R r) (rcells_one R r) ?_;rw[<-hw2];clear hw2)
  |fail)
 go_ret
 refine⟨K3.out,?_⟩
 have e1:=HO.out
 have e2:=HB.out
 by_cases q:x=0
 ·rw[if_pos q] at e1
  exact .inr ⟨_,_,e1.symm,by rw[e2,q];rfl,M3.out,fun B hB z=>⟨RZ.out.mono hB,z.d,z.e⟩⟩
 ·rw[if_neg q] at e1
  exact .inl ⟨e1.symm,by rw[e2];simp[q]⟩
theorem momG_len:∀(ps:List (List UInt8)) (acc L:List Int),momG acc ps=some L->L.length=acc.length+ps.length
 | [],acc,L,h=>by rw[momG_nil] at h;injection h with h;subst h;rfl
 |p::t,acc,L,h=>by
  unfold momG at h
  split at h
  ·cases h
  ·split at h
   ·cases h
   ·have:=momG_len t _ L h
    rw[this,List.length_append,List.length_cons,List.length_cons,List.length_nil];omega
theorem moms_len {l:List UInt8} {L:List Int} (h:momsOf l=some L):L.length<=64:=by
 unfold momsOf at h
 split at h
 ·cases h
 ·have:=momG_len _ _ _ h
  rw[this,List.length_nil];omega
theorem take3 (w:World) (T:Tabs w) (g:Nat) (S:MS) (m:Mt) (s:ByteArray) (hs:s.size<=100000) (h:MBox w g S m) (o:Option Mt) (ho:takeM m 3 s.data.toList=o):
  Calls Tryz.prog 36 #[.pointer (some ⟨g,0,none⟩),.int .i64 3,.string s] w (TakeR w g S o):=by
 have TT:=hid T
 have HH:=hid h
 obtain⟨q,hq⟩:∃q,momsOf s.data.toList=q:=⟨_,rfl⟩
 have HO:=hid (show (q.map fun d=>({ m with dates:=d }:Mt))=o by rw[<-ho,<-hq];rfl)
 have QL:=hid (show ∀L,q=some L->L.length<=64 from fun L e=>moms_len (hq.trans e))
 have ST:=hid (fun w T=>moments_is s q w T (by omega) hq)
 clear T h ho hq
 go_enter Tryz.func36,Tryz.ntmps36
 go_wp2_with fail
 refine(ST.out w TT.out).mono ?_
 rintro e w1 ⟨hm,b1⟩
 have M1:=hid (HH.out.below b1)
 have K1:=hid (Kg.of (g:=g) b1)
 have LT:=hid HH.out.lt
 have z0:=M1.out.cell (k:=19) rfl
 have y0:=M1.out.free (k:=19) (by decide)
 clear b1 ST HH TT
 rcases hm with ⟨rfl,rfl⟩|⟨L,A,c,rfl,rfl,i1,i2,i3,i4⟩
 ·have K2:=hid (K1.out.trans (Kg.one w1 19 (.slice none 0 0)))
  clear M1 K1;go_wp2;go_ret;exact⟨K2.out,.inl ⟨HO.out.symm,rfl⟩⟩
 ·have fa:=Far.fresh i4 LT.out
  have I4:=hid i4;have m1:=M1.out
  have M2:=hid (show MBox (w1.setCell ⟨g,19,none⟩ (.slice A L.length c)) g { S with ad:=A,nd:=L.length,cd:=c } { m with dates:=L } from by
   refine⟨by simpa [World.setCell] using m1.lt,range_set m1.cells (by rw[mcells_len];decide),there_set m1.there,?_,m1.fr,fa,m1.fe⟩;have ll:=QL.out L rfl
   exact⟨m1.at_.rule.set m1.fr,i1.set fa,m1.at_.exc.set m1.fe,by show L.length<=_;omega,m1.at_.le,i2,m1.at_.ec,i3⟩)
  have K2:=hid (K1.out.trans (Kg.one w1 19 (.slice A L.length c)));clear M1 K1 m1 fa i1 i2 i3 i4;generalize L.length=n at *;go_wp2;go_ret;exact⟨K2.out,.inr ⟨_,_,HO.out.symm,rfl,M2.out,fun B hB z=>⟨z.r,I4.out.mono hB,z.e⟩⟩⟩
theorem take4 (w:World) (T:Tabs w) (g:Nat) (S:MS) (m:Mt) (s:ByteArray) (hs:s.size<=100000) (h:MBox w g S m) (o:Option Mt) (ho:takeM m 4 s.data.toList=o):
  Calls Tryz.prog 36 #[.pointer (some ⟨g,0,none⟩),.int .i64 4,.string s] w (TakeR w g S o):=by
 have TT:=hid T
 have HH:=hid h
 obtain⟨q,hq⟩:∃q,momsOf s.data.toList=q:=⟨_,rfl⟩
 have HO:=hid (show (q.map fun d=>({ m with exc:=d }:Mt))=o by rw[<-ho,<-hq];rfl)
 have QL:=hid (show ∀L,q=some L->L.length<=64 from fun L e=>moms_len (hq.trans e))
 have ST:=hid (fun w T=>moments_is s q w T (by omega) hq)
 clear T h ho hq
 go_enter Tryz.func36,Tryz.ntmps36
 go_wp2_with fail
 refine(ST.out w TT.out).mono ?_
 rintro e w1 ⟨hm,b1⟩
 have M1:=hid (HH.out.below b1)
 have K1:=hid (Kg.of (g:=g) b1)
 have LT:=hid HH.out.lt
 have z0:=M1.out.cell (k:=20) rfl
 have y0:=M1.out.free (k:=20) (by decide)
 clear b1 ST HH TT
 rcases hm with ⟨rfl,rfl⟩|⟨L,A,c,rfl,rfl,i1,i2,i3,i4⟩
 ·have K2:=hid (K1.out.trans (Kg.one w1 20 (.slice none 0 0)))
  clear M1 K1;go_wp2;go_ret;exact⟨K2.out,.inl ⟨HO.out.symm,rfl⟩⟩
 ·have fa:=Far.fresh i4 LT.out
  have I4:=hid i4;have m1:=M1.out
  have M2:=hid (show MBox (w1.setCell ⟨g,20,none⟩ (.slice A L.length c)) g { S with ae:=A,ne:=L.length,ce:=c } { m with exc:=L } from by
   refine⟨by simpa [World.setCell] using m1.lt,range_set m1.cells (by rw[mcells_len];decide),there_set m1.there,?_,m1.fr,m1.fd,fa⟩;have ll:=QL.out L rfl
   exact⟨m1.at_.rule.set m1.fr,m1.at_.dates.set m1.fd,i1.set fa,m1.at_.ld,by show L.length<=_;omega,m1.at_.dc,i2,m1.at_.zd⟩)
  have K2:=hid (K1.out.trans (Kg.one w1 20 (.slice A L.length c)));clear M1 K1 m1 fa i1 i2 i3 i4;generalize L.length=n at *;go_wp2;go_ret;exact⟨K2.out,.inr ⟨_,_,HO.out.symm,rfl,M2.out,fun B hB z=>⟨z.r,z.d,I4.out.mono hB⟩⟩⟩
end Go.Proofs.YtddnnljfgfcplaaGreatDoor.Me
