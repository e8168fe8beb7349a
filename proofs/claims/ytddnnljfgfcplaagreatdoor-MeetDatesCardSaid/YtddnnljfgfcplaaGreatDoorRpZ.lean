/- A rule that came in, opened: its numbers, its slices as lists; a slice of numbers; and behind a law that makes memory of its own the arguments read as they did. What the row's list of package variables, and the world's shape, give the walks. What vokref.FewRule answers. Two boxes of a law's own. voklaw5.first answers true. -/
import Derived.Test.YtddnnljfgfcplaaGreatDoorLawPost
import Derived.LaidMore
import Derived.Stop.LaidErr
import Derived.Lib.LaidU8
import Derived.Test.YtddnnljfgfcplaaGreatDoorRpP
set_option linter.unusedVariables false
namespace Go.Proofs.YtddnnljfgfcplaaGreatDoor.Ru
open Go.ChangeShapes Go.WideShapes Go.RowKit Go.Deep Cv St
theorem addr_plus (b off n:Nat):(⟨b,off,none⟩:Addr).add n=⟨b,off+n,none⟩:=by
 unfold Addr.add;split
 ·rename_i h;rw[h];rfl
 ·rfl
theorem list_of {α:Type} (d:α) {Q:Nat->α->Prop}:∀ {n:Nat},(∀i,i<n->∃s,Q i s)->∃l:List α,l.length=n/\∀i,i<n->Q i (l.getD i d)
 |0,_=>⟨[],rfl,fun i h=>by omega⟩
 |n+1,h=>by
  obtain⟨l,hl,hq⟩:=list_of (n:=n) d fun i hi=>h i (by omega)
  obtain⟨s,hs⟩:=h n (by omega);refine⟨l++[s],by simp[hl],fun i hi => ?_⟩;rw[List.getD_eq_getElem?_getD]
  by_cases e:i=n
  ·subst e;rw[<-hl,List.getElem?_append_right (Nat.le_refl _)];simpa [hl] using hs
  ·rw[List.getElem?_append_left (by omega),<-List.getD_eq_getElem?_getD];exact hq i (by omega)
section
variable {H:Type} {enc:TypeId×Value->H} {P:Program} {W:World} {base:Nat} {spare:Nat->Bool} {held:Bool}
theorem field_at {e:TypeId} {fs:Array Field} {n:Nat} {cs:List Value} {x:DataW H×List MemPlace} (he:P.underlying e=some (.struct fs)) (hone:oneCellFields P fs=true) (hC:P.cellsOf e=fs.size)
  (h:DataW.trod enc P W base spare held n e cs=some x):∀(j:Nat) (f:Field),fs[j]? = some f->∃(y:DataW H×List MemPlace) (m:Nat) (c:Value),cs[j]? = some c/\DataW.trod enc P W base spare held m f.type [c]=some y:=by
 intro j f hfj
 have hj:j<fs.size:=(Array.getElem?_eq_some_iff.1 hfj).1
 obtain⟨xs,m,rfl,_,hlen,hxs,hf⟩:=DataW.trod_struct he h
 obtain⟨ho,hk⟩:=hone_of hone j _ hfj
 have hjc:j<cs.length:=by rw[hlen,hC];exact hj
 have ht:=hf j _ hfj
 rw[ho,hk,List.drop_eq_getElem_cons hjc,List.take_succ_cons,List.take_zero,List.getElem?_eq_getElem (by omega)] at ht
 exact⟨_,_,cs[j],List.getElem?_eq_getElem hjc,ht⟩
end
section
variable {H:Type} {enc:TypeId×Value->H} {W:World} {base:Nat} {spare:Nat->Bool} {held:Bool}
theorem is_open {n:Nat} {v:Value} {y:DataW H×List MemPlace} (h:DataW.trod enc Tryz.prog W base spare held n 22 [v]=some y):
  ∃A k c l,v= .slice A k c/\IsAt W A k l/\k<=9223372036854775807/\(∀j,-9223372036854775808<=iat l j/\iat l j<=9223372036854775807)/\(A=none->c=0):=by
 rcases open_slice Tryz.underlying22 h with ⟨hc,_⟩|⟨a,len,cap,m,n',D,Pl,hc,_,hl,hm,hmm,_,hi⟩
 ·injection hc with hc
  exact⟨none,0,0,[],hc,IsAt.nil _ _,by omega,fun j=>by unfold iat;simp,fun _=>rfl⟩
 ·injection hc with hc
  have hlm:len<=m:=by rw[hmm];split<;>omega
  have each:∀i,i<len->∃z:Int,W.cell? (a.add i)=some (.int .i64 z)/\-9223372036854775808<=z/\z<=9223372036854775807:=fun i hi'=>by
   obtain⟨cs,hcs,ht⟩:=hi i (by omega);have e2:Tryz.prog.cellsOf 3=1:=by kernel_rfl
   rw[e2,Nat.mul_one] at hcs;obtain⟨_,hlen,hcell⟩:=World.cells?_some hcs
   obtain⟨x,rfl⟩:∃x,cs=[x]:=by
    match cs,hlen with
    | [x],_=>exact⟨x,rfl⟩
   obtain⟨z,hz,_,wz⟩:=DataW.trod_int Tryz.underlying3 ht;injection hz with hz;subst hz;have b:=bounds_i64 wz;refine⟨z,?_,b.1,b.2⟩
   have:=(hcell 0 (by omega))
   rw[show (a.add i).add 0=a.add i from rfl] at this;exact this
  obtain⟨l,hll,hall⟩:=list_of (0:Int) each
  have bd:∀j,-9223372036854775808<=iat l j/\iat l j<=9223372036854775807:=fun j=>by
   by_cases hj:j<len
   ·exact(hall j hj).2
   ·have:iat l j=0:=by unfold iat;rw[List.getD_eq_getElem?_getD,List.getElem?_eq_none (by omega)];rfl
    rw[this];decide
  refine⟨some a,len,cap,l,hc,⟨hll.symm,fun h0 => ?_⟩,(by unfold maxLen at hm;omega),bd,fun h=>by cases h⟩;obtain⟨b,off,spot⟩:=a;have hs:spot=none:=by have:=World.cell?_spot (hall 0 h0).1;simpa [Addr.add] using this
  subst hs
  have hb:b<W.heap.size:=by
   have:=(hall 0 h0).1
   simp only[Addr.add,if_true] at this;exact World.block_lt_of_cell? _ _ this
  refine⟨b,off,rfl,hb,fun j hj => ?_⟩
  have:=(hall j hj).1
  rw[addr_plus] at this;exact this
theorem dy_open {n:Nat} {v:Value} {y:DataW H×List MemPlace} (h:DataW.trod enc Tryz.prog W base spare held n 23 [v]=some y):
  ∃A k c l,v= .slice A k c/\DyAt W A k l/\k<=9223372036854775807/\(A=none->c=0):=by
 rcases open_slice Tryz.underlying23 h with ⟨hc,_⟩|⟨a,len,cap,m,n',D,Pl,hc,_,hl,hm,hmm,_,hi⟩
 ·injection hc with hc
  exact⟨none,0,0,[],hc,DyAt.nil _ _,by omega,fun _=>rfl⟩
 ·injection hc with hc
  have hlm:len<=m:=by rw[hmm];split<;>omega
  have each:∀i,i<len->∃s:Dy,W.cell? (a.add (i*2))=some (.int .i64 s.n)/\W.cell? ((a.add (i*2)).add 1)=some (.int .i64 s.w):=fun i hi'=>by
   obtain⟨cs,hcs,ht⟩:=hi i (by omega);have e2:Tryz.prog.cellsOf 109=2:=by kernel_rfl
   rw[e2] at hcs;obtain⟨_,hlen,hcell⟩:=World.cells?_some hcs;have F:=field_at Tryz.underlying109 (by kernel_rfl) (by kernel_rfl) ht;obtain⟨y0,m0,d0,g0,t0⟩:=F 0 _ rfl;obtain⟨y1,m1,d1,g1,t1⟩:=F 1 _ rfl;obtain⟨x,hx,_⟩:=DataW.trod_int Tryz.underlying3 t0;obtain⟨z,hz,_⟩:=DataW.trod_int Tryz.underlying3 t1;injection hx with hx;subst hx;injection hz with hz;subst hz;refine⟨⟨x,z⟩,?_,(hcell 1 (by omega)).trans g1⟩
   have:=(hcell 0 (by omega)).trans g0
   rwa [show (a.add (i*2)).add 0=a.add (i*2) from rfl] at this
  obtain⟨l,hll,hall⟩:=list_of (⟨0,0⟩:Dy) each;refine⟨some a,len,cap,l,hc,⟨hll.symm,fun h0 => ?_⟩,(by unfold maxLen at hm;omega),fun h=>by cases h⟩;obtain⟨b,off,spot⟩:=a;have hs:spot=none:=by have:=World.cell?_spot (hall 0 h0).1;simpa [Addr.add] using this
  subst hs
  have hb:b<W.heap.size:=by
   have:=(hall 0 h0).1
   simp only[Nat.zero_mul,Addr.add,if_true] at this;exact World.block_lt_of_cell? _ _ this
  refine⟨b,off,rfl,hb,fun j hj => ?_⟩;obtain⟨c0,c1⟩:=hall j hj;rw[addr_plus] at c0 c1;rw[addr_plus] at c1;exact⟨c0,c1⟩
structure RuIn (W:World) (S:RS) (r:Ru):Prop where
 h6:IsAt W S.a6 S.n6 r.mon
 h7:IsAt W S.a7 S.n7 r.week
 h8:IsAt W S.a8 S.n8 r.yday
 h9:IsAt W S.a9 S.n9 r.mday
 h10:DyAt W S.a10 S.n10 r.day
 h11:IsAt W S.a11 S.n11 r.hour
 h12:IsAt W S.a12 S.n12 r.minu
 h13:IsAt W S.a13 S.n13 r.sec
 h14:IsAt W S.a14 S.n14 r.pos
 k6:S.n6<=9223372036854775807
 k7:S.n7<=9223372036854775807
 k8:S.n8<=9223372036854775807
 k9:S.n9<=9223372036854775807
 k10:S.n10<=9223372036854775807
 k11:S.n11<=9223372036854775807
 k12:S.n12<=9223372036854775807
 k13:S.n13<=9223372036854775807
 k14:S.n14<=9223372036854775807
 y6:S.a6=none->S.c6=0
 y7:S.a7=none->S.c7=0
 y8:S.a8=none->S.c8=0
 y9:S.a9=none->S.c9=0
 y10:S.a10=none->S.c10=0
 y11:S.a11=none->S.c11=0
 y12:S.a12=none->S.c12=0
 y13:S.a13=none->S.c13=0
 y14:S.a14=none->S.c14=0
 i0:-9223372036854775808<=r.freq/\r.freq<=9223372036854775807
 i1:-9223372036854775808<=r.itv/\r.itv<=9223372036854775807
 i2:-9223372036854775808<=r.cnt/\r.cnt<=9223372036854775807
 i3:-9223372036854775808<=r.til/\r.til<=9223372036854775807
 i4:-9223372036854775808<=r.wkst/\r.wkst<=9223372036854775807
def fewB (S:RS):Bool:=decide (S.n6<=400/\S.n7<=400/\S.n8<=400/\S.n9<=400/\S.n10<=400/\S.n11<=400/\S.n12<=400/\S.n13<=400/\S.n14<=400)
theorem RuIn.few {W:World} {S:RS} {r:Ru} (h:RuIn W S r) (f:fewB S=true):RuAt W S r:=by
 obtain⟨g6,g7,g8,g9,g10,g11,g12,g13,g14⟩:=of_decide_eq_true f
 exact⟨h.h6,h.h7,h.h8,h.h9,h.h10,h.h11,h.h12,h.h13,h.h14,by omega,by omega,by omega,by omega,by omega,by omega,by omega,by omega,by omega⟩
end
section
variable {H:Type} {enc:TypeId×Value->H} {P:Program}
theorem args_stay (hl:laidOutB P=true) {W W':World} {sp:Nat->Bool} (hb:Below W.heap.size W W'):∀ {ts:List TypeId} {vs:List Value} {ds:List (DataW H)} {ps:List MemPlace},(∀t∈ts,P.readableRec t=true/\t<P.types.size)->
  DataW.TrodAll enc P W 0 (fun _=>true) true ts vs ds ps->(∀p∈ps,p.block<W.heap.size)->(∀p∈ps,sp p.block=true)->DataW.TrodAll enc P W' 0 sp true ts vs ds ps
 | [],[],[],_,_,h,_,_=>h
 |t::_,_::_,_::_,_,ht,⟨p,q,h1,h2,e⟩,hlt,hs=>by
  subst e;obtain⟨hr,hrow⟩:=ht t (List.mem_cons_self ..);refine⟨p,q,Go.WideElems.Trod_stays hl hr hrow h1 (fun x hx => ?_) (fun x hx=>hs x (List.mem_append_left _ hx)),args_stay hl hb (fun u hu=>ht u (List.mem_cons_of_mem _ hu)) h2 (fun x hx=>hlt x (List.mem_append_right _ hx)) (fun x hx=>hs x (List.mem_append_right _ hx)),rfl⟩
  have:=hlt x (List.mem_append_left _ hx)
  cases x with
  |cell b off=>exact hb.cell (p:=⟨b,off,none⟩) this
  |map b=>exact hb.block b this
end
end Go.Proofs.YtddnnljfgfcplaaGreatDoor.Ru
set_option linter.unusedVariables false
namespace Go.Proofs.YtddnnljfgfcplaaGreatDoor.Ru
open Go.RowKit Go.ChangeShapes Go.WideShapes Cv St
theorem strs_tab {W:World} {base:Nat} {sp:Nat->Bool} {held:Bool} {fuel:Nat} {t e:TypeId} {n:Nat} {cs:List Value} {ls:List (List UInt8)} {p:List MemPlace} (ht:Tryz.prog.underlying t=some (.array n e)) (he:Tryz.prog.underlying e=some .string) (hce:Tryz.prog.cellsOf e=1)
  (h:DataW.trod (fun _=>()) Tryz.prog W base sp held fuel t cs=some (.agg (ls.map fun s=>(.lit (.string s):DataW Unit)),p)) (i:Nat) (hi:i<n) (s:List UInt8) (hs:ls[i]? = some s):cs[i]? = some (.string (str s)):=by
 obtain⟨f,d,q,hd,h1⟩:=Lib.array_elem ht h i hi
 rw[List.getElem?_map,hs] at hd
 obtain rfl:(DataW.lit (.string s):DataW Unit)=d:=by simpa using hd
 rw[hce,Nat.mul_one] at h1
 obtain⟨z,hz,e1,_⟩:=DataW.trod_string he h1
 have e2:s=z.data.toList:=by
  have:=congrArg Prod.fst e1
  simpa using this
 have e3:cs[i]? = some (.string z):=by
  have:=congrArg (·[0]?) hz
  simpa [List.getElem?_take,List.getElem?_drop] using this
 rw[e3,e2,str_list]
theorem gWords : Tryz.prog.globalNamed "convoker/rule.words" = some 1 := by kernel_rfl
theorem gWdays : Tryz.prog.globalNamed "convoker/rule.weekdays" = some 2 := by kernel_rfl
theorem gErrS : Tryz.prog.globalNamed "strconv.ErrSyntax" = some 7 := by kernel_rfl
theorem gErrR : Tryz.prog.globalNamed "strconv.ErrRange" = some 8 := by kernel_rfl
theorem tWords:(Tryz.prog.globals[1]?).map (·.type)=some 105:=by kernel_rfl
theorem tWdays:(Tryz.prog.globals[2]?).map (·.type)=some 105:=by kernel_rfl
theorem tErrS:(Tryz.prog.globals[7]?).map (·.type)=some 152:=by kernel_rfl
theorem tErrR:(Tryz.prog.globals[8]?).map (·.type)=some 152:=by kernel_rfl
theorem tPow20:(Tryz.prog.globals[4]?).map (·.type)=some 214:=by kernel_rfl
theorem gBru : Tryz.prog.globalNamed "math/bits.deBruijn64tab" = some 6 := by kernel_rfl
theorem cStr:Tryz.prog.cellsOf 9=1:=by kernel_rfl
theorem read_strs {W:World} {n:String} {g:Nat} {ls:List (List UInt8)} (hg:Tryz.prog.globalNamed n=some g) (hy:(Tryz.prog.globals[g]?).map (·.type)=some 105) (h:Lib.VarReads Tryz.prog W n (.agg (ls.map fun s=>(.lit (.string s):DataW Unit)))) (i:Nat) (hi:i<7) (s:List UInt8) (hs:ls[i]? = some s):
  W.cell? ⟨g,i,none⟩=some (.string (str s)):=by
 obtain⟨g',t',cs,fuel,p,h1,h2,hv,hd⟩:=h
 obtain rfl:=Option.some.inj (hg.symm.trans h1)
 obtain rfl:=Option.some.inj (hy.symm.trans h2)
 rw[World.var?_cell hg hv i,<-Array.getElem?_toList]
 exact strs_tab Tryz.underlying105 Tryz.underlying9 cStr hd i hi s hs
theorem read_err {W:World} {n nm:String} {g:Nat} {d:DataW Unit} (hg:Tryz.prog.globalNamed n=some g) (hy:(Tryz.prog.globals[g]?).map (·.type)=some 152) (h:Lib.VarReads Tryz.prog W n (.iface nm d)):
  ∃te pe,W.cell? ⟨g,0,none⟩=some (.iface te pe):=by
 obtain⟨g',t',cs,fuel,p,h1,h2,hv,hd⟩:=h
 obtain rfl:=Option.some.inj (hg.symm.trans h1)
 obtain rfl:=Option.some.inj (hy.symm.trans h2)
 obtain⟨_,u,v,e,_,_⟩:=iface_of_trod Tryz.underlying152 hd
 refine⟨u,v,?_⟩
 rw[World.var?_cell hg hv 0,<-Array.getElem?_toList,e];rfl
theorem low_of {W:World} {n:String} {g:Nat} {d:DataW Unit} (hg:Tryz.prog.globalNamed n=some g) (h:Lib.VarReads Tryz.prog W n d) (h8:8<=g):8<W.heap.size:=by
 obtain⟨g',t',cs,fuel,p,h1,h2,hv,hd⟩:=h
 obtain rfl:=Option.some.inj (hg.symm.trans h1)
 rcases Nat.lt_or_ge g W.heap.size with k|k
 ·omega
 ·exfalso
  unfold World.var? at hv;rw[hg] at hv
  simp[Array.getElem?_eq_none k] at hv
theorem tabs_of {W:World} (h:laidMet Tryz.prog Rows.meetApartRow.laid W) (hS:W.ShapedOpen Tryz.prog):Tabs W where
 pow:=Lib.tabIs_of_head gPow tPow20 Tryz.underlying214 Tryz.underlying176 (by kernel_rfl) (by kernel_rfl) (laidMet.tail (laidMet.tail h))
 low:=by
  first
   | exact low_of gBru (Lib.laidMet.reads h (n := "math/bits.deBruijn64tab") (d := Rows.laid_math_bits_deBruijn64tab) (List.mem_of_getElem? (i := 1) rfl)) (by decide)
   | exact low_of gErrR (Lib.laidMet.reads h (n := "strconv.ErrRange") (d := Rows.laid_strconv_ErrRange) (List.mem_of_getElem? (i := 4) rfl)) (by decide)
 words:=fun k hk=>by
  have r := Lib.laidMet.reads h (n := "convoker/rule.words") (d := Rows.laid_convoker_rule_words) (List.mem_of_getElem? (i := 6) rfl)
  have r' : Lib.VarReads Tryz.prog W "convoker/rule.words" (.agg ([freqW 1, freqW 2, freqW 3, freqW 4, freqW 5, freqW 6, freqW 7].map fun s => (.lit (.string s) : DataW Unit))) := r
  have h7:k=0\/k=1\/k=2\/k=3\/k=4\/k=5\/k=6:=by omega
  rcases h7 with rfl|rfl|rfl|rfl|rfl|rfl|rfl<;>exact read_strs gWords tWords r' _ (by decide) _ rfl
 wdays:=fun k hk=>by
  have r := Lib.laidMet.reads h (n := "convoker/rule.weekdays") (d := Rows.laid_convoker_rule_weekdays) (List.mem_of_getElem? (i := 7) rfl)
  have r' : Lib.VarReads Tryz.prog W "convoker/rule.weekdays" (.agg ([wdayW 0, wdayW 1, wdayW 2, wdayW 3, wdayW 4, wdayW 5, wdayW 6].map fun s => (.lit (.string s) : DataW Unit))) := r
  have h7:k=0\/k=1\/k=2\/k=3\/k=4\/k=5\/k=6:=by omega
  rcases h7 with rfl|rfl|rfl|rfl|rfl|rfl|rfl<;>exact read_strs gWdays tWdays r' _ (by decide) _ rfl
 maxl:=Go.Proofs.cell_of_shapedOpen_int (P:=Tryz.prog) (g:=3) (t:=3) (zero:=#[.int .i64 0]) hS (of_decide_eq_true (by kernel_rfl)) (by kernel_rfl) rfl (by kernel_rfl) (by kernel_rfl) Tryz.underlying3
 errS := read_err gErrS tErrS (Lib.laidMet.reads h (n := "strconv.ErrSyntax") (d := Rows.laid_strconv_ErrSyntax) (List.mem_of_getElem? (i := 5) rfl))
 errR := read_err gErrR tErrR (Lib.laidMet.reads h (n := "strconv.ErrRange") (d := Rows.laid_strconv_ErrRange) (List.mem_of_getElem? (i := 4) rfl))
end Go.Proofs.YtddnnljfgfcplaaGreatDoor.Ru
set_option linter.unusedVariables false
namespace Go.Proofs.YtddnnljfgfcplaaGreatDoor.Ru
open Lib (hid)
open Go.RowKit Cv St
set_option maxRecDepth 100000 in
set_option maxHeartbeats 4000000 in
theorem few_is (w:World) (S:RS) (r:Ru) (x:Bool) (k6:S.n6<=9223372036854775807) (k7:S.n7<=9223372036854775807) (k8:S.n8<=9223372036854775807) (k9:S.n9<=9223372036854775807) (k10:S.n10<=9223372036854775807) (k11:S.n11<=9223372036854775807) (k12:S.n12<=9223372036854775807) (k13:S.n13<=9223372036854775807) (k14:S.n14<=9223372036854775807) (hx:fewB S=x):
  Calls Tryz.prog 29 #[S.val r] w fun e w'=>e= .returned (.bool x)/\Below w.heap.size w w':=by
 obtain⟨a6,n6,c6,a7,n7,c7,a8,n8,c8,a9,n9,c9,a10,n10,c10,a11,n11,c11,a12,n12,c12,a13,n13,c13,a14,n14,c14⟩:=S
 obtain⟨freq,itv,cnt,til,wkst,ends,mon,week,yday,mday,day,hour,minu,sec,pos⟩:=r
 simp only at k6 k7 k8 k9 k10 k11 k12 k13 k14
 show Calls Tryz.prog 29 #[.agg #[.int .i64 freq,.int .i64 itv,.int .i64 cnt,.int .i64 til,.int .i64 wkst,.bool ends,.slice a6 n6 c6,.slice a7 n7 c7,.slice a8 n8 c8,.slice a9 n9 c9,.slice a10 n10 c10,.slice a11 n11 c11,.slice a12 n12 c12,.slice a13 n13 c13,.slice a14 n14 c14]] w _
 by_cases q6:n6<=400
 rotate_left
 ·have G:=hid (show false=x by rw[<-hx];exact(decide_eq_false (fun g=>q6 (by simp only at g;omega))).symm)
  have t:decide ((n6:Int)<=400)=false:=decide_eq_false (by omega)
  have u:400<(n6:Int):=by omega
  clear hx q6
  go_enter Tryz.func29,Tryz.ntmps29
  go_wp2;go_ret;exact⟨ret_bool G.out,alloc_below _ _⟩
 by_cases q7:n7<=400
 rotate_left
 ·have G:=hid (show false=x by rw[<-hx];exact(decide_eq_false (fun g=>q7 (by simp only at g;omega))).symm)
  have t:decide ((n7:Int)<=400)=false:=decide_eq_false (by omega)
  have u:400<(n7:Int):=by omega
  clear hx q7
  go_enter Tryz.func29,Tryz.ntmps29
  go_wp2;go_ret;exact⟨ret_bool G.out,alloc_below _ _⟩
 by_cases q8:n8<=400
 rotate_left
 ·have G:=hid (show false=x by rw[<-hx];exact(decide_eq_false (fun g=>q8 (by simp only at g;omega))).symm)
  have t:decide ((n8:Int)<=400)=false:=decide_eq_false (by omega)
  have u:400<(n8:Int):=by omega
  clear hx q8
  go_enter Tryz.func29,Tryz.ntmps29
  go_wp2;go_ret;exact⟨ret_bool G.out,alloc_below _ _⟩
 by_cases q9:n9<=400
 rotate_left
 ·have G:=hid (show false=x by rw[<-hx];exact(decide_eq_false (fun g=>q9 (by simp only at g;omega))).symm)
  have t:decide ((n9:Int)<=400)=false:=decide_eq_false (by omega)
  have u:400<(n9:Int):=by omega
  clear hx q9
  go_enter Tryz.func29,Tryz.ntmps29
  go_wp2;go_ret;exact⟨ret_bool G.out,alloc_below _ _⟩
 by_cases q10:n10<=400
 rotate_left
 ·have G:=hid (show false=x by rw[<-hx];exact(decide_eq_false (fun g=>q10 (by simp only at g;omega))).symm)
  have t:decide ((n10:Int)<=400)=false:=decide_eq_false (by omega)
  have u:400<(n10:Int):=by omega
  clear hx q10
  go_enter Tryz.func29,Tryz.ntmps29
  go_wp2;go_ret;exact⟨ret_bool G.out,alloc_below _ _⟩
 by_cases q11:n11<=400
 rotate_left
 ·have G:=hid (show false=x by rw[<-hx];exact(decide_eq_false (fun g=>q11 (by simp only at g;omega))).symm)
  have t:decide ((n11:Int)<=400)=false:=decide_eq_false (by omega)
  have u:400<(n11:Int):=by omega
  clear hx q11
  go_enter Tryz.func29,Tryz.ntmps29
  go_wp2;go_ret;exact⟨ret_bool G.out,alloc_below _ _⟩
 by_cases q12:n12<=400
 rotate_left
 ·have G:=hid (show false=x by rw[<-hx];exact(decide_eq_false (fun g=>q12 (by simp only at g;omega))).symm)
  have t:decide ((n12:Int)<=400)=false:=decide_eq_false (by omega)
  have u:400<(n12:Int):=by omega
  clear hx q12
  go_enter Tryz.func29,Tryz.ntmps29
  go_wp2;go_ret;exact⟨ret_bool G.out,alloc_below _ _⟩
 by_cases q13:n13<=400
 rotate_left
 ·have G:=hid (show false=x by rw[<-hx];exact(decide_eq_false (fun g=>q13 (by simp only at g;omega))).symm)
  have t:decide ((n13:Int)<=400)=false:=decide_eq_false (by omega)
  have u:400<(n13:Int):=by omega
  clear hx q13
  go_enter Tryz.func29,Tryz.ntmps29
  go_wp2;go_ret;exact⟨ret_bool G.out,alloc_below _ _⟩
 by_cases q14:n14<=400
 rotate_left
 ·have G:=hid (show false=x by rw[<-hx];exact(decide_eq_false (fun g=>q14 (by simp only at g;omega))).symm)
  have t:decide ((n14:Int)<=400)=false:=decide_eq_false (by omega)
  have u:400<(n14:Int):=by omega
  clear hx q14
  go_enter Tryz.func29,Tryz.ntmps29
  go_wp2;go_ret;exact⟨ret_bool G.out,alloc_below _ _⟩
 have G:=hid (show decide ((n14:Int)<=400)=x by rw[<-hx];exact(decide_eq_true (show (n14:Int)<=400 by omega)).trans (decide_eq_true ⟨q6,q7,q8,q9,q10,q11,q12,q13,q14⟩).symm)
 clear hx
 go_enter Tryz.func29,Tryz.ntmps29
 go_wp2
 go_ret
 exact⟨ret_bool G.out,alloc_below _ _⟩
end Go.Proofs.YtddnnljfgfcplaaGreatDoor.Ru
set_option linter.unusedVariables false
namespace Go.Proofs.YtddnnljfgfcplaaGreatDoor.Ru
open Go.RowKit Cv St
theorem two_below (w:World) (a b:Obj):Below w.heap.size w ((w.alloc a).alloc b):=(alloc_below w a).trans ((alloc_below (w.alloc a) b).mono (by simp))
theorem two_box1 (w:World) (cs ds:Array Value) (T:TypeId):Box ((w.alloc (.cells cs T)).alloc (.cells ds T)) w.heap.size cs:=(Box.new w cs T).below (alloc_below _ _)
theorem two_box2 (w:World) (cs ds:Array Value) (T:TypeId):Box ((w.alloc (.cells cs T)).alloc (.cells ds T)) (w.heap.size+1) ds:=by
 have:=Box.new (w.alloc (.cells cs T)) ds T
 have e:(w.alloc (.cells cs T)).heap.size=w.heap.size+1:=by simp
 rwa [e] at this
theorem RuAt.past {W:World} {S:RS} {r:Ru} (h:RuAt W S r) (v:In (Past W)):RuAt v.w S r:=h.below (show Below _ _ _ from v.h)
end Go.Proofs.YtddnnljfgfcplaaGreatDoor.Ru
set_option linter.unusedVariables false
namespace Go.Proofs.YtddnnljfgfcplaaGreatDoor.Ru
open Go.RowKit Cv St
theorem parse_okF (s:ByteArray) (w:World) (T:Tabs w) (r:Ru) (a x:Int) (h:ruParse s.data.toList=(r,a,x)):
  Calls Tryz.prog 118 #[.string s] w fun e w'=>∃S:RS,e= .returned (.tuple #[S.val r,.int .i64 a,.int .i64 x])/\RuAt w' S r/\RZero w.heap.size S/\Below w.heap.size w w':=by
 have:=parse_anyF w T s
 rw[h] at this
 exact this
def zero15:Array Value:=#[.int .i64 0,.int .i64 0,.int .i64 0,.int .i64 0,.int .i64 0,.bool false,.slice none 0 0,.slice none 0 0,.slice none 0 0,.slice none 0 0,.slice none 0 0,.slice none 0 0,.slice none 0 0,.slice none 0 0,.slice none 0 0]
end Go.Proofs.YtddnnljfgfcplaaGreatDoor.Ru
