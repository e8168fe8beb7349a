/- RuX1 -/
import Derived.Lib.SmallJoins
import Derived.Test.YtddnnljfgfcplaaGreatDoorRpE
import Derived.Lib.OwnBridge
import Derived.Laws.AppendOwnNone
set_option maxRecDepth 100000
set_option maxHeartbeats 8000000
set_option linter.unusedVariables false
namespace Go.Proofs.YtddnnljfgfcplaaGreatDoor.Ru
open Go.RowKit Cv St Go.Proofs.YtddnnljfgfcplaaGreatDoor.Fd
theorem str_inj {a b:List UInt8} (h:str a=str b):a=b:=by rw[<-list_str a,h,list_str]
theorem str_app (a b:List UInt8):str a++str b=str (a++b):=by
 have h:(str a++str b).data.toList=a++b:=by simp[str]
 rw[<-str_list (str a++str b),h]
structure Tabs (W:World):Prop where
 pow : Lib.TabIs Tryz.prog W "internal/strconv.uint64pow10" .u64 Lib.pow10Tab
 low:8<W.heap.size
 words:∀k,k<7->W.cell? ⟨1,k,none⟩=some (.string (str (freqW (k+1))))
 wdays:∀k,k<7->W.cell? ⟨2,k,none⟩=some (.string (str (wdayW k)))
 maxl:∃m,W.cell? ⟨3,0,none⟩=some (.int .i64 m)
 errS:∃te pe,W.cell? ⟨7,0,none⟩=some (.iface te pe)
 errR:∃te pe,W.cell? ⟨8,0,none⟩=some (.iface te pe)
theorem gPow : Tryz.prog.globalNamed "internal/strconv.uint64pow10" = some 4 := by kernel_rfl
theorem Tabs.on {W w:World} (h:Tabs W) (hb:Below W.heap.size W w):Tabs w where
 pow:=Go.Joins.tab_stays gPow h.pow hb (Nat.le_refl _)
 low:=Nat.lt_of_lt_of_le h.low hb.size
 words:=fun k hk=>(hb.cell (p:=⟨1,k,none⟩) (Nat.lt_of_le_of_lt (show 1<=8 by decide) h.low)).trans (h.words k hk)
 wdays:=fun k hk=>(hb.cell (p:=⟨2,k,none⟩) (Nat.lt_of_le_of_lt (show 2<=8 by decide) h.low)).trans (h.wdays k hk)
 maxl:=by obtain⟨m,hm⟩:=h.maxl;exact⟨m,(hb.cell (p:=⟨3,0,none⟩) (Nat.lt_of_le_of_lt (by decide) h.low)).trans hm⟩
 errS:=by obtain⟨m,n,hm⟩:=h.errS;exact⟨m,n,(hb.cell (p:=⟨7,0,none⟩) (Nat.lt_of_le_of_lt (by decide) h.low)).trans hm⟩
 errR:=by obtain⟨m,n,hm⟩:=h.errR;exact⟨m,n,(hb.cell (p:=⟨8,0,none⟩) (Nat.lt_of_le_of_lt (by decide) h.low)).trans hm⟩
theorem Tabs.past {W:World} (h:Tabs W) (v:In (Past W)):Tabs v.w:=h.on (show Below _ _ _ from v.h)
theorem itoa_is (n:Int) (w:World) (s:ByteArray) (T:Tabs w) (h0:-9223372036854775808<=n) (h1:n<=9223372036854775807) (hs:str (Lib.itoa n)=s):
  Calls Tryz.prog 32 #[.int .i64 n] w fun e w'=>e= .returned (.string s)/\Below w.heap.size w w':=by
 refine(Tryz.strconv_Itoa n h0 h1 w T.pow).mono ?_
 rintro e w' ⟨rfl,k,os,rfl⟩
 exact⟨by rw[<-hs];rfl,Lib.below_grow _ _ (Nat.le_refl _) _ _⟩
theorem idx_no {c:UInt8}:∀ {l:List UInt8},c ∉ l->Lib.index l [c] = -1
 | [],_=>rfl
 |x::l,h=>by
  simp only[List.mem_cons,not_or] at h;have hx:(c==x)=false:=by rw[beq_eq_false_iff_ne];exact h.1
  rw[Lib.index,if_neg (by simp[List.isPrefixOf,hx]),idx_no h.2];rfl
theorem idx_app {c:UInt8}:∀ {p:List UInt8} (r:List UInt8),c ∉ p->Lib.index (p++c::r) [c]=p.length
 | [],r,_=>by rw[List.nil_append,Lib.index,if_pos (by simp[List.isPrefixOf])];try rfl
 |x::p,r,h=>by
  simp only[List.mem_cons,not_or] at h;have hx:(c==x)=false:=by rw[beq_eq_false_iff_ne];exact h.1
  rw[List.cons_append,Lib.index,if_neg (by simp[List.isPrefixOf,hx]),idx_app r h.2,if_neg (by first|(simp;done)|(simp;omega))]
  try simp
theorem first_at {c:UInt8}:∀ {l:List UInt8},c∈l->∃p r,c ∉ p/\l=p++c::r
 |x::l,h=>by
  by_cases e:x=c
  ·exact⟨[],l,by simp,by rw[e];rfl⟩
  ·have:c∈l:=by
    rcases List.mem_cons.1 h with h|h
    ·exact absurd h.symm e
    ·exact h
   obtain⟨p,r,h1,h2⟩:=first_at this;exact⟨x::p,r,by simp only[List.mem_cons,not_or];exact⟨fun g=>e g.symm,h1⟩,by rw[h2];rfl⟩
theorem indexB_str (s:ByteArray) (c:UInt8):Lib.indexB s (str [c])=Lib.index s.data.toList [c]:=by
 unfold Lib.indexB;rw[list_str]
theorem split_cut (c:UInt8):∀(n:Nat) (s:ByteArray),s.size<=n->Lib.splitB (str [c]) 0 (Lib.countB s (str [c])) s=(cutAt c s.data.toList).map str:=by
 intro n
 induction n using Nat.strongRecOn with
 |ind n ih=>
  intro s hn
  by_cases h:c∈s.data.toList
  ·obtain⟨p,r,h1,h2⟩:=first_at h
   have hi:Lib.indexB s (str [c])=(p.length:Nat):=by rw[indexB_str,h2,idx_app r h1]
   have hs:s.size=p.length+1+r.length:=by rw[<-size_list,h2];simp;omega
   have e1:s.extract 0 (p.length+0)=str p:=by rw[ext_str,h2];simp
   have e2:s.extract (p.length+(str [c]).size) s.size=str r:=by
    rw[ext_str,str_size,h2,hs];simp only[List.length_cons,List.length_nil,Nat.zero_add];rw[show p++c::r=(p++[c])++r from by simp,List.drop_left' (by simp),List.take_of_length_le (by omega)]
   rw[Lib.countB_hit s (str [c]) p.length (by rw[str_size];simp) hi,Nat.add_comm 1,Lib.splitB_hit _ _ _ _ _ hi,e1,e2,ih (n-1) (by omega) (str r) (by rw[str_size];omega),list_str,h2,cutAt_app h1];rfl
  ·have hi:Lib.indexB s (str [c]) = -1:=by rw[indexB_str,idx_no h]
   rw[Lib.countB_miss _ _ hi,Lib.splitB_zero,cutAt_one h]
   simp[str_list]
theorem count_cut (c:UInt8):∀(n:Nat) (s:ByteArray),s.size<=n->Lib.countB s (str [c])+1=(cutAt c s.data.toList).length:=by
 intro n
 induction n using Nat.strongRecOn with
 |ind n ih=>
  intro s hn
  by_cases h:c∈s.data.toList
  ·obtain⟨p,r,h1,h2⟩:=first_at h
   have hi:Lib.indexB s (str [c])=(p.length:Nat):=by rw[indexB_str,h2,idx_app r h1]
   have hs:s.size=p.length+1+r.length:=by rw[<-size_list,h2];simp;omega
   have e2:s.extract (p.length+(str [c]).size) s.size=str r:=by
    rw[ext_str,str_size,h2,hs];simp only[List.length_cons,List.length_nil,Nat.zero_add];rw[show p++c::r=(p++[c])++r from by simp,List.drop_left' (by simp),List.take_of_length_le (by omega)]
   rw[Lib.countB_hit s (str [c]) p.length (by rw[str_size];simp) hi,e2,Nat.add_comm 1,ih (n-1) (by omega) (str r) (by rw[str_size];omega),list_str,h2,cutAt_app h1];rfl
  ·have hi:Lib.indexB s (str [c]) = -1:=by rw[indexB_str,idx_no h]
   rw[Lib.countB_miss _ _ hi,cutAt_one h];rfl
def sat (l:List ByteArray) (j:Nat):ByteArray:=l.getD j ⟨#[]⟩
theorem sat_lt {l:List ByteArray} {j:Nat} (h:j<l.length):sat l j=l[j]:=by
 unfold sat;rw[List.getD_eq_getElem?_getD,List.getElem?_eq_getElem h];rfl
def SsAt (W:World) (A:Option Addr) (n:Nat) (l:List ByteArray):Prop:=
 n=l.length/\(0<n->∃b off,A=some ⟨b,off,none⟩/\b<W.heap.size/\∀j,j<n->W.cell? ⟨b,off+j,none⟩=some (.string (sat l j)))
theorem SsAt.below {W w:World} {A:Option Addr} {n:Nat} {l:List ByteArray} (h:SsAt W A n l) (hb:Below W.heap.size W w):SsAt w A n l:=
 ⟨h.1,fun h0=>by
  obtain⟨b,off,e,hlt,hc⟩:=h.2 h0
  exact⟨b,off,e,Nat.lt_of_lt_of_le hlt hb.size,fun j hj=>(hb.cell (p:=⟨b,_,none⟩) hlt).trans (hc j hj)⟩⟩
theorem OwnT.at_ {W w:World} {v:Value} {l:List ByteArray} (h:OwnT W w v l):∃A c,v= .slice A l.length c/\SsAt w A l.length l/\l.length<=c/\l.length<=maxLen:=by
 rcases h.2 with ⟨rfl,h0⟩|⟨g,cap,cur,rfl,hb,hg,hnc,hcm,-⟩
 ·have e:l=[]:=List.length_eq_zero_iff.1 h0
  subst e;exact⟨none,0,rfl,⟨rfl,fun h=>absurd h (by simp)⟩,Nat.le_refl _,by decide⟩
 ·refine⟨some ⟨g,0,none⟩,cap,rfl,⟨rfl,fun h0=>⟨g,0,rfl,(World.ownsRow.lt h g rfl).2,fun j hj => ?_⟩⟩,hnc,by omega⟩
  rw[Nat.zero_add,World.ownsRow.cellAt h j (by omega),sat_lt hj]
  simp[strV,hj]
def Fresh (B:Nat) (A:Option Addr):Prop:=∀b off,A=some ⟨b,off,none⟩->B<=b/\off=0
theorem Fresh.mono {B C:Nat} {A:Option Addr} (h:Fresh B A) (hc:C<=B):Fresh C A:=fun b off e=>⟨Nat.le_trans hc (h b off e).1,(h b off e).2⟩
theorem Fresh.none (B:Nat):Fresh B none:=fun b off e=>by cases e
def SplitAt (l:List UInt8) (c:UInt8) (w:World) (e:Ending) (w':World):Prop:=
 ∃A k cap,e= .returned (.slice A k cap)/\SsAt w' A k ((cutAt c l).map str)/\Fresh w.heap.size A/\Below w.heap.size w w'
theorem split_is (s:ByteArray) (c:UInt8) (w:World) (T:Tabs w) (hs:s.size<=1000000):
  Calls Tryz.prog 119 #[.string s,.string (str [c])] w (SplitAt s.data.toList c w):=by
 obtain⟨m,hm⟩:=T.maxl
 refine(Tryz.strings_Split s (str [c]) m w (by omega) hm (by rw[str_size];simp)).mono ?_
 rintro e w' ⟨rfl,rfl⟩
 have e1:=split_cut c s.size s (Nat.le_refl _)
 have e2:=count_cut c s.size s (Nat.le_refl _)
 refine⟨_,_,_,rfl,⟨by rw[e2,List.length_map],fun h0=>⟨w.heap.size,0,rfl,by simp,fun j hj => ?_⟩⟩,(fun b off e=>by cases e;exact⟨Nat.le_refl _,rfl⟩),alloc_below _ _⟩
 rw[Nat.zero_add,e1,World.cell?_alloc_new]
 rw[e2] at hj
 rw[sat_lt (by rw[List.length_map];exact hj)]
 simp[hj]
theorem cut_eq (l:List UInt8) (c:UInt8):Lib.cut l [c]=if c∈l then (bef1 c l,aft1 c l,true) else (l,[],false):=by
 unfold Lib.cut
 by_cases h:c∈l
 ·obtain⟨p,r,h1,h2⟩:=first_at h
  have b:=bef1_app (r:=r) h1;rw[if_pos h,h2,idx_app r h1,if_pos (by omega),b.1,b.2];simp
 ·rw[if_neg h,idx_no h,if_neg (by decide)]
theorem cutS_is (s:ByteArray) (c:UInt8) (w:World) (x y:ByteArray) (b:Bool) (T:Tabs w) (hs:s.size<=1000000) (h:Lib.cut s.data.toList [c]=(x.data.toList,y.data.toList,b)):
  Calls Tryz.prog 115 #[.string s,.string (str [c])] w fun e w'=>e= .returned (.tuple #[.string x,.string y,.bool b])/\Below w.heap.size w w':=by
 obtain⟨m,hm⟩:=T.maxl
 refine(Tryz.strings_Cut s (str [c]) m w (by omega) hm).mono ?_
 rintro e w' ⟨rfl,n,rfl⟩
 rw[list_str,h]
 exact⟨rfl,Below.drewN' _ _ _⟩
theorem containsS_is (v:Value) (l:List ByteArray) (x:ByteArray) (r:Bool) (W w:World) (h:OwnT W w v l) (hr:r=true↔x∈l):
  Calls Tryz.prog 168 #[v,.string x] w fun e w'=>e= .returned (.bool r)/\w'=w:=by
 obtain⟨A,k,rfl,hA,hk,hm⟩:=h.at_
 unfold maxLen at hm
 by_cases h0:l=[]
 ·subst h0
  refine(Tryz.slices_Contains_string_empty A k x w).mono ?_;rintro e w' ⟨rfl,rfl⟩;exact⟨by cases r;rfl;exact absurd (hr.1 rfl) (by simp),rfl⟩
 ·obtain⟨b,off,rfl,hb,hc⟩:=hA.2 (List.length_pos_iff.2 h0)
  refine(Tryz.slices_Contains_string b off l.length k l x w (Nat.le_refl _) (by omega) (fun j hj=>hc j hj)).mono ?_;rintro e w' ⟨rfl,rfl⟩;refine⟨?_,rfl⟩;rw[List.take_length]
  congr 2
  rw[Bool.eq_iff_iff,hr];exact Lib.containsS_iff l x
theorem fold_ge:∀(l:List UInt8) (n:Nat),n<=l.foldl (fun n c=>n*10+(c.toNat-48)) n
 | [],n=>Nat.le_refl _
 |c::l,n=>by rw[List.foldl_cons];have:=fold_ge l (n*10+(c.toNat-48));omega
theorem parse_digits:∀(l:List UInt8) (n:Nat),(∀c∈l,isD c)->l.foldl (fun n c=>n*10+(c.toNat-48)) n<=1000000000->Lib.parseUint10 n l= .ok (l.foldl (fun n c=>n*10+(c.toNat-48)) n)
 | [],n,_,_=>rfl
 |c::l,n,h,hb=>by
  rw[List.foldl_cons] at hb ⊢;have g:=fold_ge l (n*10+(c.toNat-48));have d:=h c (by simp);unfold isD at d;rw[Lib.parseUint10,if_pos d,if_neg (by omega),if_neg (by omega)];exact parse_digits l _ (fun x hx=>h x (by simp[hx])) hb
theorem atoi_itoa {n:Int} (h1:-999999999<=n) (h2:n<=999999999):Lib.atoiAll (Lib.itoa n)= .ok n:=by
 have key:∀k:Nat,k<=999999999->Lib.parseMag (Lib.decDigits k)= .ok k:=fun k hk=>by
  unfold Lib.parseMag;have v:=valD_dec k;unfold valD at v;rw[if_neg (dec_ne k),parse_digits _ _ (dec_digits k) (by rw[v];omega),v]
 by_cases h:n<0
 ·have e:Lib.itoa n=45::Lib.decDigits n.natAbs:=by rw[Lib.itoa,if_pos h]
  rw[e,Lib.atoiAll_minus,key _ (by omega)];unfold Lib.signed;simp only
  rw[if_neg (by omega)]
  congr 1;omega
 ·have e:Lib.itoa n=Lib.decDigits n.toNat:=by rw[Lib.itoa,if_neg h]
  rw[e]
  cases hd:Lib.decDigits n.toNat with
  |nil=>exact absurd hd (dec_ne _)
  |cons c r=>
   have dc:=dec_digits n.toNat c (by rw[hd];simp);unfold isD at dc;rw[Lib.atoiAll_plain c r (by omega) (by omega),<-hd,key _ (by omega)];unfold Lib.signless;simp only
   rw[if_neg (by omega)]
   congr 1;omega
def AtoiIs (l:List UInt8) (w:World) (e:Ending) (w':World):Prop:=
 ∃n v,e= .returned (.tuple #[.int .i64 n,v])/\Below w.heap.size w w'/\((v= .nilIface/\Lib.atoiAll l= .ok n)\/((∃T p,v= .iface T p)/\∀k,Lib.atoiAll l≠.ok k))
end Go.Proofs.YtddnnljfgfcplaaGreatDoor.Ru
namespace Go.Proofs.YtddnnljfgfcplaaGreatDoor.Ru
open Go.RowKit Cv St
section
variable {α:Type} [Inhabited α] [DecidableEq α]
theorem compUp {lt:α->α->Bool} (tri:∀a b,lt a b=false->lt b a=false->a=b) {d:Array α} (hs:∀i j,i<j->j<d.size->lt d[j]! d[i]! = false):
  ∀m,m<=d.size->(Lib.compactUpTo d m).Pairwise (fun a b=>lt a b=true)/\(∀x∈Lib.compactUpTo d m,∃j,j<m/\d[j]! = x)/\(∀j,j<m->d[j]!∈Lib.compactUpTo d m)
 |0,_=>⟨by simp[Lib.compactUpTo],fun x hx=>by simp[Lib.compactUpTo] at hx,fun j hj=>absurd hj (by omega)⟩
 |m+1,hm=>by
  obtain⟨h1,h2,h3⟩:=compUp tri hs m (by omega);rw[Lib.compactUpTo_succ]
  by_cases hk:Lib.keeps d m=true
  ·rw[if_pos hk]
   refine⟨List.pairwise_append.2 ⟨h1,by simp,fun x hx y hy => ?_⟩,fun x hx => ?_,fun j hj => ?_⟩
   ·obtain rfl:y=d[m]! :=by simpa using hy
    obtain⟨j,hj,rfl⟩:=h2 x hx;have a1:=hs j m hj (by omega)
    by_cases e:lt d[j]! d[m]! = true
    ·exact e
    ·exfalso
     have ej:=tri _ _ (by simpa using e) a1;have km:=of_decide_eq_true (show decide (m=0\/d[m]!≠d[m-1]!)=true from hk)
     rcases km with km|km
     ·omega
     ·by_cases e2:j=m-1
      ·exact km (by rw[<-e2,ej])
      ·have b1:=hs j (m-1) (by omega) (by omega)
       have b2:=hs (m-1) m (by omega) (by omega);rw[ej] at b1;exact km (tri _ _ b2 b1)
   ·rcases List.mem_append.1 hx with hx|hx
    ·obtain⟨j,hj,e⟩:=h2 x hx;exact⟨j,by omega,e⟩
    ·obtain rfl:x=d[m]! :=by simpa using hx
     exact⟨m,by omega,rfl⟩
   ·by_cases e:j=m
    ·subst e;simp
    ·exact List.mem_append_left _ (h3 j (by omega))
  ·rw[if_neg hk,List.append_nil]
   have km:=of_decide_eq_false (show decide (m=0\/d[m]!≠d[m-1]!)=false from by cases hkk:Lib.keeps d m;exact hkk;exact absurd hkk hk);simp only[not_or,Classical.not_not] at km;refine⟨h1,fun x hx => ?_,fun j hj => ?_⟩
   ·obtain⟨j,hj,e⟩:=h2 x hx;exact⟨j,by omega,e⟩
   ·by_cases e:j=m
    ·subst e;rw[km.2];exact h3 _ (by omega)
    ·exact h3 j (by omega)
theorem comp_spec {lt:α->α->Bool} (tri:∀a b,lt a b=false->lt b a=false->a=b) {l:List α} (hs:l.Pairwise fun a b=>lt b a=false):
  (Lib.compact l).Pairwise (fun a b=>lt a b=true)/\∀x,x∈Lib.compact l↔x∈l:=by
 have hd:∀i j,i<j->j<l.toArray.size->lt l.toArray[j]! l.toArray[i]! = false:=fun i j hij hj=>by
  have hj':j<l.length:=by simpa using hj
  have:=List.pairwise_iff_getElem.1 hs i j (by omega) hj' hij
  rw[getElem!_pos l.toArray j hj,getElem!_pos l.toArray i (by omega)]
  simpa using this
 obtain⟨h1,h2,h3⟩:=compUp tri hd l.toArray.size (Nat.le_refl _)
 have e:Lib.compact l=Lib.compactUpTo l.toArray l.toArray.size:=by unfold Lib.compact;simp
 rw[e]
 refine⟨h1,fun x=>⟨fun hx => ?_,fun hx => ?_⟩⟩
 ·obtain⟨j,hj,rfl⟩:=h2 x hx
  rw[getElem!_pos l.toArray j hj];simp
 ·obtain⟨j,hj,rfl⟩:=List.getElem_of_mem hx
  have:=h3 j (by simpa using hj)
  rwa [getElem!_pos l.toArray j (by simpa using hj),List.getElem_toArray] at this
theorem sort_comp {lt:α->α->Bool} (irr:∀a,lt a a=false) (tri:∀a b,lt a b=false->lt b a=false->a=b) (tr:∀a b c,lt a b=true->lt b c=true->lt a c=true) (l:List α):
  Lib.compact (l.mergeSort fun x y => !lt y x)=sortU lt l:=by
 have hp:(l.mergeSort fun x y => !lt y x).Pairwise (fun a b=>(!lt b a)=true):=List.pairwise_mergeSort (fun a b c h1 h2=>by
   have h1:lt b a=false:=by simpa using h1
   have h2:lt c b=false:=by simpa using h2
   cases e:lt c a
   ·rfl
   ·exfalso
    by_cases g:lt a b=true
    ·have:=tr _ _ _ e g;rw[h2] at this;cases this
    ·have ab:=tri a b (by simpa using g) h1
     subst ab
     rw[h2] at e;cases e) (fun a b=>by
   cases e:lt b a
   ·rfl
   ·cases g:lt a b
    ·rfl
    ·have:=tr _ _ _ e g;rw[irr] at this;cases this) l
 obtain⟨h1,h2⟩:=comp_spec (lt:=lt) tri (l:=l.mergeSort fun x y => !lt y x) (hp.imp fun h=>by simpa using h)
 obtain⟨s1,-,s3⟩:=sort_spec (lt:=lt) (l:=l) tri tr (a:= []) List.Pairwise.nil
 refine rise_ext irr tr h1 s1 fun y => ?_
 rw[h2,List.mem_mergeSort]
 exact((s3 y).trans (by simp)).symm
end
theorem ilt_irr (a:Int):iltB a a=false:=decide_eq_false (by omega)
theorem dlt_irr (a:Dy):dltB a a=false:=decide_eq_false (by unfold dlt;omega)
theorem lt_ilt:ltOf Lib.compareInt=iltB:=by
 funext x y
 unfold ltOf iltB Lib.compareInt
 by_cases h1:x<y
 ·simp[h1]
 ·by_cases h2:y<x<;>simp[h1,h2]
theorem swoI:Sort.SWO iltB where
 irrefl x:=ilt_irr x
 trans x y z h1 h2:=ilt_tr x y z h1 h2
 ntrans x y z h1 h2:=by unfold iltB at *;simp at *;omega
def OwnI (W w:World) (v:Value) (l:List Int):Prop:=w.ownsRow W.heap.size 3 1 v l.length (l.map (Value.int .i64))
theorem OwnI.nil (W w:World):OwnI W w (.slice none 0 0) []:=World.ownsRow_nil _ _ _ _
theorem OwnI.on {W w w':World} {v:Value} {l:List Int} (h:OwnI W w v l) (hb:Below w.heap.size w w'):OwnI W w' v l:=
 World.ownsRow.kept (row:=none) h ⟨hb.1,hb.2,hb.3,hb.4,fun k hk _=>hb.5 k hk⟩ (by cases v.ownBlock<;>simp)
theorem info_int:(Tryz.prog.info? 3).map (fun i=>(i.zero,i.size,i.bytes))=some (some (.int .i64 0),1,8):=by kernel_rfl
theorem OwnI.at_ {W w:World} {v:Value} {l:List Int} (h:OwnI W w v l):∃A c,v= .slice A l.length c/\IsAt w A l.length l/\l.length<=c/\l.length<=maxLen:=by
 rcases h.2 with ⟨rfl,h0⟩|⟨g,cap,cur,rfl,hb,hg,hnc,hcm,-⟩
 ·have e:l=[]:=List.length_eq_zero_iff.1 h0
  subst e;exact⟨none,0,rfl,IsAt.nil _ _,Nat.le_refl _,by decide⟩
 ·refine⟨some ⟨g,0,none⟩,cap,rfl,⟨rfl,fun h0=>⟨g,0,rfl,(World.ownsRow.lt h g rfl).2,fun j hj => ?_⟩⟩,hnc,by omega⟩
  rw[Nat.zero_add,World.ownsRow.cellAt h j (by omega),iat_lt hj]
  simp[hj]
theorem append_num {ops:Array Oper} {rest:List Oper} {o:Oper} {a:Act} {Q:Exit->Act->World->Prop} {W w:World} (hgd:o.guard=none) (s x:Operand)
  (ho:o.op= .call { callee:= .builtin .append,args:=#[s,x],argTypes:=#[22,22] })
  (v:Value) (l:List Int) (hs:a.eval s=v) (hown:OwnI W w v l) (hat:Below W.heap.size W w) (t:Int) (T:TypeId) (c:Nat)
  (hx:a.eval x= .slice (some ⟨w.heap.size,0,none⟩) 1 c) (hl:l.length<=1000000)
  (h:∀v' w',OwnI W w' v' (l++[t])->Below W.heap.size W w'->wpList Tryz.prog ops Q rest (a.put o.dst v') w'):wpList Tryz.prog ops Q (o::rest) a (w.alloc (.cells #[.int .i64 t] T)):=by
 obtain⟨i0,hi,hz0,hz1,hz2⟩:=info_parts info_int
 refine wpList_append_own _ hgd s x 22 ho W.heap.size 3 i0 (.int .i64 0) 1 8 Tryz.underlying22 hi hz0 hz1 hz2 rfl (by decide) v l.length (l.map (Value.int .i64)) hs (World.ownsRow.alloc hown _)
  ⟨w.heap.size,0,none⟩ 1 c [.int .i64 t] hx rfl ?_ (by intro u hu;obtain rfl:u= .int .i64 t:=by simpa using hu
                                                       rfl) (by unfold maxLen;omega) (by omega) (by have:=hat.size;simp;omega) ?_
 ·intro j u hj
  cases j with
  |zero=>obtain rfl:Value.int .i64 t=u:=by simpa using hj
         show (w.alloc (.cells #[.int .i64 t] T)).cell? ⟨w.heap.size,0,none⟩=_
         rw[World.cell?_alloc_new];rfl
  |succ j=>simp at hj
 ·intro v' w' hown' hg _
  have hat1:Below W.heap.size W (w.alloc (.cells #[.int .i64 t] T)):=hat.trans ((Below.refl _ _).alloc hat.size _)
  refine h v' w' ?_ (hat1.trans ((Below.refl _ _).grown hg (by have:=hat.size;simp;omega) fun _ hk=>(World.ownsRow.lt hown _ hk).1));unfold OwnI;rw[List.length_append,List.map_append];exact hown'
theorem OwnI.sorted {W w:World} {g cap:Nat} {l m:List Int} (h:OwnI W w (.slice (some ⟨g,0,none⟩) l.length cap) l) (hb:Below W.heap.size W w) (hm:m.length=l.length) (n:Nat) (os:Array Obj):
  OwnI W (sortWorld (Value.int .i64) w g 0 n m.toArray os) (.slice (some ⟨g,0,none⟩) l.length cap) m/\Below W.heap.size W (sortWorld (Value.int .i64) w g 0 n m.toArray os):=by
 have hg:=World.ownsRow.lt h g rfl
 have o1:=Lib.ownsRow_putRow (q:=n) (k:=l.length) (ys:=m) h hm (Nat.le_refl _)
 have b1:=Lib.below_putRow (enc:=Value.int .i64) (q:=n) (d:=m.toArray) hb hg.1
 rw[<-hm,List.take_length] at o1
 have b2:Below (Sort.putRow (Value.int .i64) (Sort.ahead w n) g 0 m.toArray).heap.size (Sort.putRow (Value.int .i64) (Sort.ahead w n) g 0 m.toArray) (sortWorld (Value.int .i64) w g 0 n m.toArray os):=
  ⟨rfl,rfl,rfl,by unfold sortWorld Sort.grow;simp,fun k hk=>by
   show ((Sort.putRow (Value.int .i64) (Sort.ahead w n) g 0 m.toArray).heap++os)[k]? = _
   rw[Array.getElem?_append_left hk]⟩
 refine⟨?_,b1.trans (b2.mono b1.size)⟩
 have o2:OwnI W (Sort.putRow (Value.int .i64) (Sort.ahead w n) g 0 m.toArray) (.slice (some ⟨g,0,none⟩) m.length cap) m:=o1
 rw[<-hm]
 exact o2.on b2
theorem sortI_is (W w:World) (v:Value) (l:List Int) (h:OwnI W w v l) (hb:Below W.heap.size W w) (hl:l.length<=1000000):
  Calls Tryz.prog 268 #[v,.func (.func 232) #[] #[]] w fun e w'=>e= .returned (.tuple #[])/\OwnI W w' v (l.mergeSort fun x y => !iltB y x)/\Below W.heap.size W w':=by
 by_cases h0:l=[]
 ·subst h0
  obtain⟨A,c,rfl,-,-,-⟩:=h.at_;refine(Tryz.slices_SortFunc_none_f268 (α:=Int) A c (.func (.func 232) #[] #[]) w).mono ?_;rintro e w' ⟨rfl,rfl⟩;exact⟨rfl,by simpa using h,hb⟩
 ·obtain⟨g,cap,rfl,g1,g2,g3,g4,-,hH⟩:=Lib.holds_of_ownsRow (enc:=Value.int .i64) (zs:=l) h (by rintro rfl;exact h0 (List.length_eq_zero_iff.1 (by obtain⟨A,c,e,-⟩:=h.at_;injection e with _ e _;exact e.symm)))
  have eg:∀args w,(callFunc 232 args).run Tryz.prog w= .ok (.enter 232 args) w:=enters_of Tryz.func232 (by kernel_rfl) rfl
  have hc:=Tryz.slices_SortFunc_total (α:=Int) (Value.int .i64) (fun _=>rfl) Lib.compareInt (by rw[lt_ilt];exact swoI) 232 #[] g 0 cap l.toArray w eg
   (fun m os dk hs x y=>(compare_any x y _ _ rfl).mono fun e w' ⟨he,hw⟩=>⟨he,0,#[],by rw[hw,Sort.grow_empty];rfl⟩) hH g2 (by simp;omega) (by rw[lt_ilt];exact ilt_tri)
  rw[lt_ilt] at hc;simp only[List.size_toArray] at hc;refine hc.mono ?_;rintro e w' ⟨rfl,n,os,rfl⟩
  have:=OwnI.sorted h hb (m:=l.mergeSort fun x y => !iltB y x) (by simp) n os
  exact⟨rfl,this.1,this.2⟩
theorem OwnI.fresh {W w:World} {A:Option Addr} {n c:Nat} {l:List Int} (h:OwnI W w (.slice A n c) l):Fresh W.heap.size A:=fun b off e=>by
 subst e
 rcases h.2 with ⟨h0,-⟩|⟨g,cap,cur,h0,hb,-⟩
 ·cases h0
 ·injection h0 with h1 h2 h3
  injection h1 with h1;injection h1 with h4 h5;subst h4;subst h5;exact⟨hb,rfl⟩
def CompI (W:World) (l:List Int) (e:Ending) (w':World):Prop:=∃A c,e= .returned (.slice A (Lib.compact l).length c)/\IsAt w' A (Lib.compact l).length (Lib.compact l)/\Fresh W.heap.size A/\Below W.heap.size W w'
theorem compactI_is (W w:World) (v:Value) (l:List Int) (h:OwnI W w v l) (hb:Below W.heap.size W w) (hl:l.length<=1000000):
  Calls Tryz.prog 250 #[v] w (CompI W l):=by
 by_cases h0:l=[]
 ·subst h0
  obtain⟨A,c,rfl,hA,-,-⟩:=h.at_;refine(Tryz.slices_Compact_int_empty A c w).mono ?_;rintro e w' ⟨rfl,rfl⟩;exact⟨A,c,rfl,hA,h.fresh,hb⟩
 ·obtain⟨g,cap,rfl,g1,g2,g3,g4,-,hH⟩:=Lib.holds_of_ownsRow (enc:=Value.int .i64) (zs:=l) h (by rintro rfl;exact h0 (List.length_eq_zero_iff.1 (by obtain⟨A,c,e,-⟩:=h.at_;injection e with _ e _;exact e.symm)))
  refine(Tryz.slices_Compact_int g 0 cap l w hH (by omega) g3).mono ?_;rintro e w' ⟨rfl,q,rfl⟩
  have hk:(Lib.compact l).length<=l.length:=by
   unfold Lib.compact Lib.compactUpTo;rw[List.length_map];exact Nat.le_trans (List.length_filter_le _ _) (by simp)
  have o1:=Lib.ownsRow_putRow (q:=q) (k:=(Lib.compact l).length) (ys:=Lib.compact l++List.replicate (l.length-(Lib.compact l).length) 0) h (by simp;omega) hk;rw[List.take_left' rfl] at o1;have b1:=Lib.below_putRow (enc:=Value.int .i64) (q:=q) (d:=(Lib.compact l++List.replicate (l.length-(Lib.compact l).length) 0).toArray) hb g1;obtain⟨A,c,e,hA,-⟩:=OwnI.at_ (W:=W) o1;injection e with e1 _ e3;subst e1;subst e3;exact⟨_,cap,rfl,hA,(fun b off e=>by cases e;exact⟨g1,rfl⟩),b1⟩
end Go.Proofs.YtddnnljfgfcplaaGreatDoor.Ru
set_option linter.unusedVariables false
namespace Go.Proofs.YtddnnljfgfcplaaGreatDoor.Ru
open Go.RowKit Cv St
instance:Inhabited Dy:=⟨⟨0,0⟩⟩
def dyCells:List Dy->List Value
 | [] => []
 |s::l => .int .i64 s.n :: .int .i64 s.w::dyCells l
theorem dyCells_len:∀l:List Dy,(dyCells l).length=l.length*2
 | []=>rfl
 |s::l=>by simp only[dyCells,List.length_cons,dyCells_len l];omega
theorem dyCells_app:∀l k:List Dy,dyCells (l++k)=dyCells l++dyCells k
 | [],_=>rfl
 |s::l,k=>by simp only[List.cons_append,dyCells,dyCells_app l k]
theorem dyCells_get:∀(l:List Dy) (j:Nat),j<l.length->(dyCells l)[j*2]? = some (.int .i64 (dat l j).n)/\(dyCells l)[j*2+1]? = some (.int .i64 (dat l j).w)
 | [],j,h=>by simp at h
 |s::l,0,_=>⟨rfl,rfl⟩
 |s::l,j+1,h=>by
  have:=dyCells_get l j (by simpa using h)
  have e:dat (s::l) (j+1)=dat l j:=by simp[dat]
  rw[e,show (j+1)*2=j*2+2 from by omega];exact this
theorem dyCells_one (l:List Dy):∀u∈dyCells l,u.oneCell'=true:=by
 induction l with
 |nil=>intro u h;cases h
 |cons s l ih=>
  intro u h;simp only[dyCells,List.mem_cons] at h
  rcases h with rfl|rfl|h
  ·rfl
  ·rfl
  ·exact ih u h
theorem dyCells_at {l:List Dy} {j:Nat} {u:Value} (h:(dyCells l)[j]? = some u):∃i,i<l.length/\((j=i*2/\u= .int .i64 (dat l i).n)\/(j=i*2+1/\u= .int .i64 (dat l i).w)):=by
 have hj:j<l.length*2:=by rw[<-dyCells_len];exact(List.getElem?_eq_some_iff.1 h).1
 have hi:j / 2<l.length:=by omega
 obtain⟨a,b⟩:=dyCells_get l (j / 2) hi
 refine⟨j / 2,hi,?_⟩
 by_cases e:j=j / 2*2
 ·left;rw[e] at h;rw[<-e] at h;refine⟨e,?_⟩;rw[<-e] at a;rw[h] at a;exact Option.some.inj a
 ·right
  have e':j=j / 2*2+1:=by omega
  refine⟨e',?_⟩;rw[<-e'] at b;rw[h] at b;exact Option.some.inj b
def OwnD (W w:World) (v:Value) (l:List Dy):Prop:=w.ownsRow W.heap.size 109 2 v l.length (dyCells l)
theorem OwnD.nil (W w:World):OwnD W w (.slice none 0 0) []:=World.ownsRow_nil _ _ _ _
theorem OwnD.on {W w w':World} {v:Value} {l:List Dy} (h:OwnD W w v l) (hb:Below w.heap.size w w'):OwnD W w' v l:=
 World.ownsRow.kept (row:=none) h ⟨hb.1,hb.2,hb.3,hb.4,fun k hk _=>hb.5 k hk⟩ (by cases v.ownBlock<;>simp)
theorem info_dy:(Tryz.prog.info? 109).map (fun i=>(i.zero,i.size,i.bytes))=some (some (.agg #[.int .i64 0,.int .i64 0]),2,16):=by kernel_rfl
theorem addr_off (b off n:Nat):(⟨b,off,none⟩:Addr).add n=⟨b,off+n,none⟩:=by
 unfold Addr.add;split
 ·rename_i h;rw[h];rfl
 ·rfl
def RowD (w:World) (g:Nat) (d:Array Dy):Prop:=
 ∀j,j<d.size->w.cell? ⟨g,j*2,none⟩=some (.int .i64 d[j]!.n)/\w.cell? ⟨g,j*2+1,none⟩=some (.int .i64 d[j]!.w)/\w.frozen? ⟨g,j*2,none⟩=false/\w.frozen? ⟨g,j*2+1,none⟩=false
theorem OwnD.row {W w:World} {v:Value} {l:List Dy} (h:OwnD W w v l) (h0:l≠[]):∃g cap,v= .slice (some ⟨g,0,none⟩) l.length cap/\W.heap.size<=g/\g<w.heap.size/\l.length<=cap/\cap<=maxLen/\RowD w g l.toArray:=by
 rcases h.2 with ⟨rfl,e⟩|⟨g,cap,cur,rfl,hB,hg,hn,hm,hs,ht⟩
 ·exact absurd (List.length_eq_zero_iff.1 e) h0
 ·refine⟨g,cap,rfl,hB,(Array.getElem?_eq_some_iff.1 hg).1,hn,hm,fun j hj => ?_⟩
  have hj':j<l.length:=by simpa using hj
  obtain⟨a,b⟩:=dyCells_get l j hj';have hc:=World.ownsRow.cells h (g:=g) rfl;have e:l.toArray[j]! = dat l j:=by rw[getElem!_pos l.toArray j hj,dat_lt hj'];simp
  have ca:=hc _ _ a;have cb:=hc _ _ b;rw[addr_off,Nat.zero_add] at ca cb;rw[e];exact⟨ca,cb,by simp[World.frozen?,hg],by simp[World.frozen?,hg]⟩
theorem append_day {ops:Array Oper} {rest:List Oper} {o:Oper} {a:Act} {Q:Exit->Act->World->Prop} {W w:World} (hgd:o.guard=none) (s x:Operand)
  (ho:o.op= .call { callee:= .builtin .append,args:=#[s,x],argTypes:=#[23,23] })
  (v:Value) (l:List Dy) (hs:a.eval s=v) (hown:OwnD W w v l) (hat:Below W.heap.size W w) (t:Dy) (T:TypeId) (c:Nat)
  (hx:a.eval x= .slice (some ⟨w.heap.size,0,none⟩) 1 c) (hl:l.length<=1000000)
  (h:∀v' w',OwnD W w' v' (l++[t])->Below W.heap.size W w'->wpList Tryz.prog ops Q rest (a.put o.dst v') w'):wpList Tryz.prog ops Q (o::rest) a (w.alloc (.cells #[.int .i64 t.n,.int .i64 t.w] T)):=by
 obtain⟨i0,hi,hz0,hz1,hz2⟩:=info_parts info_dy
 refine wpList_append_own _ hgd s x 23 ho W.heap.size 109 i0 (.agg #[.int .i64 0,.int .i64 0]) 2 16 Tryz.underlying23 hi hz0 hz1 hz2 rfl (by decide) v l.length (dyCells l) hs (World.ownsRow.alloc hown _)
  ⟨w.heap.size,0,none⟩ 1 c (dyCells [t]) hx rfl ?_ (dyCells_one [t]) (by unfold maxLen;omega) (by omega) (by have:=hat.size;simp;omega) ?_
 ·intro j u hj
  rw[addr_off,Nat.zero_add,World.cell?_alloc_new]
  have:(#[Value.int .i64 t.n,Value.int .i64 t.w]:Array Value).toList=dyCells [t]:=rfl
  rw[<-this] at hj
  simpa using hj
 ·intro v' w' hown' hg _
  have hat1:Below W.heap.size W (w.alloc (.cells #[.int .i64 t.n,.int .i64 t.w] T)):=hat.trans ((Below.refl _ _).alloc hat.size _)
  refine h v' w' ?_ (hat1.trans ((Below.refl _ _).grown hg (by have:=hat.size;simp;omega) fun _ hk=>(World.ownsRow.lt hown _ hk).1));unfold OwnD;rw[List.length_append,dyCells_app];exact hown'
theorem three_grow (w:World) (a b o:Obj):(((w.alloc a).alloc b).drew).alloc o=Sort.grow (w.drewN 1) #[a,b,o]:=by
 rw[Sort.alloc_eq_grow,Sort.alloc_eq_grow,Sort.alloc_eq_grow]
 show Sort.grow (Sort.grow (Sort.grow w.drew #[a]) #[b]) #[o]=_
 rw[Sort.grow_grow,Sort.grow_grow]
 rfl
def encD (d:Dy):List Value:= [.int .i64 d.n,.int .i64 d.w]
theorem holdsD {w:World} {g:Nat} {d:Array Dy} (h:RowD w g d):Sort.HoldsK encD 2 w g 0 d:=by
 intro t ht
 rw[Sort.size_flatK] at ht
 rw[Sort.get_flatK _ _ _ _ ht,Nat.zero_add]
 obtain⟨a,b,c,e⟩:=h (t / 2) (by omega)
 have:t % 2=0\/t % 2=1:=by omega
 rcases this with h0|h0
 ·have et:t=t / 2*2:=by omega
  rw[h0,et];rw[show t / 2*2 / 2=t / 2 from by omega];exact⟨a,c⟩
 ·have et:t=t / 2*2+1:=by omega
  rw[h0,et];rw[show (t / 2*2+1) / 2=t / 2 from by omega];exact⟨b,e⟩
theorem rowD_of {w:World} {g:Nat} {d:Array Dy} (h:Sort.HoldsK encD 2 w g 0 d):RowD w g d:=by
 intro j hj
 have h1:=h (j*2) (by rw[Sort.size_flatK];omega)
 have h2:=h (j*2+1) (by rw[Sort.size_flatK];omega)
 rw[Sort.get_flatK _ _ _ _ (by omega),Nat.zero_add,show j*2 / 2=j from by omega,show j*2 % 2=0 from by omega] at h1
 rw[Sort.get_flatK _ _ _ _ (by omega),Nat.zero_add,show (j*2+1) / 2=j from by omega,show (j*2+1) % 2=1 from by omega] at h2
 exact⟨h1.1,h2.1,h1.2,h2.2⟩
theorem cmpDays_grow (a b:Dy) (w:World):
  Calls Tryz.prog 194 #[.agg #[.int .i64 a.n,.int .i64 a.w],.agg #[.int .i64 b.n,.int .i64 b.w]] w fun e w'=>e= .returned (.int .i64 (cmpD a b))/\∃q os,w'=Sort.grow (w.drewN q) os:=by
 obtain⟨a1,a2⟩:=a
 obtain⟨b1,b2⟩:=b
 obtain⟨p,hp⟩:∃p,cmpI a1 b1=p:=⟨_,rfl⟩
 obtain⟨q,hq⟩:∃q,cmpI a2 b2=q:=⟨_,rfl⟩
 have G:=Lib.hid (show orI p q=cmpD ⟨a1,a2⟩ ⟨b1,b2⟩ by rw[<-hp,<-hq];rfl)
 have HP:=Lib.hid hp
 have HQ:=Lib.hid hq
 clear hp hq
 generalize cmpD ⟨a1,a2⟩ ⟨b1,b2⟩=x at *
 show Calls Tryz.prog 194 #[.agg #[.int .i64 a1,.int .i64 a2],.agg #[.int .i64 b1,.int .i64 b2]] w (fun e w'=>e= .returned (.int .i64 x)/\∃q os,w'=Sort.grow (w.drewN q) os)
 go_enter Tryz.func194,Tryz.ntmps194
 go_wp2_with fail
 have bz:=((Below.refl w.heap.size w).alloc (Nat.le_refl _) (.cells #[.int .i64 a1,.int .i64 a2] 109)).alloc (by simp) (.cells #[.int .i64 b1,.int .i64 b2] 109)
 have k0:((w.alloc (.cells #[.int .i64 a1,.int .i64 a2] 109)).alloc (.cells #[.int .i64 b1,.int .i64 b2] 109)).drew.cell? ⟨w.heap.size,0,none⟩=some (.int .i64 a1):=by simp[go_sem]
 have k1:((w.alloc (.cells #[.int .i64 a1,.int .i64 a2] 109)).alloc (.cells #[.int .i64 b1,.int .i64 b2] 109)).drew.cell? ⟨w.heap.size,1,none⟩=some (.int .i64 a2):=by simp[go_sem]
 have k2:((w.alloc (.cells #[.int .i64 a1,.int .i64 a2] 109)).alloc (.cells #[.int .i64 b1,.int .i64 b2] 109)).drew.cell? ⟨w.heap.size+1,0,none⟩=some (.int .i64 b1):=by simp[go_sem]
 have k3:((w.alloc (.cells #[.int .i64 a1,.int .i64 a2] 109)).alloc (.cells #[.int .i64 b1,.int .i64 b2] 109)).drew.cell? ⟨w.heap.size+1,1,none⟩=some (.int .i64 b2):=by simp[go_sem]
 generalize hw2:(w.alloc (.cells #[.int .i64 a1,.int .i64 a2] 109)).alloc (.cells #[.int .i64 b1,.int .i64 b2] 109)=w2 at *
 have HW2:=Lib.hid hw2
 clear hw2
 refine wp_region_still_tail 10 (by kernel_rfl) (by kernel_rfl) ?_
 simp only[List.take_succ_cons,List.take_zero,List.drop_succ_cons,List.drop_zero]
 still_step
 still_step
 still_step
 still_step
 still_call (compare_any a1 b1 p _ HP.out)
 still_step
 still_step
 still_step
 still_step
 still_call (compare_any a2 b2 q _ HQ.out)
 refine wpStill_nil ?_
 change wpList _ _ _ _ _ w2.drew
 have bd:=bz.trans ((Below.refl _ _).drew)
 generalize hw3:w2.drew=w3 at *
 have HW3:=Lib.hid hw3
 clear hw3
 go_wp2_with fail
 refine(or_any p q x _ _ _ (by simp[go_sem]) (by simp[go_sem]) G.out).mono ?_
 rintro e w4 ⟨rfl,rfl⟩
 go_wp2
 go_ret
 exact⟨rfl,1,_,by rw[<-HW3.out,<-HW2.out];exact three_grow _ _ _ _⟩
theorem cmpD_lt {a b:Dy}:cmpD a b<0↔dlt a b:=by
 unfold cmpD orI dlt
 rcases Int.lt_trichotomy a.n b.n with h|h|h
 ·rw[cmpI_lt h,if_neg (by decide)];omega
 ·rw[cmpI_eq h,if_pos rfl]
  rcases Int.lt_trichotomy a.w b.w with g|g|g
  ·rw[cmpI_lt g];omega
  ·rw[cmpI_eq g];omega
  ·rw[cmpI_gt g];omega
 ·rw[cmpI_gt h,if_neg (by decide)];omega
theorem lt_dlt:ltOf cmpD=dltB:=by
 funext x y
 unfold ltOf dltB
 exact decide_eq_decide.2 cmpD_lt
theorem swoD:Sort.SWO dltB where
 irrefl x:=dlt_irr x
 trans x y z h1 h2:=dlt_tr x y z h1 h2
 ntrans x y z h1 h2:=by
  have h1:=of_decide_eq_false h1;have h2:=of_decide_eq_false h2;exact decide_eq_false (by unfold dlt at *;omega)
theorem isAggD:∀w,(isAgg 109).run Tryz.prog w= .ok true w:=Tryz.isAgg109
theorem sizeD:∀w,(Go.sizeOf 109).run Tryz.prog w= .ok 2 w:=Tryz.sizeOf109
theorem sortD_is (W w:World) (v:Value) (l:List Dy) (h:OwnD W w v l) (h0:l≠[]) (hb:Below W.heap.size W w) (hl:l.length<=1000000):
  ∃g cap,v= .slice (some ⟨g,0,none⟩) l.length cap/\W.heap.size<=g/\l.length<=cap/\Calls Tryz.prog 242 #[v,.func (.func 194) #[] #[]] w fun e w'=>e= .returned (.tuple #[])/\RowD w' g (l.mergeSort fun x y => !dltB y x).toArray/\g<w'.heap.size/\Below W.heap.size W w':=by
 obtain⟨g,cap,rfl,g1,g2,g3,g4,hR⟩:=h.row h0
 refine⟨g,cap,rfl,g1,g3,?_⟩
 have eg:∀args w,(callFunc 194 args).run Tryz.prog w= .ok (.enter 194 args) w:=enters_of Tryz.func194 (by kernel_rfl) rfl
 have hH:=holdsD hR
 have hc:=Tryz.slices_SortFunc_total_f242 (α:=Dy) 2 isAggD sizeD encD (fun _=>rfl) (fun x v hv=>by unfold encD at hv;simp at hv;rcases hv with rfl|rfl<;>rfl) cmpD (by rw[lt_dlt];exact swoD) 194 #[] g 0 cap l.toArray w eg
  (fun m os dk hs x y=>cmpDays_grow x y _) hH g2 (by simp;omega) (by rw[lt_dlt];exact dlt_tri)
 rw[lt_dlt] at hc
 simp only[List.size_toArray] at hc
 refine hc.mono ?_
 rintro e w' ⟨rfl,n,os,rfl⟩
 have hH2:=holdsK_sortWorldK encD 2 w g 0 n l.toArray (l.mergeSort fun x y => !dltB y x).toArray os g2 hH (by simp)
 have b1:=Lib.below_putRow (enc:=(id:Value->Value)) (q:=n) (d:=Sort.flatK encD 2 (l.mergeSort fun x y => !dltB y x).toArray) hb g1
 have b2:Below (Sort.putRow (id:Value->Value) (Sort.ahead w n) g 0 (Sort.flatK encD 2 (l.mergeSort fun x y => !dltB y x).toArray)).heap.size (Sort.putRow (id:Value->Value) (Sort.ahead w n) g 0 (Sort.flatK encD 2 (l.mergeSort fun x y => !dltB y x).toArray)) (sortWorldK encD 2 w g 0 n (l.mergeSort fun x y => !dltB y x).toArray os):=
  ⟨rfl,rfl,rfl,by unfold sortWorldK Sort.grow Sort.putRowK;simp,fun k hk=>by
   show ((Sort.putRow (id:Value->Value) (Sort.ahead w n) g 0 (Sort.flatK encD 2 (l.mergeSort fun x y => !dltB y x).toArray)).heap++os)[k]? = _
   rw[Array.getElem?_append_left hk]⟩
 exact⟨rfl,rowD_of hH2,lt_sortWorldK encD 2 w g 0 n _ os g2,b1.trans (b2.mono b1.size)⟩
end Go.Proofs.YtddnnljfgfcplaaGreatDoor.Ru
set_option linter.unusedVariables false
namespace Go.Proofs.YtddnnljfgfcplaaGreatDoor.Ru
open Lib (hid)
open Go.RowKit Cv St
theorem RowD.at_ {w:World} {g:Nat} {d:Array Dy} {l:List Dy} (h:RowD w g d) (hg:g<w.heap.size) (hl:l.length<=d.size) (he:∀j,j<l.length->d[j]! = dat l j):DyAt w (some ⟨g,0,none⟩) l.length l:=
 ⟨rfl,fun h0=>⟨g,0,rfl,hg,fun j hj=>by
  obtain⟨a,b,-,-⟩:=h j (by omega);rw[he j hj] at a b
  rw[Nat.zero_add];exact⟨a,b⟩⟩⟩
theorem RowD.drew {w:World} {g:Nat} {d:Array Dy} (h:RowD w g d) (n:Nat):RowD (w.drewN n) g d:=h
theorem RowD.put {w:World} {g:Nat} {d:Array Dy} (h:RowD w g d) {k:Nat} (hk:k<d.size) (u:Dy):RowD ((w.setCell ⟨g,k*2,none⟩ (.int .i64 u.n)).setCell ⟨g,k*2+1,none⟩ (.int .i64 u.w)) g (d.setIfInBounds k u):=by
 intro j hj
 have hj':j<d.size:=by simpa using hj
 obtain⟨a,b,c,e⟩:=h j hj'
 obtain⟨a2,b2,-,-⟩:=h k hk
 by_cases ejk:j=k
 ·subst ejk
  have eu:(d.setIfInBounds j u)[j]! = u:=Sort.getElem!_set_same d j u hj'
  rw[eu];refine⟨?_,?_,by simpa using c,by simpa using e⟩
  ·rw[World.cell?_setCell_other _ _ _ _ (by simp)]
   exact World.cell?_setCell_same _ _ _ a
  ·exact World.cell?_setCell_same _ _ _ ((World.cell?_setCell_other _ _ _ _ (by simp)).trans b)
 ·have eu:(d.setIfInBounds k u)[j]! = d[j]! :=Sort.getElem!_set_other d k j u ejk
  rw[eu];refine⟨?_,?_,by simpa using c,by simpa using e⟩
  ·rw[World.cell?_setCell_other _ _ _ _ (by first|(simp;done)|(simp;omega)),World.cell?_setCell_other _ _ _ _ (by first|(simp;done)|(simp;omega))]
   exact a
  ·rw[World.cell?_setCell_other _ _ _ _ (by first|(simp;done)|(simp;omega)),World.cell?_setCell_other _ _ _ _ (by first|(simp;done)|(simp;omega))]
   exact b
theorem clearD (w:World) (g o n c:Nat) (hn:0<n) (hc:∀j,j<n*2->(w.cell? ⟨g,o+j,none⟩).isSome=true) (hf:∀j,j<n*2->w.frozen? ⟨g,o+j,none⟩=false):
  ∃vs:List Value,∀ty:TypeId,(Builtin.clear_ #[23] ty #[.slice (some ⟨g,o,none⟩) n c]).run Tryz.prog w= .ok (.tuple #[]) (w.setCells g o vs):=by
 have hz:∀w,(zeroValue 109).run Tryz.prog w= .ok (.agg #[.int .i64 0,.int .i64 0]) w:=Tryz.zeroValue109
 have hl:(Builtin.zeroCells (Value.agg #[.int .i64 0,.int .i64 0]).cells n).toList.length=n*2:=by
  simp[Builtin.zeroCells,Value.cells]
  try omega
 refine⟨(Builtin.zeroCells (Value.agg #[.int .i64 0,.int .i64 0]).cells n).toList,fun ty => ?_⟩
 have hst:=run_storeCells_cells (P:=Tryz.prog) g o (Builtin.zeroCells (Value.agg #[.int .i64 0,.int .i64 0]).cells n).toList 0 w (by rw[hl];simpa using hc) (by rw[hl];simpa using hf) (by
  intro v hv
  have:v= .int .i64 0:=by
   simp[Builtin.zeroCells,Value.cells] at hv
   obtain⟨i,hi,rfl⟩:=hv
   have:i % 2=0\/i % 2=1:=by omega
   rcases this with e|e<;>simp[e]
  rw[this];rfl)
 simp only[Nat.add_zero] at hst
 obtain⟨m,rfl⟩:∃m,n=m+1:=⟨n-1,by omega⟩
 simp[Builtin.clear_,run_underlying Tryz.underlying23,hz,hst]
theorem below_cells {B g:Nat} {a:World} (hg:B<=g):∀(vs:List Value) (o:Nat) (w:World),Below B a w->Below B a (w.setCells g o vs)
 | [],_,_,h=>h
 |v::vs,o,w,h=>below_cells hg vs (o+1) _ (h.setCell (p:=⟨g,o,none⟩) hg v)
theorem size_cells (g:Nat):∀(vs:List Value) (o:Nat) (w:World),(w.setCells g o vs).heap.size=w.heap.size
 | [],_,_=>rfl
 |v::vs,o,w=>(size_cells g vs (o+1) _).trans (by simp)
theorem clearR {w:World} {g n kk:Nat} {dk:Array Dy} (h:RowD w g dk) (hs:dk.size=n) (hk:kk<n) (cap:Nat):
  ∃vs:List Value,∀ty:TypeId,(Builtin.clear_ #[23] ty #[.slice (some ⟨g,kk*2,none⟩) (n-kk) (cap-kk)]).run Tryz.prog w= .ok (.tuple #[]) (w.setCells g (kk*2) vs):=by
 refine clearD w g (kk*2) (n-kk) (cap-kk) (by omega) (fun j hj => ?_) (fun j hj => ?_)
 ·have:j % 2=0\/j % 2=1:=by omega
  obtain⟨a,b,-,-⟩:=h (kk+j / 2) (by omega)
  rcases this with e|e
  ·rw[show kk*2+j=(kk+j / 2)*2 from by omega,a];rfl
  ·rw[show kk*2+j=(kk+j / 2)*2+1 from by omega,b];rfl
 ·have:j % 2=0\/j % 2=1:=by omega
  obtain⟨-,-,a,b⟩:=h (kk+j / 2) (by omega)
  rcases this with e|e
  ·rw[show kk*2+j=(kk+j / 2)*2 from by omega,a]
  ·rw[show kk*2+j=(kk+j / 2)*2+1 from by omega,b]
def CompD (B:Nat) (w:World) (l:List Dy) (e:Ending) (w':World):Prop:=∃A c,e= .returned (.slice A (Lib.compact l).length c)/\DyAt w' A (Lib.compact l).length (Lib.compact l)/\Fresh B A/\Below B w w'
theorem keeps_next {d:Array Dy} {k:Nat} (h:∀j,j<k->Lib.keeps d j=true) (e:Lib.keeps d k=true):∀j,j<k+1->Lib.keeps d j=true:=fun j hj=>by
 by_cases c:j=k
 ·subst c;exact e
 ·exact h j (by omega)
theorem dy_eq {a b:Dy} (h1:a.n=b.n) (h2:a.w=b.w):a=b:=by cases a;cases b;simp only at h1 h2;rw[h1,h2]
theorem compactD_is (B:Nat) (W w:World) (g cap:Nat) (l:List Dy) (hR:RowD w g l.toArray) (hg:g<w.heap.size) (hB:B<=g) (hb:Below B W w) (hl:l.length<=1000000) (hcap:l.length<=cap):
  Calls Tryz.prog 243 #[.slice (some ⟨g,0,none⟩) l.length cap] w (CompD B W l):=by
 obtain⟨n,hn⟩:∃n,l.length=n:=⟨_,rfl⟩
 obtain⟨d,hd⟩:∃d,l.toArray=d:=⟨_,rfl⟩
 have hsz:d.size=n:=by rw[<-hd,<-hn];simp
 have HS:=hid (fun (w':World) (h:RowD w' g d) (hg':g<w'.heap.size) (hb':Below B W w') (hall:∀j,j<n->Lib.keeps d j=true)=>show CompD B W l (.returned (.slice (some ⟨g,0,none⟩) n cap)) w' from by
  have e:Lib.compact l=l:=by
   refine Lib.compact_all l fun j hj => ?_
   rw[hd];exact hall j (by omega)
  refine⟨some ⟨g,0,none⟩,cap,by rw[e,hn],?_,(fun b off e=>by cases e;exact⟨hB,rfl⟩),hb'⟩;rw[e]
  exact h.at_ hg' (by omega) fun j hj=>by rw[<-hd,getElem!_pos l.toArray j (by simpa using hj),dat_lt hj];simp)
 have HF:=hid (fun (wr:World) (kk:Nat) (dk:Array Dy) (vs:List Value) (h:RowD wr g dk) (hg':g<wr.heap.size) (hb':Below B W wr) (hI:Lib.CompInv d n kk dk)=>show CompD B W l (.returned (.slice (some ⟨g,0,none⟩) kk cap)) (wr.setCells g (kk*2) vs) from by
  have e:Lib.compact l=Lib.compactUpTo d n:=by unfold Lib.compact;rw[hd,hn]
  have hk:=hI.len;have hlt:=hI.lt;have hz:=hI.size;refine⟨some ⟨g,0,none⟩,cap,by rw[e,hk],?_,(fun b off e=>by cases e;exact⟨hB,rfl⟩),below_cells hB vs _ _ hb'⟩;rw[e];refine⟨rfl,fun h0=>⟨g,0,rfl,?_,fun j hj => ?_⟩⟩
  ·rw[size_cells];exact hg'
  ·have hj':j<kk:=by omega
   obtain⟨a,b,-,-⟩:=h j (by omega)
   have ej:dat (Lib.compactUpTo d n) j=dk[j]! :=by
    have:=hI.low j hj'
    rw[dat_lt (by omega)];exact(List.getElem?_eq_some_iff.1 this).2
   rw[ej,Nat.zero_add]
   exact⟨(World.cell?_setCells_out g vs _ wr _ (fun _ _ => .inl (by show j*2<_;omega))).trans a,(World.cell?_setCells_out g vs _ wr _ (fun _ _ => .inl (by show j*2+1<_;omega))).trans b⟩)
 rw[hn] at hl hcap ⊢
 rw[hd] at hR
 clear hd hn
 have HB:=hid hb
 have HSZ:=hid hsz
 clear hb hsz
 by_cases h2:n<2
 ·have HH:=hid hR
  clear hR
  go_enter Tryz.func243,Tryz.ntmps243
  go_wp2;go_ret;exact HS.out _ HH.out hg HB.out (fun j hj=>Lib.keeps_lt_one d j (by omega))
 ·have HH:=hid hR
  clear hR
  go_enter Tryz.func243,Tryz.ntmps243
  go_wp2
  go_loopg [3] n (fun m s3 wr=>∃k q:Nat,1<=k/\k<=n/\n-k<=m/\s3= .int .i64 k/\wr=w.drewN q/\Hid (∀j,j<k->Lib.keeps d j=true))
  case atStart=>exact⟨1,0,Nat.le_refl _,by omega,by omega,rfl,rfl,hid (Lib.keeps_lt_one d)⟩
  case round=>
   obtain⟨k,q,hk1,hk,hm,rfl,rfl,D⟩:=hrel
   by_cases hlt:k<n
   ·obtain⟨c0,c1,-,-⟩:=HH.out k (by rw[HSZ.out];exact hlt)
    obtain⟨d0,d1,-,-⟩:=HH.out (k-1) (by rw[HSZ.out];omega);have kc:k<cap:=by omega
    have KP:=hid (fun (h:d[k]!≠d[k-1]!)=>Lib.keeps_pos h);have KN:=hid (fun (h:d[k]! = d[k-1]!)=>Lib.keeps_neg (d:=d) (m:=k) (by omega) h);generalize hx:d[k]! = x at *;generalize hy:d[k-1]! = y at *;have HX:=hid hx;have HY:=hid hy;clear hx hy
    by_cases hdup:x=y
    ·subst hdup
     have K0:=hid (KN.out rfl);clear KP KN;go_wp2
     go_big_quiet (fail)
     go_wp2;clear c0 c1 d0 d1 HX HY;have kI:(k:Int)<=(n:Int):=by omega
     go_loopg [3,5] n (fun m2 s3 s5 wr=>∃(kk k2:Nat) (dk:Array Dy),s3= .int .i64 kk/\s5= .int .i64 k2/\1<=k2/\k+k2<=n/\n-(k+k2)<=m2/\Hid (RowD wr g dk)/\g<wr.heap.size/\Below B W wr/\Hid (Lib.CompInv d (k+k2) kk dk))
     case atStart=>exact⟨k,1,d,rfl,rfl,Nat.le_refl _,by omega,by omega,hid (HH.out.drew _),hg,HB.out.trans (Below.drewN' _ _ _),hid (Lib.CompInv.start D.out K0.out)⟩
     case round=>
      rename_i wr
      obtain⟨kk,k2,dk,rfl,rfl,h1,hle,hm2,RO,hgr,hBr,I⟩:=hrel;have hkk:=I.out.lt;have DS:=hid (show dk.size=n by rw[I.out.size,HSZ.out])
      by_cases hlt2:k+k2<n
      ·obtain⟨m0,m1,-,-⟩:=RO.out (k+k2) (by rw[DS.out];exact hlt2)
       obtain⟨p0,p1,-,-⟩:=RO.out (k+k2-1) (by rw[DS.out];omega);obtain⟨o0,o1,f0,f1⟩:=RO.out kk (by rw[DS.out];omega);rw[I.out.high (k+k2) (by omega)] at m0 m1;rw[I.out.high (k+k2-1) (by omega)] at p0 p1;rw[show (k+k2)*2=k*2+k2*2 from by omega] at m0 m1;rw[show (k+k2-1)*2=k*2+(k2-1)*2 from by omega] at p0 p1;have SK:=hid (fun (h:d[k+k2]! = d[k+k2-1]!)=>I.out.skip (Lib.keeps_neg (by omega) h));have KE:=hid (fun (h:d[k+k2]!≠d[k+k2-1]!)=>I.out.keep (by rw[HSZ.out];exact hlt2) (Lib.keeps_pos h));generalize hu:d[k+k2]! = u at *;generalize hv:d[k+k2-1]! = v at *;generalize dk[kk]! = old at *;clear hu hv;have w1:IntKind.i64.wrap ((k2:Int)-1)=(k2:Int)-1:=IntWalk.i64_in _ (by omega)
       have w2:((k2:Int)-1).toNat=k2-1:=by omega
       have w3:(0:Int)<=(k2:Int)-1:=by omega
       have w4:(k2:Int)-1<(n:Int)-(k:Int):=by omega
       have w5:(1:Int)<=(k2:Int):=by omega
       have w6:k2<n-k:=by omega
       have w7:k2-1<n-k:=by omega
       by_cases huv:u=v
       ·subst huv
        have S2:=hid (SK.out rfl);clear SK KE;go_wp2
        go_big_quiet (fail)
        go_wp2
        go_roundg (n-(k+(k2+1)))
        case measure=>omega
        case rel=>exact⟨kk,k2+1,dk,rfl,by go_num,by omega,by omega,Nat.le_refl _,hid (RO.out.drew _),hgr,hBr.trans (Below.drewN' _ _ _),hid S2.out⟩
       ·have S2:=hid (KE.out huv)
        clear SK KE
        by_cases q1:u.n=v.n
        ·have q2:u.w≠v.w:=fun e=>huv (dy_eq q1 e)
         have s1:((u.n:Int) != v.n)=false:=by rw[bne_eq_false_iff_eq];exact q1
         have s1':((u.n:Int)==v.n)=true:=by rw[beq_iff_eq];exact q1
         have s2:((u.w:Int) != v.w)=true:=by rw[bne_iff_ne];exact q2
         have s2':((u.w:Int)==v.w)=false:=by rw[beq_eq_false_iff_ne];exact q2
         clear q1 q2 huv;go_wp2
         go_big_quiet (fail)
         go_wp2
         go_roundg (n-(k+(k2+1)))
         case measure=>omega
         case rel=>exact⟨kk+1,k2+1,dk.setIfInBounds kk u,by go_num,by go_num,by omega,by omega,Nat.le_refl _,hid ((RO.out.drew _).put (by rw[DS.out];omega) u),by simpa using hgr,((hBr.trans (Below.drewN' _ _ _)).setCell (p:=⟨g,_,none⟩) hB _).setCell (p:=⟨g,_,none⟩) hB _,hid S2.out⟩
        ·have s1:((u.n:Int) != v.n)=true:=by rw[bne_iff_ne];exact q1
         have s1':((u.n:Int)==v.n)=false:=by rw[beq_eq_false_iff_ne];exact q1
         clear q1 huv;go_wp2
         go_big_quiet (fail)
         go_wp2
         go_roundg (n-(k+(k2+1)))
         case measure=>omega
         case rel=>exact⟨kk+1,k2+1,dk.setIfInBounds kk u,by go_num,by go_num,by omega,by omega,Nat.le_refl _,hid ((RO.out.drew _).put (by rw[DS.out];omega) u),by simpa using hgr,((hBr.trans (Below.drewN' _ _ _)).setCell (p:=⟨g,_,none⟩) hB _).setCell (p:=⟨g,_,none⟩) hB _,hid S2.out⟩
      ·have hend:k+k2=n:=by omega
       have I2:=hid (show Lib.CompInv d n kk dk by have:=I.out;rwa [hend] at this);obtain⟨vs,hcl'⟩:=clearR (kk:=kk) RO.out DS.out (by omega) cap;have hcl:=hcl' 0;clear hcl';have hkc:kk<cap:=by omega
       have k1:(kk:Int)<=(n:Int):=by omega
       have k3:kk<=n:=by omega
       clear I;go_wp2;go_ret;exact HF.out _ kk dk vs RO.out hgr hBr I2.out
    ·have Y:=hid (keeps_next D.out (KP.out hdup))
     clear KP KN
     by_cases p1:x.n=y.n
     ·have p2:x.w≠y.w:=fun e=>hdup (dy_eq p1 e)
      have s1:((x.n:Int)==y.n)=true:=by rw[beq_iff_eq];exact p1
      have s2:((x.w:Int)==y.w)=false:=by rw[beq_eq_false_iff_ne];exact p2
      clear p1 p2 hdup;go_wp2
      go_big_quiet (fail)
      go_wp2
      go_roundg (n-(k+1))
      case measure=>omega
      case rel=>exact⟨k+1,_,by omega,by omega,Nat.le_refl _,by go_num,rfl,Y⟩
     ·have s1:((x.n:Int)==y.n)=false:=by rw[beq_eq_false_iff_ne];exact p1
      clear p1 hdup;go_wp2
      go_big_quiet (fail)
      go_wp2
      go_roundg (n-(k+1))
      case measure=>omega
      case rel=>exact⟨k+1,_,by omega,by omega,Nat.le_refl _,by go_num,rfl,Y⟩
   ·obtain rfl:k=n:=by omega
    have DD:=hid D.out;clear D;go_wp2;go_ret;exact HS.out _ (HH.out.drew q) hg (HB.out.trans (Below.drewN' _ _ _)) DD.out
end Go.Proofs.YtddnnljfgfcplaaGreatDoor.Ru
namespace Go.Proofs.YtddnnljfgfcplaaGreatDoor.Ru
open Lib (hid)
open Go.RowKit Cv St
theorem lit_none (w:World) (e:TypeId) (k:Nat):(w.alloc (.cells #[] e)).ownsRow w.heap.size e k (.slice (some ⟨w.heap.size,0,none⟩) 0 0) 0 []:=
 World.ownsRow_lit (base:=w.heap.size) (e:=e) (size:=k) w #[] 0 (Nat.le_refl _) (by decide) (by simp)
def CopyI (w:World) (l:List Int) (e:Ending) (w':World):Prop:=∃v,e= .returned v/\OwnI w w' v l/\Below w.heap.size w w'
theorem copyI_is (w:World) (A:Option Addr) (n c:Nat) (l:List Int) (h:IsAt w A n l) (hn:n<=1000000) (hz:A=none->c=0):Calls Tryz.prog 23 #[.slice A n c] w (CopyI w l):=by
 have LIT:=hid (lit_none w 3 1)
 obtain⟨i0,hi,hz0,hz1,hz2⟩:=info_parts info_int
 cases A with
 |none=>
  obtain rfl:n=0:=by
   rcases Nat.eq_zero_or_pos n with z|z
   ·exact z
   ·obtain⟨b,off,e,-⟩:=h.2 z;cases e
  obtain rfl:c=0:=hz rfl
  have e0:l=[]:=List.length_eq_zero_iff.1 h.1.symm
  subst e0;clear h hz
  go_enter Tryz.func23,Tryz.ntmps23
  go_wp2_with (at_builtin;refine wpList_append_own_none rfl _ _ 22 rfl w.heap.size 3 i0 1 Tryz.underlying22 hi _ 0 [] rfl LIT.out rfl ?_)
  go_wp2;go_ret;exact⟨_,rfl,LIT.out,alloc_below _ _⟩
 |some ad=>
  obtain⟨b,off,sp⟩:=ad;have LEN:=hid (show (l.map (Value.int .i64)).length=n*1 by rw[List.length_map,h.1];omega);have ONE:=hid (fun u (q:u∈l.map (Value.int .i64))=>show u.oneCell'=true by obtain⟨z,-,rfl⟩:=List.mem_map.1 q;rfl)
  have GET:=hid (fun j u (q:(l.map (Value.int .i64))[j]? = some u)=>show (w.alloc (.cells #[] 3)).cell? ((⟨b,off,sp⟩:Addr).add j)=some u by
   have hj:j<l.length:=by have:=(List.getElem?_eq_some_iff.1 q).1;simpa using this
   obtain⟨b',off',e,hb,hc⟩:=h.2 (by rw[h.1];omega);cases e
   have z:=hc j (by rw[h.1];exact hj);rw[iat_lt hj] at z;rw[List.getElem?_map,List.getElem?_eq_getElem hj] at q;obtain rfl:Value.int .i64 l[j]=u:=by simpa using q
   rw[addr_off]
   exact((alloc_below w _).cell (p:=⟨b,off+j,none⟩) hb).trans z)
  have HL:=hid h.1;have SZ:=hid (show 0+n<=maxLen by unfold maxLen;omega);clear h hz
  go_enter Tryz.func23,Tryz.ntmps23
  go_wp2_with (at_builtin;refine wpList_append_own _ rfl _ _ 22 rfl w.heap.size 3 i0 (.int .i64 0) 1 8 Tryz.underlying22 hi hz0 hz1 hz2 rfl (by decide) _ 0 [] rfl LIT.out ⟨b,off,sp⟩ n c (l.map (Value.int .i64)) rfl LEN.out GET.out ONE.out SZ.out (by omega) (by simp) ?_)
  intro v' w' hown hg _;have OW:=hid (show OwnI w w' v' l by unfold OwnI;rw[<-HL.out];exact hown);have BW:=hid ((alloc_below w (.cells #[] 3)).grown hg (by simp) (fun k hk=>by injection hk with hk;exact Nat.le_of_eq hk));clear hown hg;go_wp2;go_ret;exact⟨_,rfl,OW.out,BW.out⟩
end Go.Proofs.YtddnnljfgfcplaaGreatDoor.Ru
