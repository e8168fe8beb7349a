/- What the library's contracts say, in this proof's words: Itoa, Atoi, Split, Cut, Join, Contains; the tables that the program reads. -/
import Derived.Test.YtchpjhjjakckbaaGreatDoorRuB
import Derived.Test.YtchpjhjjakckbaaGreatDoorShelf
import Derived.Lib.SmallJoins
import Derived.Lib.AppendIntMem
import Derived.Lib.AtoiAllCases
import Derived.Lib.IndexBytes
import Derived.Lib.CountLaws
import Derived.Lib.CutLaws
import Derived.Lib.Split
import Derived.Lib.Join
set_option linter.unusedVariables false
namespace Go.Proofs.YtchpjhjjakckbaaGreatDoor.Ru
open Go.RowKit Cv St Go.Proofs.YtchpjhjjakckbaaGreatDoor.Fd
theorem str_inj {a b:List UInt8} (h:str a=str b):a=b:=by rw[←list_str a,h,list_str]
structure Tabs (W:World):Prop where
 pow : Lib.TabIs Tryz.prog W "internal/strconv.uint64pow10" .u64 Lib.pow10Tab
 low:8<W.heap.size
 words:∀k,k<7→W.cell? ⟨1,k,none⟩=some (.string (str (freqW (k+1))))
 wdays:∀k,k<7→W.cell? ⟨2,k,none⟩=some (.string (str (wdayW k)))
 maxl:∃m,W.cell? ⟨3,0,none⟩=some (.int .i64 m)
 errS:∃te pe,W.cell? ⟨7,0,none⟩=some (.iface te pe)
 errR:∃te pe,W.cell? ⟨8,0,none⟩=some (.iface te pe)
theorem gPow : Tryz.prog.globalNamed "internal/strconv.uint64pow10" = some 4 := by kernel_rfl
theorem Tabs.on {W w:World} (h:Tabs W) (hb:Below W.heap.size W w):Tabs w where
 pow:=Go.Joins.tab_stays gPow h.pow hb (Nat.le_refl _)
 low:=Nat.lt_of_lt_of_le h.low hb.size
 words:=fun k hk=>(hb.cell (p:=⟨1,k,none⟩) (Nat.lt_of_le_of_lt (show 1≤8 by decide) h.low)).trans (h.words k hk)
 wdays:=fun k hk=>(hb.cell (p:=⟨2,k,none⟩) (Nat.lt_of_le_of_lt (show 2≤8 by decide) h.low)).trans (h.wdays k hk)
 maxl:=by obtain⟨m,hm⟩:=h.maxl;exact⟨m,(hb.cell (p:=⟨3,0,none⟩) (Nat.lt_of_le_of_lt (by decide) h.low)).trans hm⟩
 errS:=by obtain⟨m,n,hm⟩:=h.errS;exact⟨m,n,(hb.cell (p:=⟨7,0,none⟩) (Nat.lt_of_le_of_lt (by decide) h.low)).trans hm⟩
 errR:=by obtain⟨m,n,hm⟩:=h.errR;exact⟨m,n,(hb.cell (p:=⟨8,0,none⟩) (Nat.lt_of_le_of_lt (by decide) h.low)).trans hm⟩
theorem Tabs.past {W:World} (h:Tabs W) (v:In (Past W)):Tabs v.w:=h.on (show Below _ _ _ from v.h)
theorem itoa_is (n:Int) (w:World) (s:ByteArray) (T:Tabs w) (h0:-9223372036854775808≤n) (h1:n≤9223372036854775807) (hs:str (Lib.itoa n)=s):
  Calls Tryz.prog 66 #[.int .i64 n] w fun e w'=>e= .returned (.string s)∧Below w.heap.size w w':=by
 refine(Tryz.strconv_Itoa n h0 h1 w T.pow).mono ?_
 rintro e w' ⟨rfl,k,os,rfl⟩
 exact⟨by rw[←hs];rfl,Lib.below_grow _ _ (Nat.le_refl _) _ _⟩
theorem idx_no {c:UInt8}:∀ {l:List UInt8},c ∉ l→Lib.index l [c] = -1
 | [],_=>rfl
 |x::l,h=>by
  simp only[List.mem_cons,not_or] at h
  have hx:(c==x)=false:=by rw[beq_eq_false_iff_ne];exact h.1
  rw[Lib.index,if_neg (by simp[List.isPrefixOf,hx]),idx_no h.2];rfl
theorem idx_app {c:UInt8}:∀ {p:List UInt8} (r:List UInt8),c ∉ p→Lib.index (p++c::r) [c]=p.length
 | [],r,_=>by rw[List.nil_append,Lib.index,if_pos (by simp[List.isPrefixOf])];try rfl
 |x::p,r,h=>by
  simp only[List.mem_cons,not_or] at h
  have hx:(c==x)=false:=by rw[beq_eq_false_iff_ne];exact h.1
  rw[List.cons_append,Lib.index,if_neg (by simp[List.isPrefixOf,hx]),idx_app r h.2,if_neg (by first|(simp;done)|(simp;omega))]
  try simp
theorem first_at {c:UInt8}:∀ {l:List UInt8},c∈l→∃p r,c ∉ p∧l=p++c::r
 |x::l,h=>by
  by_cases e:x=c
  ·exact⟨[],l,by simp,by rw[e];rfl⟩
  ·have:c∈l:=by
    rcases List.mem_cons.1 h with h|h
    ·exact absurd h.symm e
    ·exact h
   obtain⟨p,r,h1,h2⟩:=first_at this
   exact⟨x::p,r,by simp only[List.mem_cons,not_or];exact⟨fun g=>e g.symm,h1⟩,by rw[h2];rfl⟩
theorem indexB_str (s:ByteArray) (c:UInt8):Lib.indexB s (str [c])=Lib.index s.data.toList [c]:=by
 unfold Lib.indexB;rw[list_str]
theorem split_cut (c:UInt8):∀(n:Nat) (s:ByteArray),s.size≤n→Lib.splitB (str [c]) 0 (Lib.countB s (str [c])) s=(cutAt c s.data.toList).map str:=by
 intro n
 induction n using Nat.strongRecOn with
 |ind n ih=>
  intro s hn
  by_cases h:c∈s.data.toList
  ·obtain⟨p,r,h1,h2⟩:=first_at h
   have hi:Lib.indexB s (str [c])=(p.length:Nat):=by rw[indexB_str,h2,idx_app r h1]
   have hs:s.size=p.length+1+r.length:=by rw[←size_list,h2];simp;omega
   have e1:s.extract 0 (p.length+0)=str p:=by rw[ext_str,h2];simp
   have e2:s.extract (p.length+(str [c]).size) s.size=str r:=by
    rw[ext_str,str_size,h2,hs]
    simp only[List.length_cons,List.length_nil,Nat.zero_add]
    rw[show p++c::r=(p++[c])++r from by simp,List.drop_left' (by simp),List.take_of_length_le (by omega)]
   rw[Lib.countB_hit s (str [c]) p.length (by rw[str_size];simp) hi,Nat.add_comm 1,Lib.splitB_hit _ _ _ _ _ hi,e1,e2,ih (n-1) (by omega) (str r) (by rw[str_size];omega),list_str,h2,cutAt_app h1]
   rfl
  ·have hi:Lib.indexB s (str [c]) = -1:=by rw[indexB_str,idx_no h]
   rw[Lib.countB_miss _ _ hi,Lib.splitB_zero,cutAt_one h]
   simp[str_list]
theorem count_cut (c:UInt8):∀(n:Nat) (s:ByteArray),s.size≤n→Lib.countB s (str [c])+1=(cutAt c s.data.toList).length:=by
 intro n
 induction n using Nat.strongRecOn with
 |ind n ih=>
  intro s hn
  by_cases h:c∈s.data.toList
  ·obtain⟨p,r,h1,h2⟩:=first_at h
   have hi:Lib.indexB s (str [c])=(p.length:Nat):=by rw[indexB_str,h2,idx_app r h1]
   have hs:s.size=p.length+1+r.length:=by rw[←size_list,h2];simp;omega
   have e2:s.extract (p.length+(str [c]).size) s.size=str r:=by
    rw[ext_str,str_size,h2,hs]
    simp only[List.length_cons,List.length_nil,Nat.zero_add]
    rw[show p++c::r=(p++[c])++r from by simp,List.drop_left' (by simp),List.take_of_length_le (by omega)]
   rw[Lib.countB_hit s (str [c]) p.length (by rw[str_size];simp) hi,e2,Nat.add_comm 1,ih (n-1) (by omega) (str r) (by rw[str_size];omega),list_str,h2,cutAt_app h1]
   rfl
  ·have hi:Lib.indexB s (str [c]) = -1:=by rw[indexB_str,idx_no h]
   rw[Lib.countB_miss _ _ hi,cutAt_one h];rfl
def sat (l:List ByteArray) (j:Nat):ByteArray:=l.getD j ⟨#[]⟩
theorem sat_lt {l:List ByteArray} {j:Nat} (h:j<l.length):sat l j=l[j]:=by
 unfold sat;rw[List.getD_eq_getElem?_getD,List.getElem?_eq_getElem h];rfl
def SsAt (W:World) (A:Option Addr) (n:Nat) (l:List ByteArray):Prop:=
 n=l.length∧(0<n→∃b off,A=some ⟨b,off,none⟩∧b<W.heap.size∧∀j,j<n→W.cell? ⟨b,off+j,none⟩=some (.string (sat l j)))
theorem SsAt.below {W w:World} {A:Option Addr} {n:Nat} {l:List ByteArray} (h:SsAt W A n l) (hb:Below W.heap.size W w):SsAt w A n l:=
 ⟨h.1,fun h0=>by
  obtain⟨b,off,e,hlt,hc⟩:=h.2 h0
  exact⟨b,off,e,Nat.lt_of_lt_of_le hlt hb.size,fun j hj=>(hb.cell (p:=⟨b,_,none⟩) hlt).trans (hc j hj)⟩⟩
theorem OwnT.at_ {W w:World} {v:Value} {l:List ByteArray} (h:OwnT W w v l):∃A c,v= .slice A l.length c∧SsAt w A l.length l∧l.length≤c∧l.length≤maxLen:=by
 rcases h.2 with ⟨rfl,h0⟩|⟨g,cap,cur,rfl,hb,hg,hnc,hcm,-⟩
 ·have e:l=[]:=List.length_eq_zero_iff.1 h0
  subst e
  exact⟨none,0,rfl,⟨rfl,fun h=>absurd h (by simp)⟩,Nat.le_refl _,by decide⟩
 ·refine⟨some ⟨g,0,none⟩,cap,rfl,⟨rfl,fun h0=>⟨g,0,rfl,(World.ownsRow.lt h g rfl).2,fun j hj => ?_⟩⟩,hnc,by omega⟩
  rw[Nat.zero_add,World.ownsRow.cellAt h j (by omega),sat_lt hj]
  simp[strV,hj]
def Fresh (B:Nat) (A:Option Addr):Prop:=∀b off,A=some ⟨b,off,none⟩→B≤b∧off=0
theorem Fresh.mono {B C:Nat} {A:Option Addr} (h:Fresh B A) (hc:C≤B):Fresh C A:=fun b off e=>⟨Nat.le_trans hc (h b off e).1,(h b off e).2⟩
theorem Fresh.none (B:Nat):Fresh B none:=fun b off e=>by cases e
def SplitAt (l:List UInt8) (c:UInt8) (w:World) (e:Ending) (w':World):Prop:=
 ∃A k cap,e= .returned (.slice A k cap)∧SsAt w' A k ((cutAt c l).map str)∧Fresh w.heap.size A∧Below w.heap.size w w'
theorem split_is (s:ByteArray) (c:UInt8) (w:World) (T:Tabs w) (hs:s.size≤1000000):
  Calls Tryz.prog 136 #[.string s,.string (str [c])] w (SplitAt s.data.toList c w):=by
 obtain⟨m,hm⟩:=T.maxl
 refine(Tryz.strings_Split s (str [c]) m w (by omega) hm (by rw[str_size];simp)).mono ?_
 rintro e w' ⟨rfl,rfl⟩
 have e1:=split_cut c s.size s (Nat.le_refl _)
 have e2:=count_cut c s.size s (Nat.le_refl _)
 refine⟨_,_,_,rfl,⟨by rw[e2,List.length_map],fun h0=>⟨w.heap.size,0,rfl,by simp,fun j hj => ?_⟩⟩,(fun b off e=>by cases e;exact⟨Nat.le_refl _,rfl⟩),alloc_below _ _⟩
 rw[Nat.zero_add,e1,World.cell?_alloc_new]
 rw[e2] at hj
 rw[sat_lt (by rw[List.length_map];exact hj)]
 simp[hj]
theorem cut_eq (l:List UInt8) (c:UInt8):Lib.cut l [c]=if c∈l then (bef1 c l,aft1 c l,true) else (l,[],false):=by
 unfold Lib.cut
 by_cases h:c∈l
 ·obtain⟨p,r,h1,h2⟩:=first_at h
  have b:=bef1_app (r:=r) h1
  rw[if_pos h,h2,idx_app r h1,if_pos (by omega),b.1,b.2]
  simp
 ·rw[if_neg h,idx_no h,if_neg (by decide)]
theorem cutS_is (s:ByteArray) (c:UInt8) (w:World) (x y:ByteArray) (b:Bool) (T:Tabs w) (hs:s.size≤1000000) (h:Lib.cut s.data.toList [c]=(x.data.toList,y.data.toList,b)):
  Calls Tryz.prog 137 #[.string s,.string (str [c])] w fun e w'=>e= .returned (.tuple #[.string x,.string y,.bool b])∧Below w.heap.size w w':=by
 obtain⟨m,hm⟩:=T.maxl
 refine(Tryz.strings_Cut s (str [c]) m w (by omega) hm).mono ?_
 rintro e w' ⟨rfl,n,rfl⟩
 rw[list_str,h]
 exact⟨rfl,Below.drewN' _ _ _⟩
theorem containsS_is (v:Value) (l:List ByteArray) (x:ByteArray) (r:Bool) (W w:World) (h:OwnT W w v l) (hr:r=true↔x∈l):
  Calls Tryz.prog 138 #[v,.string x] w fun e w'=>e= .returned (.bool r)∧w'=w:=by
 obtain⟨A,k,rfl,hA,hk,hm⟩:=h.at_
 unfold maxLen at hm
 by_cases h0:l=[]
 ·subst h0
  refine(Tryz.slices_Contains_string_empty A k x w).mono ?_
  rintro e w' ⟨rfl,rfl⟩
  exact⟨by cases r;rfl;exact absurd (hr.1 rfl) (by simp),rfl⟩
 ·obtain⟨b,off,rfl,hb,hc⟩:=hA.2 (List.length_pos_iff.2 h0)
  refine(Tryz.slices_Contains_string b off l.length k l x w (Nat.le_refl _) (by omega) (fun j hj=>hc j hj)).mono ?_
  rintro e w' ⟨rfl,rfl⟩
  refine⟨?_,rfl⟩
  rw[List.take_length]
  congr 2
  rw[Bool.eq_iff_iff,hr]
  exact Lib.containsS_iff l x
theorem fold_ge:∀(l:List UInt8) (n:Nat),n≤l.foldl (fun n c=>n*10+(c.toNat-48)) n
 | [],n=>Nat.le_refl _
 |c::l,n=>by rw[List.foldl_cons];have:=fold_ge l (n*10+(c.toNat-48));omega
theorem parse_digits:∀(l:List UInt8) (n:Nat),(∀c∈l,isD c)→l.foldl (fun n c=>n*10+(c.toNat-48)) n≤1000000000→Lib.parseUint10 n l= .ok (l.foldl (fun n c=>n*10+(c.toNat-48)) n)
 | [],n,_,_=>rfl
 |c::l,n,h,hb=>by
  rw[List.foldl_cons] at hb ⊢
  have g:=fold_ge l (n*10+(c.toNat-48))
  have d:=h c (by simp)
  unfold isD at d
  rw[Lib.parseUint10,if_pos d,if_neg (by omega),if_neg (by omega)]
  exact parse_digits l _ (fun x hx=>h x (by simp[hx])) hb
theorem atoi_itoa {n:Int} (h1:-999999999≤n) (h2:n≤999999999):Lib.atoiAll (Lib.itoa n)= .ok n:=by
 have key:∀k:Nat,k≤999999999→Lib.parseMag (Lib.decDigits k)= .ok k:=fun k hk=>by
  unfold Lib.parseMag
  have v:=valD_dec k
  unfold valD at v
  rw[if_neg (dec_ne k),parse_digits _ _ (dec_digits k) (by rw[v];omega),v]
 by_cases h:n<0
 ·have e:Lib.itoa n=45::Lib.decDigits n.natAbs:=by rw[Lib.itoa,if_pos h]
  rw[e,Lib.atoiAll_minus,key _ (by omega)]
  unfold Lib.signed
  simp only
  rw[if_neg (by omega)]
  congr 1;omega
 ·have e:Lib.itoa n=Lib.decDigits n.toNat:=by rw[Lib.itoa,if_neg h]
  rw[e]
  cases hd:Lib.decDigits n.toNat with
  |nil=>exact absurd hd (dec_ne _)
  |cons c r=>
   have dc:=dec_digits n.toNat c (by rw[hd];simp)
   unfold isD at dc
   rw[Lib.atoiAll_plain c r (by omega) (by omega),←hd,key _ (by omega)]
   unfold Lib.signless
   simp only
   rw[if_neg (by omega)]
   congr 1;omega
def AtoiIs (l:List UInt8) (w:World) (e:Ending) (w':World):Prop:=
 ∃n v,e= .returned (.tuple #[.int .i64 n,v])∧Below w.heap.size w w'∧((v= .nilIface∧Lib.atoiAll l= .ok n)∨((∃T p,v= .iface T p)∧∀k,Lib.atoiAll l≠.ok k))
end Go.Proofs.YtchpjhjjakckbaaGreatDoor.Ru
