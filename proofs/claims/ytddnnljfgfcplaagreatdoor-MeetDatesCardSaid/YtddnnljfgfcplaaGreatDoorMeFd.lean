/- Grafted: walks and mathematics of elder chapters that this law needs. -/
import Derived.Test.YtddnnljfgfcplaaGreatDoorStX
import Derived.Test.YtddnnljfgfcplaaGreatDoorRuB
import Derived.Lib.SlBytesConst
set_option maxRecDepth 100000
set_option maxHeartbeats 4000000
set_option linter.unusedVariables false
namespace Go.Proofs.YtddnnljfgfcplaaGreatDoor.Fd
open Lib (hid)
open Go.RowKit Cv St
theorem no_bool {p:Prop} [Decidable p] (h:¬p):false=decide p:=(decide_eq_false h).symm
theorem yes_bool {p:Prop} [Decidable p] (h:p):true=decide p:=(decide_eq_true h).symm
theorem two_bool {a b:Bool} (h:a=true↔b=true):a=b:=Bool.eq_iff_iff.2 h
def str (z:List UInt8):ByteArray:=⟨z.toArray⟩
theorem str_list (s:ByteArray):str s.data.toList=s:=by cases s;simp[str]
theorem str_size (z:List UInt8):(str z).size=z.length:=by simp[str,ByteArray.size]
theorem str_app (a b:List UInt8):str a++str b=str (a++b):=by
 have h:(str a++str b).data.toList=a++b:=by simp[str]
 rw[<-str_list (str a++str b),h]
def sat (l:List ByteArray) (j:Nat):ByteArray:=l.getD j ⟨#[]⟩
theorem sat_lt {l:List ByteArray} {j:Nat} (h:j<l.length):sat l j=l[j]:=by
 unfold sat;rw[List.getD_eq_getElem?_getD,List.getElem?_eq_getElem h];rfl
def SsAt (W:World) (A:Option Addr) (n:Nat) (l:List ByteArray):Prop:=
 n=l.length/\(0<n->∃b off,A=some ⟨b,off,none⟩/\b<W.heap.size/\∀j,j<n->W.cell? ⟨b,off+j,none⟩=some (.string (sat l j)))
def BsAt (W:World) (A:Option Addr) (n:Nat) (l:List UInt8):Prop:=
 n=l.length/\(0<n->∃b off,A=some ⟨b,off,none⟩/\b<W.heap.size/\∀j,j<n->W.cell? ⟨b,off+j,none⟩=some (.int .u8 (bat l j)))
theorem SsAt.below {W w:World} {A:Option Addr} {n:Nat} {l:List ByteArray} (h:SsAt W A n l) (hb:Below W.heap.size W w):SsAt w A n l:=
 ⟨h.1,fun h0=>by
  obtain⟨b,off,e,hlt,hc⟩:=h.2 h0
  exact⟨b,off,e,Nat.lt_of_lt_of_le hlt hb.size,fun j hj=>(hb.cell (p:=⟨b,_,none⟩) hlt).trans (hc j hj)⟩⟩
theorem BsAt.below {W w:World} {A:Option Addr} {n:Nat} {l:List UInt8} (h:BsAt W A n l) (hb:Below W.heap.size W w):BsAt w A n l:=
 ⟨h.1,fun h0=>by
  obtain⟨b,off,e,hlt,hc⟩:=h.2 h0
  exact⟨b,off,e,Nat.lt_of_lt_of_le hlt hb.size,fun j hj=>(hb.cell (p:=⟨b,_,none⟩) hlt).trans (hc j hj)⟩⟩
theorem BsAt.nil (W:World) (A:Option Addr):BsAt W A 0 []:=⟨rfl,fun h=>absurd h (by omega)⟩
theorem SsAt.nil (W:World) (A:Option Addr):SsAt W A 0 []:=⟨rfl,fun h=>absurd h (by omega)⟩
theorem bat_drop (l:List UInt8) (k j:Nat):bat (l.drop k) j=bat l (k+j):=by
 unfold bat;rw[List.getD_eq_getElem?_getD,List.getD_eq_getElem?_getD,List.getElem?_drop]
theorem bat_take {l:List UInt8} {k j:Nat} (h:j<k):bat (l.take k) j=bat l j:=by
 unfold bat;rw[List.getD_eq_getElem?_getD,List.getD_eq_getElem?_getD,List.getElem?_take,if_pos h]
theorem BsAt.drop {W:World} {b off:Nat} {n:Nat} {l:List UInt8} (h:BsAt W (some ⟨b,off,none⟩) n l) {k:Nat} (hk:k<=n):BsAt W (some ⟨b,off+k,none⟩) (n-k) (l.drop k):=
 ⟨by rw[List.length_drop,<-h.1],fun h0=>by
  obtain⟨b',off',e,hlt,hc⟩:=h.2 (by omega);injection e with e;injection e with e1 e2;subst e1;subst e2
  exact⟨b,off+k,rfl,hlt,fun j hj=>by rw[bat_drop,Nat.add_assoc];exact hc (k+j) (by omega)⟩⟩
theorem BsAt.take {W:World} {A:Option Addr} {n:Nat} {l:List UInt8} (h:BsAt W A n l) {k:Nat} (hk:k<=n):BsAt W A k (l.take k):=
 ⟨by rw[List.length_take,<-h.1];omega,fun h0=>by
  obtain⟨b,off,e,hlt,hc⟩:=h.2 (by omega)
  exact⟨b,off,e,hlt,fun j hj=>by rw[bat_take hj];exact hc j (by omega)⟩⟩
def xs (l:List UInt8):List Int:=l.map fun c=>(c.toNat:Int)
theorem xs_len (l:List UInt8):(xs l).length=l.length:=by simp[xs]
theorem xs_at (l:List UInt8) (i:Nat):(xs l).getD i 0=bat l i:=by
 unfold xs bat
 rw[List.getD_eq_getElem?_getD,List.getElem?_map,List.getD_eq_getElem?_getD]
 cases l[i]?<;>rfl
theorem xs_bytes (l:List UInt8):Lib.bytesOf (xs l)=l:=by
 unfold Lib.bytesOf xs
 rw[List.map_map]
 conv=>rhs;rw[<-List.map_id l]
 refine List.map_congr_left fun c _ => ?_
 simp
theorem BsAt.shelf {W:World} {A:Option Addr} {n:Nat} {l:List UInt8} (h:BsAt W A n l):Lib.BytesIn W A n (xs l):=fun h0=>by
 obtain⟨b,off,e,hlt,hc⟩:=h.2 h0
 exact⟨b,off,e,fun i hi=>by rw[xs_at];exact hc i hi⟩
theorem BsAt.text {W:World} {A:Option Addr} {n:Nat} {l:List UInt8} (h:BsAt W A n l) (c:Nat):(convert 28 9 (.slice A n c)).run Tryz.prog W= .ok (.string (str l)) W:=by
 obtain⟨e,hc⟩:=h
 by_cases h0:n=0
 ·subst h0
  obtain rfl:l=[]:=List.length_eq_zero_iff.1 e.symm
  exact run_convert_bytes_zero W 28 5 Tryz.underlying28 Tryz.underlying5 A c 9 Tryz.underlying9
 ·obtain⟨b,off,rfl,hlt,hcc⟩:=hc (by omega)
  subst e
  exact run_convert_bytes_back (P:=Tryz.prog) W 28 9 5 ⟨b,off,none⟩ c l Tryz.underlying28 Tryz.underlying5 Tryz.underlying9 (fun j hj=>by
   rw[Go.WideShapes.add_plain,hcc j hj,bat_lt hj])
theorem Own.at_ {W w:World} {v:Value} {l:List UInt8} (h:Own W w v l):∃A c,v= .slice A l.length c/\BsAt w A l.length l/\l.length<=c/\(A=none->c=0)/\l.length<=maxLen:=by
 rcases h.2 with ⟨rfl,h0⟩|⟨g,cap,cur,rfl,hb,hg,hnc,hcm,-⟩
 ·have e:l=[]:=List.length_eq_zero_iff.1 h0
  subst e;exact⟨none,0,rfl,BsAt.nil _ _,Nat.le_refl _,fun _=>rfl,by decide⟩
 ·refine⟨some ⟨g,0,none⟩,cap,rfl,⟨rfl,fun h0=>⟨g,0,rfl,(World.ownsRow.lt h g rfl).2,fun j hj => ?_⟩⟩,hnc,(fun h=>by cases h),by omega⟩
  rw[Nat.zero_add,World.ownsRow.cellAt h j (by omega),bat_lt hj]
  simp[Lib.byteCells,hj]
def strV (s:ByteArray):Value:= .string s
def OwnT (W w:World) (v:Value) (l:List ByteArray):Prop:=w.ownsRow W.heap.size 9 1 v l.length (l.map strV)
theorem OwnT.nil (W w:World):OwnT W w (.slice none 0 0) []:=World.ownsRow_nil _ _ _ _
theorem OwnT.at_ {W w:World} {v:Value} {l:List ByteArray} (h:OwnT W w v l):∃A c,v= .slice A l.length c/\SsAt w A l.length l:=by
 rcases h.2 with ⟨rfl,h0⟩|⟨g,cap,cur,rfl,hb,hg,hnc,hcm,-⟩
 ·have e:l=[]:=List.length_eq_zero_iff.1 h0
  subst e;exact⟨none,0,rfl,SsAt.nil _ _⟩
 ·refine⟨some ⟨g,0,none⟩,cap,rfl,⟨rfl,fun h0=>⟨g,0,rfl,(World.ownsRow.lt h g rfl).2,fun j hj => ?_⟩⟩⟩
  rw[Nat.zero_add,World.ownsRow.cellAt h j (by omega),sat_lt hj]
  simp[strV,hj]
theorem info_str:(Tryz.prog.info? 9).map (fun i=>(i.zero,i.size,i.bytes))=some (some (.string ⟨#[]⟩),1,16):=by kernel_rfl
theorem append_line {ops:Array Oper} {rest:List Oper} {o:Oper} {a:Act} {Q:Exit->Act->World->Prop} {W w:World} (hgd:o.guard=none) (s x:Operand)
  (ho:o.op= .call { callee:= .builtin .append,args:=#[s,x],argTypes:=#[59,59] })
  (v:Value) (l:List ByteArray) (hs:a.eval s=v) (hown:OwnT W w v l) (hat:Below W.heap.size W w) (t:ByteArray) (T:TypeId) (c:Nat)
  (hx:a.eval x= .slice (some ⟨w.heap.size,0,none⟩) 1 c) (hl:l.length<=1000000)
  (h:∀v' w',OwnT W w' v' (l++[t])->Below W.heap.size W w'->wpList Tryz.prog ops Q rest (a.put o.dst v') w'):wpList Tryz.prog ops Q (o::rest) a (w.alloc (.cells #[.string t] T)):=by
 obtain⟨i0,hi,hz0,hz1,hz2⟩:=info_parts info_str
 refine wpList_append_own _ hgd s x 59 ho W.heap.size 9 i0 (.string ⟨#[]⟩) 1 16 Tryz.underlying59 hi hz0 hz1 hz2 rfl (by decide) v l.length (l.map strV) hs (World.ownsRow.alloc hown _)
  ⟨w.heap.size,0,none⟩ 1 c [.string t] hx rfl ?_ (by intro u hu;obtain rfl:u= .string t:=by simpa using hu
                                                     rfl) (by unfold maxLen;omega) (by omega) (by have:=hat.size;simp;omega) ?_
 ·intro j u hj
  cases j with
  |zero=>obtain rfl:Value.string t=u:=by simpa using hj
         show (w.alloc (.cells #[.string t] T)).cell? ⟨w.heap.size,0,none⟩=_
         rw[World.cell?_alloc_new];rfl
  |succ j=>simp at hj
 ·intro v' w' hown' hg _
  have hat1:Below W.heap.size W (w.alloc (.cells #[.string t] T)):=hat.trans ((Below.refl _ _).alloc hat.size _)
  refine h v' w' ?_ (hat1.trans ((Below.refl _ _).grown hg (by have:=hat.size;simp;omega) fun _ hk=>(World.ownsRow.lt hown _ hk).1));unfold OwnT;rw[List.length_append,List.map_append];exact hown'
theorem OwnT.store {W w:World} {g cap:Nat} {l:List ByteArray} (h:OwnT W w (.slice (some ⟨g,0,none⟩) l.length cap) l) (hat:Below W.heap.size W w) (j:Nat) (t:ByteArray):
  OwnT W (w.setCell ⟨g,j,none⟩ (.string t)) (.slice (some ⟨g,0,none⟩) l.length cap) (l.set j t)/\Below W.heap.size W (w.setCell ⟨g,j,none⟩ (.string t)):=by
 obtain⟨h1,h2⟩:=World.ownsRow.stored h j (.string t)
 refine⟨?_,hat.trans ((Below.refl _ _).grown h2 hat.size fun k hk => ?_)⟩
 ·unfold OwnT
  rw[List.length_set,List.map_set];exact h1
 ·injection hk with hk;subst hk
  exact(World.ownsRow.lt h g rfl).1
theorem mayByte_any (c:Int) (w:World):
  Calls Tryz.prog 96 #[.int .u8 c] w fun e w'=>e= .returned (.bool (mayI c))/\w=w':=by
 by_cases h1:32<=c
 ·by_cases h2:c<=126
  ·go_enter Tryz.func96,Tryz.ntmps96
   go_wp2;go_ret;exact⟨ret_bool (yes_bool ⟨h1,h2⟩),rfl⟩
  ·have h3:126<c:=by omega
   clear h2
   go_enter Tryz.func96,Tryz.ntmps96
   go_wp2;go_ret;exact⟨ret_bool (two_bool (by unfold mayI;simp only[decide_eq_true_eq];omega)),rfl⟩
 ·have h3:c<32:=by omega
  clear h1
  go_enter Tryz.func96,Tryz.ntmps96
  go_wp2;go_ret;exact⟨ret_bool (no_bool (by omega)),rfl⟩
theorem mayByte_is (c:Int) (w:World) (x:Bool) (h:mayI c=x):
  Calls Tryz.prog 96 #[.int .u8 c] w fun e w'=>e= .returned (.bool x)/\w=w':=h ▸ mayByte_any c w
def ssTo (l m:List ByteArray) (k:Nat):Prop:=∀j,j<k->sat l j=sat m j
theorem ssTo.succ {l m:List ByteArray} {k:Nat} (h:ssTo l m k) (e:sat l k=sat m k):ssTo l m (k+1):=fun j hj=>by
 by_cases c:j=k
 ·subst c;exact e
 ·exact h j (by omega)
def lineEnd:List UInt8:= [13,10]
theorem hasPrefix_is (w:World) (A B:Option Addr) (n c d:Nat) (l k:List UInt8) (m:Nat) (x:Bool) (hl:BsAt w A n l) (hk:BsAt w B m k) (hnc:n<=c) (hx:Lib.hasPrefix l k=x):
  Calls Tryz.prog 97 #[.slice A n c,.slice B m d] w fun e w'=>e= .returned (.bool x)/\w=w':=by
 have:=Tryz.bytes_HasPrefix_all A B n c m d (xs l) (xs k) w (by rw[xs_len,hl.1]) (by rw[xs_len,hk.1]) hnc hl.shelf hk.shelf
 rw[xs_bytes,xs_bytes,hx] at this
 exact this.mono fun e w' h=>⟨h.1,h.2.symm⟩
theorem lit_at (w:World) (l:List UInt8) (cs:Array Value) (T:TypeId) (fr:Nat×Nat) (h:cs.toList=Lib.byteCells l):BsAt (w.alloc (.cells cs T fr)) (some ⟨w.heap.size,0,none⟩) l.length l:=
 ⟨rfl,fun h0=>⟨w.heap.size,0,rfl,by simp,fun j hj=>by
  rw[World.cell?_alloc_mark,Nat.zero_add,bat_lt hj,<-Array.getElem?_toList,h];simp[Lib.byteCells,hj]⟩⟩
theorem const_bytes (w:World) (C:Array Value) (n c:Nat):(convert 28 28 (.slice (some ⟨w.heap.size,0,none⟩) n c)).run Tryz.prog (w.alloc (.cells C 5))= .ok (.slice (some ⟨w.heap.size,0,none⟩) n c) (w.alloc (.cells C 5 (C.size,C.size+1))):=
 Lib.run_convert_bytes_const w 28 5 C n c Tryz.underlying28 Tryz.underlying5
theorem ret_two {a b:Int} {x y:Bool} (h:a=b/\x=y):Ending.returned (.tuple #[.int .i64 a,.bool x])= .returned (.tuple #[.int .i64 b,.bool y]):=by rw[h.1,h.2]
theorem fault_any (w:World) (A:Option Addr) (n c:Nat) (l:List UInt8) (h:BsAt w A n l) (hnc:n<=c) (hn:n<=9223372036854775807):
  Calls Tryz.prog 56 #[.slice A n c] w fun e w'=>e= .returned (.tuple #[.int .i64 (faultN l),.bool (faultB l)])/\Below w.heap.size w w':=by
 obtain⟨en,hc⟩:=h
 have EN:=hid en
 clear en
 go_enter Tryz.func56,Tryz.ntmps56
 go_wp2
 go_loopw [8] (fun i wr=>∃t:Nat,t<=n/\i= .int .i64 t/\Hid (goodTo l t)/\Below w.heap.size w wr) (fun i _=>n-(intOf i).toNat)
 case atStart=>exact⟨0,Nat.zero_le _,rfl,hid (fun j hj=>absurd hj (by omega)),Below.refl _ _⟩
 case round=>
  rename_i wr
  obtain⟨t,ht,rfl,D,hB⟩:=hrel
  by_cases hlt:t<n
  ·obtain⟨b,off,rfl,hb,hcc⟩:=hc (by omega)
   have c0:=(hB.cell (p:=⟨b,off+t,none⟩) hb).trans (hcc t hlt);have hbw:=Nat.lt_of_lt_of_le hb hB.size;cases hm:mayI (bat l t)
   ·have M:=hid hm
    by_cases h10:bat l t=10
    ·have e10:((bat l t:Int) != 10)=false:=by rw[bne_eq_false_iff_eq];exact h10
     have X:=hid (D.out.succ (ok_ten h10));clear hm h10 hcc hc
     go_wp2_with (go_at_call 96;refine(mayByte_is _ _ _ M.out).mono ?_;rintro e w' ⟨rfl,rfl⟩)
     go_roundw
     case rel=>exact⟨t+1,by omega,by go_num,X,hB⟩
     case measure=>simp[intOf];omega
    ·have e10:((bat l t:Int) != 10)=true:=by rw[bne_iff_ne];exact h10
     have hBs:BsAt wr (some ⟨b,off,none⟩) n l:=⟨EN.out,fun _=>⟨b,off,rfl,hbw,fun j hj=>(hB.cell (p:=⟨b,off+j,none⟩) hb).trans (hcc j hj)⟩⟩
     have hDr:=hBs.drop (k:=t) (by omega);have hct:¬c=t:=by omega
     have kc:=const_bytes;have hE:=lit_at wr lineEnd #[.int .u8 13,.int .u8 10] 5 (2,3) rfl;have hA:=((Below.refl wr.heap.size wr).alloc (Nat.le_refl _) (.cells #[.int .u8 13,.int .u8 10] 5 (2,3)));have hD2:=hDr.below hA;have hBA:=hB.trans (hA.mono hB.size);cases hx:Lib.hasPrefix (l.drop t) lineEnd
     ·have hpre:=hx
      rw[lineEnd,pre_end] at hpre;have K:=hid (faultN_some (faultF_some (by rw[<-EN.out];exact hlt) D.out (ok_no hm h10 (of_decide_eq_false hpre))));have HX:=hid hx;clear hm h10 hcc hc hx hpre hBs hDr
      go_wp2_with (first
       | (go_at_call 96;refine(mayByte_is _ _ _ M.out).mono ?_;rintro e w' ⟨rfl,rfl⟩)
       | (go_at_call 97;refine(hasPrefix_is _ _ _ _ _ _ _ lineEnd _ _ hD2 hE (by omega) HX.out).mono ?_;rintro e w' ⟨rfl,rfl⟩))
      go_ret2
      exact⟨ret_two K.out,hBA⟩
     ·have hpre:=hx
      rw[lineEnd,pre_end] at hpre;have hp:=of_decide_eq_true hpre;have X:=hid (D.out.succ (ok_end hp.1 hp.2));have HX:=hid hx;clear hm h10 hcc hc hx hpre hBs hDr hp
      go_wp2_with (first
       | (go_at_call 96;refine(mayByte_is _ _ _ M.out).mono ?_;rintro e w' ⟨rfl,rfl⟩)
       | (go_at_call 97;refine(hasPrefix_is _ _ _ _ _ _ _ lineEnd _ _ hD2 hE (by omega) HX.out).mono ?_;rintro e w' ⟨rfl,rfl⟩))
      go_roundw
      case rel=>exact⟨t+1,by omega,by go_num,X,hBA⟩
      case measure=>simp[intOf];omega
   ·have M:=hid hm
    have X:=hid (D.out.succ (ok_may hm));clear hm hcc hc
    go_wp2_with (go_at_call 96;refine(mayByte_is _ _ _ M.out).mono ?_;rintro e w' ⟨rfl,rfl⟩)
    go_roundw
    case rel=>exact⟨t+1,by omega,by go_num,X,hB⟩
    case measure=>simp[intOf];omega
  ·obtain rfl:n=t:=by omega
   have hN:=hid (faultN_none (faultF_none (by rw[<-EN.out];exact D.out)))
   by_cases h0:0<n
   ·obtain⟨b,off,rfl,hb,hcc⟩:=hc h0
    have c0:=(hB.cell (p:=⟨b,off+0,none⟩) hb).trans (hcc 0 h0);rw[Nat.add_zero] at c0;have hbw:=Nat.lt_of_lt_of_le hb hB.size;have K:=hid (blank_at (l:=l) (by rw[<-EN.out];exact h0));have g0:(0:Int)<(n:Int):=by omega
    clear hcc hc
    by_cases h32:bat l 0=32
    ·have e32:((bat l 0:Int)==32)=true:=by rw[beq_iff_eq];exact h32
     have F:=hid (show 0=faultN l/\true=faultB l from ⟨hN.out.1,by rw[<-hN.out.2,K.out];exact yes_bool h32⟩);clear h32;go_wp2
     go_big_quiet (fail)
     go_wp2
     go_ret2
     exact⟨ret_two F.out,hB.trans ((Below.drewN' _ _ _).mono hB.size)⟩
    ·have e32:((bat l 0:Int)==32)=false:=by rw[beq_eq_false_iff_ne];exact h32
     have F:=hid (show 0=faultN l/\false=faultB l from ⟨hN.out.1,by rw[<-hN.out.2,K.out];exact no_bool h32⟩);clear h32;go_wp2
     go_big_quiet (fail)
     go_wp2
     go_ret2
     exact⟨ret_two F.out,hB.trans ((Below.drewN' _ _ _).mono hB.size)⟩
   ·obtain rfl:n=0:=by omega
    have F:=hid (show 0=faultN l/\false=faultB l from ⟨hN.out.1,by
     obtain rfl:l=[]:=List.length_eq_zero_iff.1 EN.out.symm
     rw[<-hN.out.2];rfl⟩)
    clear hc;go_wp2
    go_big_quiet (fail)
    go_wp2
    go_ret2
    exact⟨ret_two F.out,hB.trans ((Below.drewN' _ _ _).mono hB.size)⟩
theorem OwnT.slice {W w:World} {v:Value} {l:List ByteArray} (h:OwnT W w v l) (hl:0<l.length):∃g cap,v= .slice (some ⟨g,0,none⟩) l.length cap:=by
 rcases h.2 with ⟨-,h0⟩|⟨g,cap,cur,rfl,-⟩
 ·omega
 ·exact⟨g,cap,rfl⟩
theorem OwnT.on {W w w':World} {v:Value} {l:List ByteArray} (h:OwnT W w v l) (hb:Below w.heap.size w w'):OwnT W w' v l:=
 World.ownsRow.kept (row:=none) h ⟨hb.1,hb.2,hb.3,hb.4,fun k hk _=>hb.5 k hk⟩ (by cases v.ownBlock<;>simp)
theorem Own.on {W w w':World} {v:Value} {l:List UInt8} (h:Own W w v l) (hb:Below w.heap.size w w'):Own W w' v l:=
 World.ownsRow.kept (row:=none) h ⟨hb.1,hb.2,hb.3,hb.4,fun k hk _=>hb.5 k hk⟩ (by cases v.ownBlock<;>simp)
def CutIs (b off c:Nat) (l:List UInt8) (w:World) (e:Ending) (w':World):Prop:=
 ∃(A':Option Addr) (c':Nat) (x:Bool),e= .returned (.tuple #[.slice (some ⟨b,off,none⟩) (piece l).length c,.slice A' (rest l).length c',.bool x])/\(∀W:World,BsAt W (some ⟨b,off,none⟩) l.length l->BsAt W A' (rest l).length (rest l))/\(rest l).length<=c'/\Below w.heap.size w w'
theorem xs_one (n:UInt8):xs [n]=[(n.toNat:Int)]:=rfl
theorem cut_is (w:World) (b off n c g d:Nat) (l:List UInt8) (hl:BsAt w (some ⟨b,off,none⟩) n l) (hk:BsAt w (some ⟨g,0,none⟩) 1 [10]) (hnc:n<=c) (hn:n<=1000000):
  Calls Tryz.prog 57 #[.slice (some ⟨b,off,none⟩) n c,.slice (some ⟨g,0,none⟩) 1 d] w (CutIs b off c l w):=by
 have e1:=hl.1
 by_cases h0:0<n
 case neg=>
  obtain rfl:n=0:=by omega
  obtain rfl:l=[]:=List.length_eq_zero_iff.1 e1.symm
  obtain⟨b2,o2,e2,-,h2⟩:=hk.2 (by omega);injection e2 with e2;injection e2 with e2 e3;subst e2;subst e3;have hc2:=h2 0 (by omega);refine(Tryz.bytes_Cut_of (some ⟨b,off,none⟩) (some ⟨g,0,none⟩) 0 c 1 d (-1) w hnc (by omega) (fun h=>by omega) (by omega) ?_).mono ?_
  ·refine(Tryz.bytes_Index_one b off 0 c g 0 d [] 10 w rfl (fun i hi=>by omega) (by first|(simp[bat];done)|(simp[bat] at hc2 ⊢;exact hc2))).mono fun e w' h=>⟨h.1,0,h.2⟩
  ·rintro e w' ⟨rfl,q,rfl⟩
   exact⟨none,0,false,rfl,fun _ _=>BsAt.nil _ _,Nat.le_refl _,Below.drewN' _ _ _⟩
 obtain⟨b1,o1,e4,hlt,h1⟩:=hl.2 h0
 injection e4 with e4;injection e4 with e4 e5;subst e4;subst e5
 obtain⟨b2,o2,e2,-,h2⟩:=hk.2 (by omega)
 injection e2 with e2;injection e2 with e2 e3;subst e2;subst e3
 have hc2:=h2 0 (by omega)
 have hi:=Tryz.bytes_Index_one b off n c g 0 d (xs l) 10 w (by rw[xs_len,e1]) (fun i hi=>by rw[xs_at];exact h1 i hi) (by first|(simp[bat];done)|(simp[bat] at hc2 ⊢;exact hc2))
 rw[xs_bytes] at hi
 have e10:(10:Int).toNat.toUInt8=10:=by decide
 rw[e10] at hi
 rcases index_10 l with ⟨i1,i2,i3⟩|⟨j,hj,i1,i2,i3⟩
 ·rw[i1] at hi
  refine(Tryz.bytes_Cut_of (some ⟨b,off,none⟩) (some ⟨g,0,none⟩) n c 1 d (-1) w hnc (by omega) (fun h=>by omega) (by omega) (hi.mono fun e w' h=>⟨h.1,0,h.2⟩)).mono ?_;rintro e w' ⟨rfl,q,rfl⟩;refine⟨none,0,false,?_,fun _ _=>by rw[i3];exact BsAt.nil _ _,by rw[i3];exact Nat.le_refl _,Below.drewN' _ _ _⟩;rw[i2,i3,<-e1];rfl
 ·rw[i1] at hi
  refine(Tryz.bytes_Cut_of (some ⟨b,off,none⟩) (some ⟨g,0,none⟩) n c 1 d j w hnc (by omega) (fun h=>by omega) (by omega) (hi.mono fun e w' h=>⟨h.1,0,h.2⟩)).mono ?_;rintro e w' ⟨rfl,q,rfl⟩;have hp:(piece l).length=j:=by rw[i2,List.length_take];omega
  have hr:(rest l).length=n-(j+1):=by rw[i3,List.length_drop,<-e1]
  refine⟨if c=j+1 then some ⟨b,off,none⟩ else some ⟨b,off+(j+1),none⟩,c-(j+1),true,?_,fun W hW => ?_,by omega,Below.drewN' _ _ _⟩
  ·rw[hp,hr]
   unfold Lib.cutV Lib.fromV;rw[if_pos (by omega)];have e6:((j:Int).toNat+1)=j+1:=by omega
   rw[e6]
   by_cases hcj:c=j+1
   ·simp[hcj]
   ·simp[hcj,Addr.add_lit]
  ·have hd:=hW.drop (k:=j+1) (by omega)
   by_cases hcj:c=j+1
   ·have:rest l=[]:=List.length_eq_zero_iff.1 (by omega)
    rw[this];exact BsAt.nil _ _
   ·rw[if_neg hcj,hr,i3];rw[<-e1] at hd;exact hd
theorem strip_is (p:List UInt8):(Lib.hasSuffix p [13]=true/\(strip p).length=p.length-1/\0<p.length)\/(Lib.hasSuffix p [13]=false/\(strip p).length=p.length):=by
 unfold Lib.hasSuffix
 by_cases h:p.getLast? = some 13
 ·left
  have hp:p≠[]:=by rintro rfl;simp at h
  have e:p=p.dropLast++[13]:=by
   have:=List.dropLast_concat_getLast hp
   rw[List.getLast?_eq_some_getLast hp] at h;injection h with h;rw[h] at this;exact this.symm
  refine⟨?_,by unfold strip;rw[if_pos h,List.length_dropLast],List.length_pos_iff.2 hp⟩;rw[List.isSuffixOf_iff_suffix];exact⟨p.dropLast,e.symm⟩
 ·right
  refine⟨?_,by unfold strip;rw[if_neg h]⟩;cases hc:[13].isSuffixOf p
  ·rfl
  ·rw[List.isSuffixOf_iff_suffix] at hc
   obtain⟨t,ht⟩:=hc;exact absurd (by rw[<-ht];simp) h
theorem trim_is (w:World) (b off n c g d:Nat) (p:List UInt8) (hl:BsAt w (some ⟨b,off,none⟩) n p) (hk:BsAt w (some ⟨g,0,none⟩) 1 [13]) (hnc:n<=c) (hn:n<=1000000):
  Calls Tryz.prog 58 #[.slice (some ⟨b,off,none⟩) n c,.slice (some ⟨g,0,none⟩) 1 d] w fun e w'=>e= .returned (.slice (some ⟨b,off,none⟩) (strip p).length c)/\w=w':=by
 have:=Tryz.bytes_TrimSuffix_all (some ⟨b,off,none⟩) (some ⟨g,0,none⟩) n c 1 d (xs p) (xs [13]) w (by rw[xs_len,hl.1]) rfl hnc (by omega) hl.shelf hk.shelf
 refine this.mono fun e w' h=>⟨h.1.trans ?_,h.2.symm⟩
 rw[xs_one]
 show Ending.returned (Lib.bytesTrimSuffix b off n c (xs p) [13])=_
 unfold Lib.bytesTrimSuffix
 rw[xs_bytes,show Lib.bytesOf [13]=[13] from by decide]
 rcases strip_is p with ⟨h1,h2,h3⟩|⟨h1,h2⟩
 ·rw[h1,if_pos rfl,h2,<-hl.1];rfl
 ·rw[h1,h2,<-hl.1];rfl
def CutIs' (b off c:Nat) (np nr:Nat) (l r:List UInt8) (w:World) (e:Ending) (w':World):Prop:=
 ∃(A':Option Addr) (c':Nat) (x:Bool),e= .returned (.tuple #[.slice (some ⟨b,off,none⟩) np c,.slice A' nr c',.bool x])/\(∀W:World,BsAt W (some ⟨b,off,none⟩) l.length l->BsAt W A' nr r)/\nr<=c'/\Below w.heap.size w w'
theorem cut_is' (w:World) (b off n c g d:Nat) (l p r:List UInt8) (np nr:Nat) (hl:BsAt w (some ⟨b,off,none⟩) n l) (hk:BsAt w (some ⟨g,0,none⟩) 1 [10]) (hnc:n<=c) (hn:n<=1000000)
  (hp:piece l=p) (hr:rest l=r) (hnp:p.length=np) (hnr:r.length=nr):
  Calls Tryz.prog 57 #[.slice (some ⟨b,off,none⟩) n c,.slice (some ⟨g,0,none⟩) 1 d] w (CutIs' b off c np nr l r w):=by
 subst hp;subst hr;subst hnp;subst hnr
 refine(cut_is w b off n c g d l hl hk hnc hn).mono ?_
 rintro e w' ⟨A',c',x,rfl,h1,h2,h3⟩
 exact⟨A',c',x,rfl,h1,h2,h3⟩
theorem trim_is' (w:World) (b off n c g d:Nat) (p s:List UInt8) (ns:Nat) (hl:BsAt w (some ⟨b,off,none⟩) n p) (hk:BsAt w (some ⟨g,0,none⟩) 1 [13]) (hnc:n<=c) (hn:n<=1000000) (hs:strip p=s) (hns:s.length=ns):
  Calls Tryz.prog 58 #[.slice (some ⟨b,off,none⟩) n c,.slice (some ⟨g,0,none⟩) 1 d] w fun e w'=>e= .returned (.slice (some ⟨b,off,none⟩) ns c)/\w=w':=by
 subst hs;subst hns
 exact trim_is w b off n c g d p hl hk hnc hn
theorem ret3 {v:Value} {a b c d:Int} (h:a=c) (g:b=d):Ending.returned (.tuple #[v,.int .i64 a,.int .i64 b])= .returned (.tuple #[v,.int .i64 c,.int .i64 d]):=by rw[h,g]
def sliceLen (v:Value):Nat:=match v with | .slice _ n _=>n|_=>0
def SplitPost (W:World) (l:List UInt8) (e:Ending) (w':World):Prop:=
 ∃v,e= .returned (.tuple #[v,.int .i64 (splitN l),.int .i64 (splitE l)])/\OwnT W w' v ((splitL l).map str)/\Below W.heap.size W w'
theorem split_any (w:World) (A:Option Addr) (n c:Nat) (l:List UInt8) (h:BsAt w A n l) (hnc:n<=c) (hn:n<=9223372036854775807):
  Calls Tryz.prog 24 #[.slice A n c] w (SplitPost w l):=by
 have e1:=h.1
 by_cases h1:4096<n
 ·have S:=hid (split_long (l:=l) (by omega))
  clear e1 h
  go_enter Tryz.func24,Tryz.ntmps24
  go_wp2
  go_ret3
  exact⟨.slice none 0 0,ret3 S.out.2.1.symm S.out.2.2.symm,by rw[S.out.1];exact OwnT.nil _ _,Below.refl _ _⟩
 have h2:n<=4096:=by omega
 clear h1
 cases hf:faultB l
 case true=>
  have S:=hid (split_bad (l:=l) (by omega) hf);have F:=hid hf;have H:=hid (fault_any w A n c l h hnc hn);clear e1 h hf
  go_enter Tryz.func24,Tryz.ntmps24
  go_wp2_with fail;refine H.out.mono ?_;rw[F.out];rintro e w1 ⟨rfl,b1⟩;go_wp2
  go_ret3
  exact⟨.slice none 0 0,ret3 S.out.2.1.symm S.out.2.2.symm,by rw[S.out.1];exact OwnT.nil _ _,b1⟩
 case false=>
  have S:=hid (split_good (l:=l) (by omega) hf);have F:=hid hf;have H:=hid (fault_any w A n c l h hnc hn)
  have R0:Room [] l:=⟨fun z hz=>by simp at hz,by simp;omega,fun _=>by
   cases hg:faultF l with
   |none=>have:=faultN_none hg;rw[hf] at this;exact this.2
   |some i=>have:=faultN_some hg;rw[hf] at this;exact absurd this.2 (by decide)⟩
  have RH:=hid R0;clear e1 hf R0
  go_enter Tryz.func24,Tryz.ntmps24
  go_wp2_with fail;refine H.out.mono ?_;rw[F.out];rintro e w1 ⟨rfl,b1⟩;clear H F;go_wp2
  go_loopw [0,7] (fun bv av wr=>∃(A':Option Addr) (n' c':Nat) (l':List UInt8) (acc:List (List UInt8)) (v:Value),bv= .slice A' n' c'/\v=av/\BsAt w A' n' l'/\n'<=c'/\n'<=4096/\Hid (lines acc l'=lines [] l)/\Hid (Room acc l')/\OwnT w wr v (acc.map str)/\Below w.heap.size w wr) (fun bv _ _=>sliceLen bv)
  case atStart=>exact⟨A,n,c,l,[],_,rfl,rfl,h,hnc,h2,hid rfl,RH,OwnT.nil _ _,b1⟩
  case round=>
   rename_i wr
   obtain⟨A',n',c',l',acc,v,rfl,rfl,hw,hnc',hn',L,R,hO,hB⟩:=hrel;have hl:=hw.below hB;have el:=hl.1
   by_cases h0:n'=0
   ·subst h0
    obtain rfl:l'=[]:=List.length_eq_zero_iff.1 el.symm
    have E:=hid (show splitL l=acc from by rw[S.out.1,<-L.out,lines_nil]);clear hl hw L R el;go_wp2
    go_ret3
    exact⟨v,ret3 S.out.2.1.symm S.out.2.2.symm,by rw[E.out];exact hO,hB⟩
   ·have hp0:0<n':=by omega
    have hne:l'≠[]:=by rintro rfl;simp at el;omega
    obtain⟨b,off,rfl,hblt,-⟩:=hl.2 hp0;obtain⟨p,hp⟩:∃p,piece l'=p:=⟨_,rfl⟩;obtain⟨r,hr⟩:∃r,rest l'=r:=⟨_,rfl⟩;obtain⟨s,hs⟩:∃s,strip p=s:=⟨_,rfl⟩;obtain⟨np,hnp⟩:∃k,p.length=k:=⟨_,rfl⟩;obtain⟨nr,hnr⟩:∃k,r.length=k:=⟨_,rfl⟩;obtain⟨ns,hns⟩:∃k,s.length=k:=⟨_,rfl⟩;have q1:=(piece_rest l' hne).1;have q2:=(piece_rest l' hne).2;have q3:=strip_len p;rw[hp,hr,hnp,hnr,<-el] at q1;rw[hr,hnr,<-el] at q2;rw[hs,hns,hnp] at q3;have ep:l'.take np=p:=by rw[<-hnp,<-hp];exact(List.prefix_iff_eq_take.1 (List.takeWhile_prefix _)).symm
    have es:p.take ns=s:=by rw[<-hns,<-hs];exact(strip_take p).symm
    have L':=hid (show lines (put acc s) r=lines [] l from by rw[<-L.out,lines_step hne,hp,hr,hs]);have R':=hid (show Room (put acc s) r from by have:=R.out.next hne;rwa [hp,hr,hs] at this)
    have hold:s.head? = some 32->acc≠[]:=fun g=>R.out.old (by rw[hp,hs];exact g)
    have accl:acc.length<=4096:=by have:=R.out.2.1;omega
    have zl:∀z∈acc,z.length<=4096:=fun z hz=>by have:=R.out.1 z hz;omega
    have HP:=hid hp;have HR:=hid hr;have HS:=hid hs;have HNP:=hid hnp;have HNR:=hid hnr;have HNS:=hid hns;have EP:=hid ep;have ES:=hid es;have EL:=hid el;have ACL:=hid accl;have ZL:=hid zl;have HOLD:=hid hold;have HNE:=hid hne;clear hp hr hs hnp hnr hns ep es el L R accl zl hold hne;have kc:=const_bytes;have hk:=lit_at wr [10] #[.int .u8 10] 5 (1,2) rfl;have hA:=(Below.refl wr.heap.size wr).alloc (Nat.le_refl _) (.cells #[.int .u8 10] 5 (1,2));have hl1:=hl.below hA;have hO1:=hO.on hA;have hB1:=hB.trans (hA.mono hB.size);go_wp2_with fail;refine(cut_is' _ _ _ _ _ _ _ _ _ _ _ _ hl1 hk hnc' (by omega) HP.out HR.out HNP.out HNR.out).mono ?_;rintro e w2 ⟨A2,c2,x,rfl,hrw,hrc,hb2⟩;have hr2:=hrw w (by rw[<-EL.out];exact hw);clear hrw hw;have hp2:BsAt w2 (some ⟨b,off,none⟩) np p:=by rw[<-EP.out];exact(hl1.below hb2).take (by omega)
    have hO2:=hO1.on hb2;have hB2:=hB1.trans (hb2.mono hB1.size);have hk3:=lit_at w2 [13] #[.int .u8 13] 5 (1,2) rfl;have hA3:=(Below.refl w2.heap.size w2).alloc (Nat.le_refl _) (.cells #[.int .u8 13] 5 (1,2));have hp3:=hp2.below hA3;have hO3:=hO2.on hA3;have hB3:=hB2.trans (hA3.mono hB2.size);clear hk hA hl1 hO1 hB1 hO hB hl hp2 hO2 hB2;go_wp2_with fail;refine(trim_is' _ _ _ _ _ _ _ _ _ _ hp3 hk3 (by omega) (by omega) HS.out HNS.out).mono ?_;rintro e _ ⟨rfl,rfl⟩;have hs3:BsAt (w2.alloc (.cells #[.int .u8 13] 5 (1,2))) (some ⟨b,off,none⟩) ns s:=by rw[<-ES.out];exact hp3.take q3
    clear hk3 hA3 hp3 kc;generalize w2.alloc (.cells #[.int .u8 13] 5 (1,2))=w3 at *
    by_cases hs0:ns=0
    ·subst hs0
     have es0:s=[]:=List.length_eq_zero_iff.1 HNS.out
     have P:=hid (show put acc s=acc++[s] from put_new (by rw[es0];simp));have ct:=hs3.text c';clear hs3 es0
     go_wp2_with (at_builtin;refine append_line rfl _ _ rfl v (acc.map str) rfl hO3 hB3 (str s) 9 1 rfl (by rw[List.length_map];have:=ACL.out;omega) ?_)
     intro v5 w5 hO5 hB5;go_wp2
     go_roundw
     case rel=>exact⟨A2,nr,c2,r,put acc s,_,rfl,rfl,hr2,hrc,by omega,L',R',by rw[P.out,List.map_append];exact hO5,hB5⟩
     case measure=>show sliceLen (Value.slice A2 nr c2)<sliceLen (Value.slice _ n' c');simp only[sliceLen];omega
    ·have hsp:0<ns:=by omega
     clear hs0;obtain⟨b',o',e',hblt3,hcell⟩:=hs3.2 hsp;injection e' with e';injection e' with e' e'';subst e';subst e'';have c0:=hcell 0 hsp;rw[Nat.add_zero] at c0;have hg0:(0:Int)<(ns:Int):=by omega
     clear hcell
     by_cases h32:bat s 0=32
     ·have t32:((bat s 0:Int)==32)=true:=by rw[beq_iff_eq];exact h32
      have hh:s.head? = some 32:=by
       have:=blank_at (l:=s) (by rw[HNS.out];exact hsp)
       rw[show decide (bat s 0=32)=true from decide_eq_true h32] at this;exact of_decide_eq_true this
      obtain⟨t,rfl⟩:∃t,s=32::t:=by
       cases s with
       |nil=>simp at hh
       |cons x t=>simp at hh;exact⟨t,by rw[hh]⟩
      have hacc:=HOLD.out hh;obtain⟨a,z,rfl⟩:∃a z,acc=a++[z]:=⟨_,_,(List.dropLast_concat_getLast hacc).symm⟩;have P:=hid (show put (a++[z]) (32::t)=a++[z++t] from put_old);have tl:t.length=ns-1:=by have:=HNS.out;simp at this;omega
      obtain⟨m,hm⟩:∃m,a.length=m:=⟨_,rfl⟩;have nl:((a++[z]).map str).length=m+1:=by simp[hm]
      obtain⟨g,cap,rfl⟩:=OwnT.slice hO3 (by rw[nl];omega);have cz:=World.ownsRow.cellAt hO3 m (by rw[nl];omega);have ez:(((a++[z]).map str).map strV)[m]? = some (.string (str z)):=by rw[<-hm];simp[strV]
      rw[ez] at cz;have fz:=World.ownsRow.frozenAt hO3 m;have hm4:m<=4096:=by have:=ACL.out;simp at this;omega
      have zz:=ZL.out z (by simp);have hO4:=OwnT.store hO3 hB3 m (str (z++t));have es5:((a++[z]).map str).set m (str (z++t))=(a++[z++t]).map str:=by rw[<-hm];simp
      rw[es5,nl] at hO4;obtain⟨hO5,hB5⟩:=hO4;have nl2:((a++[z++t]).map str).length=m+1:=by simp[hm]
      rw[nl] at *;have w1:IntKind.i64.wrap (((m+1:Nat):Int)-1)=(m:Int):=by rw[show ((m+1:Nat):Int)-1=(m:Int) from by omega];exact IntWalk.i64_in _ (by omega)
      have w2':IntKind.i64.wrap ((m:Int)+1-1)=(m:Int):=by rw[show (m:Int)+1-1=(m:Int) from by omega];exact IntWalk.i64_in _ (by omega)
      have w3':IntKind.i64.wrap (m:Int)=(m:Int):=IntWalk.i64_in _ (by omega)
      have i1:(m:Int)<(m:Int)+1:=by omega
      have i0:(0:Int)<=(m:Int):=by omega
      have i2:m<m+1:=by omega
      replace hO5:=OwnT.on hO5 ((Below.refl _ _).drew)
      replace hB5:=hB5.trans ((Below.refl _ _).drew)
      have HO5:=hid hO5;have HB5:=hid hB5;have L2:=hid (show lines (a++[z++t]) r=lines [] l from by have:=L'.out;rwa [P.out] at this);have R2:=hid (show Room (a++[z++t]) r from by have:=R'.out;rwa [P.out] at this);have sz1:(str z).size<=4096:=by rw[str_size];exact zz
      have sz2:(str t).size<=4096:=by rw[str_size,tl];omega
      have ap:=str_app z t;have szz:¬9223372036854775807<(str z).size+(str t).size:=by omega
      clear hO3 hO5 es5 nl hm ez hacc hh h32 zz nl2 hB5
      by_cases hc1:c'=1
      ·subst hc1
       obtain rfl:ns=1:=by omega
       have ht0:t=[]:=List.length_eq_zero_iff.1 (by omega)
       have ct:=(BsAt.nil w3.drew (some ⟨b,off,none⟩)).text 0;rw[<-ht0] at ct;clear hs3 ht0 tl;go_wp2
       go_still_tail 11,(by kernel_rfl)
       change wpList _ _ _ _ _ w3.drew
       go_wp2
       go_roundw
       case rel=>exact⟨A2,nr,c2,r,a++[z++t],_,rfl,rfl,hr2,hrc,by omega,L2,R2,HO5.out,HB5.out⟩
       case measure=>show sliceLen (Value.slice A2 nr c2)<sliceLen (Value.slice _ n' _);simp only[sliceLen];omega
      ·have hs4:=(hs3.below ((Below.refl _ _).drew)).drop (k:=1) (by omega)
       have ct:=hs4.text (c'-1);rw[show List.drop 1 (32::t)=t from rfl] at ct;have j1:(1:Int)<=(ns:Int):=by omega
       have j2:(1:Int)<=(c':Int):=by omega
       have j3:1<=ns:=by omega
       have j4:1<=c':=by omega
       clear hs3 hs4;clear tl;go_wp2
       go_still_tail 11,(by kernel_rfl)
       change wpList _ _ _ _ _ w3.drew
       go_wp2
       go_roundw
       case rel=>exact⟨A2,nr,c2,r,a++[z++t],_,rfl,rfl,hr2,hrc,by omega,L2,R2,HO5.out,HB5.out⟩
       case measure=>show sliceLen (Value.slice A2 nr c2)<sliceLen (Value.slice _ n' _);simp only[sliceLen];omega
     ·have t32:((bat s 0:Int)==32)=false:=by rw[beq_eq_false_iff_ne];exact h32
      have P:=hid (show put acc s=acc++[s] from put_new (fun g=>h32 (of_decide_eq_true (by rw[<-blank_at (by rw[HNS.out];exact hsp)];unfold blank1;rw[g];rfl))));have ct:=hs3.text c';clear hs3 h32
      go_wp2_with (at_builtin;refine append_line rfl _ _ rfl v (acc.map str) rfl hO3 hB3 (str s) 9 1 rfl (by rw[List.length_map];have:=ACL.out;omega) ?_)
      intro v5 w5 hO5 hB5;go_wp2
      go_roundw
      case rel=>exact⟨A2,nr,c2,r,put acc s,_,rfl,rfl,hr2,hrc,by omega,L',R',by rw[P.out,List.map_append];exact hO5,hB5⟩
      case measure=>show sliceLen (Value.slice A2 nr c2)<sliceLen (Value.slice _ n' c');simp only[sliceLen];omega
end Go.Proofs.YtddnnljfgfcplaaGreatDoor.Fd
