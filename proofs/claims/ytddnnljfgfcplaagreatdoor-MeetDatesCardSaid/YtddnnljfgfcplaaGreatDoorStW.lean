/- What package stamp's walks share: below the world that a law began in nothing turns, and the table of powers reads as it was laid; a slice of bytes of the call's own holds a list of bytes. The walks of package stamp's functions that write: two, part, Text, DurText; and of those that only compute: Make, Day, May, Add. The walks of package stamp's functions that read texts: isDigit, digits, number, Parse, seconds, sum. The walks of vokref1's May and Day. The walk of vokref.Dec: a number's decimal digits, of a number that is not below 0. -/
import Derived.Test.YtddnnljfgfcplaaGreatDoorCvW
import Derived.Test.YtddnnljfgfcplaaGreatDoorShelf
set_option maxHeartbeats 400000
set_option linter.unusedVariables false
namespace Go.Proofs.YtddnnljfgfcplaaGreatDoor.St
open Go.RowKit
def Tab (w : World) : Prop := Lib.TabIs Tryz.prog w "internal/strconv.uint64pow10" .u64 Lib.pow10Tab
structure At (W w:World):Prop where
 below:Below W.heap.size W w
 tab:Tab W
theorem At.refl {W:World} (h:Tab W):At W W:=⟨Below.refl _ _,h⟩
theorem At.on {W w w':World} (h:At W w) (hb:Below W.heap.size w w'):At W w':=⟨h.below.trans hb,h.tab⟩
theorem At.size {W w:World} (h:At W w):W.heap.size<=w.heap.size:=h.below.size
theorem Below.drewN' (B:Nat) (w:World) (n:Nat):Below B w (w.drewN n):=⟨rfl,rfl,rfl,Nat.le_refl _,fun _ _=>rfl⟩
theorem At.drewN {W w:World} (h:At W w) (n:Nat):At W (w.drewN n):=h.on (Below.drewN' _ _ _)
theorem At.pow {W w : World} (h : At W w) : Lib.TabBelow Tryz.prog W.heap.size w "internal/strconv.uint64pow10" .u64 Lib.pow10Tab :=
 (Lib.tabBelow_of_tabIs h.tab).on h.below
def Own (W w:World) (v:Value) (l:List UInt8):Prop:=w.ownsRow W.heap.size 5 1 v l.length (Lib.byteCells l)
def Wrote (W:World) (l:List UInt8) (e:Ending) (w':World):Prop:=∃v,e= .returned v/\Own W w' v l/\At W w'
theorem info_u8:(Tryz.prog.info? 5).map (fun i=>(i.zero,i.size,i.bytes))=some (some (.int .u8 0),1,1):=by kernel_rfl
theorem Own.lt {W w:World} {v:Value} {l:List UInt8} (h:Own W w v l) {k:Nat} (hk:v.ownBlock=some k):W.heap.size<=k:=(World.ownsRow.lt h k hk).1
theorem Own.grown {W w w1:World} {v:Value} {l:List UInt8} (h:Own W w v l) (ha:At W w) (hg:w.grownBy w1 v.ownBlock):At W w1:=
 ha.on ((Below.refl _ _).grown hg ha.size fun _ hk=>h.lt hk)
theorem Own.nil (W w:World):Own W w (.slice none 0 0) []:=World.ownsRow_nil _ _ _ _
theorem byteCells_append (a b:List UInt8):Lib.byteCells (a++b)=Lib.byteCells a++Lib.byteCells b:=by simp[Lib.byteCells]
theorem append_bytes {ops:Array Oper} {rest:List Oper} {o:Oper} {a:Act} {Q:Exit->Act->World->Prop} {W w:World} (hgd:o.guard=none) (s x:Operand)
  (ho:o.op= .call { callee:= .builtin .append,args:=#[s,x],argTypes:=#[28,28] })
  (v:Value) (l:List UInt8) (hs:a.eval s=v) (hown:Own W w v l) (hat:At W w) (cs:Array Value) (T:TypeId) (m c:Nat)
  (hx:a.eval x= .slice (some ⟨w.heap.size,0,none⟩) m c) (ns:List UInt8) (hcs:cs.toList=Lib.byteCells ns) (hm:ns.length=m) (hl:l.length+m<=1000000)
  (h:∀v' w',Own W w' v' (l++ns)->At W w'->wpList Tryz.prog ops Q rest (a.put o.dst v') w'):wpList Tryz.prog ops Q (o::rest) a (w.alloc (.cells cs T)):=by
 obtain⟨i0,hi,hz0,hz1,hz2⟩:=info_parts info_u8
 have h1:∀u∈Lib.byteCells ns,Value.oneCell' u=true:=by
  intro u hu;unfold Lib.byteCells at hu;obtain⟨b,_,rfl⟩:=List.mem_map.1 hu;rfl
 refine wpList_append_own _ hgd s x 28 ho W.heap.size 5 i0 (.int .u8 0) 1 1 Tryz.underlying28 hi hz0 hz1 hz2 rfl (by decide) v l.length (Lib.byteCells l) hs (World.ownsRow.alloc hown _)
  ⟨w.heap.size,0,none⟩ m c (Lib.byteCells ns) hx (by simp[Lib.byteCells,hm]) ?_ h1 (by unfold maxLen;omega) (by omega) (by have:=hat.size;simp;omega) ?_
 ·intro j u hj
  rw[<-hcs] at hj
  have e:(⟨w.heap.size,0,none⟩:Addr).add j=⟨w.heap.size,j,none⟩:=by cases j<;>simp[Addr.add]
  rw[e,World.cell?_alloc_new,<-hj];simp
 ·intro v' w' hown' hg _
  have hat1:At W (w.alloc (.cells cs T)):=hat.on ((Below.refl _ _).alloc hat.size _)
  refine h v' w' ?_ (hat1.on ((Below.refl _ _).grown hg (by have:=hat.size;simp;omega) fun _ hk=>hown.lt hk));unfold Own;rw[List.length_append,byteCells_append,hm];exact hown'
theorem itoa_any (W w:World) (v:Value) (l:List UInt8) (n:Int) (h0:-9223372036854775808<=n) (h1:n<=9223372036854775807) (h:At W w) (ho:Own W w v l) (hl:l.length<=1000000):
  Calls Tryz.prog 106 #[v,.int .i64 n,.int .i64 10] w (Wrote W (l++Lib.itoa n)):=by
 refine(Tryz.strconv_AppendInt_10 W.heap.size l.length n h0 h1 v (Lib.byteCells l) w ho h.size (by omega) h.pow).mono ?_
 rintro e w' ⟨v',rfl,ho',hb,_⟩
 refine⟨v',rfl,?_,h.on hb⟩
 unfold Own
 rw[List.length_append,byteCells_append]
 exact ho'
theorem bytes_back {W w:World} {g cap:Nat} {l:List UInt8} (h:Own W w (.slice (some ⟨g,0,none⟩) l.length cap) l):
  (convert 28 9 (.slice (some ⟨g,0,none⟩) l.length cap)).run Tryz.prog w= .ok (.string ⟨l.toArray⟩) w:=
 run_convert_bytes_back (P:=Tryz.prog) w 28 9 5 ⟨g,0,none⟩ cap l Tryz.underlying28 Tryz.underlying5 Tryz.underlying9 (fun j hj=>World.ownsRow.cells h (g:=g) rfl j _ (by simp[Lib.byteCells,hj]))
theorem Own.slice {W w:World} {v:Value} {l:List UInt8} (h:Own W w v l) (hl:0<l.length):∃g cap,v= .slice (some ⟨g,0,none⟩) l.length cap:=by
 rcases h.2 with ⟨-,h0⟩|⟨g,cap,cur,rfl,-⟩
 ·omega
 ·exact⟨g,cap,rfl⟩
theorem part_len (n u:Int) (h0:0<=n) (h1:n<=1000000):(part n u).length<=22:=by
 have:=Lib.itoa_length_le n (by omega) (by omega)
 unfold part;split<;>simp;omega
theorem At.alloc {W w:World} (h:At W w) (o:Obj):At W (w.alloc o):=h.on ((Below.refl _ _).alloc h.size _)
theorem At.drew {W w:World} (h:At W w):At W w.drew:=h.on ((Below.refl _ _).drew)
theorem own_lit (W w:World) (l:List UInt8) (h:At W w) (hl:l.length<=1000):Own W (w.alloc (.cells (Lib.byteCells l).toArray 5)) (.slice (some ⟨w.heap.size,0,none⟩) l.length l.length) l:=by
 have:=World.ownsRow_lit (base:=W.heap.size) (e:=5) (size:=1) w (Lib.byteCells l).toArray l.length h.size (by unfold maxLen;omega) (by simp[Lib.byteCells])
 simpa [Own] using this
end Go.Proofs.YtddnnljfgfcplaaGreatDoor.St
namespace Go.Proofs.YtddnnljfgfcplaaGreatDoor.St
open Lib (hid)
open Go.RowKit Cv
theorem may_yes (t:Int) (w:World) (h:may t=true):
  Calls Tryz.prog 64 #[.int .i64 t] w fun e w'=>e= .returned (.bool true)/\w=w':=by
 obtain⟨h1,h2⟩:=of_decide_eq_true h;clear h
 go_enter Tryz.func64,Tryz.ntmps64
 go_wp2
 go_ret
 exact⟨rfl,rfl⟩
theorem may_no (t:Int) (w:World) (h:may t=false):
  Calls Tryz.prog 64 #[.int .i64 t] w fun e w'=>e= .returned (.bool false)/\w=w':=by
 have g:=of_decide_eq_false h;clear h
 by_cases h1:t < -62135596800
 ·clear g
  go_enter Tryz.func64,Tryz.ntmps64
  go_wp2;go_ret;exact⟨rfl,rfl⟩
 ·have h2:253402300799<t:=by omega
  clear g
  go_enter Tryz.func64,Tryz.ntmps64
  go_wp2;go_ret;exact⟨ret_bool (decide_eq_false (by omega)),rfl⟩
theorem time_no {h mi s:Int} (g:time h mi s=false):h<0\/0<=h/\23<h\/0<=h/\h<=23/\(mi<0\/0<=mi/\59<mi\/0<=mi/\mi<=59/\(s<0\/0<=s/\59<s)):=by
 have:=of_decide_eq_false g;omega
theorem make_date (y mo d h mi s:Int) (w:World) (hv:valid y mo d=false):
  Calls Tryz.prog 62 #[.int .i64 y,.int .i64 mo,.int .i64 d,.int .i64 h,.int .i64 mi,.int .i64 s] w fun e w'=>e= .returned (.tuple #[.int .i64 0,.int .i64 1])/\w=w':=by
 have V:=hid hv;clear hv
 go_enter Tryz.func62,Tryz.ntmps62
 go_wp2_with (go_at_call 101;refine(days_no _ _ _ _ V.out).mono ?_;rintro e w' ⟨rfl,rfl⟩)
 go_ret2
 exact⟨rfl,rfl⟩
theorem make_time (y mo d h mi s:Int) (w:World) (hv:valid y mo d=true) (ht:time h mi s=false):
  Calls Tryz.prog 62 #[.int .i64 y,.int .i64 mo,.int .i64 d,.int .i64 h,.int .i64 mi,.int .i64 s] w fun e w'=>e= .returned (.tuple #[.int .i64 0,.int .i64 1])/\w=w':=by
 have V:=hid hv;clear hv
 rcases time_no ht with h1|⟨h1,h2⟩|⟨h1,h2,h3|⟨h3,h4⟩|⟨h3,h4,h5|⟨h5,h6⟩⟩⟩
 all_goals
  clear ht
  go_enter Tryz.func62,Tryz.ntmps62
  go_wp2_with (go_at_call 101;refine(days_yes _ _ _ _ V.out).mono ?_;rintro e w' ⟨rfl,rfl⟩)
  go_ret2
  exact⟨rfl,rfl⟩
theorem make_yes (y mo d h mi s:Int) (w:World) (hv:valid y mo d=true) (ht:time h mi s=true):
  Calls Tryz.prog 62 #[.int .i64 y,.int .i64 mo,.int .i64 d,.int .i64 h,.int .i64 mi,.int .i64 s] w fun e w'=>e= .returned (.tuple #[.int .i64 (mk y mo d h mi s),.int .i64 0])/\w=w':=by
 obtain⟨h1,h2,h3,h4,h5,h6⟩:=of_decide_eq_true ht;clear ht
 obtain⟨b1,b2⟩:=num_bd hv
 have V:=hid hv;clear hv
 go_enter Tryz.func62,Tryz.ntmps62
 go_wp2_with (go_at_call 101;refine(days_yes _ _ _ _ V.out).mono ?_;rintro e w' ⟨rfl,rfl⟩)
 go_ret2
 exact⟨rfl,rfl⟩
theorem make_any (y mo d h mi s a b:Int) (w:World) (hr:makeR y mo d h mi s=(a,b)):
  Calls Tryz.prog 62 #[.int .i64 y,.int .i64 mo,.int .i64 d,.int .i64 h,.int .i64 mi,.int .i64 s] w fun e w'=>e= .returned (.tuple #[.int .i64 a,.int .i64 b])/\w=w':=by
 unfold makeR at hr
 cases hv:valid y mo d
 ·rw[if_neg (by simp[hv])] at hr
  injection hr with h1 h2;subst h1 h2;exact make_date y mo d h mi s w hv
 ·cases ht:time h mi s
  ·rw[if_neg (by simp[ht])] at hr
   injection hr with h1 h2;subst h1 h2;exact make_time y mo d h mi s w hv ht
  ·rw[if_pos ⟨hv,ht⟩] at hr
   injection hr with h1 h2;subst h1 h2;exact make_yes y mo d h mi s w hv ht
theorem day_any (t:Int) (w:World) (h1:-9223372036854775808<=t) (h2:t<=9223372036854775807):
  Calls Tryz.prog 65 #[.int .i64 t] w fun e w'=>e= .returned (.tuple #[.int .i64 (t / 86400),.int .i64 (t % 86400)])/\w=w':=by
 by_cases hn:0<=t
 ·have g:=Int.emod_nonneg t (b:=86400) (by omega)
  go_enter Tryz.func65,Tryz.ntmps65
  go_wp2
  go_ret2
  exact⟨rfl,rfl⟩
 ·obtain⟨e1,e2,b1,b2,b3,b4⟩:=tday (t:=t) (by omega) h1
  by_cases hz:t.tmod 86400<0
  ·obtain⟨e,f⟩:=e1 hz
   have E:=hid e;have F:=hid f;clear e f e1 e2
   go_enter Tryz.func65,Tryz.ntmps65
   go_wp2
   go_ret2
   exact⟨ret_two E.out F.out,rfl⟩
  ·obtain⟨e,f⟩:=e2 hz
   have E:=hid e;have F:=hid f;clear e f e1 e2
   go_enter Tryz.func65,Tryz.ntmps65
   go_wp2
   go_ret2
   exact⟨ret_two E.out F.out,rfl⟩
theorem part_any (W w:World) (v:Value) (l:List UInt8) (n u:Int) (h0:0<=n) (h1:n<=1000000) (hu:0<=u) (hu':u<=255) (h:At W w) (ho:Own W w v l) (hl:l.length<=1000):
  Calls Tryz.prog 68 #[v,.int .i64 n,.int .u8 u] w (Wrote W (l++part n u)):=by
 by_cases hn:n=0
 ·subst hn
  go_enter Tryz.func68,Tryz.ntmps68
  go_wp2;go_ret;exact⟨v,rfl,by simpa [part] using ho,h⟩
 ·have hb:((n:Int)==0)=false:=by simpa using hn
  unfold part;rw[if_neg hn];clear hn;have la:=Lib.itoa_length_le n (by omega) (by omega)
  go_enter Tryz.func68,Tryz.ntmps68
  go_wp2_with (go_at_call 106;refine(itoa_any W _ v l n (by omega) (by omega) h ho (by omega)).mono ?_;rintro e w1 ⟨v1,rfl,ho1,hat1⟩;refine Hid.out ?_)
  refine hid ?_
  go_wp2_with (at_builtin;refine append_bytes rfl _ _ rfl _ _ rfl ho1 hat1 _ _ _ _ rfl [u8 u] ?c1 rfl ?c2 ?_)
  case c1=>
   have e1:=u8_nat u hu hu'
   simp[Lib.byteCells,e1]
  case c2=>simp;omega
  intro v' w' hown' hat';go_wp2;go_ret;exact⟨v',rfl,hown',hat'⟩
end Go.Proofs.YtddnnljfgfcplaaGreatDoor.St
namespace Go.Proofs.YtddnnljfgfcplaaGreatDoor.St
open Lib (hid)
open Go.RowKit Cv
theorem isDigit_yes (c:Int) (w:World) (h1:48<=c) (h2:c<=57):
  Calls Tryz.prog 100 #[.int .u8 c] w fun e w'=>e= .returned (.bool true)/\w=w':=by
 go_enter Tryz.func100,Tryz.ntmps100
 go_wp2
 go_ret
 exact⟨rfl,rfl⟩
theorem isDigit_no (c:Int) (w:World) (h:¬(48<=c/\c<=57)):
  Calls Tryz.prog 100 #[.int .u8 c] w fun e w'=>e= .returned (.bool false)/\w=w':=by
 by_cases h1:c<48
 ·clear h
  go_enter Tryz.func100,Tryz.ntmps100
  go_wp2;go_ret;exact⟨rfl,rfl⟩
 ·have h2:57<c:=by omega
  clear h
  go_enter Tryz.func100,Tryz.ntmps100
  go_wp2;go_ret;exact⟨ret_bool (decide_eq_false (by omega)),rfl⟩
theorem digits_any (s:ByteArray) (w:World) (hs:s.size<=maxLen):
  Calls Tryz.prog 61 #[.string s] w fun e w'=>e= .returned (.bool (digs s.data.toList))/\w=w':=by
 unfold maxLen at hs
 go_enter Tryz.func61,Tryz.ntmps61
 go_wp2
 go_loop [3,6] (fun _ i=>∃k:Nat,k<=s.size/\i= .int .i64 k/\digs (s.data.toList.take k)=true) (fun _ i=>s.size-(intOf i).toNat)
 case atStart=>exact⟨0,Nat.zero_le _,rfl,rfl⟩
 case round=>
  obtain⟨k,hk,rfl,hd⟩:=hrel;have D:=hid hd;clear hd
  by_cases hlt:k<s.size
  ·by_cases hc:isd s[k]=true
   ·obtain⟨c1,c2⟩:=of_decide_eq_true hc
    have C:=hid hc;clear hc
    go_wp2_with (go_at_call 100;refine(isDigit_yes _ _ c1 c2).mono ?_;rintro e w' ⟨rfl,rfl⟩)
    go_round
    case rel=>exact⟨k+1,by omega,by go_num,by rw[take_snoc s k hlt];exact digs_snoc D.out C.out⟩
    case measure=>simp[intOf];omega
   ·have hc':=of_decide_eq_false (Bool.not_eq_true _ ▸ hc)
    have C:=hid (digs_bad (l:=s.data.toList) (k:=k) (by simpa using hlt) (Bool.not_eq_true _ ▸ hc));clear hc;have C':=hid hc';clear hc'
    go_wp2_with (go_at_call 100;refine(isDigit_no _ _ C'.out).mono ?_;rintro e w' ⟨rfl,rfl⟩)
    go_ret;exact⟨ret_bool C.out.symm,rfl⟩
  ·go_wp2
   go_ret;exact⟨ret_bool (by rw[<-D.out,List.take_of_length_le (by simp;omega)]),rfl⟩
theorem digits_yes (s:ByteArray) (w:World) (hs:s.size<=maxLen) (h:digs s.data.toList=true):
  Calls Tryz.prog 61 #[.string s] w fun e w'=>e= .returned (.bool true)/\w=w':=by
 have:=digits_any s w hs;rwa [h] at this
theorem digits_no (s:ByteArray) (w:World) (hs:s.size<=maxLen) (h:digs s.data.toList=false):
  Calls Tryz.prog 61 #[.string s] w fun e w'=>e= .returned (.bool false)/\w=w':=by
 have:=digits_any s w hs;rwa [h] at this
theorem number_any (s:ByteArray) (w:World) (hs:s.size<=15) (hd:digs s.data.toList=true):
  Calls Tryz.prog 63 #[.string s] w fun e w'=>e= .returned (.int .i64 (nmb s.data.toList))/\w=w':=by
 have D:=hid hd;clear hd
 go_enter Tryz.func63,Tryz.ntmps63
 go_wp2
 go_loop [3,4,7] (fun n _ i=>∃k:Nat,k<=s.size/\i= .int .i64 k/\n= .int .i64 (nmb (s.data.toList.take k))) (fun _ _ i=>s.size-(intOf i).toNat)
 case atStart=>exact⟨0,Nat.zero_le _,rfl,rfl⟩
 case round=>
  obtain⟨k,hk,rfl,rfl⟩:=hrel
  by_cases hlt:k<s.size
  ·obtain⟨c1,c2⟩:=of_decide_eq_true (digs_at D.out (k:=k) (by simpa using hlt))
   change 48<=(s[k].toNat:Int) at c1
   change (s[k].toNat:Int)<=57 at c2
   obtain⟨b1,b2⟩:=nmb_small s k hlt (by omega) D.out;have E:=hid (nmb_snoc (s.data.toList.take k) s[k]);go_wp2
   go_round
   case rel=>exact⟨k+1,by omega,by go_num,by rw[take_snoc s k hlt,E.out]⟩
   case measure=>simp[intOf];omega
  ·go_wp2
   go_ret;exact⟨ret_int (by rw[List.take_of_length_le (by simp;omega)]),rfl⟩
theorem number_quiet (s:ByteArray) (w:World) (hs:s.size<=15) (hd:digs s.data.toList=true):
  Calls Tryz.prog 63 #[.string s] w fun e w'=>e= .returned (.int .i64 (nmb s.data.toList))/\w'=w:=
 (number_any s w hs hd).mono fun _ _ h=>⟨h.1,h.2.symm⟩
theorem make_quiet (y mo d h mi s a b:Int) (w:World) (hr:makeR y mo d h mi s=(a,b)):
  Calls Tryz.prog 62 #[.int .i64 y,.int .i64 mo,.int .i64 d,.int .i64 h,.int .i64 mi,.int .i64 s] w fun e w'=>e= .returned (.tuple #[.int .i64 a,.int .i64 b])/\w'=w:=
 (make_any y mo d h mi s a b w hr).mono fun _ _ h=>⟨h.1,h.2.symm⟩
end Go.Proofs.YtddnnljfgfcplaaGreatDoor.St
namespace Go.Proofs.YtddnnljfgfcplaaGreatDoor.St
open Go.RowKit Cv
theorem rmay_yes (t:Int) (w:World) (h:may t=true):
  Calls Tryz.prog 45 #[.int .i64 t] w fun e w'=>e= .returned (.bool true)/\w=w':=by
 obtain⟨h1,h2⟩:=of_decide_eq_true h;clear h
 have h3:t<253402300800:=by omega
 go_enter Tryz.func45,Tryz.ntmps45
 go_wp2
 go_ret
 exact⟨rfl,rfl⟩
theorem rmay_no (t:Int) (w:World) (h:may t=false):
  Calls Tryz.prog 45 #[.int .i64 t] w fun e w'=>e= .returned (.bool false)/\w=w':=by
 have g:=of_decide_eq_false h;clear h
 by_cases h1:t < -62135596800
 ·clear g
  go_enter Tryz.func45,Tryz.ntmps45
  go_wp2;go_ret;exact⟨rfl,rfl⟩
 ·have h2:253402300799<t:=by omega
  clear g
  go_enter Tryz.func45,Tryz.ntmps45
  go_wp2;go_ret;exact⟨ret_bool (decide_eq_false (by omega)),rfl⟩
theorem rmay_any (t:Int) (w:World):
  Calls Tryz.prog 45 #[.int .i64 t] w fun e w'=>e= .returned (.bool (may t))/\w=w':=by
 cases h:may t
 ·exact rmay_no t w h
 ·exact rmay_yes t w h
theorem rdown_day (t:Int) (w:World) (h1:-9223372036854775808<=t) (h2:t<=9223372036854775807):
  Calls Tryz.prog 171 #[.int .i64 t,.int .i64 86400] w fun e w'=>e= .returned (.int .i64 (t / 86400))/\w=w':=by
 by_cases hn:0<=t
 ·have g:=Int.emod_nonneg t (b:=86400) (by omega)
  have g':¬t % 86400<0:=by omega
  clear g
  go_enter Tryz.func171,Tryz.ntmps171
  go_wp2;go_ret;exact⟨rfl,rfl⟩
 ·obtain⟨e1,e2,b1,b2,b3,b4⟩:=tday (t:=t) (by omega) h1
  by_cases hz:t.tmod 86400<0
  ·obtain⟨e,f⟩:=e1 hz
   have E:=Lib.hid e;clear e f e1 e2
   go_enter Tryz.func171,Tryz.ntmps171
   go_wp2;go_ret;exact⟨ret_int E.out,rfl⟩
  ·obtain⟨e,f⟩:=e2 hz
   have E:=Lib.hid e;clear e f e1 e2
   go_enter Tryz.func171,Tryz.ntmps171
   go_wp2;go_ret;exact⟨ret_int E.out,rfl⟩
theorem rday_any (t:Int) (w:World) (h1:-9223372036854775808<=t) (h2:t<=9223372036854775807):
  Calls Tryz.prog 122 #[.int .i64 t] w fun e w'=>e= .returned (.tuple #[.int .i64 (t / 86400),.int .i64 (t % 86400)])/\w=w':=by
 by_cases hn:0<=t
 ·have g:=Int.emod_nonneg t (b:=86400) (by omega)
  have g':¬t % 86400<0:=by omega
  clear g
  go_enter Tryz.func122,Tryz.ntmps122
  go_wp2_with (go_at_call 171;refine(rdown_day _ _ h1 h2).mono ?_;rintro e w' ⟨rfl,rfl⟩)
  go_ret2
  exact⟨rfl,rfl⟩
 ·obtain⟨e1,e2,b1,b2,b3,b4⟩:=tday (t:=t) (by omega) h1
  by_cases hz:t.tmod 86400<0
  ·obtain⟨e,f⟩:=e1 hz
   have F:=Lib.hid f;clear e f e1 e2
   go_enter Tryz.func122,Tryz.ntmps122
   go_wp2_with (go_at_call 171;refine(rdown_day _ _ h1 h2).mono ?_;rintro e w' ⟨rfl,rfl⟩)
   go_ret2
   exact⟨ret_two rfl F.out,rfl⟩
  ·obtain⟨e,f⟩:=e2 hz
   have F:=Lib.hid f;clear e f e1 e2
   go_enter Tryz.func122,Tryz.ntmps122
   go_wp2_with (go_at_call 171;refine(rdown_day _ _ h1 h2).mono ?_;rintro e w' ⟨rfl,rfl⟩)
   go_ret2
   exact⟨ret_two rfl F.out,rfl⟩
end Go.Proofs.YtddnnljfgfcplaaGreatDoor.St
namespace Go.Proofs.YtddnnljfgfcplaaGreatDoor.St
open Go.RowKit Cv
theorem cells_below {W w1:World} {B:Nat} (hb:Below B W w1):∀b o,b<B->w1.cell? ⟨b,o,none⟩=W.cell? ⟨b,o,none⟩:=
 fun b o h=>hb.cell (p:=⟨b,o,none⟩) h
theorem dec_len {n:Int} (h:n<=1000000000000000):(⟨(Lib.decDigits n.toNat).toArray⟩:ByteArray).size<=20:=by
 show (Lib.decDigits n.toNat).toArray.size<=20
 rw[List.size_toArray,Lib.decDigits_length]
 exact Lib.nDigits_le20 _ (by omega)
end Go.Proofs.YtddnnljfgfcplaaGreatDoor.St
