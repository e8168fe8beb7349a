/- What package stamp's walks share: below the world that a law began in nothing turns, and the table of powers reads as it was laid; a slice of bytes of the call's own holds a list of bytes. The walks of package stamp's functions that write: two, part, Text, DurText; and of those that only compute: Make, Day, May, Add. The walks of package stamp's functions that read texts: isDigit, digits, number, Parse, seconds, sum. The walks of vokref1's May and Day. The walk of vokref.Dec: a number's decimal digits, of a number that is not below 0. -/
import Derived.Test.YtchpjhjjakckbaaGreatDoorRows
import Derived.Test.YtchpjhjjakckbaaGreatDoorMaA
import Derived.Test.YtchpjhjjakckbaaGreatDoorCvW
import Derived.Test.YtchpjhjjakckbaaGreatDoorShelf
import Derived.Lib.AppendIntMem
import Derived.WalkKit
import Derived.OwnWalk
import Derived.WalkSpells
import Derived.BigCall
import Derived.Lib.Hide
import Derived.Lib.Slices
import Derived.Lib.ItoaLen
import Derived.Lib.UnsafeStr
import Derived.Laws.IdiomStrings
import Derived.Laws.MakeOwn
import Derived.Outline
import Derived.LoopTactic
import Derived.Deep.QuietTactic
import Derived.BigQuiet
import Derived.Deep.RegionWith
import Derived.IntWalk
set_option linter.unusedVariables false
namespace Go.Proofs.YtchpjhjjakckbaaGreatDoor.St
open Go.RowKit
def Tab (w : World) : Prop := Lib.TabIs Tryz.prog w "internal/strconv.uint64pow10" .u64 Lib.pow10Tab
structure At (W w:World):Prop where
 below:Below W.heap.size W w
 tab:Tab W
theorem At.refl {W:World} (h:Tab W):At W W:=⟨Below.refl _ _,h⟩
theorem At.on {W w w':World} (h:At W w) (hb:Below W.heap.size w w'):At W w':=⟨h.below.trans hb,h.tab⟩
theorem At.size {W w:World} (h:At W w):W.heap.size≤w.heap.size:=h.below.size
theorem Below.drewN' (B:Nat) (w:World) (n:Nat):Below B w (w.drewN n):=⟨rfl,rfl,rfl,Nat.le_refl _,fun _ _=>rfl⟩
theorem At.drewN {W w:World} (h:At W w) (n:Nat):At W (w.drewN n):=h.on (Below.drewN' _ _ _)
theorem At.pow {W w : World} (h : At W w) : Lib.TabBelow Tryz.prog W.heap.size w "internal/strconv.uint64pow10" .u64 Lib.pow10Tab :=
 (Lib.tabBelow_of_tabIs h.tab).on h.below
def Own (W w:World) (v:Value) (l:List UInt8):Prop:=w.ownsRow W.heap.size 5 1 v l.length (Lib.byteCells l)
theorem Own.lt {W w:World} {v:Value} {l:List UInt8} (h:Own W w v l) {k:Nat} (hk:v.ownBlock=some k):W.heap.size≤k:=(World.ownsRow.lt h k hk).1
theorem Own.grown {W w w1:World} {v:Value} {l:List UInt8} (h:Own W w v l) (ha:At W w) (hg:w.grownBy w1 v.ownBlock):At W w1:=
 ha.on ((Below.refl _ _).grown hg ha.size fun _ hk=>h.lt hk)
theorem Own.nil (W w:World):Own W w (.slice none 0 0) []:=World.ownsRow_nil _ _ _ _
theorem Own.slice {W w:World} {v:Value} {l:List UInt8} (h:Own W w v l) (hl:0<l.length):∃g cap,v= .slice (some ⟨g,0,none⟩) l.length cap:=by
 rcases h.2 with ⟨-,h0⟩|⟨g,cap,cur,rfl,-⟩
 ·omega
 ·exact⟨g,cap,rfl⟩
theorem part_len (n u:Int) (h0:0≤n) (h1:n≤1000000):(part n u).length≤22:=by
 have:=Lib.itoa_length_le n (by omega) (by omega)
 unfold part;split<;>simp;omega
theorem At.alloc {W w:World} (h:At W w) (o:Obj):At W (w.alloc o):=h.on ((Below.refl _ _).alloc h.size _)
theorem At.drew {W w:World} (h:At W w):At W w.drew:=h.on ((Below.refl _ _).drew)
end Go.Proofs.YtchpjhjjakckbaaGreatDoor.St
namespace Go.Proofs.YtchpjhjjakckbaaGreatDoor.St
open Go.RowKit Cv
theorem may_yes (t:Int) (w:World) (h:may t=true):
  Calls Tryz.prog 82 #[.int .i64 t] w fun e w'=>e= .returned (.bool true)∧w=w':=by
 obtain⟨h1,h2⟩:=of_decide_eq_true h;clear h
 go_enter Tryz.func82,Tryz.ntmps82
 go_wp2
 go_ret
 exact⟨rfl,rfl⟩
theorem may_no (t:Int) (w:World) (h:may t=false):
  Calls Tryz.prog 82 #[.int .i64 t] w fun e w'=>e= .returned (.bool false)∧w=w':=by
 have g:=of_decide_eq_false h;clear h
 by_cases h1:t < -62135596800
 ·clear g
  go_enter Tryz.func82,Tryz.ntmps82
  go_wp2
  go_ret
  exact⟨rfl,rfl⟩
 ·have h2:253402300799<t:=by omega
  clear g
  go_enter Tryz.func82,Tryz.ntmps82
  go_wp2
  go_ret
  exact⟨ret_bool (decide_eq_false (by omega)),rfl⟩
theorem time_no {h mi s:Int} (g:time h mi s=false):h<0∨0≤h∧23<h∨0≤h∧h≤23∧(mi<0∨0≤mi∧59<mi∨0≤mi∧mi≤59∧(s<0∨0≤s∧59<s)):=by
 have:=of_decide_eq_false g;omega
theorem make_date (y mo d h mi s:Int) (w:World) (hv:valid y mo d=false):
  Calls Tryz.prog 93 #[.int .i64 y,.int .i64 mo,.int .i64 d,.int .i64 h,.int .i64 mi,.int .i64 s] w fun e w'=>e= .returned (.tuple #[.int .i64 0,.int .i64 1])∧w=w':=by
 have V:=Lib.hid hv;clear hv
 go_enter Tryz.func93,Tryz.ntmps93
 go_wp2_with (go_at_call 151;refine(days_no _ _ _ _ V.out).mono ?_;rintro e w' ⟨rfl,rfl⟩)
 go_ret2
 exact⟨rfl,rfl⟩
theorem make_time (y mo d h mi s:Int) (w:World) (hv:valid y mo d=true) (ht:time h mi s=false):
  Calls Tryz.prog 93 #[.int .i64 y,.int .i64 mo,.int .i64 d,.int .i64 h,.int .i64 mi,.int .i64 s] w fun e w'=>e= .returned (.tuple #[.int .i64 0,.int .i64 1])∧w=w':=by
 have V:=Lib.hid hv;clear hv
 rcases time_no ht with h1|⟨h1,h2⟩|⟨h1,h2,h3|⟨h3,h4⟩|⟨h3,h4,h5|⟨h5,h6⟩⟩⟩
 all_goals
  clear ht
  go_enter Tryz.func93,Tryz.ntmps93
  go_wp2_with (go_at_call 151;refine(days_yes _ _ _ _ V.out).mono ?_;rintro e w' ⟨rfl,rfl⟩)
  go_ret2
  exact⟨rfl,rfl⟩
theorem make_yes (y mo d h mi s:Int) (w:World) (hv:valid y mo d=true) (ht:time h mi s=true):
  Calls Tryz.prog 93 #[.int .i64 y,.int .i64 mo,.int .i64 d,.int .i64 h,.int .i64 mi,.int .i64 s] w fun e w'=>e= .returned (.tuple #[.int .i64 (mk y mo d h mi s),.int .i64 0])∧w=w':=by
 obtain⟨h1,h2,h3,h4,h5,h6⟩:=of_decide_eq_true ht;clear ht
 obtain⟨b1,b2⟩:=num_bd hv
 have V:=Lib.hid hv;clear hv
 go_enter Tryz.func93,Tryz.ntmps93
 go_wp2_with (go_at_call 151;refine(days_yes _ _ _ _ V.out).mono ?_;rintro e w' ⟨rfl,rfl⟩)
 go_ret2
 exact⟨rfl,rfl⟩
theorem make_any (y mo d h mi s a b:Int) (w:World) (hr:makeR y mo d h mi s=(a,b)):
  Calls Tryz.prog 93 #[.int .i64 y,.int .i64 mo,.int .i64 d,.int .i64 h,.int .i64 mi,.int .i64 s] w fun e w'=>e= .returned (.tuple #[.int .i64 a,.int .i64 b])∧w=w':=by
 unfold makeR at hr
 cases hv:valid y mo d
 ·rw[if_neg (by simp[hv])] at hr
  injection hr with h1 h2;subst h1 h2
  exact make_date y mo d h mi s w hv
 ·cases ht:time h mi s
  ·rw[if_neg (by simp[ht])] at hr
   injection hr with h1 h2;subst h1 h2
   exact make_time y mo d h mi s w hv ht
  ·rw[if_pos ⟨hv,ht⟩] at hr
   injection hr with h1 h2;subst h1 h2
   exact make_yes y mo d h mi s w hv ht
theorem day_any (t:Int) (w:World) (h1:-9223372036854775808≤t) (h2:t≤9223372036854775807):
  Calls Tryz.prog 114 #[.int .i64 t] w fun e w'=>e= .returned (.tuple #[.int .i64 (t / 86400),.int .i64 (t % 86400)])∧w=w':=by
 by_cases hn:0≤t
 ·have g:=Int.emod_nonneg t (b:=86400) (by omega)
  go_enter Tryz.func114,Tryz.ntmps114
  go_wp2
  go_ret2
  exact⟨rfl,rfl⟩
 ·obtain⟨e1,e2,b1,b2,b3,b4⟩:=tday (t:=t) (by omega) h1
  by_cases hz:t.tmod 86400<0
  ·obtain⟨e,f⟩:=e1 hz
   have E:=Lib.hid e;have F:=Lib.hid f;clear e f e1 e2
   go_enter Tryz.func114,Tryz.ntmps114
   go_wp2
   go_ret2
   exact⟨ret_two E.out F.out,rfl⟩
  ·obtain⟨e,f⟩:=e2 hz
   have E:=Lib.hid e;have F:=Lib.hid f;clear e f e1 e2
   go_enter Tryz.func114,Tryz.ntmps114
   go_wp2
   go_ret2
   exact⟨ret_two E.out F.out,rfl⟩
end Go.Proofs.YtchpjhjjakckbaaGreatDoor.St
namespace Go.Proofs.YtchpjhjjakckbaaGreatDoor.St
open Go.RowKit Cv
theorem isDigit_yes (c:Int) (w:World) (h1:48≤c) (h2:c≤57):
  Calls Tryz.prog 150 #[.int .u8 c] w fun e w'=>e= .returned (.bool true)∧w=w':=by
 go_enter Tryz.func150,Tryz.ntmps150
 go_wp2
 go_ret
 exact⟨rfl,rfl⟩
theorem isDigit_no (c:Int) (w:World) (h:¬(48≤c∧c≤57)):
  Calls Tryz.prog 150 #[.int .u8 c] w fun e w'=>e= .returned (.bool false)∧w=w':=by
 by_cases h1:c<48
 ·clear h
  go_enter Tryz.func150,Tryz.ntmps150
  go_wp2
  go_ret
  exact⟨rfl,rfl⟩
 ·have h2:57<c:=by omega
  clear h
  go_enter Tryz.func150,Tryz.ntmps150
  go_wp2
  go_ret
  exact⟨ret_bool (decide_eq_false (by omega)),rfl⟩
set_option maxHeartbeats 400000 in
theorem digits_any (s:ByteArray) (w:World) (hs:s.size≤maxLen):
  Calls Tryz.prog 92 #[.string s] w fun e w'=>e= .returned (.bool (digs s.data.toList))∧w=w':=by
 unfold maxLen at hs
 go_enter Tryz.func92,Tryz.ntmps92
 go_wp2
 go_loop [3,6] (fun _ i=>∃k:Nat,k≤s.size∧i= .int .i64 k∧digs (s.data.toList.take k)=true) (fun _ i=>s.size-(intOf i).toNat)
 case atStart=>exact⟨0,Nat.zero_le _,rfl,rfl⟩
 case round=>
  obtain⟨k,hk,rfl,hd⟩:=hrel
  have D:=Lib.hid hd;clear hd
  by_cases hlt:k<s.size
  ·by_cases hc:isd s[k]=true
   ·obtain⟨c1,c2⟩:=of_decide_eq_true hc
    have C:=Lib.hid hc;clear hc
    go_wp2_with (go_at_call 150;refine(isDigit_yes _ _ c1 c2).mono ?_;rintro e w' ⟨rfl,rfl⟩)
    go_round
    case rel=>exact⟨k+1,by omega,by go_num,by rw[take_snoc s k hlt];exact digs_snoc D.out C.out⟩
    case measure=>simp[intOf];omega
   ·have hc':=of_decide_eq_false (Bool.not_eq_true _ ▸ hc)
    have C:=Lib.hid (digs_bad (l:=s.data.toList) (k:=k) (by simpa using hlt) (Bool.not_eq_true _ ▸ hc));clear hc
    have C':=Lib.hid hc';clear hc'
    go_wp2_with (go_at_call 150;refine(isDigit_no _ _ C'.out).mono ?_;rintro e w' ⟨rfl,rfl⟩)
    go_ret
    exact⟨ret_bool C.out.symm,rfl⟩
  ·go_wp2
   go_ret
   exact⟨ret_bool (by rw[←D.out,List.take_of_length_le (by simp;omega)]),rfl⟩
theorem digits_yes (s:ByteArray) (w:World) (hs:s.size≤maxLen) (h:digs s.data.toList=true):
  Calls Tryz.prog 92 #[.string s] w fun e w'=>e= .returned (.bool true)∧w=w':=by
 have:=digits_any s w hs;rwa [h] at this
theorem digits_no (s:ByteArray) (w:World) (hs:s.size≤maxLen) (h:digs s.data.toList=false):
  Calls Tryz.prog 92 #[.string s] w fun e w'=>e= .returned (.bool false)∧w=w':=by
 have:=digits_any s w hs;rwa [h] at this
set_option maxHeartbeats 400000 in
theorem number_any (s:ByteArray) (w:World) (hs:s.size≤15) (hd:digs s.data.toList=true):
  Calls Tryz.prog 94 #[.string s] w fun e w'=>e= .returned (.int .i64 (nmb s.data.toList))∧w=w':=by
 have D:=Lib.hid hd;clear hd
 go_enter Tryz.func94,Tryz.ntmps94
 go_wp2
 go_loop [3,4,7] (fun n _ i=>∃k:Nat,k≤s.size∧i= .int .i64 k∧n= .int .i64 (nmb (s.data.toList.take k))) (fun _ _ i=>s.size-(intOf i).toNat)
 case atStart=>exact⟨0,Nat.zero_le _,rfl,rfl⟩
 case round=>
  obtain⟨k,hk,rfl,rfl⟩:=hrel
  by_cases hlt:k<s.size
  ·obtain⟨c1,c2⟩:=of_decide_eq_true (digs_at D.out (k:=k) (by simpa using hlt))
   change 48≤(s[k].toNat:Int) at c1
   change (s[k].toNat:Int)≤57 at c2
   obtain⟨b1,b2⟩:=nmb_small s k hlt (by omega) D.out
   have E:=Lib.hid (nmb_snoc (s.data.toList.take k) s[k])
   go_wp2
   go_round
   case rel=>exact⟨k+1,by omega,by go_num,by rw[take_snoc s k hlt,E.out]⟩
   case measure=>simp[intOf];omega
  ·go_wp2
   go_ret
   exact⟨ret_int (by rw[List.take_of_length_le (by simp;omega)]),rfl⟩
theorem number_quiet (s:ByteArray) (w:World) (hs:s.size≤15) (hd:digs s.data.toList=true):
  Calls Tryz.prog 94 #[.string s] w fun e w'=>e= .returned (.int .i64 (nmb s.data.toList))∧w'=w:=
 (number_any s w hs hd).mono fun _ _ h=>⟨h.1,h.2.symm⟩
theorem make_quiet (y mo d h mi s a b:Int) (w:World) (hr:makeR y mo d h mi s=(a,b)):
  Calls Tryz.prog 93 #[.int .i64 y,.int .i64 mo,.int .i64 d,.int .i64 h,.int .i64 mi,.int .i64 s] w fun e w'=>e= .returned (.tuple #[.int .i64 a,.int .i64 b])∧w'=w:=
 (make_any y mo d h mi s a b w hr).mono fun _ _ h=>⟨h.1,h.2.symm⟩
end Go.Proofs.YtchpjhjjakckbaaGreatDoor.St
namespace Go.Proofs.YtchpjhjjakckbaaGreatDoor.St
open Go.RowKit Cv
theorem rmay_yes (t:Int) (w:World) (h:may t=true):
  Calls Tryz.prog 49 #[.int .i64 t] w fun e w'=>e= .returned (.bool true)∧w=w':=by
 obtain⟨h1,h2⟩:=of_decide_eq_true h;clear h
 have h3:t<253402300800:=by omega
 go_enter Tryz.func49,Tryz.ntmps49
 go_wp2
 go_ret
 exact⟨rfl,rfl⟩
theorem rmay_no (t:Int) (w:World) (h:may t=false):
  Calls Tryz.prog 49 #[.int .i64 t] w fun e w'=>e= .returned (.bool false)∧w=w':=by
 have g:=of_decide_eq_false h;clear h
 by_cases h1:t < -62135596800
 ·clear g
  go_enter Tryz.func49,Tryz.ntmps49
  go_wp2
  go_ret
  exact⟨rfl,rfl⟩
 ·have h2:253402300799<t:=by omega
  clear g
  go_enter Tryz.func49,Tryz.ntmps49
  go_wp2
  go_ret
  exact⟨ret_bool (decide_eq_false (by omega)),rfl⟩
theorem rmay_any (t:Int) (w:World):
  Calls Tryz.prog 49 #[.int .i64 t] w fun e w'=>e= .returned (.bool (may t))∧w=w':=by
 cases h:may t
 ·exact rmay_no t w h
 ·exact rmay_yes t w h
theorem rdown_day (t:Int) (w:World) (h1:-9223372036854775808≤t) (h2:t≤9223372036854775807):
  Calls Tryz.prog 168 #[.int .i64 t,.int .i64 86400] w fun e w'=>e= .returned (.int .i64 (t / 86400))∧w=w':=by
 by_cases hn:0≤t
 ·have g:=Int.emod_nonneg t (b:=86400) (by omega)
  have g':¬t % 86400<0:=by omega
  clear g
  go_enter Tryz.func168,Tryz.ntmps168
  go_wp2
  go_ret
  exact⟨rfl,rfl⟩
 ·obtain⟨e1,e2,b1,b2,b3,b4⟩:=tday (t:=t) (by omega) h1
  by_cases hz:t.tmod 86400<0
  ·obtain⟨e,f⟩:=e1 hz
   have E:=Lib.hid e;clear e f e1 e2
   go_enter Tryz.func168,Tryz.ntmps168
   go_wp2
   go_ret
   exact⟨ret_int E.out,rfl⟩
  ·obtain⟨e,f⟩:=e2 hz
   have E:=Lib.hid e;clear e f e1 e2
   go_enter Tryz.func168,Tryz.ntmps168
   go_wp2
   go_ret
   exact⟨ret_int E.out,rfl⟩
theorem rday_any (t:Int) (w:World) (h1:-9223372036854775808≤t) (h2:t≤9223372036854775807):
  Calls Tryz.prog 145 #[.int .i64 t] w fun e w'=>e= .returned (.tuple #[.int .i64 (t / 86400),.int .i64 (t % 86400)])∧w=w':=by
 by_cases hn:0≤t
 ·have g:=Int.emod_nonneg t (b:=86400) (by omega)
  have g':¬t % 86400<0:=by omega
  clear g
  go_enter Tryz.func145,Tryz.ntmps145
  go_wp2_with (go_at_call 168;refine(rdown_day _ _ h1 h2).mono ?_;rintro e w' ⟨rfl,rfl⟩)
  go_ret2
  exact⟨rfl,rfl⟩
 ·obtain⟨e1,e2,b1,b2,b3,b4⟩:=tday (t:=t) (by omega) h1
  by_cases hz:t.tmod 86400<0
  ·obtain⟨e,f⟩:=e1 hz
   have F:=Lib.hid f;clear e f e1 e2
   go_enter Tryz.func145,Tryz.ntmps145
   go_wp2_with (go_at_call 168;refine(rdown_day _ _ h1 h2).mono ?_;rintro e w' ⟨rfl,rfl⟩)
   go_ret2
   exact⟨ret_two rfl F.out,rfl⟩
  ·obtain⟨e,f⟩:=e2 hz
   have F:=Lib.hid f;clear e f e1 e2
   go_enter Tryz.func145,Tryz.ntmps145
   go_wp2_with (go_at_call 168;refine(rdown_day _ _ h1 h2).mono ?_;rintro e w' ⟨rfl,rfl⟩)
   go_ret2
   exact⟨ret_two rfl F.out,rfl⟩
end Go.Proofs.YtchpjhjjakckbaaGreatDoor.St
namespace Go.Proofs.YtchpjhjjakckbaaGreatDoor.St
open Go.RowKit Cv
theorem dec_len {n:Int} (h:n≤1000000000000000):(⟨(Lib.decDigits n.toNat).toArray⟩:ByteArray).size≤20:=by
 show (Lib.decDigits n.toNat).toArray.size≤20
 rw[List.size_toArray,Lib.decDigits_length]
 exact Lib.nDigits_le20 _ (by omega)
end Go.Proofs.YtchpjhjjakckbaaGreatDoor.St
