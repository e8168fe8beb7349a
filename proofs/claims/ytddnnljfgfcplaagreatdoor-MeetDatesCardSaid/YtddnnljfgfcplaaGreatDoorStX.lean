/- The walk of package stamp's Parse. The walks of package stamp's durations: seconds, sum, DurText, DurParse. The walk of voklaw2.first: what the chapter's examples fix. -/
import Derived.Test.YtddnnljfgfcplaaGreatDoorStW
import Derived.WalkLawsBesides
set_option maxHeartbeats 1000000
set_option linter.unusedVariables false
namespace Go.Proofs.YtddnnljfgfcplaaGreatDoor.St
open Lib (hid)
open Go.RowKit Cv
theorem parse_short (s:ByteArray) (w:World) (h:s.size<15):
  Calls Tryz.prog 27 #[.string s] w fun e w'=>e= .returned (.tuple #[.int .i64 0,.int .i64 2])/\w=w':=by
 go_enter Tryz.func27,Tryz.ntmps27
 go_wp2
 go_ret2
 exact⟨rfl,rfl⟩
theorem parse_long (s:ByteArray) (w:World) (h:15<s.size) (hs:s.size<=maxLen):
  Calls Tryz.prog 27 #[.string s] w fun e w'=>e= .returned (.tuple #[.int .i64 0,.int .i64 4])/\w=w':=by
 unfold maxLen at hs
 go_enter Tryz.func27,Tryz.ntmps27
 go_wp2
 go_ret2
 exact⟨rfl,rfl⟩
theorem parse_t (s:ByteArray) (w:World) (h1:15<=s.size) (h2:s.size<=15) (h:s[8].toNat≠84):
  Calls Tryz.prog 27 #[.string s] w fun e w'=>e= .returned (.tuple #[.int .i64 0,.int .i64 4])/\w=w':=by
 have hb:((s[8].toNat:Int) != 84)=true:=by rw[bne_iff_ne];omega
 clear h
 go_enter Tryz.func27,Tryz.ntmps27
 go_wp2
 go_ret2
 exact⟨rfl,rfl⟩
theorem ext_le (s:ByteArray) (a b:Nat) (h:s.size<=15):(s.extract a b).size<=maxLen:=by rw[ByteArray.size_extract];unfold maxLen;omega
theorem ext_15 (s:ByteArray) (a b:Nat) (h:s.size<=15):(s.extract a b).size<=15:=by rw[ByteArray.size_extract];omega
theorem parse_d1 (s:ByteArray) (w:World) (h1:15<=s.size) (h2:s.size<=15) (h:s[8].toNat=84) (hd:digs (s.extract 0 8).data.toList=false):
  Calls Tryz.prog 27 #[.string s] w fun e w'=>e= .returned (.tuple #[.int .i64 0,.int .i64 4])/\w=w':=by
 have hb:((s[8].toNat:Int) != 84)=false:=by rw[bne_eq_false_iff_eq];omega
 have D:=hid hd
 clear h hd
 go_enter Tryz.func27,Tryz.ntmps27
 go_wp2_with (go_at_call 61;refine(digits_no (s.extract 0 8) _ (ext_le _ _ _ h2) D.out).mono ?_;rintro e w' ⟨rfl,rfl⟩)
 go_ret2
 exact⟨rfl,rfl⟩
theorem parse_d2 (s:ByteArray) (w:World) (h1:15<=s.size) (h2:s.size<=15) (h:s[8].toNat=84) (hd:digs (s.extract 0 8).data.toList=true) (he:digs (s.extract 9 s.size).data.toList=false):
  Calls Tryz.prog 27 #[.string s] w fun e w'=>e= .returned (.tuple #[.int .i64 0,.int .i64 4])/\w=w':=by
 have hb:((s[8].toNat:Int) != 84)=false:=by rw[bne_eq_false_iff_eq];omega
 have D:=hid hd;have E:=hid he
 clear h hd he
 go_enter Tryz.func27,Tryz.ntmps27
 go_wp2_with fail
 refine(digits_yes (s.extract 0 8) _ (ext_le _ _ _ h2) D.out).mono ?_
 rintro e w' ⟨rfl,rfl⟩
 go_wp2_with fail
 refine(digits_no (s.extract 9 s.size) _ (ext_le _ _ _ h2) E.out).mono ?_
 rintro e w' ⟨rfl,rfl⟩
 go_wp2_with fail
 go_ret2
 exact⟨rfl,rfl⟩
theorem parse_yes (s:ByteArray) (a b:Int) (w:World) (h1:15<=s.size) (h2:s.size<=15) (h:s[8].toNat=84) (hd:digs (s.extract 0 8).data.toList=true) (he:digs (s.extract 9 s.size).data.toList=true)
  (hr:makeR (nmb (List.take 4 s.data.toList)) (nmb (List.take 2 (List.drop 4 s.data.toList))) (nmb (List.take 2 (List.drop 6 s.data.toList))) (nmb (List.take 2 (List.drop 9 s.data.toList))) (nmb (List.take 2 (List.drop 11 s.data.toList))) (nmb (List.take (s.size-13) (List.drop 13 s.data.toList)))=(a,b)):
  Calls Tryz.prog 27 #[.string s] w fun e w'=>e= .returned (.tuple #[.int .i64 a,.int .i64 b])/\∃n,w'=w.drewN n:=by
 have hb:((s[8].toNat:Int) != 84)=false:=by rw[bne_eq_false_iff_eq];omega
 have D:=hid hd;have E:=hid he;have R:=hid hr
 have d1:=hid (digs_ext (a:=0) (b:=4) hd (by omega) (by omega))
 have d2:=hid (digs_ext (a:=4) (b:=6) hd (by omega) (by omega))
 have d3:=hid (digs_ext (a:=6) (b:=8) hd (by omega) (by omega))
 have d4:=hid (digs_ext (a:=9) (b:=11) he (by omega) (by omega))
 have d5:=hid (digs_ext (a:=11) (b:=13) he (by omega) (by omega))
 have d6:=hid (digs_ext (a:=13) (b:=s.size) he (by omega) (by omega))
 have i4:(4:Int)<=(s.size:Int):=by omega
 have i6:(6:Int)<=(s.size:Int):=by omega
 have i8:(8:Int)<=(s.size:Int):=by omega
 have i9:(9:Int)<=(s.size:Int):=by omega
 have i11:(11:Int)<=(s.size:Int):=by omega
 have i13:(13:Int)<=(s.size:Int):=by omega
 clear h hd he hr
 go_enter Tryz.func27,Tryz.ntmps27
 go_wp2_with fail
 refine(digits_yes (s.extract 0 8) _ (ext_le _ _ _ h2) D.out).mono ?_
 rintro e w' ⟨rfl,rfl⟩
 go_wp2_with fail
 refine(digits_yes (s.extract 9 s.size) _ (ext_le _ _ _ h2) E.out).mono ?_
 rintro e w' ⟨rfl,rfl⟩
 go_wp2_with fail
 go_quiet ((first
  | (go_at_call 63;with_reducible exact Calls.quiet_of_same (number_quiet (s.extract 0 4) _ (ext_15 _ _ _ h2) d1.out))
  | (go_at_call 63;with_reducible exact Calls.quiet_of_same (number_quiet (s.extract 4 6) _ (ext_15 _ _ _ h2) d2.out))
  | (go_at_call 63;with_reducible exact Calls.quiet_of_same (number_quiet (s.extract 6 8) _ (ext_15 _ _ _ h2) d3.out))
  | (go_at_call 63;with_reducible exact Calls.quiet_of_same (number_quiet (s.extract 9 11) _ (ext_15 _ _ _ h2) d4.out))
  | (go_at_call 63;with_reducible exact Calls.quiet_of_same (number_quiet (s.extract 11 13) _ (ext_15 _ _ _ h2) d5.out))
  | (go_at_call 63;with_reducible exact Calls.quiet_of_same (number_quiet (s.extract 13 s.size) _ (ext_15 _ _ _ h2) d6.out))
  | (go_at_call 62;exact Calls.quiet_of_same (make_quiet _ _ _ _ _ _ a b _ R.out))))
 go_wp2
 go_ret2
 exact⟨rfl,_,rfl⟩
theorem parse_any (s:ByteArray) (W w:World) (hs:s.size<=maxLen) (h:At W w):
  Calls Tryz.prog 27 #[.string s] w fun e w'=>e= .returned (.tuple #[.int .i64 (parse s.data.toList).1,.int .i64 (parse s.data.toList).2])/\At W w':=by
 have hl:s.data.toList.length=s.size:=by simp
 by_cases h1:s.size<15
 ·rw[parse_1 (by omega)]
  exact(parse_short s w h1).mono fun _ _ g=>⟨g.1,g.2 ▸ h⟩
 by_cases h2:15<s.size
 ·rw[parse_2 (by omega)]
  exact(parse_long s w h2 hs).mono fun _ _ g=>⟨g.1,g.2 ▸ h⟩
 have h8:s.data.toList.getD 8 0=s[8]:=by
  rw[List.getD_eq_getElem?_getD,List.getElem?_eq_getElem (by omega)];rfl
 by_cases h3:s[8].toNat=84
 case neg=>
  rw[parse_3 (by omega) (by rw[h8];exact h3)]
  exact(parse_t s w (by omega) (by omega) h3).mono fun _ _ g=>⟨g.1,g.2 ▸ h⟩
 cases h4:digs (s.extract 0 8).data.toList
 case false=>
  rw[parse_4 (by omega) (by simpa using h4)]
  exact(parse_d1 s w (by omega) (by omega) h3 h4).mono fun _ _ g=>⟨g.1,g.2 ▸ h⟩
 cases h5:digs (s.extract 9 s.size).data.toList
 case false=>
  rw[parse_5 (by omega) (by rw[ext_list,List.take_of_length_le (by simp)] at h5;exact h5)]
  exact(parse_d2 s w (by omega) (by omega) h3 h4 h5).mono fun _ _ g=>⟨g.1,g.2 ▸ h⟩
 rw[parse_6 (by omega) (by rw[h8];exact h3) (by simpa using h4) (by rw[ext_list,List.take_of_length_le (by simp)] at h5;exact h5)]
 refine(parse_yes s _ _ w (by omega) (by omega) h3 h4 h5 (by rw[List.take_of_length_le (i:=s.size-13) (by simp)])).mono ?_
 rintro e w' ⟨rfl,n,rfl⟩
 exact⟨rfl,h.drewN n⟩
end Go.Proofs.YtddnnljfgfcplaaGreatDoor.St
namespace Go.Proofs.YtddnnljfgfcplaaGreatDoor.St
open Lib (hid)
open Go.RowKit Cv
theorem seconds_any (c:Int) (w:World) (h0:0<=c) (h1:c<=255):
  Calls Tryz.prog 201 #[.int .u8 c] w fun e w'=>e= .returned (.int .i64 (sec c))/\w=w':=by
 by_cases hm:c=87\/c=68\/c=72\/c=77\/c=83
 ·rcases hm with rfl|rfl|rfl|rfl|rfl
  all_goals
   go_enter Tryz.func201,Tryz.ntmps201
   go_wp2;go_ret;exact⟨rfl,rfl⟩
 ·have H:=hid (sec_no hm)
  have g1:¬c=87:=by omega
  have g2:¬c=68:=by omega
  have g3:¬c=72:=by omega
  have g4:¬c=77:=by omega
  have g5:¬c=83:=by omega
  clear hm
  go_enter Tryz.func201,Tryz.ntmps201
  go_wp2;go_ret;exact⟨ret_int H.out.symm,rfl⟩
theorem sum_any (s:ByteArray) (w:World) (hs:s.size<=maxLen):
  Calls Tryz.prog 167 #[.string s] w fun e w'=>e= .returned (.int .i64 (sumL s.data.toList 0 0))/\w=w':=by
 unfold maxLen at hs
 go_enter Tryz.func167,Tryz.ntmps167
 go_wp2
 go_loop [3,4,5,6,9] (fun a n _ _ i=>∃(k:Nat) (x y:Int),k<=s.size/\i= .int .i64 k/\a= .int .i64 x/\n= .int .i64 y/\0<=x/\x<=2147483648/\0<=y/\y<=2147483648/\Rest s k x y) (fun _ _ _ _ i=>s.size-(intOf i).toNat)
 case atStart=>exact⟨0,0,0,Nat.zero_le _,rfl,rfl,rfl,by decide,by decide,by decide,by decide,rfl⟩
 case round=>
  obtain⟨k,x,y,hk,rfl,rfl,rfl,x1,x2,y1,y2,hr⟩:=hrel
  by_cases hlt:k<s.size
  ·have hb0:0<=(s[k].toNat:Int):=by omega
   have hb1:(s[k].toNat:Int)<=255:=by have:=UInt8.toNat_lt s[k];omega
   cases hc:isd s[k]
   ·have sb:=sec_bd (s[k].toNat:Int)
    have C:=hid (of_decide_eq_false hc);have mb:=mul_bd y1 y2 sb.1 sb.2
    by_cases hx:2147483648<x+y*sec s[k].toNat
    ·have R:=hid (rest_2 hlt hc hx hr)
     clear hc hr
     go_wp2_with (first
      | (go_at_call 100;refine(isDigit_no _ _ C.out).mono ?_;rintro e w' ⟨rfl,rfl⟩)
      | (go_at_call 201;refine(seconds_any _ _ hb0 hb1).mono ?_;rintro e w' ⟨rfl,rfl⟩))
     go_ret;exact⟨ret_int R.out,rfl⟩
    ·have R:=hid (rest_1 hlt hc hx hr)
     clear hc hr
     go_wp2_with (first
      | (go_at_call 100;refine(isDigit_no _ _ C.out).mono ?_;rintro e w' ⟨rfl,rfl⟩)
      | (go_at_call 201;refine(seconds_any _ _ hb0 hb1).mono ?_;rintro e w' ⟨rfl,rfl⟩))
     go_round
     case rel=>exact⟨k+1,_,0,by omega,by go_num,rfl,rfl,by omega,by omega,by decide,by decide,R.out⟩
     case measure=>simp[intOf];omega
   ·obtain⟨c1,c2⟩:=of_decide_eq_true hc
    by_cases hx:2147483648<y*10+((s[k].toNat:Int)-48)
    ·have R:=hid (rest_4 hlt hc hx hr)
     clear hc hr
     go_wp2_with (go_at_call 100;refine(isDigit_yes _ _ c1 c2).mono ?_;rintro e w' ⟨rfl,rfl⟩)
     go_ret;exact⟨ret_int R.out,rfl⟩
    ·have R:=hid (rest_3 hlt hc hx hr)
     clear hc hr
     go_wp2_with (go_at_call 100;refine(isDigit_yes _ _ c1 c2).mono ?_;rintro e w' ⟨rfl,rfl⟩)
     go_round
     case rel=>exact⟨k+1,_,_,by omega,by go_num,rfl,rfl,by omega,by omega,by omega,by omega,R.out⟩
     case measure=>simp[intOf];omega
  ·have R:=hid (rest_end (by omega) hr)
   clear hr;go_wp2;go_ret;exact⟨ret_int R.out,rfl⟩
theorem durText_low (n:Int) (w:World) (h:n<1):
  Calls Tryz.prog 31 #[.int .i64 n] w fun e w'=>e= .returned (.tuple #[.string ⟨#[]⟩,.int .i64 1])/\w=w':=by
 go_enter Tryz.func31,Tryz.ntmps31
 go_wp2
 go_ret2
 exact⟨rfl,rfl⟩
theorem durText_high (n:Int) (w:World) (h:2147483648<n):
  Calls Tryz.prog 31 #[.int .i64 n] w fun e w'=>e= .returned (.tuple #[.string ⟨#[]⟩,.int .i64 1])/\w=w':=by
 go_enter Tryz.func31,Tryz.ntmps31
 go_wp2
 go_ret2
 exact⟨rfl,rfl⟩
theorem durText_week (W w:World) (n:Int) (h1:1<=n) (h2:n<=2147483648) (h3:n % 604800=0) (h:At W w):
  Calls Tryz.prog 31 #[.int .i64 n] w fun e w'=>e= .returned (.tuple #[.string ⟨(durText n).toArray⟩,.int .i64 0])/\At W w':=by
 have hb:((n % 604800:Int)==0)=true:=by rw[beq_iff_eq];exact h3
 have T:=hid (show durText n=80::part (n / 604800) 87 by unfold durText;rw[if_pos h3])
 have ho:=own_lit W w [80] h (by decide)
 have ha:At W (w.alloc (.cells (Lib.byteCells [80]).toArray 5)):=h.on ((Below.refl _ _).alloc h.size _)
 clear h3
 go_enter Tryz.func31,Tryz.ntmps31
 go_wp2_with fail
 refine(part_any W _ _ _ _ _ (by omega) (by omega) (by decide) (by decide) ha ho (by decide)).mono ?_
 rintro e w2 ⟨v2,rfl,ho2,ha2⟩
 have ho3:Own W w2 v2 (durText n):=by rw[T.out];exact ho2
 obtain⟨g,cap,rfl⟩:=ho3.slice (by rw[T.out];simp)
 clear ho2 ho ha
 have hcv:=bytes_back ho3
 go_wp2
 go_ret2
 exact⟨rfl,ha2⟩
theorem durText_day (W w:World) (n:Int) (h1:1<=n) (h2:n<=2147483648) (h3:¬n % 604800=0) (h4:n % 86400=0) (h:At W w):
  Calls Tryz.prog 31 #[.int .i64 n] w fun e w'=>e= .returned (.tuple #[.string ⟨(durText n).toArray⟩,.int .i64 0])/\At W w':=by
 have hb:((n % 604800:Int)==0)=false:=by rw[beq_eq_false_iff_ne];exact h3
 have hb2:((n % 86400:Int) != 0)=false:=by rw[bne_eq_false_iff_eq];exact h4
 have T:=hid (show durText n=80::part (n / 86400) 68 by unfold durText;rw[if_neg h3,if_pos h4])
 have ho:=own_lit W w [80] h (by decide)
 have ha:At W (w.alloc (.cells (Lib.byteCells [80]).toArray 5)):=h.on ((Below.refl _ _).alloc h.size _)
 clear h3 h4
 go_enter Tryz.func31,Tryz.ntmps31
 go_wp2_with fail
 refine(part_any W _ _ _ _ _ (by omega) (by omega) (by decide) (by decide) ha ho (by decide)).mono ?_
 rintro e w2 ⟨v2,rfl,ho2,ha2⟩
 have ho3:Own W w2 v2 (durText n):=by rw[T.out];exact ho2
 obtain⟨g,cap,rfl⟩:=ho3.slice (by rw[T.out];simp)
 clear ho2 ho ha
 have hcv:=bytes_back ho3
 go_wp2
 go_ret2
 exact⟨rfl,ha2⟩
theorem durText_full (W w:World) (n:Int) (h1:1<=n) (h2:n<=2147483648) (h3:¬n % 604800=0) (h4:¬n % 86400=0) (h:At W w):
  Calls Tryz.prog 31 #[.int .i64 n] w fun e w'=>e= .returned (.tuple #[.string ⟨(durText n).toArray⟩,.int .i64 0])/\At W w':=by
 have hb:((n % 604800:Int)==0)=false:=by rw[beq_eq_false_iff_ne];exact h3
 have hb2:((n % 86400:Int) != 0)=true:=by rw[bne_iff_ne];exact h4
 have T:=hid (show durText n=80::(part (n / 86400) 68++84::(part (n % 86400 / 3600) 72++part (n % 3600 / 60) 77++part (n % 60) 83)) by unfold durText;rw[if_neg h3,if_neg h4])
 have ho:=own_lit W w [80] h (by decide)
 have ha:At W (w.alloc (.cells (Lib.byteCells [80]).toArray 5)):=h.on ((Below.refl _ _).alloc h.size _)
 have k1:=part_len (n / 86400) 68 (by omega) (by omega)
 have k2:=part_len (n % 86400 / 3600) 72 (by omega) (by omega)
 have k3:=part_len (n % 3600 / 60) 77 (by omega) (by omega)
 clear h3 h4
 go_enter Tryz.func31,Tryz.ntmps31
 go_wp2_with fail
 refine(part_any W _ _ _ _ _ (by omega) (by omega) (by decide) (by decide) ha ho (by decide)).mono ?_
 rintro e w2 ⟨v2,rfl,ho2,ha2⟩
 clear ho ha
 go_wp2_with (at_builtin;refine append_bytes rfl _ _ rfl _ _ rfl ho2 ha2 _ _ _ _ rfl [84] ?c1 rfl ?c2 ?_)
 case c1=>rfl
 case c2=>simp;omega
 intro v3 w3 ho3 ha3
 clear ho2 ha2
 go_wp2_with fail
 refine(part_any W _ _ _ _ _ (by omega) (by omega) (by decide) (by decide) ha3 ho3 (by simp;omega)).mono ?_
 rintro e w4 ⟨v4,rfl,ho4,ha4⟩
 clear ho3 ha3
 go_wp2_with fail
 refine(part_any W _ _ _ _ _ (by omega) (by omega) (by decide) (by decide) ha4 ho4 (by simp;omega)).mono ?_
 rintro e w5 ⟨v5,rfl,ho5,ha5⟩
 clear ho4 ha4
 go_wp2_with fail
 refine(part_any W _ _ _ _ _ (by omega) (by omega) (by decide) (by decide) ha5 ho5 (by simp;omega)).mono ?_
 rintro e w6 ⟨v6,rfl,ho6,ha6⟩
 clear ho5 ha5
 have ho7:Own W w6 v6 (durText n):=by rw[T.out];simpa using ho6
 obtain⟨g,cap,rfl⟩:=ho7.slice (by rw[T.out];simp)
 clear ho6
 have hcv:=bytes_back ho7
 go_wp2
 go_ret2
 exact⟨rfl,ha6⟩
theorem durText_yes (W w:World) (n:Int) (h1:1<=n) (h2:n<=2147483648) (h:At W w):
  Calls Tryz.prog 31 #[.int .i64 n] w fun e w'=>e= .returned (.tuple #[.string ⟨(durText n).toArray⟩,.int .i64 0])/\At W w':=by
 by_cases h3:n % 604800=0
 ·exact durText_week W w n h1 h2 h3 h
 ·by_cases h4:n % 86400=0
  ·exact durText_day W w n h1 h2 h3 h4 h
  ·exact durText_full W w n h1 h2 h3 h4 h
theorem durText_no (n:Int) (w:World) (h:¬(1<=n/\n<=2147483648)):
  Calls Tryz.prog 31 #[.int .i64 n] w fun e w'=>e= .returned (.tuple #[.string ⟨#[]⟩,.int .i64 1])/\w=w':=by
 by_cases h1:n<1
 ·exact durText_low n w h1
 ·exact durText_high n w (by omega)
theorem durParse_empty (s:ByteArray) (w:World) (h:s.data.toList=[]):
  Calls Tryz.prog 117 #[.string s] w fun e w'=>e= .returned (.tuple #[.int .i64 0,.int .i64 2])/\w=w':=by
 obtain rfl:s=⟨#[]⟩:=by
  obtain⟨⟨l⟩⟩:=s;simp at h;rw[h]
 go_enter Tryz.func117,Tryz.ntmps117
 go_wp2
 go_ret2
 exact⟨rfl,rfl⟩
theorem durText_is (W w:World) (n:Int) (t:ByteArray) (h1:1<=n) (h2:n<=2147483648) (h:At W w) (ht:⟨(durText n).toArray⟩=t):
  Calls Tryz.prog 31 #[.int .i64 n] w fun e w'=>e= .returned (.tuple #[.string t,.int .i64 0])/\At W w':=by
 subst ht;exact durText_yes W w n h1 h2 h
theorem durParse_yes (s:ByteArray) (W w:World) (h:s.toList.isEmpty=false) (hs:s.size<=maxLen) (h1:1<=sumL s.data.toList 0 0) (h2:sumL s.data.toList 0 0<=2147483648) (ht:durText (sumL s.data.toList 0 0)=s.data.toList) (ha:At W w):
  Calls Tryz.prog 117 #[.string s] w fun e w'=>e= .returned (.tuple #[.int .i64 (sumL s.data.toList 0 0),.int .i64 0])/\At W w':=by
 have E:=hid (show (⟨(durText (sumL s.data.toList 0 0)).toArray⟩:ByteArray)=s by rw[ht])
 clear ht
 go_enter Tryz.func117,Tryz.ntmps117
 go_wp2_with fail
 refine(sum_any s _ hs).mono ?_
 rintro e w' ⟨rfl,rfl⟩
 go_wp2_with fail
 refine(durText_is W _ _ s h1 h2 ha E.out).mono ?_
 rintro e w1 ⟨rfl,ha1⟩
 clear ha
 go_wp2
 go_ret2
 exact⟨rfl,ha1⟩
theorem durParse_other (s t:ByteArray) (W w:World) (h:s.toList.isEmpty=false) (hs:s.size<=maxLen) (h1:1<=sumL s.data.toList 0 0) (h2:sumL s.data.toList 0 0<=2147483648) (ht:⟨(durText (sumL s.data.toList 0 0)).toArray⟩=t) (hn:(!t.toList==s.toList)=true) (ha:At W w):
  Calls Tryz.prog 117 #[.string s] w fun e w'=>e= .returned (.tuple #[.int .i64 0,.int .i64 4])/\At W w':=by
 have E:=hid ht
 clear ht
 go_enter Tryz.func117,Tryz.ntmps117
 go_wp2_with fail
 refine(sum_any s _ hs).mono ?_
 rintro e w' ⟨rfl,rfl⟩
 go_wp2_with fail
 refine(durText_is W _ _ t h1 h2 ha E.out).mono ?_
 rintro e w1 ⟨rfl,ha1⟩
 clear ha
 go_wp2
 go_ret2
 exact⟨rfl,ha1⟩
theorem durParse_out (s:ByteArray) (W w:World) (h:s.toList.isEmpty=false) (hs:s.size<=maxLen) (h1:¬(1<=sumL s.data.toList 0 0/\sumL s.data.toList 0 0<=2147483648)) (ha:At W w):
  Calls Tryz.prog 117 #[.string s] w fun e w'=>e= .returned (.tuple #[.int .i64 0,.int .i64 4])/\At W w':=by
 have E:=hid h1
 clear h1
 go_enter Tryz.func117,Tryz.ntmps117
 go_wp2_with fail
 refine(sum_any s _ hs).mono ?_
 rintro e w' ⟨rfl,rfl⟩
 go_wp2_with fail
 refine(durText_no _ _ E.out).mono ?_
 rintro e w1 ⟨rfl,rfl⟩
 go_wp2
 go_ret2
 exact⟨rfl,ha⟩
theorem durParse_any (s:ByteArray) (W w:World) (hs:s.size<=maxLen) (ha:At W w):
  Calls Tryz.prog 117 #[.string s] w fun e w'=>e= .returned (.tuple #[.int .i64 (durParse s.data.toList).1,.int .i64 (durParse s.data.toList).2])/\At W w':=by
 by_cases h:s.data.toList=[]
 ·rw[durParse_1 h]
  exact(durParse_empty s w h).mono fun _ _ g=>⟨g.1,g.2 ▸ ha⟩
 have he:s.toList.isEmpty=false:=by rw[ByteArray.toList_eq];simpa using h
 by_cases h1:1<=sumL s.data.toList 0 0/\sumL s.data.toList 0 0<=2147483648
 case neg=>
  rw[durParse_2 h h1];exact durParse_out s W w he hs h1 ha
 by_cases h2:durText (sumL s.data.toList 0 0)=s.data.toList
 ·rw[durParse_3 h h1 h2]
  exact durParse_yes s W w he hs h1.1 h1.2 h2 ha
 ·rw[durParse_4 h h1 h2]
  refine durParse_other s _ W w he hs h1.1 h1.2 rfl ?_ ha;rw[ByteArray.toList_eq,ByteArray.toList_eq,Bool.not_eq_true',beq_eq_false_iff_ne]
  simpa using h2
end Go.Proofs.YtddnnljfgfcplaaGreatDoor.St
namespace Go.Proofs.YtddnnljfgfcplaaGreatDoor.St
open Go.RowKit Cv
theorem parse_is (s:ByteArray) (W w:World) (hs:s.size<=maxLen) (h:At W w) (a b:Int) (hp:parse s.data.toList=(a,b)):
  Calls Tryz.prog 27 #[.string s] w fun e w'=>e= .returned (.tuple #[.int .i64 a,.int .i64 b])/\At W w':=by
 have:=parse_any s W w hs h;rwa [hp] at this
theorem durParse_is (s:ByteArray) (W w:World) (hs:s.size<=maxLen) (h:At W w) (a b:Int) (hp:durParse s.data.toList=(a,b)):
  Calls Tryz.prog 117 #[.string s] w fun e w'=>e= .returned (.tuple #[.int .i64 a,.int .i64 b])/\At W w':=by
 have:=durParse_any s W w hs h;rwa [hp] at this
end Go.Proofs.YtddnnljfgfcplaaGreatDoor.St
