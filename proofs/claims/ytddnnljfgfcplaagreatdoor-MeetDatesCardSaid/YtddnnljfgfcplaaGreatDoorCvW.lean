/- The walks of package civil's small functions, each a contract: what the call answers, in the calendar's plain words, at every argument or under the conditions that stand there; the world stays as it is. The walks of package civil's exported functions (but Leap, Length, Valid, Weekday: the text before), each a contract in the calendar's plain words, for every argument: inside its bounds (.._yes) and outside (.._no); the world stays as it is. The walks of vokref1's calendar functions, each a contract in the same plain words as package civil's; the world stays as it is. The walks of vokref1's weeks, months on and nth weekdays, each a contract in the same plain words as package civil's; the world stays as it is. -/
import Derived.Test.YtddnnljfgfcplaaGreatDoorRows
import Derived.Test.YtddnnljfgfcplaaGreatDoorMaA
import Derived.WalkSpells
set_option linter.unusedVariables false
namespace Go.Proofs.YtddnnljfgfcplaaGreatDoor.Cv
open Lib (hid)
open Go.RowKit
theorem ret_int {k:IntKind} {a b:Int} (h:a=b):Ending.returned (.int k a)= .returned (.int k b):=by rw[h]
theorem ret_bool {a b:Bool} (h:a=b):Ending.returned (.bool a)= .returned (.bool b):=by rw[h]
theorem ret_two {k:IntKind} {a b c d:Int} (h:a=b) (g:c=d):Ending.returned (.tuple #[.int k a,.int k c])= .returned (.tuple #[.int k b,.int k d]):=by rw[h,g]
theorem ret_four {k:IntKind} {a b c d e f x y:Int} (h:a=b) (g:c=d) (i:e=f) (j:x=y):Ending.returned (.tuple #[.int k a,.int k c,.int k e,.int k x])= .returned (.tuple #[.int k b,.int k d,.int k f,.int k y]):=by rw[h,g,i,j]
theorem results_tmp4 {fn:Func} {t u v x:Tmp} (h:fn.results = #[.tmp t,.tmp u,.tmp v,.tmp x]) (tmps:Array Value) (P:Program) (w:World):
  (results fn tmps).run P w= .ok (.tuple #[tmps.getD t undef,tmps.getD u undef,tmps.getD v undef,tmps.getD x undef]) w:=by
 simp[results,h]
theorem tmod0 (y k:Int):(y.tmod k==0)=(y % k==0):=by
 rw[Bool.eq_iff_iff];simp[<-Int.dvd_iff_tmod_eq_zero,<-Int.dvd_iff_emod_eq_zero]
theorem tmod0n (y k:Int):(y.tmod k != 0)=(y % k != 0):=by
 rw[bne,bne,tmod0]
theorem leap4 {y:Int} (h:¬(y % 4==0)=true):leap y=false:=by simp[leap,h]
theorem leap100 {y:Int} (h4:(y % 4==0)=true) (h:(y % 100 != 0)=true):leap y=true:=by simp_all [leap]
theorem leap400 {y:Int} (h4:(y % 4==0)=true) (h:¬(y % 100 != 0)=true):leap y=(y % 400==0):=by simp_all [leap]
theorem len_else {y m:Int} (h:¬(m=1\/m=2\/m=3\/m=4\/m=5\/m=6\/m=7\/m=8\/m=9\/m=10\/m=11\/m=12)):len y m=0:=
 len_no y m (by omega)
theorem valid_parts {y m d:Int} (h:valid y m d=true):1<=y/\y<=9999/\1<=m/\m<=12/\1<=d/\d<=len y m:=by
 have g:=of_decide_eq_true h
 by_cases hm:1<=m/\m<=12
 ·exact⟨g.1,g.2.1,hm.1,hm.2,g.2.2⟩
 ·have:=len_no y m hm;omega
theorem tmod7 (n:Int):(0<=n->n.tmod 7=n % 7)/\(n<0->n.tmod 7 = -((-n) % 7)):=by
 refine⟨fun h=>Int.tmod_eq_emod_of_nonneg h,fun h => ?_⟩
 have e:=Int.tmod_eq_emod_of_nonneg (a:=-n) (b:=7) (by omega)
 rw[Int.neg_tmod] at e
 omega
theorem wd_tmod (n:Int):(n.tmod 7+10) % 7=wd n:=by
 obtain⟨h,h'⟩:=tmod7 n
 unfold wd;omega
theorem tmod7_bd (n:Int):-6<=n.tmod 7/\n.tmod 7<=6:=by
 obtain⟨h,h'⟩:=tmod7 n
 omega
theorem wd_bd (n:Int):0<=wd n/\wd n<=6:=by unfold wd;omega
theorem leap_any (y:Int) (w:World):
  Calls Tryz.prog 148 #[.int .i64 y] w fun e w'=>e= .returned (.bool (leap y))/\w=w':=by
 have a4:=tmod0 y 4
 have a100:=tmod0n y 100
 have a400:=tmod0 y 400
 by_cases h4:(y % 4==0)=true
 ·by_cases h100:(y % 100 != 0)=true
  ·have H:=hid (leap100 h4 h100)
   rw[h4] at a4;rw[h100] at a100;clear a400 h4 h100
   go_enter Tryz.func148,Tryz.ntmps148
   go_wp2;go_ret;exact⟨ret_bool H.out.symm,rfl⟩
  ·have H:=hid (leap400 h4 h100)
   rw[Bool.not_eq_true] at h100;rw[h4] at a4;rw[h100] at a100;have A:=hid a400;clear a400 h4 h100
   go_enter Tryz.func148,Tryz.ntmps148
   go_wp2;go_ret;exact⟨ret_bool (by rw[H.out,A.out]),rfl⟩
 ·have H:=hid (leap4 h4)
  rw[Bool.not_eq_true] at h4;rw[h4] at a4;clear a100 a400 h4
  go_enter Tryz.func148,Tryz.ntmps148
  go_wp2;go_ret;exact⟨ret_bool H.out.symm,rfl⟩
theorem leap_yes (y:Int) (w:World) (h:leap y=true):
  Calls Tryz.prog 148 #[.int .i64 y] w fun e w'=>e= .returned (.bool true)/\w=w':=by
 have:=leap_any y w;rwa [h] at this
theorem leap_no (y:Int) (w:World) (h:leap y=false):
  Calls Tryz.prog 148 #[.int .i64 y] w fun e w'=>e= .returned (.bool false)/\w=w':=by
 have:=leap_any y w;rwa [h] at this
theorem length_any (y m:Int) (w:World):
  Calls Tryz.prog 187 #[.int .i64 y,.int .i64 m] w fun e w'=>e= .returned (.int .i64 (len y m))/\w=w':=by
 by_cases hm:m=1\/m=2\/m=3\/m=4\/m=5\/m=6\/m=7\/m=8\/m=9\/m=10\/m=11\/m=12
 ·rcases hm with rfl|rfl|rfl|rfl|rfl|rfl|rfl|rfl|rfl|rfl|rfl|rfl
  case inr.inl=>
   by_cases hl:leap y=true
   ·have H:=hid hl;clear hl
    go_enter Tryz.func187,Tryz.ntmps187
    go_wp2_with (go_at_call 148;refine(leap_yes _ _ H.out).mono ?_;rintro e w' ⟨rfl,rfl⟩)
    go_ret;exact⟨ret_int (by simp[len,lp,H.out]),rfl⟩
   ·rw[Bool.not_eq_true] at hl
    have H:=hid hl;clear hl
    go_enter Tryz.func187,Tryz.ntmps187
    go_wp2_with (go_at_call 148;refine(leap_no _ _ H.out).mono ?_;rintro e w' ⟨rfl,rfl⟩)
    go_ret;exact⟨ret_int (by simp[len,lp,H.out]),rfl⟩
  all_goals
   go_enter Tryz.func187,Tryz.ntmps187
   go_wp2;go_ret;exact⟨ret_int (by simp[len]),rfl⟩
 ·have H:=hid (len_else (y:=y) hm)
  have h1:¬m=1:=by omega
  have h2:¬m=2:=by omega
  have h3:¬m=3:=by omega
  have h4:¬m=4:=by omega
  have h5:¬m=5:=by omega
  have h6:¬m=6:=by omega
  have h7:¬m=7:=by omega
  have h8:¬m=8:=by omega
  have h9:¬m=9:=by omega
  have h10:¬m=10:=by omega
  have h11:¬m=11:=by omega
  have h12:¬m=12:=by omega
  clear hm
  go_enter Tryz.func187,Tryz.ntmps187
  go_wp2;go_ret;exact⟨ret_int H.out.symm,rfl⟩
theorem weekday_any (n:Int) (w:World):
  Calls Tryz.prog 227 #[.int .i64 n] w fun e w'=>e= .returned (.int .i64 (wd n))/\w=w':=by
 obtain⟨h1,h2⟩:=tmod7_bd n
 go_enter Tryz.func227,Tryz.ntmps227
 go_wp2
 go_ret
 exact⟨ret_int (wd_tmod n),rfl⟩
theorem isYear_yes (y:Int) (w:World) (h1:1<=y) (h2:y<=9999):
  Calls Tryz.prog 186 #[.int .i64 y] w fun e w'=>e= .returned (.bool true)/\w=w':=by
 go_enter Tryz.func186,Tryz.ntmps186
 go_wp2
 go_ret
 exact⟨rfl,rfl⟩
theorem isYear_no (y:Int) (w:World) (h:¬(1<=y/\y<=9999)):
  Calls Tryz.prog 186 #[.int .i64 y] w fun e w'=>e= .returned (.bool false)/\w=w':=by
 by_cases h1:y<1
 ·clear h
  go_enter Tryz.func186,Tryz.ntmps186
  go_wp2;go_ret;exact⟨rfl,rfl⟩
 ·have h2:9999<y:=by omega
  clear h
  go_enter Tryz.func186,Tryz.ntmps186
  go_wp2;go_ret;exact⟨ret_bool (decide_eq_false (by omega)),rfl⟩
theorem isDay_yes (y:Int) (w:World) (h1:-719162<=y) (h2:y<=2932896):
  Calls Tryz.prog 102 #[.int .i64 y] w fun e w'=>e= .returned (.bool true)/\w=w':=by
 go_enter Tryz.func102,Tryz.ntmps102
 go_wp2
 go_ret
 exact⟨rfl,rfl⟩
theorem isDay_no (y:Int) (w:World) (h:¬(-719162<=y/\y<=2932896)):
  Calls Tryz.prog 102 #[.int .i64 y] w fun e w'=>e= .returned (.bool false)/\w=w':=by
 by_cases h1:y < -719162
 ·clear h
  go_enter Tryz.func102,Tryz.ntmps102
  go_wp2;go_ret;exact⟨rfl,rfl⟩
 ·have h2:2932896<y:=by omega
  clear h
  go_enter Tryz.func102,Tryz.ntmps102
  go_wp2;go_ret;exact⟨ret_bool (decide_eq_false (by omega)),rfl⟩
theorem isWeekday_yes (y:Int) (w:World) (h1:0<=y) (h2:y<=6):
  Calls Tryz.prog 225 #[.int .i64 y] w fun e w'=>e= .returned (.bool true)/\w=w':=by
 go_enter Tryz.func225,Tryz.ntmps225
 go_wp2
 go_ret
 exact⟨rfl,rfl⟩
theorem isWeekday_no (y:Int) (w:World) (h:¬(0<=y/\y<=6)):
  Calls Tryz.prog 225 #[.int .i64 y] w fun e w'=>e= .returned (.bool false)/\w=w':=by
 by_cases h1:y<0
 ·clear h
  go_enter Tryz.func225,Tryz.ntmps225
  go_wp2;go_ret;exact⟨rfl,rfl⟩
 ·have h2:6<y:=by omega
  clear h
  go_enter Tryz.func225,Tryz.ntmps225
  go_wp2;go_ret;exact⟨ret_bool (decide_eq_false (by omega)),rfl⟩
theorem since_any (a b:Int) (w:World) (h1:0<=a) (h2:a<=6) (h3:0<=b) (h4:b<=6):
  Calls Tryz.prog 226 #[.int .i64 a,.int .i64 b] w fun e w'=>e= .returned (.int .i64 ((b-a) % 7))/\w=w':=by
 go_enter Tryz.func226,Tryz.ntmps226
 go_wp2
 go_ret
 exact⟨ret_int (by omega),rfl⟩
theorem newYear_any (y:Int) (w:World) (h1:0<=y) (h2:y<=10001):
  Calls Tryz.prog 104 #[.int .i64 y] w fun e w'=>e= .returned (.int .i64 (ny y))/\w=w':=by
 go_enter Tryz.func104,Tryz.ntmps104
 go_wp2
 go_ret
 exact⟨rfl,rfl⟩
theorem ahead_any (y m:Int) (w:World) (h1:1<=m) (h2:m<=13):
  Calls Tryz.prog 105 #[.int .i64 y,.int .i64 m] w fun e w'=>e= .returned (.int .i64 (ah y m))/\w=w':=by
 by_cases hm:m<=2
 ·go_enter Tryz.func105,Tryz.ntmps105
  go_wp2;go_ret;exact⟨ret_int (by simp[ah,hm]),rfl⟩
 ·by_cases hl:leap y=true
  ·have H:=hid hl;clear hl
   go_enter Tryz.func105,Tryz.ntmps105
   go_wp2_with (go_at_call 148;refine(leap_yes _ _ H.out).mono ?_;rintro e w' ⟨rfl,rfl⟩)
   go_ret;exact⟨ret_int (by simp[ah,hm,lp,H.out]),rfl⟩
  ·rw[Bool.not_eq_true] at hl
   have H:=hid hl;clear hl
   go_enter Tryz.func105,Tryz.ntmps105
   go_wp2_with (go_at_call 148;refine(leap_no _ _ H.out).mono ?_;rintro e w' ⟨rfl,rfl⟩)
   go_ret;exact⟨ret_int (by simp[ah,hm,lp,H.out]),rfl⟩
theorem valid_yes (y m d:Int) (w:World) (h:valid y m d=true):
  Calls Tryz.prog 147 #[.int .i64 y,.int .i64 m,.int .i64 d] w fun e w'=>e= .returned (.bool true)/\w=w':=by
 obtain⟨h1,h2,_,_,h3,h4⟩:=valid_parts h
 clear h
 go_enter Tryz.func147,Tryz.ntmps147
 go_wp2_with (first
  | (go_at_call 186;refine(isYear_yes _ _ h1 h2).mono ?_;rintro e w' ⟨rfl,rfl⟩)
  | (go_at_call 187;refine(length_any _ _ _).mono ?_;rintro e w' ⟨rfl,rfl⟩))
 go_ret
 exact⟨rfl,rfl⟩
theorem valid_no (y m d:Int) (w:World) (h:valid y m d=false):
  Calls Tryz.prog 147 #[.int .i64 y,.int .i64 m,.int .i64 d] w fun e w'=>e= .returned (.bool false)/\w=w':=by
 have g:=of_decide_eq_false h
 clear h
 by_cases hy:1<=y/\y<=9999
 ·obtain⟨h1,h2⟩:=hy
  by_cases h3:1<=d
  ·have h4:len y m<d:=by omega
   clear g
   go_enter Tryz.func147,Tryz.ntmps147
   go_wp2_with (first
    | (go_at_call 186;refine(isYear_yes _ _ h1 h2).mono ?_;rintro e w' ⟨rfl,rfl⟩)
    | (go_at_call 187;refine(length_any _ _ _).mono ?_;rintro e w' ⟨rfl,rfl⟩))
   go_ret;exact⟨ret_bool (decide_eq_false (by omega)),rfl⟩
  ·clear g
   go_enter Tryz.func147,Tryz.ntmps147
   go_wp2_with (go_at_call 186;refine(isYear_yes _ _ h1 h2).mono ?_;rintro e w' ⟨rfl,rfl⟩)
   go_ret;exact⟨rfl,rfl⟩
 ·clear g
  have H:=hid hy;clear hy
  go_enter Tryz.func147,Tryz.ntmps147
  go_wp2_with (go_at_call 186;refine(isYear_no _ _ H.out).mono ?_;rintro e w' ⟨rfl,rfl⟩)
  go_ret;exact⟨rfl,rfl⟩
end Go.Proofs.YtddnnljfgfcplaaGreatDoor.Cv
namespace Go.Proofs.YtddnnljfgfcplaaGreatDoor.Cv
open Lib (hid)
open Go.RowKit
theorem yearOf_any (n:Int) (w:World) (h1:-719528<=n) (h2:n<=2932899):
  Calls Tryz.prog 103 #[.int .i64 n] w fun e w'=>e= .returned (.int .i64 (yr n))/\w=w':=by
 by_cases c1:n<ny ((n+719528)*400 / 146097)
 ·have H:=hid (yr_1 c1)
  go_enter Tryz.func103,Tryz.ntmps103
  go_wp2_with (go_at_call 104;refine(newYear_any _ _ (by omega) (by omega)).mono ?_;rintro e w' ⟨rfl,rfl⟩)
  go_ret;exact⟨ret_int H.out.symm,rfl⟩
 ·by_cases c2:ny ((n+719528)*400 / 146097+1)<=n
  ·have H:=hid (yr_2 c1 c2)
   go_enter Tryz.func103,Tryz.ntmps103
   go_wp2_with (go_at_call 104;refine(newYear_any _ _ (by omega) (by omega)).mono ?_;rintro e w' ⟨rfl,rfl⟩)
   go_ret;exact⟨ret_int H.out.symm,rfl⟩
  ·have H:=hid (yr_3 c1 c2)
   go_enter Tryz.func103,Tryz.ntmps103
   go_wp2_with (go_at_call 104;refine(newYear_any _ _ (by omega) (by omega)).mono ?_;rintro e w' ⟨rfl,rfl⟩)
   go_ret;exact⟨ret_int H.out.symm,rfl⟩
theorem days_yes (y m d:Int) (w:World) (h:valid y m d=true):
  Calls Tryz.prog 101 #[.int .i64 y,.int .i64 m,.int .i64 d] w fun e w'=>e= .returned (.tuple #[.int .i64 (num y m d),.int .i64 0])/\w=w':=by
 obtain⟨h1,h2,h3,h4,h5,h6⟩:=valid_parts h
 have H:=hid h;clear h
 obtain⟨a1,a2⟩:=ny_bd y (by omega) (by omega)
 obtain⟨b1,b2⟩:=ah_bd y m (by omega) (by omega)
 obtain⟨c1,c2⟩:=len_bd y m
 go_enter Tryz.func101,Tryz.ntmps101
 go_wp2_with (first
  | (go_at_call 147;refine(valid_yes _ _ _ _ H.out).mono ?_;rintro e w' ⟨rfl,rfl⟩)
  | (go_at_call 104;refine(newYear_any _ _ (by omega) (by omega)).mono ?_;rintro e w' ⟨rfl,rfl⟩)
  | (go_at_call 105;refine(ahead_any _ _ _ (by omega) (by omega)).mono ?_;rintro e w' ⟨rfl,rfl⟩))
 go_ret2
 exact⟨rfl,rfl⟩
theorem days_no (y m d:Int) (w:World) (h:valid y m d=false):
  Calls Tryz.prog 101 #[.int .i64 y,.int .i64 m,.int .i64 d] w fun e w'=>e= .returned (.tuple #[.int .i64 0,.int .i64 1])/\w=w':=by
 have H:=hid h;clear h
 go_enter Tryz.func101,Tryz.ntmps101
 go_wp2_with (go_at_call 147;refine(valid_no _ _ _ _ H.out).mono ?_;rintro e w' ⟨rfl,rfl⟩)
 go_ret2
 exact⟨rfl,rfl⟩
theorem date_no (n:Int) (w:World) (h:¬(-719162<=n/\n<=2932896)):
  Calls Tryz.prog 66 #[.int .i64 n] w fun e w'=>e= .returned (.tuple #[.int .i64 0,.int .i64 0,.int .i64 0,.int .i64 1])/\w=w':=by
 have H:=hid h;clear h
 go_enter Tryz.func66,Tryz.ntmps66
 go_wp2_with (go_at_call 102;refine(isDay_no _ _ H.out).mono ?_;rintro e w' ⟨rfl,rfl⟩)
 refine bodyPost_ret (results_tmp4 rfl _ _ _) rfl ?_
 exact⟨rfl,rfl⟩
theorem date_yes (n:Int) (w:World) (h1:-719162<=n) (h2:n<=2932896):
  Calls Tryz.prog 66 #[.int .i64 n] w fun e w'=>e= .returned (.tuple #[.int .i64 (yr n),.int .i64 (mon n),.int .i64 (dom n),.int .i64 0])/\w=w':=by
 obtain⟨a1,a2⟩:=yr_day n h1 h2
 obtain⟨b1,b2⟩:=in_year n
 obtain⟨d1,d2,d3,d4⟩:=mo_spec (yr n) (n-ny (yr n)) (by omega) (by omega)
 have l:=lp_01 (yr n)
 obtain⟨l1,l2⟩:=l
 obtain⟨f1,f2⟩:=ah_bd (yr n) (mo (yr n) (n-ny (yr n))) d1 (by omega)
 by_cases c:ah (yr n) ((n-ny (yr n)) / 31+1+1)<=n-ny (yr n)
 ·have e:mo (yr n) (n-ny (yr n))=(n-ny (yr n)) / 31+1+1:=by simp[mo,c]
  rw[e] at d1 d2 d3 d4 f1 f2;have E:=hid e;clear e
  go_enter Tryz.func66,Tryz.ntmps66
  go_wp2_with (first
   | (go_at_call 102;refine(isDay_yes _ _ h1 h2).mono ?_;rintro e w' ⟨rfl,rfl⟩)
   | (go_at_call 103;refine(yearOf_any _ _ (by omega) (by omega)).mono ?_;rintro e w' ⟨rfl,rfl⟩)
   | (go_at_call 104;refine(newYear_any _ _ (by omega) (by omega)).mono ?_;rintro e w' ⟨rfl,rfl⟩)
   | (go_at_call 105;refine(ahead_any _ _ _ (by omega) (by omega)).mono ?_;rintro e w' ⟨rfl,rfl⟩))
  refine bodyPost_ret (results_tmp4 rfl _ _ _) rfl ?_;exact⟨ret_four rfl E.out.symm (by simp[dom,mon,E.out]) rfl,rfl⟩
 ·have e:mo (yr n) (n-ny (yr n))=(n-ny (yr n)) / 31+1:=by simp[mo,c]
  rw[e] at d1 d2 d3 d4 f1 f2;have E:=hid e;clear e
  go_enter Tryz.func66,Tryz.ntmps66
  go_wp2_with (first
   | (go_at_call 102;refine(isDay_yes _ _ h1 h2).mono ?_;rintro e w' ⟨rfl,rfl⟩)
   | (go_at_call 103;refine(yearOf_any _ _ (by omega) (by omega)).mono ?_;rintro e w' ⟨rfl,rfl⟩)
   | (go_at_call 104;refine(newYear_any _ _ (by omega) (by omega)).mono ?_;rintro e w' ⟨rfl,rfl⟩)
   | (go_at_call 105;refine(ahead_any _ _ _ (by omega) (by omega)).mono ?_;rintro e w' ⟨rfl,rfl⟩))
  refine bodyPost_ret (results_tmp4 rfl _ _ _) rfl ?_;exact⟨ret_four rfl E.out.symm (by simp[dom,mon,E.out]) rfl,rfl⟩
theorem yearDay_yes (n:Int) (w:World) (h1:-719162<=n) (h2:n<=2932896):
  Calls Tryz.prog 180 #[.int .i64 n] w fun e w'=>e= .returned (.tuple #[.int .i64 (yr n),.int .i64 (n-ny (yr n)+1),.int .i64 0])/\w=w':=by
 obtain⟨a1,a2⟩:=yr_day n h1 h2
 obtain⟨b1,b2⟩:=in_year n
 obtain⟨l1,l2⟩:=lp_01 (yr n)
 go_enter Tryz.func180,Tryz.ntmps180
 go_wp2_with (first
  | (go_at_call 102;refine(isDay_yes _ _ h1 h2).mono ?_;rintro e w' ⟨rfl,rfl⟩)
  | (go_at_call 103;refine(yearOf_any _ _ (by omega) (by omega)).mono ?_;rintro e w' ⟨rfl,rfl⟩)
  | (go_at_call 104;refine(newYear_any _ _ (by omega) (by omega)).mono ?_;rintro e w' ⟨rfl,rfl⟩))
 go_ret3
 exact⟨rfl,rfl⟩
theorem week_yes (n k:Int) (w:World) (h1:-719162<=n) (h2:n<=2932896) (h3:0<=k) (h4:k<=6):
  Calls Tryz.prog 273 #[.int .i64 n,.int .i64 k] w fun e w'=>e= .returned (.tuple #[.int .i64 (wky n k),.int .i64 (wkn n k),.int .i64 0])/\w=w':=by
 obtain⟨a1,a2⟩:=wd_bd n
 obtain⟨b1,b2⟩:=in_year (fo n k)
 obtain⟨l1,l2⟩:=lp_01 (yr (fo n k))
 obtain⟨f1,f2⟩:=fo_bd n k
 obtain⟨g1,g2⟩:=yr_bd (fo n k) (by omega) (by omega)
 unfold fo at b1 b2 l1 l2 f1 f2 g1 g2
 go_enter Tryz.func273,Tryz.ntmps273
 go_wp2_with (first
  | (go_at_call 102;refine(isDay_yes _ _ h1 h2).mono ?_;rintro e w' ⟨rfl,rfl⟩)
  | (go_at_call 225;refine(isWeekday_yes _ _ h3 h4).mono ?_;rintro e w' ⟨rfl,rfl⟩)
  | (go_at_call 227;refine(weekday_any _ _).mono ?_;rintro e w' ⟨rfl,rfl⟩)
  | (go_at_call 226;refine(since_any _ _ _ (by omega) (by omega) (by omega) (by omega)).mono ?_;rintro e w' ⟨rfl,rfl⟩)
  | (go_at_call 103;refine(yearOf_any _ _ (by omega) (by omega)).mono ?_;rintro e w' ⟨rfl,rfl⟩)
  | (go_at_call 104;refine(newYear_any _ _ (by omega) (by omega)).mono ?_;rintro e w' ⟨rfl,rfl⟩))
 go_ret3
 exact⟨rfl,rfl⟩
theorem weeks_no (y k:Int) (w:World) (h:¬(1<=y/\y<=9999/\0<=k/\k<=6)):
  Calls Tryz.prog 274 #[.int .i64 y,.int .i64 k] w fun e w'=>e= .returned (.tuple #[.int .i64 0,.int .i64 1])/\w=w':=by
 by_cases hd:1<=y/\y<=9999
 ·have H:=hid (show ¬(0<=k/\k<=6) from fun g=>h ⟨hd.1,hd.2,g.1,g.2⟩)
  clear h;obtain⟨h1,h2⟩:=hd
  go_enter Tryz.func274,Tryz.ntmps274
  go_wp2_with (first
   | (go_at_call 186;refine(isYear_yes _ _ h1 h2).mono ?_;rintro e w' ⟨rfl,rfl⟩)
   | (go_at_call 225;refine(isWeekday_no _ _ H.out).mono ?_;rintro e w' ⟨rfl,rfl⟩))
  go_ret2
  exact⟨rfl,rfl⟩
 ·clear h
  have H:=hid hd;clear hd
  go_enter Tryz.func274,Tryz.ntmps274
  go_wp2_with (go_at_call 186;refine(isYear_no _ _ H.out).mono ?_;rintro e w' ⟨rfl,rfl⟩)
  go_ret2
  exact⟨rfl,rfl⟩
theorem weeks_yes (y k:Int) (w:World) (h1:1<=y) (h2:y<=9999) (h3:0<=k) (h4:k<=6):
  Calls Tryz.prog 274 #[.int .i64 y,.int .i64 k] w fun e w'=>e= .returned (.tuple #[.int .i64 (wks y k),.int .i64 0])/\w=w':=by
 obtain⟨a1,a2⟩:=wd_bd (ny y)
 have s:=ny_mono y (y+1) (by omega)
 obtain⟨g1,g2⟩:=ny_bd y (by omega) (by omega)
 obtain⟨g3,g4⟩:=ny_bd (y+1) (by omega) (by omega)
 have s':365<=ny (y+1)-ny y:=by omega
 clear s
 go_enter Tryz.func274,Tryz.ntmps274
 go_wp2_with (first
  | (go_at_call 186;refine(isYear_yes _ _ h1 h2).mono ?_;rintro e w' ⟨rfl,rfl⟩)
  | (go_at_call 225;refine(isWeekday_yes _ _ h3 h4).mono ?_;rintro e w' ⟨rfl,rfl⟩)
  | (go_at_call 227;refine(weekday_any _ _).mono ?_;rintro e w' ⟨rfl,rfl⟩)
  | (go_at_call 226;refine(since_any _ _ _ (by omega) (by omega) (by omega) (by omega)).mono ?_;rintro e w' ⟨rfl,rfl⟩)
  | (go_at_call 104;refine(newYear_any _ _ (by omega) (by omega)).mono ?_;rintro e w' ⟨rfl,rfl⟩))
 go_ret2
 exact⟨rfl,rfl⟩
end Go.Proofs.YtddnnljfgfcplaaGreatDoor.Cv
namespace Go.Proofs.YtddnnljfgfcplaaGreatDoor.Cv
open Go.RowKit
end Go.Proofs.YtddnnljfgfcplaaGreatDoor.Cv
namespace Go.Proofs.YtddnnljfgfcplaaGreatDoor.Cv
open Go.RowKit
end Go.Proofs.YtddnnljfgfcplaaGreatDoor.Cv
