/- The walks of package civil's small functions, each a contract: what the call answers, in the calendar's plain words, at every argument or under the conditions that stand there; the world stays as it is. The walks of package civil's exported functions (but Leap, Length, Valid, Weekday: the text before), each a contract in the calendar's plain words, for every argument: inside its bounds (.._yes) and outside (.._no); the world stays as it is. The walks of vokref1's calendar functions, each a contract in the same plain words as package civil's; the world stays as it is. The walks of vokref1's weeks, months on and nth weekdays, each a contract in the same plain words as package civil's; the world stays as it is. -/
import Derived.Test.YtchpjhjjakckbaaGreatDoorRows
import Derived.Test.YtchpjhjjakckbaaGreatDoorMaA
import Derived.WalkKit
import Derived.WalkSpells
import Derived.Lib.Hide
set_option linter.unusedVariables false
namespace Go.Proofs.YtchpjhjjakckbaaGreatDoor.Cv
open Go.RowKit
theorem int_eq {k:IntKind} {a b:Int} (h:a=b):Value.int k a=Value.int k b:=by rw[h]
theorem ret_int {k:IntKind} {a b:Int} (h:a=b):Ending.returned (.int k a)= .returned (.int k b):=by rw[h]
theorem ret_bool {a b:Bool} (h:a=b):Ending.returned (.bool a)= .returned (.bool b):=by rw[h]
theorem ret_two {k:IntKind} {a b c d:Int} (h:a=b) (g:c=d):Ending.returned (.tuple #[.int k a,.int k c])= .returned (.tuple #[.int k b,.int k d]):=by rw[h,g]
theorem ret_three {k:IntKind} {a b c d e f:Int} (h:a=b) (g:c=d) (i:e=f):Ending.returned (.tuple #[.int k a,.int k c,.int k e])= .returned (.tuple #[.int k b,.int k d,.int k f]):=by rw[h,g,i]
theorem ret_four {k:IntKind} {a b c d e f x y:Int} (h:a=b) (g:c=d) (i:e=f) (j:x=y):Ending.returned (.tuple #[.int k a,.int k c,.int k e,.int k x])= .returned (.tuple #[.int k b,.int k d,.int k f,.int k y]):=by rw[h,g,i,j]
theorem results_tmp4 {fn:Func} {t u v x:Tmp} (h:fn.results = #[.tmp t,.tmp u,.tmp v,.tmp x]) (tmps:Array Value) (P:Program) (w:World):
  (results fn tmps).run P w= .ok (.tuple #[tmps.getD t undef,tmps.getD u undef,tmps.getD v undef,tmps.getD x undef]) w:=by
 simp[results,h]
theorem tmod0 (y k:Int):(y.tmod k==0)=(y % k==0):=by
 rw[Bool.eq_iff_iff];simp[←Int.dvd_iff_tmod_eq_zero,←Int.dvd_iff_emod_eq_zero]
theorem tmod0n (y k:Int):(y.tmod k != 0)=(y % k != 0):=by
 rw[bne,bne,tmod0]
theorem leap4 {y:Int} (h:¬(y % 4==0)=true):leap y=false:=by simp[leap,h]
theorem leap100 {y:Int} (h4:(y % 4==0)=true) (h:(y % 100 != 0)=true):leap y=true:=by simp_all [leap]
theorem leap400 {y:Int} (h4:(y % 4==0)=true) (h:¬(y % 100 != 0)=true):leap y=(y % 400==0):=by simp_all [leap]
theorem len_else {y m:Int} (h:¬(m=1∨m=2∨m=3∨m=4∨m=5∨m=6∨m=7∨m=8∨m=9∨m=10∨m=11∨m=12)):len y m=0:=
 len_no y m (by omega)
theorem valid_parts {y m d:Int} (h:valid y m d=true):1≤y∧y≤9999∧1≤m∧m≤12∧1≤d∧d≤len y m:=by
 have g:=of_decide_eq_true h
 by_cases hm:1≤m∧m≤12
 ·exact⟨g.1,g.2.1,hm.1,hm.2,g.2.2⟩
 ·have:=len_no y m hm;omega
theorem tmod7 (n:Int):(0≤n→n.tmod 7=n % 7)∧(n<0→n.tmod 7 = -((-n) % 7)):=by
 refine⟨fun h=>Int.tmod_eq_emod_of_nonneg h,fun h => ?_⟩
 have e:=Int.tmod_eq_emod_of_nonneg (a:=-n) (b:=7) (by omega)
 rw[Int.neg_tmod] at e
 omega
theorem wd_tmod (n:Int):(n.tmod 7+10) % 7=wd n:=by
 obtain⟨h,h'⟩:=tmod7 n
 unfold wd;omega
theorem tmod7_bd (n:Int):-6≤n.tmod 7∧n.tmod 7≤6:=by
 obtain⟨h,h'⟩:=tmod7 n
 omega
theorem wd_bd (n:Int):0≤wd n∧wd n≤6:=by unfold wd;omega
theorem leap_any (y:Int) (w:World):
  Calls Tryz.prog 227 #[.int .i64 y] w fun e w'=>e= .returned (.bool (leap y))∧w=w':=by
 have a4:=tmod0 y 4
 have a100:=tmod0n y 100
 have a400:=tmod0 y 400
 by_cases h4:(y % 4==0)=true
 ·by_cases h100:(y % 100 != 0)=true
  ·have H:=Lib.hid (leap100 h4 h100)
   rw[h4] at a4;rw[h100] at a100;clear a400 h4 h100
   go_enter Tryz.func227,Tryz.ntmps227
   go_wp2
   go_ret
   exact⟨ret_bool H.out.symm,rfl⟩
  ·have H:=Lib.hid (leap400 h4 h100)
   rw[Bool.not_eq_true] at h100
   rw[h4] at a4;rw[h100] at a100
   have A:=Lib.hid a400;clear a400 h4 h100
   go_enter Tryz.func227,Tryz.ntmps227
   go_wp2
   go_ret
   exact⟨ret_bool (by rw[H.out,A.out]),rfl⟩
 ·have H:=Lib.hid (leap4 h4)
  rw[Bool.not_eq_true] at h4
  rw[h4] at a4;clear a100 a400 h4
  go_enter Tryz.func227,Tryz.ntmps227
  go_wp2
  go_ret
  exact⟨ret_bool H.out.symm,rfl⟩
theorem leap_yes (y:Int) (w:World) (h:leap y=true):
  Calls Tryz.prog 227 #[.int .i64 y] w fun e w'=>e= .returned (.bool true)∧w=w':=by
 have:=leap_any y w;rwa [h] at this
theorem leap_no (y:Int) (w:World) (h:leap y=false):
  Calls Tryz.prog 227 #[.int .i64 y] w fun e w'=>e= .returned (.bool false)∧w=w':=by
 have:=leap_any y w;rwa [h] at this
theorem length_any (y m:Int) (w:World):
  Calls Tryz.prog 247 #[.int .i64 y,.int .i64 m] w fun e w'=>e= .returned (.int .i64 (len y m))∧w=w':=by
 by_cases hm:m=1∨m=2∨m=3∨m=4∨m=5∨m=6∨m=7∨m=8∨m=9∨m=10∨m=11∨m=12
 ·rcases hm with rfl|rfl|rfl|rfl|rfl|rfl|rfl|rfl|rfl|rfl|rfl|rfl
  case inr.inl=>
   by_cases hl:leap y=true
   ·have H:=Lib.hid hl;clear hl
    go_enter Tryz.func247,Tryz.ntmps247
    go_wp2_with (go_at_call 227;refine(leap_yes _ _ H.out).mono ?_;rintro e w' ⟨rfl,rfl⟩)
    go_ret
    exact⟨ret_int (by simp[len,lp,H.out]),rfl⟩
   ·rw[Bool.not_eq_true] at hl
    have H:=Lib.hid hl;clear hl
    go_enter Tryz.func247,Tryz.ntmps247
    go_wp2_with (go_at_call 227;refine(leap_no _ _ H.out).mono ?_;rintro e w' ⟨rfl,rfl⟩)
    go_ret
    exact⟨ret_int (by simp[len,lp,H.out]),rfl⟩
  all_goals
   go_enter Tryz.func247,Tryz.ntmps247
   go_wp2
   go_ret
   exact⟨ret_int (by simp[len]),rfl⟩
 ·have H:=Lib.hid (len_else (y:=y) hm)
  have h1:¬m=1:=by omega
  have h2:¬m=2:=by omega
  have h3:¬m=3:=by omega
  have h4:¬m=4:=by omega
  have h5:¬m=5:=by omega
  have h6:¬m=6:=by omega
  have h7:¬m=7:=by omega
  have h8:¬m=8:=by omega
  have h9:¬m=9:=by omega
  have h10:¬m=10:=by omega
  have h11:¬m=11:=by omega
  have h12:¬m=12:=by omega
  clear hm
  go_enter Tryz.func247,Tryz.ntmps247
  go_wp2
  go_ret
  exact⟨ret_int H.out.symm,rfl⟩
theorem weekday_any (n:Int) (w:World):
  Calls Tryz.prog 246 #[.int .i64 n] w fun e w'=>e= .returned (.int .i64 (wd n))∧w=w':=by
 obtain⟨h1,h2⟩:=tmod7_bd n
 go_enter Tryz.func246,Tryz.ntmps246
 go_wp2
 go_ret
 exact⟨ret_int (wd_tmod n),rfl⟩
theorem isYear_yes (y:Int) (w:World) (h1:1≤y) (h2:y≤9999):
  Calls Tryz.prog 242 #[.int .i64 y] w fun e w'=>e= .returned (.bool true)∧w=w':=by
 go_enter Tryz.func242,Tryz.ntmps242
 go_wp2
 go_ret
 exact⟨rfl,rfl⟩
theorem isYear_no (y:Int) (w:World) (h:¬(1≤y∧y≤9999)):
  Calls Tryz.prog 242 #[.int .i64 y] w fun e w'=>e= .returned (.bool false)∧w=w':=by
 by_cases h1:y<1
 ·clear h
  go_enter Tryz.func242,Tryz.ntmps242
  go_wp2
  go_ret
  exact⟨rfl,rfl⟩
 ·have h2:9999<y:=by omega
  clear h
  go_enter Tryz.func242,Tryz.ntmps242
  go_wp2
  go_ret
  exact⟨ret_bool (decide_eq_false (by omega)),rfl⟩
theorem isDay_yes (y:Int) (w:World) (h1:-719162≤y) (h2:y≤2932896):
  Calls Tryz.prog 170 #[.int .i64 y] w fun e w'=>e= .returned (.bool true)∧w=w':=by
 go_enter Tryz.func170,Tryz.ntmps170
 go_wp2
 go_ret
 exact⟨rfl,rfl⟩
theorem isDay_no (y:Int) (w:World) (h:¬(-719162≤y∧y≤2932896)):
  Calls Tryz.prog 170 #[.int .i64 y] w fun e w'=>e= .returned (.bool false)∧w=w':=by
 by_cases h1:y < -719162
 ·clear h
  go_enter Tryz.func170,Tryz.ntmps170
  go_wp2
  go_ret
  exact⟨rfl,rfl⟩
 ·have h2:2932896<y:=by omega
  clear h
  go_enter Tryz.func170,Tryz.ntmps170
  go_wp2
  go_ret
  exact⟨ret_bool (decide_eq_false (by omega)),rfl⟩
theorem isWeekday_yes (y:Int) (w:World) (h1:0≤y) (h2:y≤6):
  Calls Tryz.prog 244 #[.int .i64 y] w fun e w'=>e= .returned (.bool true)∧w=w':=by
 go_enter Tryz.func244,Tryz.ntmps244
 go_wp2
 go_ret
 exact⟨rfl,rfl⟩
theorem isWeekday_no (y:Int) (w:World) (h:¬(0≤y∧y≤6)):
  Calls Tryz.prog 244 #[.int .i64 y] w fun e w'=>e= .returned (.bool false)∧w=w':=by
 by_cases h1:y<0
 ·clear h
  go_enter Tryz.func244,Tryz.ntmps244
  go_wp2
  go_ret
  exact⟨rfl,rfl⟩
 ·have h2:6<y:=by omega
  clear h
  go_enter Tryz.func244,Tryz.ntmps244
  go_wp2
  go_ret
  exact⟨ret_bool (decide_eq_false (by omega)),rfl⟩
theorem since_any (a b:Int) (w:World) (h1:0≤a) (h2:a≤6) (h3:0≤b) (h4:b≤6):
  Calls Tryz.prog 245 #[.int .i64 a,.int .i64 b] w fun e w'=>e= .returned (.int .i64 ((b-a) % 7))∧w=w':=by
 go_enter Tryz.func245,Tryz.ntmps245
 go_wp2
 go_ret
 exact⟨ret_int (by omega),rfl⟩
theorem newYear_any (y:Int) (w:World) (h1:0≤y) (h2:y≤10001):
  Calls Tryz.prog 172 #[.int .i64 y] w fun e w'=>e= .returned (.int .i64 (ny y))∧w=w':=by
 go_enter Tryz.func172,Tryz.ntmps172
 go_wp2
 go_ret
 exact⟨rfl,rfl⟩
theorem ahead_any (y m:Int) (w:World) (h1:1≤m) (h2:m≤13):
  Calls Tryz.prog 173 #[.int .i64 y,.int .i64 m] w fun e w'=>e= .returned (.int .i64 (ah y m))∧w=w':=by
 by_cases hm:m≤2
 ·go_enter Tryz.func173,Tryz.ntmps173
  go_wp2
  go_ret
  exact⟨ret_int (by simp[ah,hm]),rfl⟩
 ·by_cases hl:leap y=true
  ·have H:=Lib.hid hl;clear hl
   go_enter Tryz.func173,Tryz.ntmps173
   go_wp2_with (go_at_call 227;refine(leap_yes _ _ H.out).mono ?_;rintro e w' ⟨rfl,rfl⟩)
   go_ret
   exact⟨ret_int (by simp[ah,hm,lp,H.out]),rfl⟩
  ·rw[Bool.not_eq_true] at hl
   have H:=Lib.hid hl;clear hl
   go_enter Tryz.func173,Tryz.ntmps173
   go_wp2_with (go_at_call 227;refine(leap_no _ _ H.out).mono ?_;rintro e w' ⟨rfl,rfl⟩)
   go_ret
   exact⟨ret_int (by simp[ah,hm,lp,H.out]),rfl⟩
theorem valid_yes (y m d:Int) (w:World) (h:valid y m d=true):
  Calls Tryz.prog 218 #[.int .i64 y,.int .i64 m,.int .i64 d] w fun e w'=>e= .returned (.bool true)∧w=w':=by
 obtain⟨h1,h2,_,_,h3,h4⟩:=valid_parts h
 clear h
 go_enter Tryz.func218,Tryz.ntmps218
 go_wp2_with (first
  | (go_at_call 242;refine(isYear_yes _ _ h1 h2).mono ?_;rintro e w' ⟨rfl,rfl⟩)
  | (go_at_call 247;refine(length_any _ _ _).mono ?_;rintro e w' ⟨rfl,rfl⟩))
 go_ret
 exact⟨rfl,rfl⟩
theorem valid_no (y m d:Int) (w:World) (h:valid y m d=false):
  Calls Tryz.prog 218 #[.int .i64 y,.int .i64 m,.int .i64 d] w fun e w'=>e= .returned (.bool false)∧w=w':=by
 have g:=of_decide_eq_false h
 clear h
 by_cases hy:1≤y∧y≤9999
 ·obtain⟨h1,h2⟩:=hy
  by_cases h3:1≤d
  ·have h4:len y m<d:=by omega
   clear g
   go_enter Tryz.func218,Tryz.ntmps218
   go_wp2_with (first
    | (go_at_call 242;refine(isYear_yes _ _ h1 h2).mono ?_;rintro e w' ⟨rfl,rfl⟩)
    | (go_at_call 247;refine(length_any _ _ _).mono ?_;rintro e w' ⟨rfl,rfl⟩))
   go_ret
   exact⟨ret_bool (decide_eq_false (by omega)),rfl⟩
  ·clear g
   go_enter Tryz.func218,Tryz.ntmps218
   go_wp2_with (go_at_call 242;refine(isYear_yes _ _ h1 h2).mono ?_;rintro e w' ⟨rfl,rfl⟩)
   go_ret
   exact⟨rfl,rfl⟩
 ·clear g
  have H:=Lib.hid hy;clear hy
  go_enter Tryz.func218,Tryz.ntmps218
  go_wp2_with (go_at_call 242;refine(isYear_no _ _ H.out).mono ?_;rintro e w' ⟨rfl,rfl⟩)
  go_ret
  exact⟨rfl,rfl⟩
end Go.Proofs.YtchpjhjjakckbaaGreatDoor.Cv
namespace Go.Proofs.YtchpjhjjakckbaaGreatDoor.Cv
open Go.RowKit
theorem yearOf_any (n:Int) (w:World) (h1:-719528≤n) (h2:n≤2932899):
  Calls Tryz.prog 171 #[.int .i64 n] w fun e w'=>e= .returned (.int .i64 (yr n))∧w=w':=by
 by_cases c1:n<ny ((n+719528)*400 / 146097)
 ·have H:=Lib.hid (yr_1 c1)
  go_enter Tryz.func171,Tryz.ntmps171
  go_wp2_with (go_at_call 172;refine(newYear_any _ _ (by omega) (by omega)).mono ?_;rintro e w' ⟨rfl,rfl⟩)
  go_ret
  exact⟨ret_int H.out.symm,rfl⟩
 ·by_cases c2:ny ((n+719528)*400 / 146097+1)≤n
  ·have H:=Lib.hid (yr_2 c1 c2)
   go_enter Tryz.func171,Tryz.ntmps171
   go_wp2_with (go_at_call 172;refine(newYear_any _ _ (by omega) (by omega)).mono ?_;rintro e w' ⟨rfl,rfl⟩)
   go_ret
   exact⟨ret_int H.out.symm,rfl⟩
  ·have H:=Lib.hid (yr_3 c1 c2)
   go_enter Tryz.func171,Tryz.ntmps171
   go_wp2_with (go_at_call 172;refine(newYear_any _ _ (by omega) (by omega)).mono ?_;rintro e w' ⟨rfl,rfl⟩)
   go_ret
   exact⟨ret_int H.out.symm,rfl⟩
theorem days_yes (y m d:Int) (w:World) (h:valid y m d=true):
  Calls Tryz.prog 151 #[.int .i64 y,.int .i64 m,.int .i64 d] w fun e w'=>e= .returned (.tuple #[.int .i64 (num y m d),.int .i64 0])∧w=w':=by
 obtain⟨h1,h2,h3,h4,h5,h6⟩:=valid_parts h
 have H:=Lib.hid h;clear h
 obtain⟨a1,a2⟩:=ny_bd y (by omega) (by omega)
 obtain⟨b1,b2⟩:=ah_bd y m (by omega) (by omega)
 obtain⟨c1,c2⟩:=len_bd y m
 go_enter Tryz.func151,Tryz.ntmps151
 go_wp2_with (first
  | (go_at_call 218;refine(valid_yes _ _ _ _ H.out).mono ?_;rintro e w' ⟨rfl,rfl⟩)
  | (go_at_call 172;refine(newYear_any _ _ (by omega) (by omega)).mono ?_;rintro e w' ⟨rfl,rfl⟩)
  | (go_at_call 173;refine(ahead_any _ _ _ (by omega) (by omega)).mono ?_;rintro e w' ⟨rfl,rfl⟩))
 go_ret2
 exact⟨rfl,rfl⟩
theorem days_no (y m d:Int) (w:World) (h:valid y m d=false):
  Calls Tryz.prog 151 #[.int .i64 y,.int .i64 m,.int .i64 d] w fun e w'=>e= .returned (.tuple #[.int .i64 0,.int .i64 1])∧w=w':=by
 have H:=Lib.hid h;clear h
 go_enter Tryz.func151,Tryz.ntmps151
 go_wp2_with (go_at_call 218;refine(valid_no _ _ _ _ H.out).mono ?_;rintro e w' ⟨rfl,rfl⟩)
 go_ret2
 exact⟨rfl,rfl⟩
theorem date_no (n:Int) (w:World) (h:¬(-719162≤n∧n≤2932896)):
  Calls Tryz.prog 115 #[.int .i64 n] w fun e w'=>e= .returned (.tuple #[.int .i64 0,.int .i64 0,.int .i64 0,.int .i64 1])∧w=w':=by
 have H:=Lib.hid h;clear h
 go_enter Tryz.func115,Tryz.ntmps115
 go_wp2_with (go_at_call 170;refine(isDay_no _ _ H.out).mono ?_;rintro e w' ⟨rfl,rfl⟩)
 refine bodyPost_ret (results_tmp4 rfl _ _ _) rfl ?_
 exact⟨rfl,rfl⟩
theorem date_yes (n:Int) (w:World) (h1:-719162≤n) (h2:n≤2932896):
  Calls Tryz.prog 115 #[.int .i64 n] w fun e w'=>e= .returned (.tuple #[.int .i64 (yr n),.int .i64 (mon n),.int .i64 (dom n),.int .i64 0])∧w=w':=by
 obtain⟨a1,a2⟩:=yr_day n h1 h2
 obtain⟨b1,b2⟩:=in_year n
 obtain⟨d1,d2,d3,d4⟩:=mo_spec (yr n) (n-ny (yr n)) (by omega) (by omega)
 have l:=lp_01 (yr n)
 obtain⟨l1,l2⟩:=l
 obtain⟨f1,f2⟩:=ah_bd (yr n) (mo (yr n) (n-ny (yr n))) d1 (by omega)
 by_cases c:ah (yr n) ((n-ny (yr n)) / 31+1+1)≤n-ny (yr n)
 ·have e:mo (yr n) (n-ny (yr n))=(n-ny (yr n)) / 31+1+1:=by simp[mo,c]
  rw[e] at d1 d2 d3 d4 f1 f2
  have E:=Lib.hid e;clear e
  go_enter Tryz.func115,Tryz.ntmps115
  go_wp2_with (first
   | (go_at_call 170;refine(isDay_yes _ _ h1 h2).mono ?_;rintro e w' ⟨rfl,rfl⟩)
   | (go_at_call 171;refine(yearOf_any _ _ (by omega) (by omega)).mono ?_;rintro e w' ⟨rfl,rfl⟩)
   | (go_at_call 172;refine(newYear_any _ _ (by omega) (by omega)).mono ?_;rintro e w' ⟨rfl,rfl⟩)
   | (go_at_call 173;refine(ahead_any _ _ _ (by omega) (by omega)).mono ?_;rintro e w' ⟨rfl,rfl⟩))
  refine bodyPost_ret (results_tmp4 rfl _ _ _) rfl ?_
  exact⟨ret_four rfl E.out.symm (by simp[dom,mon,E.out]) rfl,rfl⟩
 ·have e:mo (yr n) (n-ny (yr n))=(n-ny (yr n)) / 31+1:=by simp[mo,c]
  rw[e] at d1 d2 d3 d4 f1 f2
  have E:=Lib.hid e;clear e
  go_enter Tryz.func115,Tryz.ntmps115
  go_wp2_with (first
   | (go_at_call 170;refine(isDay_yes _ _ h1 h2).mono ?_;rintro e w' ⟨rfl,rfl⟩)
   | (go_at_call 171;refine(yearOf_any _ _ (by omega) (by omega)).mono ?_;rintro e w' ⟨rfl,rfl⟩)
   | (go_at_call 172;refine(newYear_any _ _ (by omega) (by omega)).mono ?_;rintro e w' ⟨rfl,rfl⟩)
   | (go_at_call 173;refine(ahead_any _ _ _ (by omega) (by omega)).mono ?_;rintro e w' ⟨rfl,rfl⟩))
  refine bodyPost_ret (results_tmp4 rfl _ _ _) rfl ?_
  exact⟨ret_four rfl E.out.symm (by simp[dom,mon,E.out]) rfl,rfl⟩
theorem yearDay_yes (n:Int) (w:World) (h1:-719162≤n) (h2:n≤2932896):
  Calls Tryz.prog 189 #[.int .i64 n] w fun e w'=>e= .returned (.tuple #[.int .i64 (yr n),.int .i64 (n-ny (yr n)+1),.int .i64 0])∧w=w':=by
 obtain⟨a1,a2⟩:=yr_day n h1 h2
 obtain⟨b1,b2⟩:=in_year n
 obtain⟨l1,l2⟩:=lp_01 (yr n)
 go_enter Tryz.func189,Tryz.ntmps189
 go_wp2_with (first
  | (go_at_call 170;refine(isDay_yes _ _ h1 h2).mono ?_;rintro e w' ⟨rfl,rfl⟩)
  | (go_at_call 171;refine(yearOf_any _ _ (by omega) (by omega)).mono ?_;rintro e w' ⟨rfl,rfl⟩)
  | (go_at_call 172;refine(newYear_any _ _ (by omega) (by omega)).mono ?_;rintro e w' ⟨rfl,rfl⟩))
 go_ret3
 exact⟨rfl,rfl⟩
theorem week_yes (n k:Int) (w:World) (h1:-719162≤n) (h2:n≤2932896) (h3:0≤k) (h4:k≤6):
  Calls Tryz.prog 337 #[.int .i64 n,.int .i64 k] w fun e w'=>e= .returned (.tuple #[.int .i64 (wky n k),.int .i64 (wkn n k),.int .i64 0])∧w=w':=by
 obtain⟨a1,a2⟩:=wd_bd n
 obtain⟨b1,b2⟩:=in_year (fo n k)
 obtain⟨l1,l2⟩:=lp_01 (yr (fo n k))
 obtain⟨f1,f2⟩:=fo_bd n k
 obtain⟨g1,g2⟩:=yr_bd (fo n k) (by omega) (by omega)
 unfold fo at b1 b2 l1 l2 f1 f2 g1 g2
 go_enter Tryz.func337,Tryz.ntmps337
 go_wp2_with (first
  | (go_at_call 170;refine(isDay_yes _ _ h1 h2).mono ?_;rintro e w' ⟨rfl,rfl⟩)
  | (go_at_call 244;refine(isWeekday_yes _ _ h3 h4).mono ?_;rintro e w' ⟨rfl,rfl⟩)
  | (go_at_call 246;refine(weekday_any _ _).mono ?_;rintro e w' ⟨rfl,rfl⟩)
  | (go_at_call 245;refine(since_any _ _ _ (by omega) (by omega) (by omega) (by omega)).mono ?_;rintro e w' ⟨rfl,rfl⟩)
  | (go_at_call 171;refine(yearOf_any _ _ (by omega) (by omega)).mono ?_;rintro e w' ⟨rfl,rfl⟩)
  | (go_at_call 172;refine(newYear_any _ _ (by omega) (by omega)).mono ?_;rintro e w' ⟨rfl,rfl⟩))
 go_ret3
 exact⟨rfl,rfl⟩
theorem weeks_no (y k:Int) (w:World) (h:¬(1≤y∧y≤9999∧0≤k∧k≤6)):
  Calls Tryz.prog 338 #[.int .i64 y,.int .i64 k] w fun e w'=>e= .returned (.tuple #[.int .i64 0,.int .i64 1])∧w=w':=by
 by_cases hd:1≤y∧y≤9999
 ·have H:=Lib.hid (show ¬(0≤k∧k≤6) from fun g=>h ⟨hd.1,hd.2,g.1,g.2⟩)
  clear h
  obtain⟨h1,h2⟩:=hd
  go_enter Tryz.func338,Tryz.ntmps338
  go_wp2_with (first
   | (go_at_call 242;refine(isYear_yes _ _ h1 h2).mono ?_;rintro e w' ⟨rfl,rfl⟩)
   | (go_at_call 244;refine(isWeekday_no _ _ H.out).mono ?_;rintro e w' ⟨rfl,rfl⟩))
  go_ret2
  exact⟨rfl,rfl⟩
 ·clear h
  have H:=Lib.hid hd;clear hd
  go_enter Tryz.func338,Tryz.ntmps338
  go_wp2_with (go_at_call 242;refine(isYear_no _ _ H.out).mono ?_;rintro e w' ⟨rfl,rfl⟩)
  go_ret2
  exact⟨rfl,rfl⟩
theorem weeks_yes (y k:Int) (w:World) (h1:1≤y) (h2:y≤9999) (h3:0≤k) (h4:k≤6):
  Calls Tryz.prog 338 #[.int .i64 y,.int .i64 k] w fun e w'=>e= .returned (.tuple #[.int .i64 (wks y k),.int .i64 0])∧w=w':=by
 obtain⟨a1,a2⟩:=wd_bd (ny y)
 have s:=ny_mono y (y+1) (by omega)
 obtain⟨g1,g2⟩:=ny_bd y (by omega) (by omega)
 obtain⟨g3,g4⟩:=ny_bd (y+1) (by omega) (by omega)
 have s':365≤ny (y+1)-ny y:=by omega
 clear s
 go_enter Tryz.func338,Tryz.ntmps338
 go_wp2_with (first
  | (go_at_call 242;refine(isYear_yes _ _ h1 h2).mono ?_;rintro e w' ⟨rfl,rfl⟩)
  | (go_at_call 244;refine(isWeekday_yes _ _ h3 h4).mono ?_;rintro e w' ⟨rfl,rfl⟩)
  | (go_at_call 246;refine(weekday_any _ _).mono ?_;rintro e w' ⟨rfl,rfl⟩)
  | (go_at_call 245;refine(since_any _ _ _ (by omega) (by omega) (by omega) (by omega)).mono ?_;rintro e w' ⟨rfl,rfl⟩)
  | (go_at_call 172;refine(newYear_any _ _ (by omega) (by omega)).mono ?_;rintro e w' ⟨rfl,rfl⟩))
 go_ret2
 exact⟨rfl,rfl⟩
end Go.Proofs.YtchpjhjjakckbaaGreatDoor.Cv
namespace Go.Proofs.YtchpjhjjakckbaaGreatDoor.Cv
open Go.RowKit
theorem rleap_any (y:Int) (w:World):
  Calls Tryz.prog 225 #[.int .i64 y] w fun e w'=>e= .returned (.bool (leap y))∧w=w':=by
 have a4:=tmod0 y 4
 have a100:=tmod0n y 100
 have a400:=tmod0 y 400
 by_cases h4:(y % 4==0)=true
 ·by_cases h100:(y % 100 != 0)=true
  ·have H:=Lib.hid (leap100 h4 h100)
   rw[h4] at a4;rw[h100] at a100;clear a400 h4 h100
   go_enter Tryz.func225,Tryz.ntmps225
   go_wp2
   go_ret
   exact⟨ret_bool H.out.symm,rfl⟩
  ·have H:=Lib.hid (leap400 h4 h100)
   rw[Bool.not_eq_true] at h100
   rw[h4] at a4;rw[h100] at a100
   have A:=Lib.hid a400;clear a400 h4 h100
   go_enter Tryz.func225,Tryz.ntmps225
   go_wp2
   go_ret
   exact⟨ret_bool (by rw[H.out,A.out]),rfl⟩
 ·have H:=Lib.hid (leap4 h4)
  rw[Bool.not_eq_true] at h4
  rw[h4] at a4;clear a100 a400 h4
  go_enter Tryz.func225,Tryz.ntmps225
  go_wp2
  go_ret
  exact⟨ret_bool H.out.symm,rfl⟩
theorem rleap_yes (y:Int) (w:World) (h:leap y=true):
  Calls Tryz.prog 225 #[.int .i64 y] w fun e w'=>e= .returned (.bool true)∧w=w':=by
 have:=rleap_any y w;rwa [h] at this
theorem rleap_no (y:Int) (w:World) (h:leap y=false):
  Calls Tryz.prog 225 #[.int .i64 y] w fun e w'=>e= .returned (.bool false)∧w=w':=by
 have:=rleap_any y w;rwa [h] at this
theorem rlength_any (y m:Int) (w:World):
  Calls Tryz.prog 167 #[.int .i64 y,.int .i64 m] w fun e w'=>e= .returned (.int .i64 (len y m))∧w=w':=by
 by_cases hm:m=1∨m=2∨m=3∨m=4∨m=5∨m=6∨m=7∨m=8∨m=9∨m=10∨m=11∨m=12
 ·rcases hm with rfl|rfl|rfl|rfl|rfl|rfl|rfl|rfl|rfl|rfl|rfl|rfl
  case inr.inl=>
   by_cases hl:leap y=true
   ·have H:=Lib.hid hl;clear hl
    go_enter Tryz.func167,Tryz.ntmps167
    go_wp2_with (go_at_call 225;refine(rleap_yes _ _ H.out).mono ?_;rintro e w' ⟨rfl,rfl⟩)
    go_ret
    exact⟨ret_int (by simp[len,lp,H.out]),rfl⟩
   ·rw[Bool.not_eq_true] at hl
    have H:=Lib.hid hl;clear hl
    go_enter Tryz.func167,Tryz.ntmps167
    go_wp2_with (go_at_call 225;refine(rleap_no _ _ H.out).mono ?_;rintro e w' ⟨rfl,rfl⟩)
    go_ret
    exact⟨ret_int (by simp[len,lp,H.out]),rfl⟩
  all_goals
   go_enter Tryz.func167,Tryz.ntmps167
   go_wp2
   go_ret
   exact⟨ret_int (by simp[len]),rfl⟩
 ·have H:=Lib.hid (len_else (y:=y) hm)
  have h1:¬m=1:=by omega
  have h2:¬m=2:=by omega
  have h3:¬m=3:=by omega
  have h4:¬m=4:=by omega
  have h5:¬m=5:=by omega
  have h6:¬m=6:=by omega
  have h7:¬m=7:=by omega
  have h8:¬m=8:=by omega
  have h9:¬m=9:=by omega
  have h10:¬m=10:=by omega
  have h11:¬m=11:=by omega
  have h12:¬m=12:=by omega
  clear hm
  go_enter Tryz.func167,Tryz.ntmps167
  go_wp2
  go_ret
  exact⟨ret_int H.out.symm,rfl⟩
theorem rweekday_any (n:Int) (w:World):
  Calls Tryz.prog 273 #[.int .i64 n] w fun e w'=>e= .returned (.int .i64 (wd n))∧w=w':=by
 obtain⟨h1,h2⟩:=tmod7_bd n
 go_enter Tryz.func273,Tryz.ntmps273
 go_wp2
 go_ret
 exact⟨ret_int (wd_tmod n),rfl⟩
theorem rdown_any (n b:Int) (w:World) (h1:-1000000000000000≤n) (h2:n≤1000000000000000) (h3:1≤b) (h4:b≤1000000):
  Calls Tryz.prog 168 #[.int .i64 n,.int .i64 b] w fun e w'=>e= .returned (.int .i64 (n / b))∧w=w':=by
 by_cases hn:0≤n
 ·have g:=Int.emod_nonneg n (b:=b) (by omega)
  have g':¬n % b<0:=by omega
  obtain⟨q1,q2⟩:=div_bd n b hn h3
  clear g
  go_enter Tryz.func168,Tryz.ntmps168
  go_wp2
  go_ret
  exact⟨rfl,rfl⟩
 ·obtain⟨q1,q2⟩:=tdiv_bd n b (by omega) h3
  by_cases hz:n.tmod b<0
  ·have H:=Lib.hid (down_1 n b (by omega) h3 hz)
   go_enter Tryz.func168,Tryz.ntmps168
   go_wp2
   go_ret
   exact⟨ret_int H.out.symm,rfl⟩
  ·have H:=Lib.hid (down_2 n b (by omega) h3 hz)
   go_enter Tryz.func168,Tryz.ntmps168
   go_wp2
   go_ret
   exact⟨ret_int H.out.symm,rfl⟩
theorem rfirst_any (y:Int) (w:World) (h1:0≤y) (h2:y≤10001):
  Calls Tryz.prog 111 #[.int .i64 y] w fun e w'=>e= .returned (.int .i64 (ny y))∧w=w':=by
 have H:=Lib.hid (ny_old y)
 go_enter Tryz.func111,Tryz.ntmps111
 go_wp2_with (go_at_call 168;refine(rdown_any _ _ _ (by omega) (by omega) (by omega) (by omega)).mono ?_;rintro e w' ⟨rfl,rfl⟩)
 go_ret
 exact⟨ret_int (by have:=H.out;omega),rfl⟩
theorem rfirst_one (w:World):
  Calls Tryz.prog 111 #[.int .i64 1] w fun e w'=>e= .returned (.int .i64 (-719162))∧w=w':=
 rfirst_any 1 w (by decide) (by decide)
theorem rfirst_end (w:World):
  Calls Tryz.prog 111 #[.int .i64 10000] w fun e w'=>e= .returned (.int .i64 2932897)∧w=w':=
 rfirst_any 10000 w (by decide) (by decide)
theorem rin_yes (y:Int) (w:World) (h1:-719162≤y) (h2:y≤2932896):
  Calls Tryz.prog 275 #[.int .i64 y] w fun e w'=>e= .returned (.bool true)∧w=w':=by
 go_enter Tryz.func275,Tryz.ntmps275
 go_wp2_with fail
 refine(rfirst_one _).mono ?_
 rintro e w' ⟨rfl,rfl⟩
 go_wp2_with fail
 refine(rfirst_end _).mono ?_
 rintro e w' ⟨rfl,rfl⟩
 go_wp2_with fail
 go_ret
 exact⟨ret_bool (decide_eq_true (by omega)),rfl⟩
theorem rdate_yes (n:Int) (w:World) (h1:-719162≤n) (h2:n≤2932896):
  Calls Tryz.prog 215 #[.int .i64 n] w fun e w'=>e= .returned (.tuple #[.int .i64 (yr n),.int .i64 (mon n),.int .i64 (dom n),.int .i64 0])∧w=w':=by
 obtain⟨a1,a2⟩:=yr_day n h1 h2
 go_enter Tryz.func215,Tryz.ntmps215
 go_wp2_with (first
  | (go_at_call 275;refine(rin_yes _ _ h1 h2).mono ?_;rintro e w' ⟨rfl,rfl⟩)
  | (go_at_call 111;refine(rfirst_one _).mono ?_;rintro e w' ⟨rfl,rfl⟩))
 go_loop [6] (fun t=>∃y:Int,1≤y∧y≤yr n∧t= .int .i64 y) (fun t=>(10000-intOf t).toNat)
 case atStart=>exact⟨_,by omega,start_le n h1,rfl⟩
 case round=>
  obtain⟨y,hy1,hy2,rfl⟩:=hrel
  by_cases hc:ny (y+1)≤n
  ·have hy:y+1≤yr n:=yr_ge hc
   go_wp2_with (go_at_call 111;refine(rfirst_any _ _ (by omega) (by omega)).mono ?_;rintro e w' ⟨rfl,rfl⟩)
   go_round
   case rel=>exact⟨y+1,by omega,by omega,rfl⟩
   case measure=>simp[intOf];omega
  ·have E:=Lib.hid (yr_le hy2 hc)
   obtain⟨b1,b2⟩:=in_year n
   rw[←E.out] at b1 b2
   obtain⟨l1,l2⟩:=lp_01 y
   go_wp2_with (go_at_call 111;refine(rfirst_any _ _ (by omega) (by omega)).mono ?_;rintro e w' ⟨rfl,rfl⟩)
   go_loop [7,8] (fun r k=>∃m:Int,1≤m∧m≤12∧k= .int .i64 m∧0≤n-ny y-ah y m∧r= .int .i64 (n-ny y-ah y m)) (fun _ k=>(13-intOf k).toNat)
   case atStart=>exact⟨1,by omega,by omega,rfl,by rw[ah_one];omega,by rw[ah_one,Int.sub_zero]⟩
   case round=>
    obtain⟨m,hm1,hm2,rfl,hr,rfl⟩:=hrel
    obtain⟨e1,e2⟩:=len_bd y m
    obtain⟨f1,f2⟩:=ah_bd y m (by omega) (by omega)
    by_cases hd:len y m≤n-ny y-ah y m
    ·have S:=Lib.hid (ah_succ y m hm1 hm2)
     have hm:m<12:=month_lt hm2 b2 hd hm1
     go_wp2_with (go_at_call 167;refine(rlength_any _ _ _).mono ?_;rintro e w' ⟨rfl,rfl⟩)
     go_round
     case rel=>exact⟨m+1,by omega,by omega,rfl,by rw[S.out];omega,by rw[S.out];exact int_eq (by omega)⟩
     case measure=>simp[intOf];omega
    ·have M:=Lib.hid (mon_eq E.out hm1 hm2 hr hd)
     go_wp2_with (go_at_call 167;refine(rlength_any _ _ _).mono ?_;rintro e w' ⟨rfl,rfl⟩)
     refine bodyPost_ret (results_tmp4 rfl _ _ _) rfl ?_
     exact⟨ret_four E.out M.out.1.symm M.out.2.symm rfl,rfl⟩
theorem ryearDay_yes (n:Int) (w:World) (h1:-719162≤n) (h2:n≤2932896):
  Calls Tryz.prog 269 #[.int .i64 n] w fun e w'=>e= .returned (.tuple #[.int .i64 (yr n),.int .i64 (n-ny (yr n)+1),.int .i64 0])∧w=w':=by
 obtain⟨a1,a2⟩:=yr_day n h1 h2
 obtain⟨b1,b2⟩:=in_year n
 obtain⟨l1,l2⟩:=lp_01 (yr n)
 go_enter Tryz.func269,Tryz.ntmps269
 go_wp2_with (first
  | (go_at_call 215;refine(rdate_yes _ _ h1 h2).mono ?_;rintro e w' ⟨rfl,rfl⟩)
  | (go_at_call 111;refine(rfirst_any _ _ (by omega) (by omega)).mono ?_;rintro e w' ⟨rfl,rfl⟩))
 go_ret3
 exact⟨rfl,rfl⟩
end Go.Proofs.YtchpjhjjakckbaaGreatDoor.Cv
namespace Go.Proofs.YtchpjhjjakckbaaGreatDoor.Cv
open Go.RowKit
theorem rbegin_any (n k:Int) (w:World) (h1:-1000000000000000≤n) (h2:n≤1000000000000000) (h3:0≤k) (h4:k≤6):
  Calls Tryz.prog 341 #[.int .i64 n,.int .i64 k] w fun e w'=>e= .returned (.int .i64 (n-(wd n-k) % 7))∧w=w':=by
 obtain⟨a1,a2⟩:=wd_bd n
 go_enter Tryz.func341,Tryz.ntmps341
 go_wp2_with (go_at_call 273;refine(rweekday_any _ _).mono ?_;rintro e w' ⟨rfl,rfl⟩)
 go_ret
 exact⟨rfl,rfl⟩
theorem rone_any (y k:Int) (w:World) (h1:0≤y) (h2:y≤10001) (h3:0≤k) (h4:k≤6):
  Calls Tryz.prog 314 #[.int .i64 y,.int .i64 k] w fun e w'=>e= .returned (.int .i64 (on y k))∧w=w':=by
 obtain⟨a1,a2⟩:=ny_bd y h1 h2
 go_enter Tryz.func314,Tryz.ntmps314
 go_wp2_with (first
  | (go_at_call 111;refine(rfirst_any _ _ h1 h2).mono ?_;rintro e w' ⟨rfl,rfl⟩)
  | (go_at_call 341;refine(rbegin_any _ _ _ (by omega) (by omega) h3 h4).mono ?_;rintro e w' ⟨rfl,rfl⟩))
 go_ret
 exact⟨rfl,rfl⟩
theorem rweek_yes (n k:Int) (w:World) (h1:-719162≤n) (h2:n≤2932896) (h3:0≤k) (h4:k≤6):
  Calls Tryz.prog 274 #[.int .i64 n,.int .i64 k] w fun e w'=>e= .returned (.tuple #[.int .i64 (wky n k),.int .i64 (wkn n k),.int .i64 0])∧w=w':=by
 obtain⟨a1,a2⟩:=yr_day n h1 h2
 by_cases c1:on (yr n+1) k≤n
 ·have H:=Lib.hid (wk_up c1 h3 h4)
  obtain⟨o1,o2⟩:=on_bd (yr n+1) k
  obtain⟨n1,n2⟩:=ny_bd (yr n+1) (by omega) (by omega)
  go_enter Tryz.func274,Tryz.ntmps274
  go_wp2_with (first
   | (go_at_call 215;refine(rdate_yes _ _ h1 h2).mono ?_;rintro e w' ⟨rfl,rfl⟩)
   | (go_at_call 314;refine(rone_any _ _ _ (by omega) (by omega) h3 h4).mono ?_;rintro e w' ⟨rfl,rfl⟩))
  go_ret3
  exact⟨ret_three H.out.1.symm H.out.2.symm rfl,rfl⟩
 ·by_cases c2:n<on (yr n) k
  ·have H:=Lib.hid (wk_down c2 h3 h4)
   obtain⟨o1,o2⟩:=on_bd (yr n-1) k
   obtain⟨n1,n2⟩:=ny_bd (yr n-1) (by omega) (by omega)
   have o3:=on_low c2
   go_enter Tryz.func274,Tryz.ntmps274
   go_wp2_with (first
    | (go_at_call 215;refine(rdate_yes _ _ h1 h2).mono ?_;rintro e w' ⟨rfl,rfl⟩)
    | (go_at_call 314;refine(rone_any _ _ _ (by omega) (by omega) h3 h4).mono ?_;rintro e w' ⟨rfl,rfl⟩))
   go_ret3
   exact⟨ret_three H.out.1.symm H.out.2.symm rfl,rfl⟩
  ·have H:=Lib.hid (wk_mid c1 c2 h3 h4)
   obtain⟨o1,o2⟩:=on_bd (yr n) k
   obtain⟨n1,n2⟩:=ny_bd (yr n) (by omega) (by omega)
   go_enter Tryz.func274,Tryz.ntmps274
   go_wp2_with (first
    | (go_at_call 215;refine(rdate_yes _ _ h1 h2).mono ?_;rintro e w' ⟨rfl,rfl⟩)
    | (go_at_call 314;refine(rone_any _ _ _ (by omega) (by omega) h3 h4).mono ?_;rintro e w' ⟨rfl,rfl⟩))
   go_ret3
   exact⟨ret_three H.out.1.symm H.out.2.symm rfl,rfl⟩
theorem rweeks_no (y k:Int) (w:World) (h:¬(1≤y∧y≤9999∧0≤k∧k≤6)):
  Calls Tryz.prog 313 #[.int .i64 y,.int .i64 k] w fun e w'=>e= .returned (.tuple #[.int .i64 0,.int .i64 1])∧w=w':=by
 by_cases h1:y<1
 ·clear h
  go_enter Tryz.func313,Tryz.ntmps313
  go_wp2
  go_ret2
  exact⟨rfl,rfl⟩
 ·by_cases h2:9999<y
  ·clear h
   go_enter Tryz.func313,Tryz.ntmps313
   go_wp2
   go_ret2
   exact⟨rfl,rfl⟩
  ·by_cases h3:k<0
   ·clear h
    go_enter Tryz.func313,Tryz.ntmps313
    go_wp2
    go_ret2
    exact⟨rfl,rfl⟩
   ·have h4:6<k:=by omega
    clear h
    go_enter Tryz.func313,Tryz.ntmps313
    go_wp2
    go_ret2
    exact⟨rfl,rfl⟩
theorem rweeks_yes (y k:Int) (w:World) (h1:1≤y) (h2:y≤9999) (h3:0≤k) (h4:k≤6):
  Calls Tryz.prog 313 #[.int .i64 y,.int .i64 k] w fun e w'=>e= .returned (.tuple #[.int .i64 (wks y k),.int .i64 0])∧w=w':=by
 have H:=Lib.hid (wks_eq y k)
 obtain⟨o1,o2⟩:=on_bd y k
 obtain⟨n1,n2⟩:=ny_bd y (by omega) (by omega)
 obtain⟨o3,o4⟩:=on_bd (y+1) k
 obtain⟨n3,n4⟩:=ny_bd (y+1) (by omega) (by omega)
 have o5:=on_le y k
 go_enter Tryz.func313,Tryz.ntmps313
 go_wp2_with (go_at_call 314;refine(rone_any _ _ _ (by omega) (by omega) h3 h4).mono ?_;rintro e w' ⟨rfl,rfl⟩)
 go_ret2
 exact⟨ret_two H.out.symm rfl,rfl⟩
end Go.Proofs.YtchpjhjjakckbaaGreatDoor.Cv
