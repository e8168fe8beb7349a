/- The plain arithmetic of the proleptic Gregorian calendar, no Go in sight: leap years, lengths of months, numbers of days, weeks, months on, nth weekdays. Conditions stand at each lemma. More plain arithmetic of the calendar, no Go in sight: what voklaw1's laws say of it. Conditions stand at each lemma. Package stamp in plain words: what a date and a time come to, a moment's day and second, texts of moments and durations. Moments and durations written and read, in plain words: what is written is read as itself, what is read is written just so. Plain mathematics of numbers in texts: a number's decimal text is that of no other number, and has no other sign than digits and one at its head. Plain mathematics of recurrence rules (chapter 5): what may be, a rule's text, a text's rule. Plain mathematics of content lines: the first byte that may not be, cutting at each 10, joining folded. Plain mathematics of recurrence rules (chapter 5): a rule's text, a text's rule, there and back. Plain mathematics of recurrence rules: what is printed is read as itself; parts in any order; a part too many. Plain mathematics of recurrence rules: how long a text is; parts turned round; rules with more and with less. Plain mathematics of what voklaw5's laws ask of rules. Plain mathematics of chapter 6: which days a rule takes, its periods. Plain mathematics of the statements of chapter 6. -/
import Derived.Lib.ItoaLen
import Derived.Lib.IndexLaws
import Derived.Lib.Bytes
set_option linter.unusedVariables false
namespace Go.Proofs.YtddnnljfgfcplaaGreatDoor.Cv
def leap (y:Int):Bool:=y % 4==0&&(y % 100 != 0||y % 400==0)
def lp (y:Int):Int:=if leap y=true then 1 else 0
def len (y m:Int):Int:=
 if m=2 then 28+lp y else if m=4\/m=6\/m=9\/m=11 then 30 else if 1<=m/\m<=12 then 31 else 0
def valid (y m d:Int):Bool:=decide (1<=y/\y<=9999/\1<=d/\d<=len y m)
def ny (y:Int):Int:=365*y+(y+3) / 4-(y+99) / 100+(y+399) / 400-719528
def ah (y m:Int):Int:=(367*m-362) / 12-(if m<=2 then 0 else 2-lp y)
def num (y m d:Int):Int:=ny y+ah y m+d-1
def yr (n:Int):Int:=
 if n<ny ((n+719528)*400 / 146097) then (n+719528)*400 / 146097-1
 else if ny ((n+719528)*400 / 146097+1)<=n then (n+719528)*400 / 146097+1 else (n+719528)*400 / 146097
def mo (y a:Int):Int:=if ah y (a / 31+1+1)<=a then a / 31+1+1 else a / 31+1
def isday (n:Int):Bool:=decide (-719162<=n/\n<=2932896)
def isyear (y:Int):Bool:=decide (1<=y/\y<=9999)
def wd (n:Int):Int:=(n+3) % 7
def mon (n:Int):Int:=mo (yr n) (n-ny (yr n))
def dom (n:Int):Int:=n-ny (yr n)-ah (yr n) (mon n)+1
def fo (n k:Int):Int:=n-(wd n-k) % 7+3
def wky (n k:Int):Int:=yr (fo n k)
def wkn (n k:Int):Int:=(fo n k-ny (yr (fo n k))) / 7+1
def wks (y k:Int):Int:=(ny (y+1)-1-(ny y+(k+3-wd (ny y)) % 7)) / 7+1
def on (y k:Int):Int:=ny y+3-(wd (ny y+3)-k) % 7
def cnt (y m x j:Int):Int:=(j+5-(x-wd (ny y+ah y m)) % 7) / 7
def nth (y m k d:Int):Int:=
 if len y m<1+(d-wd (ny y+ah y m)) % 7+7*(k-1) then 1+(d-wd (ny y+ah y m)) % 7+7*(k-1)-7
 else 1+(d-wd (ny y+ah y m)) % 7+7*(k-1)
theorem lp_01 (y:Int):0<=lp y/\lp y<=1:=by unfold lp;split<;>omega
theorem lp_def (y:Int):(lp y=1/\y % 4=0/\(y % 100≠0\/y % 400=0))\/(lp y=0/\¬(y % 4=0/\(y % 100≠0\/y % 400=0))):=by
 unfold lp
 by_cases h:leap y=true
 ·left
  rw[if_pos h]
  simpa [leap] using h
 ·right
  rw[if_neg h]
  simpa [leap] using h
theorem ny_succ (y:Int):ny (y+1)=ny y+365+lp y:=by
 have h:=lp_def y
 unfold ny
 omega
theorem ny_lo (y k:Int) (hk:0<=k):ny y+365*k<=ny (y+k):=by unfold ny;omega
theorem ny_mono (a b:Int) (h:a<=b):ny a+365*(b-a)<=ny b:=by
 have:=ny_lo a (b-a) (by omega)
 rwa [show a+(b-a)=b from by omega] at this
theorem ny_bd (y:Int) (h0:0<=y) (h1:y<=10001):-719528<=ny y/\ny y<=2933263:=by unfold ny;omega
theorem guess (n y:Int) (a:146097*y<=400*(n+719528)) (b:400*(n+719528)<146097*(y+1)):ny (y-1)<=n/\n<ny (y+2):=by
 unfold ny;omega
theorem yr_spec (n:Int):ny (yr n)<=n/\n<ny (yr n+1):=by
 have g:=guess n ((n+719528)*400 / 146097) (by omega) (by omega)
 unfold yr
 generalize (n+719528)*400 / 146097=y at *
 split
 ·exact⟨g.1,by rwa [show y-1+1=y from by omega]⟩
 ·split
  ·exact⟨by assumption,by rw[show y+1+1=y+2 from by omega];exact g.2⟩
  ·omega
theorem yr_of (n y:Int) (a:ny y<=n) (b:n<ny (y+1)):yr n=y:=by
 have ⟨c,d⟩:=yr_spec n
 by_cases e:yr n<y
 ·have:=ny_mono (yr n+1) y (by omega);omega
 ·by_cases e':y<yr n
  ·have:=ny_mono (y+1) (yr n) (by omega);omega
  ·omega
theorem yr_bd (n:Int) (h0:-719528<=n) (h1:n<=2932899):0<=yr n/\yr n<=10000:=by
 have ⟨c,d⟩:=yr_spec n
 unfold ny at c d
 omega
theorem yr_day (n:Int) (h0:-719162<=n) (h1:n<=2932896):1<=yr n/\yr n<=9999:=by
 have ⟨c,d⟩:=yr_spec n
 unfold ny at c d
 omega
theorem ah_one (y:Int):ah y 1=0:=by unfold ah;simp
theorem len_bd (y m:Int):0<=len y m/\len y m<=31:=by
 have:=lp_01 y
 unfold len;split<;>(try split)<;>(try split)<;>omega
theorem len_lo (y m:Int) (h1:1<=m) (h2:m<=12):28<=len y m:=by
 have:=lp_01 y
 unfold len;split<;>(try split)<;>(try split)<;>omega
theorem len_no (y m:Int) (h:¬(1<=m/\m<=12)):len y m=0:=by
 unfold len;split<;>(try split)<;>(try split)<;>omega
theorem ah_succ (y m:Int) (h1:1<=m) (h2:m<=12):ah y (m+1)=ah y m+len y m:=by
 have hl:=lp_01 y
 have hm:m=1\/m=2\/m=3\/m=4\/m=5\/m=6\/m=7\/m=8\/m=9\/m=10\/m=11\/m=12:=by omega
 rcases hm with rfl|rfl|rfl|rfl|rfl|rfl|rfl|rfl|rfl|rfl|rfl|rfl<;>simp[ah,len]<;>omega
theorem ah_end (y:Int):ah y 13=365+lp y:=by
 have hl:=lp_01 y
 simp[ah];omega
theorem ah_bd (y m:Int) (h1:1<=m) (h2:m<=13):0<=ah y m/\ah y m<=366:=by
 have hl:=lp_01 y
 unfold ah;split<;>omega
theorem ah_mono (y a b:Int) (h1:1<=a) (h:a<=b):ah y a<=ah y b:=by
 have hl:=lp_01 y
 unfold ah;split<;>split<;>omega
theorem mo_spec (y a:Int) (h0:0<=a) (h1:a<365+lp y):1<=mo y a/\mo y a<=12/\ah y (mo y a)<=a/\a<ah y (mo y a+1):=by
 have hl:=lp_01 y
 unfold mo ah
 split<;>(repeat' split)<;>(try split at *)<;>omega
theorem mo_of (y a m:Int) (h0:0<=a) (h1:a<365+lp y) (h2:1<=m) (b:ah y m<=a) (c:a<ah y (m+1)):mo y a=m:=by
 have ⟨d,e,f,g⟩:=mo_spec y a h0 h1
 by_cases k:mo y a<m
 ·have:=ah_mono y (mo y a+1) m (by omega) (by omega);omega
 ·by_cases k':m<mo y a
  ·have:=ah_mono y (m+1) (mo y a) (by omega) (by omega);omega
  ·omega
theorem in_year (n:Int):0<=n-ny (yr n)/\n-ny (yr n)<365+lp (yr n):=by
 have ⟨a,b⟩:=yr_spec n
 have c:=ny_succ (yr n)
 omega
theorem yr_1 {n:Int} (c:n<ny ((n+719528)*400 / 146097)):yr n=(n+719528)*400 / 146097-1:=by unfold yr;rw[if_pos c]
theorem yr_2 {n:Int} (c:¬n<ny ((n+719528)*400 / 146097)) (d:ny ((n+719528)*400 / 146097+1)<=n):yr n=(n+719528)*400 / 146097+1:=by unfold yr;rw[if_neg c,if_pos d]
theorem yr_3 {n:Int} (c:¬n<ny ((n+719528)*400 / 146097)) (d:¬ny ((n+719528)*400 / 146097+1)<=n):yr n=(n+719528)*400 / 146097:=by unfold yr;rw[if_neg c,if_neg d]
theorem on_bd (y k:Int):ny y-3<=on y k/\on y k<=ny y+3:=by unfold on;omega
theorem fo_in (n y k:Int):ny y<=fo n k↔on y k<=n:=by unfold fo on wd;omega
theorem wks_eq (y k:Int):wks y k=(on (y+1) k-on y k) / 7:=by
 have c:=ny_mono y (y+1) (by omega)
 unfold wks on wd
 omega
theorem fo_bd (n k:Int):n-3<=fo n k/\fo n k<=n+3:=by unfold fo;omega
end Go.Proofs.YtddnnljfgfcplaaGreatDoor.Cv
namespace Go.Proofs.YtddnnljfgfcplaaGreatDoor.Cv
theorem valid_bits {y m d:Int} (h:valid y m d=true):1<=y/\y<=9999/\1<=m/\m<=12/\1<=d/\d<=len y m:=by
 have g:=of_decide_eq_true h
 by_cases hm:1<=m/\m<=12
 ·exact⟨g.1,g.2.1,hm.1,hm.2,g.2.2⟩
 ·have:=len_no y m hm;omega
theorem ny_1:ny 1 = -719162:=by decide
theorem ny_10000:ny 10000=2932897:=by decide
theorem num_in {y m d:Int} (h:valid y m d=true):ny y<=num y m d/\num y m d<ny (y+1):=by
 obtain⟨h1,h2,h3,h4,h5,h6⟩:=valid_bits h
 have a:=ah_bd y m h3 (by omega)
 have b:=ah_succ y m h3 h4
 have c:=ah_mono y (m+1) 13 (by omega) (by omega)
 have d:=ah_end y
 have e:=ny_succ y
 unfold num
 omega
theorem num_bd {y m d:Int} (h:valid y m d=true):-719162<=num y m d/\num y m d<=2932896:=by
 obtain⟨h1,h2,_⟩:=valid_bits h
 have a:=num_in h
 have b:=ny_mono 1 y h1
 have c:=ny_mono (y+1) 10000 (by omega)
 rw[ny_1] at b
 rw[ny_10000] at c
 omega
theorem back {n:Int} (h1:-719162<=n) (h2:n<=2932896):valid (yr n) (mon n) (dom n)=true/\num (yr n) (mon n) (dom n)=n:=by
 have a:=yr_day n h1 h2
 have b:=in_year n
 have c:=mo_spec (yr n) (n-ny (yr n)) b.1 b.2
 have e:mon n=mo (yr n) (n-ny (yr n)):=rfl
 rw[<-e] at c
 have s:=ah_succ (yr n) (mon n) c.1 c.2.1
 refine⟨decide_eq_true ⟨a.1,a.2,?_,?_⟩,?_⟩
 ·unfold dom;omega
 ·unfold dom;omega
 ·unfold num dom;omega
theorem wkn_bd (n k:Int):1<=wkn n k/\wkn n k<=53:=by
 have a:=in_year (fo n k)
 have b:=lp_01 (yr (fo n k))
 unfold wkn
 omega
theorem wks_bd (y k:Int) (k1:0<=k) (k2:k<=6):wks y k=52\/wks y k=53:=by
 have c:=ny_succ y
 have d:=lp_01 y
 unfold wks wd
 omega
end Go.Proofs.YtddnnljfgfcplaaGreatDoor.Cv
namespace Go.Proofs.YtddnnljfgfcplaaGreatDoor.St
open Cv
def u8 (n:Int):UInt8:=UInt8.ofNat n.toNat
theorem u8_nat (n:Int) (h0:0<=n) (h1:n<=255):((u8 n).toNat:Int)=n:=by
 unfold u8;rw[UInt8.toNat_ofNat'];omega
def may (t:Int):Bool:=decide (-62135596800<=t/\t<=253402300799)
def time (h mi s:Int):Bool:=decide (0<=h/\h<=23/\0<=mi/\mi<=59/\0<=s/\s<=59)
def mk (y mo d h mi s:Int):Int:=num y mo d*86400+h*3600+mi*60+s
def d2 (n:Int):List UInt8:= [u8 (48+n / 10),u8 (48+n % 10)]
@[simp] theorem d2_length (n:Int):(d2 n).length=2:=rfl
def text (t:Int):List UInt8:=
 d2 (yr (t / 86400) / 100)++d2 (yr (t / 86400) % 100)++d2 (mon (t / 86400))++d2 (dom (t / 86400))++[84] ++
  d2 (t % 86400 / 3600)++d2 (t % 3600 / 60)++d2 (t % 60)
def part (n u:Int):List UInt8:=if n=0 then [] else Lib.itoa n++[u8 u]
def durText (n:Int):List UInt8:=
 if n % 604800=0 then 80::part (n / 604800) 87
 else if n % 86400=0 then 80::part (n / 86400) 68
 else 80::(part (n / 86400) 68++84::(part (n % 86400 / 3600) 72++part (n % 3600 / 60) 77++part (n % 60) 83))
theorem may_day {t:Int} (h1:-62135596800<=t) (h2:t<=253402300799):-719162<=t / 86400/\t / 86400<=2932896:=by omega
theorem tday {t:Int} (h:t<0) (h':-9223372036854775808<=t):(t.tmod 86400<0->t.tdiv 86400-1=t / 86400/\t.tmod 86400+86400=t % 86400)/\(¬t.tmod 86400<0->t.tdiv 86400=t / 86400/\t.tmod 86400=t % 86400)/\
  -86400<t.tmod 86400/\t.tmod 86400<=0/\-200000000000000<=t.tdiv 86400/\t.tdiv 86400<=0:=by
 have e:=Int.tmod_eq_emod_of_nonneg (a:=-t) (b:=86400) (by omega)
 rw[Int.neg_tmod] at e
 have f:=Int.tdiv_eq_ediv_of_nonneg (a:=-t) (b:=86400) (by omega)
 rw[Int.neg_tdiv] at f
 omega
def isd (c:UInt8):Bool:=decide (48<=(c.toNat:Int)/\(c.toNat:Int)<=57)
def digs (l:List UInt8):Bool:=l.all isd
def nmb (l:List UInt8):Int:=l.foldl (fun n c=>n*10+((c.toNat:Int)-48)) 0
def sec (c:Int):Int:=if c=87 then 604800 else if c=68 then 86400 else if c=72 then 3600 else if c=77 then 60 else if c=83 then 1 else 0
def sumL:List UInt8->Int->Int->Int
 | [],a,_=>a
 |c::r,a,n=>
  if isd c=true then (if 2147483648<n*10+((c.toNat:Int)-48) then 0 else sumL r a (n*10+((c.toNat:Int)-48)))
  else if 2147483648<a+n*sec c.toNat then 0 else sumL r (a+n*sec c.toNat) 0
theorem take_snoc (s:ByteArray) (k:Nat) (h:k<s.size):s.data.toList.take (k+1)=s.data.toList.take k++[s[k]]:=by
 rw[List.take_succ_eq_append_getElem (by simpa using h)];rfl
theorem drop_cons (s:ByteArray) (k:Nat) (h:k<s.size):s.data.toList.drop k=s[k]::s.data.toList.drop (k+1):=by
 rw[List.drop_eq_getElem_cons (by simpa using h)];rfl
theorem digs_snoc {l:List UInt8} {c:UInt8} (h:digs l=true) (hc:isd c=true):digs (l++[c])=true:=by
 unfold digs at *;rw[List.all_append,h];simp[hc]
theorem digs_bad {l:List UInt8} {k:Nat} (hk:k<l.length) (hc:isd l[k]=false):digs l=false:=by
 unfold digs;rw[List.all_eq_false];exact⟨l[k],List.getElem_mem hk,by simp[hc]⟩
theorem digs_at {l:List UInt8} (h:digs l=true) {k:Nat} (hk:k<l.length):isd l[k]=true:=by
 unfold digs at h;rw[List.all_eq_true] at h;exact h _ (List.getElem_mem hk)
theorem nmb_snoc (l:List UInt8) (c:UInt8):nmb (l++[c])=nmb l*10+((c.toNat:Int)-48):=by unfold nmb;rw[List.foldl_append];rfl
theorem fold_bd:∀(l:List UInt8) (a:Int),0<=a->digs l=true->0<=l.foldl (fun n c=>n*10+((c.toNat:Int)-48)) a/\l.foldl (fun n c=>n*10+((c.toNat:Int)-48)) a<(a+1)*((10 ^ l.length:Nat):Int)
 | [],a,h0,_=>by simp;omega
 |c::r,a,h0,h=>by
  have h1:isd c=true/\digs r=true:=by unfold digs at *;rw[List.all_cons] at h;simpa using h
  obtain⟨c1,c2⟩:=of_decide_eq_true h1.1;obtain⟨x,y⟩:=fold_bd r (a*10+((c.toNat:Int)-48)) (by omega) h1.2;rw[List.foldl_cons,List.length_cons,Nat.pow_succ];refine⟨x,Int.lt_of_lt_of_le y ?_⟩;have z:=Int.mul_le_mul_of_nonneg_right (show a*10+((c.toNat:Int)-48)+1<=(a+1)*10 by omega) (Int.natCast_nonneg (10 ^ r.length));rw[Int.mul_assoc] at z
  simpa [Int.mul_comm,Int.mul_assoc,Int.mul_left_comm] using z
theorem nmb_bd (l:List UInt8) (h:digs l=true):0<=nmb l/\nmb l<((10 ^ l.length:Nat):Int):=by
 have:=fold_bd l 0 (by decide) h
 simpa [nmb] using this
theorem digs_take {l:List UInt8} (h:digs l=true) (k:Nat):digs (l.take k)=true:=by
 unfold digs at *;rw[List.all_eq_true] at *;exact fun x hx=>h x (List.mem_of_mem_take hx)
theorem nmb_le (l:List UInt8) (n:Nat) (hl:l.length<=n) (h:digs l=true):0<=nmb l/\nmb l<((10 ^ n:Nat):Int):=by
 obtain⟨a,b⟩:=nmb_bd l h
 have e:10 ^ l.length<=10 ^ n:=Nat.pow_le_pow_right (by decide) hl
 omega
theorem nmb_small (s:ByteArray) (k:Nat) (hlt:k<s.size) (hk:s.size<=15) (h:digs s.data.toList=true):0<=nmb (s.data.toList.take k)/\nmb (s.data.toList.take k)<=1000000000000000:=by
 obtain⟨a,b⟩:=nmb_le (s.data.toList.take k) 15 (by have:=List.length_take_le k s.data.toList;omega) (digs_take h k)
 have e2:((10 ^ 15:Nat):Int)=1000000000000000:=by decide
 omega
def makeR (y mo d h mi s:Int):Int×Int:=if valid y mo d=true/\time h mi s=true then (mk y mo d h mi s,0) else (0,1)
theorem ext_list (s:ByteArray) (a b:Nat):(s.extract a b).data.toList=(s.data.toList.drop a).take (b-a):=by simp
theorem digs_ext {s:ByteArray} {i j a b:Nat} (h:digs (s.extract i j).data.toList=true) (ha:i<=a) (hb:b<=j):digs (s.extract a b).data.toList=true:=by
 rw[ext_list] at *
 unfold digs at *
 rw[List.all_eq_true] at *
 intro x hx
 refine h x ?_
 rw[List.mem_take_iff_getElem] at *
 obtain⟨k,hk,rfl⟩:=hx
 simp at hk
 refine⟨k+(a-i),by simp;omega,?_⟩
 simp[List.getElem_drop]
 congr 1;omega
def fields (l:List UInt8):Int×Int:=
 makeR (nmb (l.take 4)) (nmb ((l.drop 4).take 2)) (nmb ((l.drop 6).take 2)) (nmb ((l.drop 9).take 2)) (nmb ((l.drop 11).take 2)) (nmb (l.drop 13))
def parse (l:List UInt8):Int×Int:=
 if l.length<15 then (0,2) else if 15<l.length\/(l.getD 8 0).toNat≠84\/digs (l.take 8)=false\/digs (l.drop 9)=false then (0,4) else fields l
theorem parse_1 {l:List UInt8} (h:l.length<15):parse l=(0,2):=by unfold parse;rw[if_pos h]
theorem parse_2 {l:List UInt8} (h:15<l.length):parse l=(0,4):=by unfold parse;rw[if_neg (by omega),if_pos (.inl h)]
theorem parse_3 {l:List UInt8} (h:l.length=15) (g:(l.getD 8 0).toNat≠84):parse l=(0,4):=by unfold parse;rw[if_neg (by omega),if_pos (.inr (.inl g))]
theorem parse_4 {l:List UInt8} (h:l.length=15) (g:digs (l.take 8)=false):parse l=(0,4):=by unfold parse;rw[if_neg (by omega),if_pos (.inr (.inr (.inl g)))]
theorem parse_5 {l:List UInt8} (h:l.length=15) (g:digs (l.drop 9)=false):parse l=(0,4):=by unfold parse;rw[if_neg (by omega),if_pos (.inr (.inr (.inr g)))]
theorem parse_6 {l:List UInt8} (h:l.length=15) (g:(l.getD 8 0).toNat=84) (d:digs (l.take 8)=true) (e:digs (l.drop 9)=true):parse l=fields l:=by
 unfold parse;rw[if_neg (by omega),if_neg]
 rintro(h1|h1|h1|h1)
 ·omega
 ·exact h1 g
 ·rw[d] at h1;cases h1
 ·rw[e] at h1;cases h1
theorem sec_no {c:Int} (h:¬(c=87\/c=68\/c=72\/c=77\/c=83)):sec c=0:=by
 unfold sec
 rw[if_neg (by omega),if_neg (by omega),if_neg (by omega),if_neg (by omega),if_neg (by omega)]
theorem sec_bd (c:Int):0<=sec c/\sec c<=604800:=by
 unfold sec
 split<;>(try split)<;>(try split)<;>(try split)<;>(try split)<;>omega
theorem mul_bd {y z:Int} (h1:0<=y) (h2:y<=2147483648) (h3:0<=z) (h4:z<=604800):0<=y*z/\y*z<=1298798110310400:=by
 refine⟨Int.mul_nonneg h1 h3,?_⟩
 have a:=Int.mul_le_mul h2 h4 h3 (by decide)
 omega
def Rest (s:ByteArray) (k:Nat) (a n:Int):Prop:=sumL (s.data.toList.drop k) a n=sumL s.data.toList 0 0
theorem rest_1 {s:ByteArray} {k:Nat} {x y:Int} (hlt:k<s.size) (hc:isd s[k]=false) (hx:¬2147483648<x+y*sec s[k].toNat) (hr:Rest s k x y):Rest s (k+1) (x+y*sec s[k].toNat) 0:=by
 unfold Rest at *;rw[drop_cons s k hlt,sumL,if_neg (by simp[hc]),if_neg hx] at hr;exact hr
theorem rest_2 {s:ByteArray} {k:Nat} {x y:Int} (hlt:k<s.size) (hc:isd s[k]=false) (hx:2147483648<x+y*sec s[k].toNat) (hr:Rest s k x y):0=sumL s.data.toList 0 0:=by
 unfold Rest at *;rw[drop_cons s k hlt,sumL,if_neg (by simp[hc]),if_pos hx] at hr;exact hr
theorem rest_3 {s:ByteArray} {k:Nat} {x y:Int} (hlt:k<s.size) (hc:isd s[k]=true) (hx:¬2147483648<y*10+((s[k].toNat:Int)-48)) (hr:Rest s k x y):Rest s (k+1) x (y*10+((s[k].toNat:Int)-48)):=by
 unfold Rest at *;rw[drop_cons s k hlt,sumL,if_pos hc,if_neg hx] at hr;exact hr
theorem rest_4 {s:ByteArray} {k:Nat} {x y:Int} (hlt:k<s.size) (hc:isd s[k]=true) (hx:2147483648<y*10+((s[k].toNat:Int)-48)) (hr:Rest s k x y):0=sumL s.data.toList 0 0:=by
 unfold Rest at *;rw[drop_cons s k hlt,sumL,if_pos hc,if_pos hx] at hr;exact hr
theorem rest_end {s:ByteArray} {k:Nat} {x y:Int} (hk:s.size<=k) (hr:Rest s k x y):x=sumL s.data.toList 0 0:=by
 unfold Rest at hr;rw[List.drop_of_length_le (by simpa using hk),sumL] at hr;exact hr
def durParse (l:List UInt8):Int×Int:=
 if l=[] then (0,2) else if 1<=sumL l 0 0/\sumL l 0 0<=2147483648/\durText (sumL l 0 0)=l then (sumL l 0 0,0) else (0,4)
theorem durParse_1 {l:List UInt8} (h:l=[]):durParse l=(0,2):=by unfold durParse;rw[if_pos h]
theorem durParse_2 {l:List UInt8} (h:¬l=[]) (g:¬(1<=sumL l 0 0/\sumL l 0 0<=2147483648)):durParse l=(0,4):=by
 unfold durParse;rw[if_neg h,if_neg (fun e=>g ⟨e.1,e.2.1⟩)]
theorem durParse_3 {l:List UInt8} (h:¬l=[]) (g:1<=sumL l 0 0/\sumL l 0 0<=2147483648) (e:durText (sumL l 0 0)=l):durParse l=(sumL l 0 0,0):=by
 unfold durParse;rw[if_neg h,if_pos ⟨g.1,g.2,e⟩]
theorem durParse_4 {l:List UInt8} (h:¬l=[]) (_:1<=sumL l 0 0/\sumL l 0 0<=2147483648) (e:¬durText (sumL l 0 0)=l):durParse l=(0,4):=by
 unfold durParse;rw[if_neg h,if_neg (fun x=>e x.2.2)]
end Go.Proofs.YtddnnljfgfcplaaGreatDoor.St
namespace Go.Proofs.YtddnnljfgfcplaaGreatDoor.St
open Cv
theorem isd_u8 {n:Int} (h0:0<=n) (h1:n<=9):isd (u8 (48+n))=true:=by
 unfold isd;rw[u8_nat _ (by omega) (by omega)];exact decide_eq_true (by omega)
theorem nmb_two (a b:UInt8):nmb [a,b]=((a.toNat:Int)-48)*10+((b.toNat:Int)-48):=by simp[nmb]
theorem nmb_four (a b c d:UInt8):nmb [a,b,c,d]=((((a.toNat:Int)-48)*10+((b.toNat:Int)-48))*10+((c.toNat:Int)-48))*10+((d.toNat:Int)-48):=by simp[nmb]
theorem nmb_d2 {n:Int} (h0:0<=n) (h1:n<=99):nmb (d2 n)=n:=by
 unfold d2
 rw[nmb_two,u8_nat _ (by omega) (by omega),u8_nat _ (by omega) (by omega)];omega
theorem nmb_d4 {n:Int} (h0:0<=n) (h1:n<=9999):nmb (d2 (n / 100)++d2 (n % 100))=n:=by
 unfold d2
 show nmb [_,_,_,_]=n
 rw[nmb_four,u8_nat _ (by omega) (by omega),u8_nat _ (by omega) (by omega),u8_nat _ (by omega) (by omega),u8_nat _ (by omega) (by omega)];omega
theorem digs_d2 {n:Int} (h0:0<=n) (h1:n<=99):digs (d2 n)=true:=by
 simp[digs,d2,isd_u8 (n:=n / 10) (by omega) (by omega),isd_u8 (n:=n % 10) (by omega) (by omega)]
theorem digs_app {a b:List UInt8} (h:digs a=true) (g:digs b=true):digs (a++b)=true:=by
 unfold digs at *;rw[List.all_append,h,g];rfl
theorem moment {t:Int} (h1:-62135596800<=t) (h2:t<=253402300799):
  1<=yr (t / 86400)/\yr (t / 86400)<=9999/\1<=mon (t / 86400)/\mon (t / 86400)<=12/\1<=dom (t / 86400)/\dom (t / 86400)<=31/\
  valid (yr (t / 86400)) (mon (t / 86400)) (dom (t / 86400))=true/\num (yr (t / 86400)) (mon (t / 86400)) (dom (t / 86400))=t / 86400:=by
 obtain⟨q1,q2⟩:=may_day h1 h2
 obtain⟨V,e⟩:=back q1 q2
 have g:=of_decide_eq_true V
 have lb:=(len_bd (yr (t / 86400)) (mon (t / 86400))).2
 by_cases hm:1<=mon (t / 86400)/\mon (t / 86400)<=12
 ·exact⟨g.1,g.2.1,hm.1,hm.2,g.2.2.1,by omega,V,e⟩
 ·have:=len_no (yr (t / 86400)) (mon (t / 86400)) (by omega);omega
theorem parse_text {t:Int} (h:may t=true):parse (text t)=(t,0):=by
 obtain⟨h1,h2⟩:=of_decide_eq_true h
 obtain⟨y1,y2,m1,m2,g1,g2,V,e⟩:=moment h1 h2
 have D1:digs ((text t).take 8)=true:=by
  show digs (d2 _++d2 _++d2 _++d2 _)=true
  exact digs_app (digs_app (digs_app (digs_d2 (by omega) (by omega)) (digs_d2 (by omega) (by omega))) (digs_d2 (by omega) (by omega))) (digs_d2 (by omega) (by omega))
 have D2:digs ((text t).drop 9)=true:=by
  show digs (d2 _++d2 _++d2 _)=true
  exact digs_app (digs_app (digs_d2 (by omega) (by omega)) (digs_d2 (by omega) (by omega))) (digs_d2 (by omega) (by omega))
 rw[parse_6 rfl rfl D1 D2]
 have n1:nmb ((text t).take 4)=yr (t / 86400):=nmb_d4 (by omega) (by omega)
 have n2:nmb (((text t).drop 4).take 2)=mon (t / 86400):=nmb_d2 (by omega) (by omega)
 have n3:nmb (((text t).drop 6).take 2)=dom (t / 86400):=nmb_d2 (by omega) (by omega)
 have n4:nmb (((text t).drop 9).take 2)=t % 86400 / 3600:=nmb_d2 (by omega) (by omega)
 have n5:nmb (((text t).drop 11).take 2)=t % 3600 / 60:=nmb_d2 (by omega) (by omega)
 have n6:nmb ((text t).drop 13)=t % 60:=nmb_d2 (by omega) (by omega)
 unfold fields
 rw[n1,n2,n3,n4,n5,n6]
 unfold makeR
 rw[if_pos ⟨V,decide_eq_true (by omega)⟩]
 unfold mk
 rw[e]
 refine Prod.ext ?_ rfl
 show _=t
 simp only
 omega
end Go.Proofs.YtddnnljfgfcplaaGreatDoor.St
namespace Go.Proofs.YtddnnljfgfcplaaGreatDoor.Ru
def valD (l:List UInt8):Nat:=l.foldl (fun n c=>n*10+(c.toNat-48)) 0
theorem valD_snoc (l:List UInt8) (c:UInt8):valD (l++[c])=valD l*10+(c.toNat-48):=by unfold valD;rw[List.foldl_append];rfl
theorem dig_val {k:Nat} (h:k<10):(UInt8.ofNat (48+k)).toNat=48+k:=by
 rw[UInt8.toNat_ofNat'];omega
theorem valD_dec:∀(n:Nat),valD (Lib.decDigits n)=n:=fun n=>by
 induction n using Nat.strongRecOn with
 |_ n ih=>
  rw[Lib.decDigits]
  split
  ·rename_i h;show 0*10+((UInt8.ofNat (48+n)).toNat-48)=n;rw[dig_val h];omega
  ·rename_i h
   rw[valD_snoc,ih (n / 10) (by omega),dig_val (by omega)];omega
def isD (c:UInt8):Prop:=48<=c.toNat/\c.toNat<=57
theorem dec_digits:∀(n:Nat),∀c∈Lib.decDigits n,isD c:=fun n=>by
 induction n using Nat.strongRecOn with
 |_ n ih=>
  intro c hc;rw[Lib.decDigits] at hc
  split at hc
  ·rename_i h
   obtain rfl:c=UInt8.ofNat (48+n):=by simpa using hc
   exact⟨by rw[dig_val h];omega,by rw[dig_val h];omega⟩
  ·rename_i h
   rcases List.mem_append.1 hc with hc|hc
   ·exact ih (n / 10) (by omega) c hc
   ·obtain rfl:c=UInt8.ofNat (48+n % 10):=by simpa using hc
    exact⟨by rw[dig_val (by omega)];omega,by rw[dig_val (by omega)];omega⟩
theorem dec_ne (n:Nat):Lib.decDigits n≠[]:=by
 rw[Lib.decDigits];split<;>simp
theorem itoa_ne (n:Int):Lib.itoa n≠[]:=by
 unfold Lib.itoa;split
 ·simp
 ·exact dec_ne _
theorem itoa_neg_head {n:Int}:(Lib.itoa n).head? = some 45↔n<0:=by
 unfold Lib.itoa
 constructor
 ·intro h
  split at h
  ·assumption
  ·cases e:Lib.decDigits n.toNat with
   |nil=>exact absurd e (dec_ne _)
   |cons c r=>
    rw[e] at h;simp at h
    have:=dec_digits n.toNat c (by rw[e];exact List.mem_cons_self ..)
    rw[h] at this;exact absurd this.1 (by decide)
 ·intro h;rw[if_pos h];rfl
theorem itoa_inj {m n:Int} (h:Lib.itoa m=Lib.itoa n):m=n:=by
 have hs:(m<0)↔(n<0):=by rw[<-itoa_neg_head,<-itoa_neg_head,h]
 unfold Lib.itoa at h
 by_cases hm:m<0
 ·have hn:=hs.1 hm
  rw[if_pos hm,if_pos hn] at h;injection h with _ h
  have:=congrArg valD h
  rw[valD_dec,valD_dec] at this;omega
 ·have hn:¬n<0:=fun g=>hm (hs.2 g)
  rw[if_neg hm,if_neg hn] at h
  have:=congrArg valD h
  rw[valD_dec,valD_dec] at this;omega
theorem itoa_sign {n:Int} {c:UInt8} (h:c∈Lib.itoa n):isD c\/c=45:=by
 unfold Lib.itoa at h
 split at h
 ·rcases List.mem_cons.1 h with h|h
  ·exact .inr h
  ·exact .inl (dec_digits _ _ h)
 ·exact .inl (dec_digits _ _ h)
theorem itoa_no {n:Int} {c:UInt8} (h:¬isD c) (h2:c≠45):c ∉ Lib.itoa n:=fun g=>(itoa_sign g).elim h h2
theorem dec_len {k:Nat}:∀ {n:Nat},1<=k->n<10 ^ k->(Lib.decDigits n).length<=k:=by
 induction k with
 |zero=>intro n h;omega
 |succ k ih=>
  intro n _ hn;rw[Lib.decDigits]
  split
  ·simp
  ·rename_i h
   have hk:1<=k:=by
    cases k with
    |zero=>simp at hn;omega
    |succ k=>omega
   have:=ih (n:=n / 10) hk (by rw[Nat.pow_succ] at hn;omega)
   simp;omega
def NumIs (l:List UInt8) (n:Int):Prop:=Lib.itoa n=l/\-999999999<=n/\n<=999999999
open Classical in
noncomputable def numOf (l:List UInt8):Option Int:=if h:∃n,NumIs l n then some h.choose else none
theorem numOf_of {l:List UInt8} {n:Int} (h:NumIs l n):numOf l=some n:=by
 have h':∃n,NumIs l n:=⟨n,h⟩
 unfold numOf
 rw[dif_pos h']
 have:=h'.choose_spec
 rw[itoa_inj (this.1.trans h.1.symm)]
theorem numOf_some {l:List UInt8} {n:Int} (h:numOf l=some n):NumIs l n:=by
 unfold numOf at h
 split at h
 ·rename_i g;injection h with h;rw[<-h];exact g.choose_spec
 ·cases h
end Go.Proofs.YtddnnljfgfcplaaGreatDoor.Ru
namespace Go.Proofs.YtddnnljfgfcplaaGreatDoor.Ru
structure Dy where
 n:Int
 w:Int
 deriving DecidableEq
structure Ru where
 freq:Int
 itv:Int
 cnt:Int
 til:Int
 wkst:Int
 ends:Bool
 mon:List Int
 week:List Int
 yday:List Int
 mday:List Int
 day:List Dy
 hour:List Int
 minu:List Int
 sec:List Int
 pos:List Int
 deriving DecidableEq
def iat (l:List Int) (i:Nat):Int:=l.getD i 0
def dat (l:List Dy) (i:Nat):Dy:=l.getD i ⟨0,0⟩
theorem iat_lt {l:List Int} {i:Nat} (h:i<l.length):iat l i=l[i]:=by
 unfold iat;rw[List.getD_eq_getElem?_getD,List.getElem?_eq_getElem h];rfl
theorem dat_lt {l:List Dy} {i:Nat} (h:i<l.length):dat l i=l[i]:=by
 unfold dat;rw[List.getD_eq_getElem?_getD,List.getElem?_eq_getElem h];rfl
def dlt (a b:Dy):Prop:=a.n<b.n\/(a.n=b.n/\a.w<b.w)
instance (a b:Dy):Decidable (dlt a b):=inferInstanceAs (Decidable (_\/_))
def riseB (l:List Int):Bool:=decide (l.Pairwise (· < ·))
def inB (l:List Int) (lo hi:Int) (zero:Bool):Bool:=decide (∀x∈l,lo<=x/\x<=hi/\(x≠0\/zero=true))&&decide (l.length<=60)&&riseB l
def dayB (l:List Dy):Bool:=decide (∀x∈l,-53<=x.n/\x.n<=53/\0<=x.w/\x.w<=6)&&decide (l.length<=60)&&decide (l.Pairwise dlt)
def numbB (l:List Dy):Bool:=l.any fun d=>decide (d.n≠0)
def mayT (t:Int):Bool:=decide (-62135596800<=t/\t<=253402300799)
def scalB (r:Ru):Bool:=decide (1<=r.freq/\r.freq<=7/\1<=r.itv/\r.itv<=1000/\0<=r.cnt/\r.cnt<=4096/\0<=r.wkst/\r.wkst<=6)
def endB (r:Ru):Bool:=if r.ends then decide (r.cnt<=0)&&mayT r.til else decide (r.til=0)
def listB (r:Ru):Bool:=inB r.mon 1 12 true&&inB r.week (-53) 53 false&&inB r.yday (-366) 366 false&&inB r.mday (-31) 31 false&&inB r.pos (-366) 366 false&&inB r.hour 0 23 true&&inB r.minu 0 59 true&&inB r.sec 0 59 true&&dayB r.day
def besideB (r:Ru):Bool:=decide (¬((0<r.week.length/\r.freq≠1)\/(0<r.yday.length/\2<=r.freq/\r.freq<=4)\/(0<r.mday.length/\r.freq=3)))
def nthB (r:Ru):Bool:=decide (¬(numbB r.day=true/\r.freq≠2/\(r.freq≠1\/0<r.week.length)))
def posB (r:Ru):Bool:=decide (¬(0<r.pos.length/\r.mon.length+r.week.length+r.yday.length+r.mday.length+r.day.length+r.hour.length+r.minu.length+r.sec.length=0))
def oftenB (r:Ru):Bool:=decide (4<r.freq\/max r.hour.length 1*max r.minu.length 1*max r.sec.length 1<=1000)
def mayR (r:Ru):Bool:=scalB r&&endB r&&listB r&&besideB r&&nthB r&&posB r&&oftenB r
theorem mayR_of {r:Ru} (h:mayR r=true):scalB r=true/\endB r=true/\listB r=true/\besideB r=true/\nthB r=true/\posB r=true/\oftenB r=true:=by
 unfold mayR at h;simp only[Bool.and_eq_true] at h;simp only[h,and_self]
def nameK:Nat->List UInt8
 |0 => [70,82,69,81]
 |1 => [73,78,84,69,82,86,65,76]
 |2 => [67,79,85,78,84]
 |3 => [85,78,84,73,76]
 |4 => [66,89,77,79,78,84,72]
 |5 => [66,89,87,69,69,75,78,79]
 |6 => [66,89,89,69,65,82,68,65,89]
 |7 => [66,89,77,79,78,84,72,68,65,89]
 |8 => [66,89,68,65,89]
 |9 => [66,89,72,79,85,82]
 |10 => [66,89,77,73,78,85,84,69]
 |11 => [66,89,83,69,67,79,78,68]
 |12 => [66,89,83,69,84,80,79,83]
 |13 => [87,75,83,84]
 |_ => []
def freqW:Nat->List UInt8
 |1 => [89,69,65,82,76,89]
 |2 => [77,79,78,84,72,76,89]
 |3 => [87,69,69,75,76,89]
 |4 => [68,65,73,76,89]
 |5 => [72,79,85,82,76,89]
 |6 => [77,73,78,85,84,69,76,89]
 |7 => [83,69,67,79,78,68,76,89]
 |_ => []
def wdayW:Nat->List UInt8
 |0 => [77,79]
 |1 => [84,85]
 |2 => [87,69]
 |3 => [84,72]
 |4 => [70,82]
 |5 => [83,65]
 |6 => [83,85]
 |_ => []
def keyOf (z:List UInt8):Option Nat:=(List.range 14).find? fun k=>decide (nameK k=z)
def freqOf (z:List UInt8):Option Nat:=if z=[] then none else (List.range 8).find? fun k=>decide (freqW k=z)
def wdayOf (z:List UInt8):Option Nat:=if z=[] then none else (List.range 7).find? fun k=>decide (wdayW k=z)
theorem keyOf_name:∀k:Fin 14,keyOf (nameK k.val)=some k.val:=by decide
theorem freqOf_word:∀k:Fin 8,1<=k.val->freqOf (freqW k.val)=some k.val:=by decide
theorem wdayOf_word:∀k:Fin 7,wdayOf (wdayW k.val)=some k.val:=by decide
def cutAt (c:UInt8):List UInt8->List (List UInt8)
 | [] => [[]]
 |x::r=>if x=c then []::cutAt c r else match cutAt c r with | [] => [[x]] | p::ps=>(x::p)::ps
theorem cutAt_ne (c:UInt8) (l:List UInt8):cutAt c l≠[]:=by
 cases l with
 |nil=>simp[cutAt]
 |cons x r=>unfold cutAt;split<;>(try split)<;>simp
theorem cutAt_one {c:UInt8} {p:List UInt8} (h:c ∉ p):cutAt c p=[p]:=by
 induction p with
 |nil=>rfl
 |cons x p ih=>
  simp only[List.mem_cons,not_or] at h;unfold cutAt;rw[if_neg (fun e=>h.1 e.symm),ih h.2]
theorem cutAt_app {c:UInt8} {p:List UInt8} (h:c ∉ p) (r:List UInt8):cutAt c (p++c::r)=p::cutAt c r:=by
 induction p with
 |nil=>rw[List.nil_append,cutAt,if_pos rfl]
 |cons x p ih=>
  simp only[List.mem_cons,not_or] at h;rw[List.cons_append,cutAt,if_neg (fun e=>h.1 e.symm),ih h.2]
def sep (c:UInt8):List (List UInt8)->List UInt8
 | [] => []
 |p::ps=>p++ps.flatMap fun q=>c::q
theorem sep_cons (c:UInt8) (p q:List UInt8) (ps:List (List UInt8)):sep c (p::q::ps)=p++c::sep c (q::ps):=by simp[sep]
theorem cutAt_sep {c:UInt8}:∀ {ps:List (List UInt8)},ps≠[]->(∀p∈ps,c ∉ p)->cutAt c (sep c ps)=ps
 | [p],_,h=>by rw[show sep c [p]=p from by simp[sep],cutAt_one (h p (by simp))]
 |p::q::ps,_,h=>by
  rw[sep_cons,cutAt_app (h p (by simp)),cutAt_sep (by simp) (fun x hx=>h x (List.mem_cons_of_mem _ hx))]
theorem mem_sep {c x:UInt8} {ps:List (List UInt8)} (h:x∈sep c ps):x=c\/∃p∈ps,x∈p:=by
 cases ps with
 |nil=>simp[sep] at h
 |cons p ps=>
  unfold sep at h
  rcases List.mem_append.1 h with h|h
  ·exact .inr ⟨p,by simp,h⟩
  ·obtain⟨q,hq,hx⟩:=List.mem_flatMap.1 h
   rcases List.mem_cons.1 hx with hx|hx
   ·exact .inl hx
   ·exact .inr ⟨q,by simp[hq],hx⟩
theorem len_sep {c:UInt8} {ps:List (List UInt8)} {k:Nat} (h:∀p∈ps,p.length<=k):(sep c ps).length<=ps.length*(k+1):=by
 induction ps with
 |nil=>simp[sep]
 |cons p ps ih=>
  have:=ih fun q hq=>h q (List.mem_cons_of_mem _ hq)
  have hp:=h p (by simp)
  cases ps with
  |nil=>simp[sep];omega
  |cons q ps=>
   rw[sep_cons,List.length_append,List.length_cons];simp only[List.length_cons,Nat.succ_mul] at this ⊢;omega
def ins {α:Type} (lt:α->α->Bool) (x:α):List α->List α
 | [] => [x]
 |y::l=>if lt y x then y::ins lt x l else if lt x y then x::y::l else y::l
def sortU {α:Type} (lt:α->α->Bool) (l:List α):List α:=l.foldl (fun a x=>ins lt x a) []
def iltB (a b:Int):Bool:=decide (a<b)
def dltB (a b:Dy):Bool:=decide (dlt a b)
theorem mem_ins {α:Type} {lt:α->α->Bool} (tri:∀a b,lt a b=false->lt b a=false->a=b) {x y:α} {l:List α}:y∈ins lt x l↔y=x\/y∈l:=by
 induction l with
 |nil=>simp[ins]
 |cons z l ih=>
  unfold ins
  by_cases h1:lt z x=true
  ·rw[if_pos h1,List.mem_cons,ih,List.mem_cons]
   constructor
   ·rintro(h|h|h)
    ·exact .inr (.inl h)
    ·exact .inl h
    ·exact .inr (.inr h)
   ·rintro(h|h|h)
    ·exact .inr (.inl h)
    ·exact .inl h
    ·exact .inr (.inr h)
  ·rw[if_neg h1]
   by_cases h2:lt x z=true
   ·rw[if_pos h2,List.mem_cons]
   ·rw[if_neg h2]
    have:=tri x z (by simpa using h2) (by simpa using h1)
    subst this;rw[List.mem_cons];simp
theorem len_ins {α:Type} {lt:α->α->Bool} {x:α} {l:List α}:(ins lt x l).length<=l.length+1:=by
 induction l with
 |nil=>simp[ins]
 |cons z l ih=>unfold ins;split<;>(try split)<;>simp;omega
theorem rise_ins {α:Type} {lt:α->α->Bool} (tri:∀a b,lt a b=false->lt b a=false->a=b) (tr:∀a b c,lt a b=true->lt b c=true->lt a c=true) {x:α} {l:List α} (h:l.Pairwise fun a b=>lt a b=true):
  (ins lt x l).Pairwise fun a b=>lt a b=true:=by
 induction l with
 |nil=>simp[ins]
 |cons z l ih=>
  rw[List.pairwise_cons] at h;unfold ins
  by_cases h1:lt z x=true
  ·rw[if_pos h1,List.pairwise_cons]
   refine⟨fun y hy => ?_,ih h.2⟩
   rcases(mem_ins tri).1 hy with rfl|hy
   ·exact h1
   ·exact h.1 y hy
  ·rw[if_neg h1]
   by_cases h2:lt x z=true
   ·rw[if_pos h2,List.pairwise_cons,List.pairwise_cons]
    refine⟨fun y hy => ?_,h⟩
    rcases List.mem_cons.1 hy with rfl|hy
    ·exact h2
    ·exact tr _ _ _ h2 (h.1 y hy)
   ·rw[if_neg h2,List.pairwise_cons];exact h
theorem ins_end {α:Type} {lt:α->α->Bool} {x:α} {l:List α} (h:∀y∈l,lt y x=true):ins lt x l=l++[x]:=by
 induction l with
 |nil=>rfl
 |cons z l ih=>
  unfold ins;rw[if_pos (h z (by simp)),ih fun y hy=>h y (List.mem_cons_of_mem _ hy)];rfl
theorem sort_go {α:Type} {lt:α->α->Bool} {l:List α}:∀ {a:List α},(a++l).Pairwise (fun x y=>lt x y=true)->l.foldl (fun a x=>ins lt x a) a=a++l:=by
 induction l with
 |nil=>intro a _;simp
 |cons x l ih=>
  intro a h;rw[List.foldl_cons,ins_end fun y hy=>(List.pairwise_append.1 h).2.2 y hy x (by simp),ih (by simpa using h)];simp
theorem sortU_id {α:Type} {lt:α->α->Bool} {l:List α} (h:l.Pairwise fun x y=>lt x y=true):sortU lt l=l:=by
 have:=sort_go (a:= []) (l:=l) (by simpa using h)
 simpa [sortU] using this
theorem sort_spec {α:Type} {lt:α->α->Bool} (tri:∀a b,lt a b=false->lt b a=false->a=b) (tr:∀a b c,lt a b=true->lt b c=true->lt a c=true) {l:List α}:
  ∀ {a:List α},a.Pairwise (fun x y=>lt x y=true)->(l.foldl (fun a x=>ins lt x a) a).Pairwise (fun x y=>lt x y=true)/\(l.foldl (fun a x=>ins lt x a) a).length<=a.length+l.length/\∀y,y∈l.foldl (fun a x=>ins lt x a) a↔y∈a\/y∈l:=by
 induction l with
 |nil=>intro a h;exact⟨h,by simp,by simp⟩
 |cons x l ih=>
  intro a h;obtain⟨i1,i2,i3⟩:=ih (rise_ins tri tr (x:=x) h);refine⟨i1,?_,fun y => ?_⟩
  ·have:=len_ins (lt:=lt) (x:=x) (l:=a)
   rw[List.foldl_cons,List.length_cons];omega
  ·rw[List.foldl_cons,i3,mem_ins tri,List.mem_cons]
   constructor
   ·rintro((h|h)|h)
    ·exact .inr (.inl h)
    ·exact .inl h
    ·exact .inr (.inr h)
   ·rintro(h|h|h)
    ·exact .inl (.inr h)
    ·exact .inl (.inl h)
    ·exact .inr h
theorem ilt_tri (a b:Int) (h:iltB a b=false) (g:iltB b a=false):a=b:=by
 have:=of_decide_eq_false h;have:=of_decide_eq_false g;omega
theorem ilt_tr (a b c:Int) (h:iltB a b=true) (g:iltB b c=true):iltB a c=true:=by
 have:=of_decide_eq_true h;have:=of_decide_eq_true g;exact decide_eq_true (by omega)
theorem dlt_tri (a b:Dy) (h:dltB a b=false) (g:dltB b a=false):a=b:=by
 have h:=of_decide_eq_false h;have g:=of_decide_eq_false g
 unfold dlt at h g
 have e1:a.n=b.n:=by omega
 have e2:a.w=b.w:=by omega
 cases a;cases b;simp only at e1 e2;rw[e1,e2]
theorem dlt_tr (a b c:Dy) (h:dltB a b=true) (g:dltB b c=true):dltB a c=true:=by
 have h:=of_decide_eq_true h;have g:=of_decide_eq_true g
 unfold dlt at h g
 exact decide_eq_true (by unfold dlt;omega)
theorem rise_ext {α:Type} {lt:α->α->Bool} (irr:∀a,lt a a=false) (tr:∀a b c,lt a b=true->lt b c=true->lt a c=true):∀ {l m:List α},l.Pairwise (fun x y=>lt x y=true)->m.Pairwise (fun x y=>lt x y=true)->(∀y,y∈l↔y∈m)->l=m
 | [],[],_,_,_=>rfl
 | [],y::m,_,_,h=>by have:=(h y).2 (by simp);simp at this
 |x::l,[],_,_,h=>by have:=(h x).1 (by simp);simp at this
 |x::l,y::m,hl,hm,h=>by
  rw[List.pairwise_cons] at hl hm
  have e:x=y:=by
   rcases List.mem_cons.1 ((h x).1 (by simp)) with g|g
   ·exact g
   ·rcases List.mem_cons.1 ((h y).2 (by simp)) with g'|g'
    ·exact g'.symm
    ·have:=tr _ _ _ (hm.1 x g) (hl.1 y g')
     rw[irr] at this;cases this
  subst e
  congr 1
  refine rise_ext irr tr hl.2 hm.2 fun z => ?_
  have hz:=h z;rw[List.mem_cons,List.mem_cons] at hz;constructor
  ·intro g
   rcases hz.1 (.inr g) with rfl|g'
   ·have:=hl.1 z g;rw[irr] at this;cases this
   ·exact g'
  ·intro g
   rcases hz.2 (.inr g) with rfl|g'
   ·have:=hm.1 z g;rw[irr] at this;cases this
   ·exact g'
end Go.Proofs.YtddnnljfgfcplaaGreatDoor.Ru
namespace Go.Proofs.YtddnnljfgfcplaaGreatDoor.Fd
def mayI (c:Int):Bool:=decide (32<=c/\c<=126)
def bat (l:List UInt8) (i:Nat):Int:=((l.getD i 0).toNat:Int)
def okAt (l:List UInt8) (i:Nat):Bool:=mayI (bat l i)||decide (bat l i=10)||decide (bat l i=13/\bat l (i+1)=10)
def goodTo (l:List UInt8) (k:Nat):Prop:=∀j,j<k->okAt l j=true
def faultF (l:List UInt8):Option Nat:=(List.range l.length).find? (fun i => !okAt l i)
def faultN (l:List UInt8):Int:=match faultF l with|some i=>(i:Int)|none=>0
def blank1 (l:List UInt8):Bool:=decide (l.head? = some 32)
def faultB (l:List UInt8):Bool:=match faultF l with|some _=>true|none=>blank1 l
theorem bat_lt {l:List UInt8} {i:Nat} (h:i<l.length):bat l i=(l[i].toNat:Int):=by
 unfold bat;rw[List.getD_eq_getElem?_getD,List.getElem?_eq_getElem h];rfl
theorem goodTo.succ {l:List UInt8} {k:Nat} (h:goodTo l k) (e:okAt l k=true):goodTo l (k+1):=fun j hj=>by
 rcases Nat.lt_or_ge j k with g|g
 ·exact h j g
 ·obtain rfl:j=k:=by omega
  exact e
theorem faultF_some {l:List UInt8} {k:Nat} (hk:k<l.length) (h:goodTo l k) (e:okAt l k=false):faultF l=some k:=by
 unfold faultF
 rw[List.find?_range_eq_some]
 exact⟨by rw[e];rfl,by simpa using hk,fun j hj=>by rw[h j hj];rfl⟩
theorem faultF_none {l:List UInt8} (h:goodTo l l.length):faultF l=none:=by
 unfold faultF
 rw[List.find?_eq_none]
 intro x hx
 rw[h x (by simpa using hx)];decide
theorem faultN_some {l:List UInt8} {k:Nat} (h:faultF l=some k):(k:Int)=faultN l/\true=faultB l:=by
 unfold faultN faultB;rw[h];exact⟨rfl,rfl⟩
theorem faultN_none {l:List UInt8} (h:faultF l=none):0=faultN l/\blank1 l=faultB l:=by
 unfold faultN faultB;rw[h];exact⟨rfl,rfl⟩
theorem ok_may {l:List UInt8} {i:Nat} (h:mayI (bat l i)=true):okAt l i=true:=by unfold okAt;rw[h];rfl
theorem ok_ten {l:List UInt8} {i:Nat} (h:bat l i=10):okAt l i=true:=by unfold okAt;rw[h];simp
theorem ok_end {l:List UInt8} {i:Nat} (h:bat l i=13) (g:bat l (i+1)=10):okAt l i=true:=by unfold okAt;rw[h,g];simp
theorem ok_no {l:List UInt8} {i:Nat} (h:mayI (bat l i)=false) (h2:bat l i≠10) (h3:¬(bat l i=13/\bat l (i+1)=10)):okAt l i=false:=by
 unfold okAt;rw[h];simp[h2];simpa using h3
theorem blank_at {l:List UInt8} (h:0<l.length):blank1 l=decide (bat l 0=32):=by
 unfold blank1 bat
 cases l with
 |nil=>simp at h
 |cons c r=>
  rw[Bool.eq_iff_iff,decide_eq_true_eq,decide_eq_true_eq];simp only[List.head?_cons,Option.some.injEq,List.getD_cons_zero];constructor
  ·rintro rfl;rfl
  ·intro h2
   exact UInt8.toNat_inj.1 (by have:(32:UInt8).toNat=32:=rfl;omega)
theorem pre_end (l:List UInt8) (i:Nat):Lib.hasPrefix (l.drop i) [13,10]=decide (bat l i=13/\bat l (i+1)=10):=by
 unfold Lib.hasPrefix
 have k:∀(j:Nat) (c:UInt8),c≠0->((l[j]? = some c)↔bat l j=(c.toNat:Int)):=fun j c hc=>by
  unfold bat;rw[List.getD_eq_getElem?_getD]
  cases h:l[j]? with
  |none=>simp;intro e;exact hc (UInt8.toNat_inj.1 (by simpa using e.symm))
  |some x=>simp;constructor
           ·rintro rfl;rfl
           ·intro e;exact UInt8.toNat_inj.1 (by omega)
 rw[Bool.eq_iff_iff,List.isPrefixOf_iff_prefix,decide_eq_true_eq]
 have k1:=k i 13 (by decide);have k2:=k (i+1) 10 (by decide)
 have e13:((13:UInt8).toNat:Int)=13:=rfl
 have e10:((10:UInt8).toNat:Int)=10:=rfl
 rw[e13] at k1;rw[e10] at k2
 rw[<-k1,<-k2]
 constructor
 ·rintro⟨r,hr⟩
  have a0:(l.drop i)[0]? = some 13:=by rw[<-hr];rfl
  have a1:(l.drop i)[1]? = some 10:=by rw[<-hr];rfl
  rw[List.getElem?_drop] at a0 a1;exact⟨a0,a1⟩
 ·rintro⟨a0,a1⟩
  refine⟨l.drop (i+2),?_⟩
  have g0:i<l.length:=by rcases Nat.lt_or_ge i l.length with g|g;exact g;rw[List.getElem?_eq_none g] at a0;cases a0
  have g1:i+1<l.length:=by rcases Nat.lt_or_ge (i+1) l.length with g|g;exact g;rw[List.getElem?_eq_none g] at a1;cases a1
  rw[List.getElem?_eq_getElem g0] at a0;rw[List.getElem?_eq_getElem g1] at a1;injection a0 with a0;injection a1 with a1;rw[List.drop_eq_getElem_cons g0,List.drop_eq_getElem_cons g1,a0,a1];rfl
def strip (p:List UInt8):List UInt8:=if p.getLast? = some 13 then p.dropLast else p
def put (acc:List (List UInt8)) (p:List UInt8):List (List UInt8):=if p.head? = some 32 then acc.dropLast++[acc.getLastD []++p.tail] else acc++[p]
def piece (l:List UInt8):List UInt8:=l.takeWhile (· != 10)
def rest (l:List UInt8):List UInt8:=(l.dropWhile (· != 10)).drop 1
theorem rest_lt {l:List UInt8} (h:l≠[]):(rest l).length<l.length:=by
 unfold rest
 rw[List.length_drop]
 have e:=congrArg List.length (List.takeWhile_append_dropWhile (p:=(· != 10)) (l:=l))
 rw[List.length_append] at e
 have:0<l.length:=List.length_pos_iff.2 h
 by_cases g:(l.dropWhile (· != 10)).length=0<;>omega
def lines (acc:List (List UInt8)) (l:List UInt8):List (List UInt8):=if h:l=[] then acc else lines (put acc (strip (piece l))) (rest l)
 termination_by l.length
 decreasing_by exact rest_lt h
theorem lines_nil (acc:List (List UInt8)):lines acc []=acc:=by rw[lines];simp
theorem lines_step {acc:List (List UInt8)} {l:List UInt8} (h:l≠[]):lines acc l=lines (put acc (strip (piece l))) (rest l):=by
 rw[lines];simp[h]
theorem index_10 (l:List UInt8):(Lib.indexByte l 10 = -1/\piece l=l/\rest l=[])\/(∃j:Nat,j<l.length/\Lib.indexByte l 10=j/\piece l=l.take j/\rest l=l.drop (j+1)):=by
 induction l with
 |nil=>exact .inl ⟨rfl,rfl,rfl⟩
 |cons c r ih=>
  by_cases hc:c=10
  ·subst hc
   exact .inr ⟨0,by simp,by simp[Lib.indexByte],by simp[piece],by simp[rest]⟩
  ·have hc2:(c==10)=false:=by simpa using hc
   have hp:piece (c::r)=c::piece r:=by unfold piece;rw[List.takeWhile_cons];simp[hc]
   have hr:rest (c::r)=rest r:=by unfold rest;rw[List.dropWhile_cons];simp[hc]
   rcases ih with ⟨h1,h2,h3⟩|⟨j,hj,h1,h2,h3⟩
   ·refine .inl ⟨?_,by rw[hp,h2],by rw[hr,h3]⟩
    rw[Lib.indexByte,hc2,h1];rfl
   ·refine .inr ⟨j+1,by simpa using hj,?_,by rw[hp,h2];rfl,by rw[hr,h3];rfl⟩
    rw[Lib.indexByte,hc2,h1]
    have:((j:Int) == -1)=false:=by rw[beq_eq_false_iff_ne];omega
    rw[this];simp
theorem piece_app {p r:List UInt8} (h:∀c∈p,c≠10):piece (p++10::r)=p/\rest (p++10::r)=r:=by
 induction p with
 |nil=>exact⟨by simp[piece],by simp[rest]⟩
 |cons c p ih=>
  obtain⟨h1,h2⟩:=ih fun x hx=>h x (List.mem_cons_of_mem _ hx)
  have hc:=h c (List.mem_cons_self ..);refine⟨?_,?_⟩
  ·rw[List.cons_append];unfold piece at *;rw[List.takeWhile_cons];simp[hc];simpa using h1
  ·rw[List.cons_append];unfold rest at *;rw[List.dropWhile_cons];simp[hc];simpa using h2
theorem lines_app {acc:List (List UInt8)} {p r:List UInt8} (h:∀c∈p,c≠10):lines acc (p++10::r)=lines (put acc (strip p)) r:=by
 rw[lines_step (by simp),(piece_app h).1,(piece_app h).2]
theorem strip_pre (p:List UInt8):∃t,p=strip p++t:=by
 unfold strip
 split
 ·rename_i h
  have hp:p≠[]:=by rintro rfl;simp at h
  exact⟨[p.getLast hp],(List.dropLast_concat_getLast hp).symm⟩
 ·exact⟨[],by simp⟩
theorem strip_len (p:List UInt8):(strip p).length<=p.length:=by
 obtain⟨t,h⟩:=strip_pre p
 have:=congrArg List.length h
 rw[List.length_append] at this;omega
theorem strip_take (p:List UInt8):strip p=p.take (strip p).length:=by
 obtain⟨t,h⟩:=strip_pre p
 exact(List.prefix_iff_eq_take.1 ⟨t,h.symm⟩)
theorem put_new {acc:List (List UInt8)} {p:List UInt8} (h:p.head?≠some 32):put acc p=acc++[p]:=by unfold put;rw[if_neg h]
theorem put_old {acc:List (List UInt8)} {z t:List UInt8}:put (acc++[z]) (32::t)=acc++[z++t]:=by
 unfold put;simp[List.getLastD_eq_getLast?]
def Room (acc:List (List UInt8)) (l:List UInt8):Prop:=(∀z∈acc,z.length+l.length<=4096)/\acc.length+l.length<=4096/\(acc=[]->blank1 l=false)
theorem piece_rest (l:List UInt8) (h:l≠[]):(piece l).length+(rest l).length<=l.length/\(rest l).length+1<=l.length:=by
 have e:=congrArg List.length (List.takeWhile_append_dropWhile (p:=(· != 10)) (l:=l))
 rw[List.length_append] at e
 have:=rest_lt h
 unfold piece rest at *
 rw[List.length_drop] at *
 omega
theorem strip_head {p:List UInt8} (h:(strip p).head? = some 32):p.head? = some 32:=by
 obtain⟨t,e⟩:=strip_pre p
 rw[e,List.head?_append,h];rfl
theorem piece_head {l:List UInt8} (h:(piece l).head? = some 32):l.head? = some 32:=by
 have e:=List.takeWhile_append_dropWhile (p:=(· != 10)) (l:=l)
 rw[<-e,List.head?_append];unfold piece at h;rw[h];rfl
theorem Room.old {acc:List (List UInt8)} {l:List UInt8} (h:Room acc l) (g:(strip (piece l)).head? = some 32):acc≠[]:=by
 rintro rfl
 have:=h.2.2 rfl
 unfold blank1 at this
 rw[piece_head (strip_head g)] at this
 simp at this
theorem Room.next {acc:List (List UInt8)} {l:List UInt8} (h:Room acc l) (hl:l≠[]):Room (put acc (strip (piece l))) (rest l):=by
 obtain⟨h1,h2,h3⟩:=h
 obtain⟨r1,r2⟩:=piece_rest l hl
 have r3:=strip_len (piece l)
 have hne:l.length<=4096:=by omega
 unfold put
 split
 ·rename_i g
  have hacc:=Room.old ⟨h1,h2,h3⟩ g;obtain⟨a,z,rfl⟩:∃a z,acc=a++[z]:=⟨_,_,(List.dropLast_concat_getLast hacc).symm⟩;have hz:=h1 z (by simp);refine⟨fun y hy => ?_,by simp at *;omega,fun e=>by simp at e⟩;simp only[List.dropLast_concat,List.mem_append,List.mem_singleton] at hy
  rcases hy with hy|rfl
  ·have:=h1 y (by simp[hy]);omega
  ·simp[List.getLastD_eq_getLast?];omega
 ·refine⟨fun y hy => ?_,by simp;omega,fun e=>by simp at e⟩
  rcases List.mem_append.1 hy with hy|hy
  ·have:=h1 y hy;omega
  ·obtain rfl:y=strip (piece l):=by simpa using hy
   omega
def splitL (l:List UInt8):List (List UInt8):=if 4096<l.length then [] else if faultB l=true then [] else lines [] l
def splitN (l:List UInt8):Int:=if 4096<l.length then 0 else if faultB l=true then faultN l else 0
def splitE (l:List UInt8):Int:=if 4096<l.length then 3 else if faultB l=true then 4 else 0
theorem split_long {l:List UInt8} (h:4096<l.length):splitL l=[]/\splitN l=0/\splitE l=3:=by
 unfold splitL splitN splitE;simp[h]
theorem split_bad {l:List UInt8} (h:l.length<=4096) (g:faultB l=true):splitL l=[]/\splitN l=faultN l/\splitE l=4:=by
 unfold splitL splitN splitE;simp[Nat.not_lt.2 h,g]
theorem split_good {l:List UInt8} (h:l.length<=4096) (g:faultB l=false):splitL l=lines [] l/\splitN l=0/\splitE l=0:=by
 unfold splitL splitN splitE;simp[Nat.not_lt.2 h,g]
def bef1 (c:UInt8) (l:List UInt8):List UInt8:=l.takeWhile (· != c)
def aft1 (c:UInt8) (l:List UInt8):List UInt8:=(l.dropWhile (· != c)).drop 1
theorem index_of (c:UInt8) (l:List UInt8):(Lib.indexByte l c = -1/\bef1 c l=l/\aft1 c l=[]/\c ∉ l)\/(∃j:Nat,j<l.length/\Lib.indexByte l c=j/\bef1 c l=l.take j/\aft1 c l=l.drop (j+1)/\c∈l):=by
 induction l with
 |nil=>exact .inl ⟨rfl,rfl,rfl,by simp⟩
 |cons x r ih=>
  by_cases hc:x=c
  ·subst hc
   exact .inr ⟨0,by simp,by simp[Lib.indexByte],by simp[bef1],by simp[aft1],by simp⟩
  ·have hc2:(x==c)=false:=by simpa using hc
   have hp:bef1 c (x::r)=x::bef1 c r:=by unfold bef1;rw[List.takeWhile_cons];simp[hc]
   have hr:aft1 c (x::r)=aft1 c r:=by unfold aft1;rw[List.dropWhile_cons];simp[hc]
   rcases ih with ⟨h1,h2,h3,h4⟩|⟨j,hj,h1,h2,h3,h4⟩
   ·refine .inl ⟨?_,by rw[hp,h2],by rw[hr,h3],?_⟩
    ·rw[Lib.indexByte,hc2,h1];rfl
    ·simp only[List.mem_cons,not_or];exact⟨fun e=>hc e.symm,h4⟩
   ·refine .inr ⟨j+1,by simpa using hj,?_,by rw[hp,h2];rfl,by rw[hr,h3];rfl,List.mem_cons_of_mem _ h4⟩
    rw[Lib.indexByte,hc2,h1]
    have:((j:Int) == -1)=false:=by rw[beq_eq_false_iff_ne];omega
    rw[this];simp
theorem bef1_len (c:UInt8) (l:List UInt8):(bef1 c l).length<=l.length:=by
 rcases index_of c l with ⟨-,h,-⟩|⟨j,_,-,h,-⟩
 ·rw[h];omega
 ·rw[h,List.length_take];omega
theorem aft1_len (c:UInt8) (l:List UInt8):(aft1 c l).length<=l.length:=by
 rcases index_of c l with ⟨-,-,h,-⟩|⟨j,_,-,-,h,-⟩
 ·rw[h];simp
 ·rw[h,List.length_drop];omega
theorem bef1_app {c:UInt8} {a r:List UInt8} (h:c ∉ a):bef1 c (a++c::r)=a/\aft1 c (a++c::r)=r:=by
 induction a with
 |nil=>exact⟨by simp[bef1],by simp[aft1]⟩
 |cons x a ih=>
  simp only[List.mem_cons,not_or] at h;obtain⟨h1,h2⟩:=ih h.2
  have hx:x≠c:=fun e=>h.1 e.symm
  refine⟨?_,?_⟩
  ·rw[List.cons_append];unfold bef1 at *;rw[List.takeWhile_cons];simp[hx];simpa using h1
  ·rw[List.cons_append];unfold aft1 at *;rw[List.dropWhile_cons];simp[hx];simpa using h2
end Go.Proofs.YtddnnljfgfcplaaGreatDoor.Fd
namespace Go.Proofs.YtddnnljfgfcplaaGreatDoor.Ru
open Go.Proofs.YtddnnljfgfcplaaGreatDoor.Fd
inductive Fl where
 |num (n:Int)
 |list (l:List Int)
 |days (l:List Dy)
def setF (r:Ru):Nat->Fl->Ru
 |0,.num n=>{ r with freq:=n }
 |1,.num n=>{ r with itv:=n }
 |2,.num n=>{ r with cnt:=n }
 |3,.num n=>{ r with til:=n,ends:=true }
 |4,.list l=>{ r with mon:=l }
 |5,.list l=>{ r with week:=l }
 |6,.list l=>{ r with yday:=l }
 |7,.list l=>{ r with mday:=l }
 |8,.days l=>{ r with day:=l }
 |9,.list l=>{ r with hour:=l }
 |10,.list l=>{ r with minu:=l }
 |11,.list l=>{ r with sec:=l }
 |12,.list l=>{ r with pos:=l }
 |13,.num n=>{ r with wkst:=n }
 |_,_=>r
def allSome {α β:Type} (f:α->Option β):List α->Option (List β)
 | []=>some []
 |x::l=>match f x,allSome f l with|some y,some m=>some (y::m)|_,_=>none
theorem allSome_map {α β γ:Type} {f:β->Option γ} {g:α->β} {h:α->γ} {l:List α} (e:∀x∈l,f (g x)=some (h x)):allSome f (l.map g)=some (l.map h):=by
 induction l with
 |nil=>rfl
 |cons x l ih=>
  rw[List.map_cons,allSome,e x (by simp),ih fun y hy=>e y (List.mem_cons_of_mem _ hy)];rfl
theorem allSome_len {α β:Type} {f:α->Option β}:∀ {l:List α} {m:List β},allSome f l=some m->m.length=l.length
 | [],m,h=>by injection h with h;rw[<-h];rfl
 |x::l,m,h=>by
  unfold allSome at h
  split at h
  ·rename_i h1 h2
   injection h with h;rw[<-h,List.length_cons,List.length_cons,allSome_len h2]
  ·cases h
noncomputable def numsOf (v:List UInt8):Option (List Int):=if 60<(cutAt 44 v).length then none else (allSome numOf (cutAt 44 v)).map (sortU iltB)
noncomputable def dayOf (z:List UInt8):Option Dy:=
 if z.length<2 then none else
  match wdayOf (z.drop (z.length-2)) with
  |none=>none
  |some w=>if z.length=2 then some ⟨0,w⟩ else match numOf (z.take (z.length-2)) with|none=>none|some n=>if n=0 then none else some ⟨n,w⟩
noncomputable def daysOf (v:List UInt8):Option (List Dy):=if 60<(cutAt 44 v).length then none else (allSome dayOf (cutAt 44 v)).map (sortU dltB)
def tilOf (v:List UInt8):Option Int:=if (St.parse v).2=0 then some (St.parse v).1 else none
noncomputable def valOf:Nat->List UInt8->Option Fl
 |0,v=>(freqOf v).map fun k => .num k
 |1,v=>(numOf v).map .num
 |2,v=>(numOf v).map .num
 |3,v=>(tilOf v).map .num
 |8,v=>(daysOf v).map .days
 |13,v=>(wdayOf v).map fun k => .num k
 |_,v=>(numsOf v).map .list
theorem valOf_0 (v:List UInt8):valOf 0 v=(freqOf v).map fun k=>Fl.num (k:Int):=by rw[valOf]
theorem valOf_1 (v:List UInt8):valOf 1 v=(numOf v).map Fl.num:=by rw[valOf]
theorem valOf_2 (v:List UInt8):valOf 2 v=(numOf v).map Fl.num:=by rw[valOf]
theorem valOf_3 (v:List UInt8):valOf 3 v=(tilOf v).map Fl.num:=by rw[valOf]
theorem valOf_8 (v:List UInt8):valOf 8 v=(daysOf v).map Fl.days:=by rw[valOf]
theorem valOf_13 (v:List UInt8):valOf 13 v=(wdayOf v).map fun k=>Fl.num (k:Int):=by rw[valOf]
noncomputable def partOf (p:List UInt8):Option (Nat×Fl):=
 if (61:UInt8)∈p then match keyOf (bef1 61 p) with|none=>none|some k=>(valOf k (aft1 61 p)).map fun f=>(k,f) else none
def zeroR:Ru:=⟨0,0,0,0,0,false,[],[],[],[],[],[],[],[],[]⟩
def startR:Ru:={ zeroR with itv:=1 }
def endP (r:Ru):Ru×Int×Int:=if r.freq=0 then (zeroR,0,7) else if mayR r=true then (r,0,0) else (zeroR,0,1)
noncomputable def parseL:Nat->List Nat->Ru->List (List UInt8)->Ru×Int×Int
 |_,_,r,[]=>endP r
 |i,seen,r,p::ps=>match partOf p with|none=>(zeroR,i,4)|some (k,f)=>if k∈seen then (zeroR,i,4) else parseL (i+1) (k::seen) (setF r k f) ps
noncomputable def ruParse (l:List UInt8):Ru×Int×Int:=if 4096<l.length then (zeroR,0,3) else parseL 0 [] startR (cutAt 59 l)
def commaL (l:List Int):List UInt8:=sep 44 (l.map Lib.itoa)
def dayT (d:Dy):List UInt8:=(if d.n=0 then [] else Lib.itoa d.n)++wdayW d.w.toNat
def listP (k:Nat) (l:List Int):List (Nat×List UInt8):=if l=[] then [] else [(k,commaL l)]
def fieldsP (r:Ru):List (Nat×List UInt8):=
 [(0,freqW r.freq.toNat)]++((if r.itv=1 then [] else [(1,Lib.itoa r.itv)])++((if r.cnt=0 then [] else [(2,Lib.itoa r.cnt)])++((if r.ends then [(3,St.text r.til)] else [])++(listP 4 r.mon++(listP 5 r.week++(listP 6 r.yday++(listP 7 r.mday ++
   ((if r.day=[] then [] else [(8,sep 44 (r.day.map dayT))])++(listP 9 r.hour++(listP 10 r.minu++(listP 11 r.sec++(listP 12 r.pos++(if r.wkst=0 then [] else [(13,wdayW r.wkst.toNat)])))))))))))))
def partT (kv:Nat×List UInt8):List UInt8:=nameK kv.1++61::kv.2
def ruText (r:Ru):List UInt8:=sep 59 ((fieldsP r).map partT)
theorem partOf_T {k:Nat} (hk:k<14) {v:List UInt8} {f:Fl} (h:valOf k v=some f):partOf (partT (k,v))=some (k,f):=by
 have hn:(61:UInt8) ∉ nameK k:=by
  have:∀k:Fin 14,(61:UInt8) ∉ nameK k.val:=by decide
  exact this ⟨k,hk⟩
 have b:=bef1_app (r:=v) hn
 unfold partOf partT
 rw[if_pos (by simp),b.1,b.2]
 rw[show keyOf (nameK k)=some k from keyOf_name ⟨k,hk⟩]
 simp[h]
theorem parseL_go {ps:List (List UInt8)}:∀ {kvs:List (Nat×List UInt8)} {i:Nat} {seen:List Nat} {r:Ru} (fs:Nat×List UInt8->Fl),(∀kv∈kvs,kv.1<14/\valOf kv.1 kv.2=some (fs kv))->(∀kv∈kvs,kv.1 ∉ seen)->(kvs.map Prod.fst).Nodup->
  parseL i seen r (kvs.map partT++ps)=parseL (i+kvs.length) ((kvs.map Prod.fst).reverse++seen) (kvs.foldl (fun r kv=>setF r kv.1 (fs kv)) r) ps
 | [],i,seen,r,fs,_,_,_=>rfl
 |kv::kvs,i,seen,r,fs,h,hs,hn=>by
  obtain⟨h1,h2⟩:=h kv (by simp);rw[List.map_cons,List.nodup_cons] at hn;rw[List.map_cons,List.cons_append,parseL,partOf_T h1 h2];simp only
  rw[if_neg (hs kv (by simp)),parseL_go fs (fun x hx=>h x (List.mem_cons_of_mem _ hx)) (fun x hx=>by
   simp only[List.mem_cons,not_or]
   refine⟨fun e=>hn.1 (e ▸ List.mem_map_of_mem hx),hs x (List.mem_cons_of_mem _ hx)⟩) hn.2]
  simp[Nat.add_comm 1,Nat.add_assoc]
def fieldF (r:Ru):Nat->Fl
 |0 => .num r.freq
 |1 => .num r.itv
 |2 => .num r.cnt
 |3 => .num r.til
 |4 => .list r.mon
 |5 => .list r.week
 |6 => .list r.yday
 |7 => .list r.mday
 |8 => .days r.day
 |9 => .list r.hour
 |10 => .list r.minu
 |11 => .list r.sec
 |12 => .list r.pos
 |_ => .num r.wkst
theorem numOf_itoa {n:Int} (h1:-999999999<=n) (h2:n<=999999999):numOf (Lib.itoa n)=some n:=numOf_of ⟨rfl,h1,h2⟩
theorem inB_of {l:List Int} {lo hi:Int} {z:Bool} (h:inB l lo hi z=true):(∀x∈l,lo<=x/\x<=hi/\(x≠0\/z=true))/\l.length<=60/\l.Pairwise (· < ·):=by
 unfold inB at h
 simp only[Bool.and_eq_true] at h
 exact⟨of_decide_eq_true h.1.1,of_decide_eq_true h.1.2,of_decide_eq_true h.2⟩
theorem dayB_of {l:List Dy} (h:dayB l=true):(∀x∈l,-53<=x.n/\x.n<=53/\0<=x.w/\x.w<=6)/\l.length<=60/\l.Pairwise dlt:=by
 unfold dayB at h
 simp only[Bool.and_eq_true] at h
 exact⟨of_decide_eq_true h.1.1,of_decide_eq_true h.1.2,of_decide_eq_true h.2⟩
theorem itoa_no44 (n:Int):(44:UInt8) ∉ Lib.itoa n:=itoa_no (by unfold isD;decide) (by decide)
theorem itoa_no59 (n:Int):(59:UInt8) ∉ Lib.itoa n:=itoa_no (by unfold isD;decide) (by decide)
theorem numsOf_comma {l:List Int} (h0:l≠[]) (hl:l.length<=60) (hb:∀x∈l,-999999999<=x/\x<=999999999):numsOf (commaL l)=some (sortU iltB l):=by
 unfold numsOf commaL
 have hc:cutAt 44 (sep 44 (l.map Lib.itoa))=l.map Lib.itoa:=cutAt_sep (by simpa using h0) (fun p hp=>by
  obtain⟨n,_,rfl⟩:=List.mem_map.1 hp;exact itoa_no44 n)
 rw[hc,if_neg (by rw[List.length_map];omega),allSome_map (f:=numOf) (g:=Lib.itoa) (h:=id) fun x hx=>numOf_itoa (hb x hx).1 (hb x hx).2]
 simp
theorem rise_lt {l:List Int} (h:l.Pairwise (· < ·)):l.Pairwise fun a b=>iltB a b=true:=h.imp fun g=>decide_eq_true g
theorem rise_dlt {l:List Dy} (h:l.Pairwise dlt):l.Pairwise fun a b=>dltB a b=true:=h.imp fun g=>decide_eq_true g
theorem numsOf_in {l:List Int} {lo hi:Int} {z:Bool} (h:inB l lo hi z=true) (h0:l≠[]) (h1:-999999999<=lo) (h2:hi<=999999999):numsOf (commaL l)=some l:=by
 obtain⟨a,b,c⟩:=inB_of h
 rw[numsOf_comma h0 b fun x hx=>by have:=a x hx;omega,sortU_id (rise_lt c)]
theorem wday_len:∀k:Fin 7,(wdayW k.val).length=2:=by decide
theorem wday_sign:∀k:Fin 7,∀c∈wdayW k.val,c≠44/\c≠59:=by decide
theorem freq_sign:∀k:Fin 8,∀c∈freqW k.val,c≠59:=by decide
theorem name_sign:∀k:Fin 14,∀c∈nameK k.val,c≠59/\c≠61:=by decide
theorem dayOf_T {d:Dy} (h1:-53<=d.n) (h2:d.n<=53) (h3:0<=d.w) (h4:d.w<=6):dayOf (dayT d)=some d:=by
 have hk:d.w.toNat<7:=by omega
 have wl:(wdayW d.w.toNat).length=2:=wday_len ⟨d.w.toNat,hk⟩
 have ww:wdayOf (wdayW d.w.toNat)=some d.w.toNat:=wdayOf_word ⟨d.w.toNat,hk⟩
 have hw:((d.w.toNat:Nat):Int)=d.w:=by omega
 unfold dayT dayOf
 by_cases h0:d.n=0
 ·rw[if_pos h0]
  simp only[List.nil_append,wl,Nat.sub_self,List.drop_zero,ww];simp only[if_neg (show ¬2<2 by omega),if_true,hw];cases d;simp only at h0 ⊢;rw[h0]
 ·rw[if_neg h0]
  have il:0<(Lib.itoa d.n).length:=List.length_pos_iff.2 (itoa_ne _)
  have e:(Lib.itoa d.n++wdayW d.w.toNat).length-2=(Lib.itoa d.n).length:=by rw[List.length_append,wl];omega
  rw[if_neg (by rw[List.length_append,wl];omega),e,List.drop_left,ww];simp only
  rw[if_neg (by rw[List.length_append,wl];omega),List.take_left,numOf_itoa (by omega) (by omega)];simp only
  rw[if_neg h0,hw]
theorem dayT_no {d:Dy} (h3:0<=d.w) (h4:d.w<=6) {c:UInt8} (hc:c=44\/c=59):c ∉ dayT d:=by
 have hk:d.w.toNat<7:=by omega
 unfold dayT
 intro h
 rcases List.mem_append.1 h with h|h
 ·split at h
  ·simp at h
  ·rcases hc with rfl|rfl
   ·exact itoa_no44 _ h
   ·exact itoa_no59 _ h
 ·have:=wday_sign ⟨d.w.toNat,hk⟩ c h
  rcases hc with rfl|rfl
  ·exact this.1 rfl
  ·exact this.2 rfl
theorem daysOf_in {l:List Dy} (h:dayB l=true) (h0:l≠[]):daysOf (sep 44 (l.map dayT))=some l:=by
 obtain⟨a,b,c⟩:=dayB_of h
 unfold daysOf
 have hc:cutAt 44 (sep 44 (l.map dayT))=l.map dayT:=cutAt_sep (by simpa using h0) (fun p hp=>by
  obtain⟨d,hd,rfl⟩:=List.mem_map.1 hp
  have:=a d hd
  exact dayT_no this.2.2.1 this.2.2.2 (.inl rfl))
 rw[hc,if_neg (by rw[List.length_map];omega),allSome_map (f:=dayOf) (g:=dayT) (h:=id) fun x hx=>by have:=a x hx;exact dayOf_T this.1 this.2.1 this.2.2.1 this.2.2.2]
 simp[sortU_id (rise_dlt c)]
theorem tilOf_text {t:Int} (h:mayT t=true):tilOf (St.text t)=some t:=by
 unfold tilOf;rw[St.parse_text h];rfl
theorem text_bytes {t:Int} (h:mayT t=true) {c:UInt8} (hc:c∈St.text t):St.isd c=true\/c=84:=by
 have hp:=St.parse_text h
 unfold St.parse at hp
 split at hp
 ·simp at hp
 ·rename_i g1
  split at hp
  ·simp at hp
  ·rename_i g2
   simp only[not_or] at g2;obtain⟨a,b,d,e⟩:=g2;obtain⟨j,hj,rfl⟩:=List.getElem_of_mem hc
   by_cases j8:j<8
   ·left
    have:=St.digs_at (l:=(St.text t).take 8) (by simpa using d) (k:=j) (by rw[List.length_take];omega)
    simpa using this
   ·by_cases e8:j=8
    ·right
     subst e8;rw[List.getD_eq_getElem?_getD,List.getElem?_eq_getElem hj] at b;exact UInt8.toNat_inj.1 (by simpa using b)
    ·left
     have:=St.digs_at (l:=(St.text t).drop 9) (by simpa using e) (k:=j-9) (by rw[List.length_drop];omega)
     rw[List.getElem_drop] at this;have e9:9+(j-9)=j:=by omega
     simpa [e9] using this
theorem text_no59 {t:Int} (h:mayT t=true):(59:UInt8) ∉ St.text t:=fun hc=>by
 rcases text_bytes h hc with g|g
 ·have:=of_decide_eq_true g;exact absurd this.2 (by decide)
 ·exact absurd g (by decide)
theorem listB_of {r:Ru} (h:listB r=true):inB r.mon 1 12 true=true/\inB r.week (-53) 53 false=true/\inB r.yday (-366) 366 false=true/\inB r.mday (-31) 31 false=true/\inB r.pos (-366) 366 false=true/\inB r.hour 0 23 true=true/\inB r.minu 0 59 true=true/\inB r.sec 0 59 true=true/\dayB r.day=true:=by
 unfold listB at h;simp only[Bool.and_eq_true] at h;simp only[h,and_self]
theorem endB_of {r:Ru} (h:endB r=true):(r.ends=true->mayT r.til=true/\r.cnt<=0)/\(r.ends=false->r.til=0):=by
 unfold endB at h
 cases e:r.ends
 ·rw[e] at h;exact⟨(fun g=>by cases g),fun _=>by simpa using h⟩
 ·rw[e,if_pos rfl,Bool.and_eq_true] at h;exact⟨fun _=>⟨h.2,of_decide_eq_true h.1⟩,(fun g=>by cases g)⟩
theorem listP_val {k:Nat} {l:List Int} {kv:Nat×List UInt8} {lo hi:Int} {z:Bool} (hin:inB l lo hi z=true) (h1:-999999999<=lo) (h2:hi<=999999999) (hk:∀v,valOf k v=(numsOf v).map .list) (h:kv∈listP k l):kv.1=k/\valOf k kv.2=some (.list l):=by
 unfold listP at h
 split at h
 ·simp at h
 ·rename_i h0
  obtain rfl:kv=(k,commaL l):=by simpa using h
  exact⟨rfl,by rw[hk,numsOf_in hin h0 h1 h2];rfl⟩
theorem fields_val {r:Ru} (h:mayR r=true):∀kv∈fieldsP r,kv.1<14/\valOf kv.1 kv.2=some (fieldF r kv.1):=by
 obtain⟨m1,m2,m3,-,-,-,-⟩:=mayR_of h
 obtain⟨f1,f2,i1,i2,c1,c2,w1,w2⟩:=of_decide_eq_true m1
 obtain⟨l1,l2,l3,l4,l5,l6,l7,l8,l9⟩:=listB_of m3
 have e1:=(endB_of m2).1
 intro kv hkv
 unfold fieldsP at hkv
 simp only[List.mem_append] at hkv
 rcases hkv with hkv|hkv|hkv|hkv|hkv|hkv|hkv|hkv|hkv|hkv|hkv|hkv|hkv|hkv
 ·obtain rfl:kv=(0,freqW r.freq.toNat):=by simpa using hkv
  refine⟨(by decide:(0:Nat)<14),?_⟩;rw[valOf_0,freqOf_word ⟨r.freq.toNat,by omega⟩ (by show 1<=r.freq.toNat;omega)]
  show some (Fl.num ((r.freq.toNat:Nat):Int))=some (Fl.num r.freq)
  rw[show ((r.freq.toNat:Nat):Int)=r.freq from by omega]
 ·split at hkv
  ·simp at hkv
  ·obtain rfl:kv=(1,Lib.itoa r.itv):=by simpa using hkv
   exact⟨(by decide:(1:Nat)<14),by rw[valOf_1,numOf_itoa (by omega) (by omega)];rfl⟩
 ·split at hkv
  ·simp at hkv
  ·obtain rfl:kv=(2,Lib.itoa r.cnt):=by simpa using hkv
   exact⟨(by decide:(2:Nat)<14),by rw[valOf_2,numOf_itoa (by omega) (by omega)];rfl⟩
 ·split at hkv
  ·rename_i he
   obtain rfl:kv=(3,St.text r.til):=by simpa using hkv
   exact⟨(by decide:(3:Nat)<14),by rw[valOf_3,tilOf_text (e1 he).1];rfl⟩
  ·simp at hkv
 ·obtain⟨a,b⟩:=listP_val l1 (by decide) (by decide) (fun _=>rfl) hkv;rw[a];exact⟨by decide,b⟩
 ·obtain⟨a,b⟩:=listP_val l2 (by decide) (by decide) (fun _=>rfl) hkv;rw[a];exact⟨by decide,b⟩
 ·obtain⟨a,b⟩:=listP_val l3 (by decide) (by decide) (fun _=>rfl) hkv;rw[a];exact⟨by decide,b⟩
 ·obtain⟨a,b⟩:=listP_val l4 (by decide) (by decide) (fun _=>rfl) hkv;rw[a];exact⟨by decide,b⟩
 ·split at hkv
  ·simp at hkv
  ·rename_i h0
   obtain rfl:kv=(8,sep 44 (r.day.map dayT)):=by simpa using hkv
   exact⟨(by decide:(8:Nat)<14),by rw[valOf_8,daysOf_in l9 h0];rfl⟩
 ·obtain⟨a,b⟩:=listP_val l6 (by decide) (by decide) (fun _=>rfl) hkv;rw[a];exact⟨by decide,b⟩
 ·obtain⟨a,b⟩:=listP_val l7 (by decide) (by decide) (fun _=>rfl) hkv;rw[a];exact⟨by decide,b⟩
 ·obtain⟨a,b⟩:=listP_val l8 (by decide) (by decide) (fun _=>rfl) hkv;rw[a];exact⟨by decide,b⟩
 ·obtain⟨a,b⟩:=listP_val l5 (by decide) (by decide) (fun _=>rfl) hkv;rw[a];exact⟨by decide,b⟩
 ·split at hkv
  ·simp at hkv
  ·obtain rfl:kv=(13,wdayW r.wkst.toNat):=by simpa using hkv
   refine⟨(by decide:(13:Nat)<14),?_⟩;rw[valOf_13,wdayOf_word ⟨r.wkst.toNat,by omega⟩]
   show some (Fl.num ((r.wkst.toNat:Nat):Int))=some (Fl.num r.wkst)
   rw[show ((r.wkst.toNat:Nat):Int)=r.wkst from by omega]
theorem fields_keys (r:Ru):((fieldsP r).map Prod.fst).Pairwise (· < ·):=by
 have h:((fieldsP r).map Prod.fst).Sublist ([0]++([1]++([2]++([3]++([4]++([5]++([6]++([7]++([8]++([9]++([10]++([11]++([12]++[13]))))))))))))):=by
  unfold fieldsP;simp only[List.map_append]
  repeat' apply List.Sublist.append
  all_goals first|(unfold listP;split<;>simp)|(split<;>simp)|simp
 exact List.Pairwise.sublist h (by decide)
end Go.Proofs.YtddnnljfgfcplaaGreatDoor.Ru
namespace Go.Proofs.YtddnnljfgfcplaaGreatDoor.Ru
open Go.Proofs.YtddnnljfgfcplaaGreatDoor.Fd
theorem fold_step {g:Ru->Nat×List UInt8->Ru} {L M:List (Nat×List UInt8)} {R R':Ru} (h:L.foldl g R=R'):(L++M).foldl g R=M.foldl g R':=by rw[List.foldl_append,h]
theorem fields_fold {r:Ru} (h:mayR r=true):(fieldsP r).foldl (fun R kv=>setF R kv.1 (fieldF r kv.1)) startR=r:=by
 have e1:=(endB_of (mayR_of h).2.1).2
 clear h
 obtain⟨freq,itv,cnt,til,wkst,ends,mon,week,yday,mday,day,hour,minu,sec,pos⟩:=r
 simp only at e1
 unfold fieldsP listP
 rw[fold_step (R':=⟨freq,1,0,0,0,false,[],[],[],[],[],[],[],[],[]⟩) rfl]
 rw[fold_step (R':=⟨freq,itv,0,0,0,false,[],[],[],[],[],[],[],[],[]⟩) (by split<;>first|(rename_i c;replace c:itv=1:=c;rw[c];rfl)|rfl)]
 rw[fold_step (R':=⟨freq,itv,cnt,0,0,false,[],[],[],[],[],[],[],[],[]⟩) (by split<;>first|(rename_i c;replace c:cnt=0:=c;rw[c];rfl)|rfl)]
 rw[fold_step (R':=⟨freq,itv,cnt,til,0,ends,[],[],[],[],[],[],[],[],[]⟩) (by cases ends<;>first|rfl|(rw[e1 rfl];rfl))]
 rw[fold_step (R':=⟨freq,itv,cnt,til,0,ends,mon,[],[],[],[],[],[],[],[]⟩) (by split<;>first|(rename_i c;replace c:mon=[]:=c;rw[c];rfl)|rfl)]
 rw[fold_step (R':=⟨freq,itv,cnt,til,0,ends,mon,week,[],[],[],[],[],[],[]⟩) (by split<;>first|(rename_i c;replace c:week=[]:=c;rw[c];rfl)|rfl)]
 rw[fold_step (R':=⟨freq,itv,cnt,til,0,ends,mon,week,yday,[],[],[],[],[],[]⟩) (by split<;>first|(rename_i c;replace c:yday=[]:=c;rw[c];rfl)|rfl)]
 rw[fold_step (R':=⟨freq,itv,cnt,til,0,ends,mon,week,yday,mday,[],[],[],[],[]⟩) (by split<;>first|(rename_i c;replace c:mday=[]:=c;rw[c];rfl)|rfl)]
 rw[fold_step (R':=⟨freq,itv,cnt,til,0,ends,mon,week,yday,mday,day,[],[],[],[]⟩) (by split<;>first|(rename_i c;replace c:day=[]:=c;rw[c];rfl)|rfl)]
 rw[fold_step (R':=⟨freq,itv,cnt,til,0,ends,mon,week,yday,mday,day,hour,[],[],[]⟩) (by split<;>first|(rename_i c;replace c:hour=[]:=c;rw[c];rfl)|rfl)]
 rw[fold_step (R':=⟨freq,itv,cnt,til,0,ends,mon,week,yday,mday,day,hour,minu,[],[]⟩) (by split<;>first|(rename_i c;replace c:minu=[]:=c;rw[c];rfl)|rfl)]
 rw[fold_step (R':=⟨freq,itv,cnt,til,0,ends,mon,week,yday,mday,day,hour,minu,sec,[]⟩) (by split<;>first|(rename_i c;replace c:sec=[]:=c;rw[c];rfl)|rfl)]
 rw[fold_step (R':=⟨freq,itv,cnt,til,0,ends,mon,week,yday,mday,day,hour,minu,sec,pos⟩) (by split<;>first|(rename_i c;replace c:pos=[]:=c;rw[c];rfl)|rfl)]
 split<;>first|(rename_i c;replace c:wkst=0:=c;rw[c];rfl)|rfl
theorem comma_no59 (l:List Int):(59:UInt8) ∉ commaL l:=fun h=>by
 rcases mem_sep h with h|⟨p,hp,h⟩
 ·exact absurd h (by decide)
 ·obtain⟨n,_,rfl⟩:=List.mem_map.1 hp
  exact itoa_no59 n h
theorem fields_no59 {r:Ru} (h:mayR r=true):∀kv∈fieldsP r,(59:UInt8) ∉ kv.2:=by
 obtain⟨m1,m2,m3,-,-,-,-⟩:=mayR_of h
 obtain⟨f1,f2,i1,i2,c1,c2,w1,w2⟩:=of_decide_eq_true m1
 obtain⟨a9,-,-⟩:=dayB_of (listB_of m3).2.2.2.2.2.2.2.2
 have e1:=(endB_of m2).1
 have hl:∀(k:Nat) (l:List Int) (kv:Nat×List UInt8),kv∈listP k l->(59:UInt8) ∉ kv.2:=fun k l kv hkv=>by
  unfold listP at hkv
  split at hkv
  ·simp at hkv
  ·obtain rfl:kv=(k,commaL l):=by simpa using hkv
   exact comma_no59 l
 intro kv hkv
 unfold fieldsP at hkv
 simp only[List.mem_append] at hkv
 rcases hkv with hkv|hkv|hkv|hkv|hkv|hkv|hkv|hkv|hkv|hkv|hkv|hkv|hkv|hkv
 ·obtain rfl:kv=(0,freqW r.freq.toNat):=by simpa using hkv
  exact fun g=>freq_sign ⟨r.freq.toNat,by omega⟩ 59 g rfl
 ·split at hkv
  ·simp at hkv
  ·obtain rfl:kv=(1,Lib.itoa r.itv):=by simpa using hkv
   exact itoa_no59 _
 ·split at hkv
  ·simp at hkv
  ·obtain rfl:kv=(2,Lib.itoa r.cnt):=by simpa using hkv
   exact itoa_no59 _
 ·split at hkv
  ·rename_i he
   obtain rfl:kv=(3,St.text r.til):=by simpa using hkv
   exact text_no59 (e1 he).1
  ·simp at hkv
 ·exact hl _ _ _ hkv
 ·exact hl _ _ _ hkv
 ·exact hl _ _ _ hkv
 ·exact hl _ _ _ hkv
 ·split at hkv
  ·simp at hkv
  ·obtain rfl:kv=(8,sep 44 (r.day.map dayT)):=by simpa using hkv
   intro g
   rcases mem_sep g with g|⟨p,hp,g⟩
   ·exact absurd g (by decide)
   ·obtain⟨d,hd,rfl⟩:=List.mem_map.1 hp
    have:=a9 d hd
    exact dayT_no this.2.2.1 this.2.2.2 (.inr rfl) g
 ·exact hl _ _ _ hkv
 ·exact hl _ _ _ hkv
 ·exact hl _ _ _ hkv
 ·exact hl _ _ _ hkv
 ·split at hkv
  ·simp at hkv
  ·obtain rfl:kv=(13,wdayW r.wkst.toNat):=by simpa using hkv
   exact fun g=>(wday_sign ⟨r.wkst.toNat,by omega⟩ 59 g).2 rfl
theorem parts_no59 {r:Ru} (h:mayR r=true):∀p∈(fieldsP r).map partT,(59:UInt8) ∉ p:=fun p hp=>by
 obtain⟨kv,hkv,rfl⟩:=List.mem_map.1 hp
 intro g
 unfold partT at g
 rcases List.mem_append.1 g with g|g
 ·exact(name_sign ⟨kv.1,(fields_val h kv hkv).1⟩ 59 g).1 rfl
 ·rcases List.mem_cons.1 g with g|g
  ·exact absurd g (by decide)
  ·exact fields_no59 h kv hkv g
theorem fields_ne (r:Ru):(fieldsP r).map partT≠[]:=by unfold fieldsP;simp
theorem text_parts {r:Ru} (h:mayR r=true):cutAt 59 (ruText r)=(fieldsP r).map partT:=cutAt_sep (fields_ne r) (parts_no59 h)
theorem fields_nodup (r:Ru):((fieldsP r).map Prod.fst).Nodup:=(fields_keys r).imp fun h=>Nat.ne_of_lt h
theorem parse_parts {r:Ru} (h:mayR r=true) (ps:List (List UInt8)):parseL 0 [] startR ((fieldsP r).map partT++ps)=parseL ((fieldsP r).map partT).length ((fieldsP r).map Prod.fst).reverse r ps:=by
 rw[parseL_go (fun kv=>fieldF r kv.1) (fields_val h) (fun _ _=>by simp) (fields_nodup r),fields_fold h]
 simp
theorem parse_text {r:Ru} (h:mayR r=true) (hl:(ruText r).length<=4096):ruParse (ruText r)=(r,0,0):=by
 unfold ruParse
 rw[if_neg (by omega),text_parts h]
 have:=parse_parts h []
 rw[List.append_nil] at this
 rw[this]
 show endP r=_
 have f:=(of_decide_eq_true (mayR_of h).1).1
 unfold endP
 rw[if_neg (by omega),if_pos h]
end Go.Proofs.YtddnnljfgfcplaaGreatDoor.Ru
namespace Go.Proofs.YtddnnljfgfcplaaGreatDoor.Ru
open Go.Proofs.YtddnnljfgfcplaaGreatDoor.Fd
theorem sep_len {c:UInt8}:∀(ps:List (List UInt8)),(sep c ps).length<=(ps.map fun p=>p.length+1).sum
 | []=>by simp[sep]
 | [p]=>by simp[sep]
 |p::q::ps=>by
  have:=sep_len (c:=c) (q::ps)
  rw[sep_cons,List.length_append,List.length_cons];simp only[List.map_cons,List.sum_cons] at this ⊢;omega
theorem itoa_len4 {n:Int} (h1:-999<=n) (h2:n<=999):(Lib.itoa n).length<=4:=by
 unfold Lib.itoa
 split
 ·have:=dec_len (k:=3) (n:=n.natAbs) (by decide) (by show n.natAbs<1000;omega)
  simp;omega
 ·have:=dec_len (k:=3) (n:=n.toNat) (by decide) (by show n.toNat<1000;omega)
  omega
theorem itoa_len9 {n:Int} (h1:-999999999<=n) (h2:n<=999999999):(Lib.itoa n).length<=10:=by
 unfold Lib.itoa
 split
 ·have:=dec_len (k:=9) (n:=n.natAbs) (by decide) (by show n.natAbs<1000000000;omega)
  simp;omega
 ·have:=dec_len (k:=9) (n:=n.toNat) (by decide) (by show n.toNat<1000000000;omega)
  omega
theorem comma_len {l:List Int} {k:Nat} (h:∀x∈l,(Lib.itoa x).length<=k):(commaL l).length<=l.length*(k+1):=by
 unfold commaL
 have:=len_sep (c:=44) (ps:=l.map Lib.itoa) (k:=k) (fun p hp=>by obtain⟨x,hx,rfl⟩:=List.mem_map.1 hp;exact h x hx)
 rwa [List.length_map] at this
theorem comma_in {l:List Int} {lo hi:Int} {z:Bool} (h:inB l lo hi z=true) (h1:-999<=lo) (h2:hi<=999):(commaL l).length<=300:=by
 obtain⟨a,b,-⟩:=inB_of h
 have:=comma_len (l:=l) (k:=4) fun x hx=>by have:=a x hx;exact itoa_len4 (by omega) (by omega)
 have:l.length*5<=60*5:=Nat.mul_le_mul_right 5 b
 omega
theorem name_len:∀k:Fin 14,(nameK k.val).length<=10:=by decide
theorem freq_len:∀k:Fin 8,(freqW k.val).length<=8:=by decide
theorem days_len {l:List Dy} (h:dayB l=true):(sep 44 (l.map dayT)).length<=420:=by
 obtain⟨a,b,-⟩:=dayB_of h
 have:=len_sep (c:=44) (ps:=l.map dayT) (k:=6) (fun p hp=>by
  obtain⟨d,hd,rfl⟩:=List.mem_map.1 hp
  have:=a d hd
  have w:=wday_len ⟨d.w.toNat,by omega⟩;simp only at w
  have i:=itoa_len4 (n:=d.n) (by omega) (by omega);unfold dayT;rw[List.length_append,w]
  split
  ·simp
  ·omega)
 rw[List.length_map] at this
 have:l.length*7<=60*7:=Nat.mul_le_mul_right 7 b
 omega
theorem text_len15 {t:Int}:(St.text t).length=15:=rfl
theorem part_len {kv:Nat×List UInt8} (h:kv.1<14):(partT kv).length<=11+kv.2.length:=by
 have:=name_len ⟨kv.1,h⟩
 simp only at this
 unfold partT;rw[List.length_append,List.length_cons];omega
theorem sum_opt {α:Type} {c:Prop} [Decidable c] (f:α->Nat) (x:α):((if c then [] else [x]).map f).sum<=f x:=by split<;>simp
theorem sum_opt2 {α:Type} {b:Bool} (f:α->Nat) (x:α):((if b=true then [x] else []).map f).sum<=f x:=by split<;>simp
theorem ruText_len {r:Ru} (h:mayR r=true):(ruText r).length<=4096:=by
 obtain⟨m1,m2,m3,-,-,-,-⟩:=mayR_of h
 obtain⟨f1,f2,i1,i2,c1,c2,w1,w2⟩:=of_decide_eq_true m1
 obtain⟨l1,l2,l3,l4,l5,l6,l7,l8,l9⟩:=listB_of m3
 have e:=sep_len (c:=59) ((fieldsP r).map partT)
 unfold ruText
 refine Nat.le_trans e ?_
 rw[List.map_map]
 unfold fieldsP listP
 simp only[List.map_append,List.sum_append]
 generalize hF:((fun p:List UInt8=>p.length+1)∘partT)=F
 have hf:∀k v,k<14->F (k,v)<=12+v.length:=fun k v hk=>by
  rw[<-hF];have:=part_len (kv:=(k,v)) hk;show (partT (k,v)).length+1<=_;simp only at this;omega
 have a0:=hf 0 (freqW r.freq.toNat) (by decide)
 have a0':=freq_len ⟨r.freq.toNat,by omega⟩
 have a1:=Nat.le_trans (sum_opt (c:=r.itv=1) F (1,Lib.itoa r.itv)) (hf _ _ (by decide))
 have a1':=itoa_len9 (n:=r.itv) (by omega) (by omega)
 have a2:=Nat.le_trans (sum_opt (c:=r.cnt=0) F (2,Lib.itoa r.cnt)) (hf _ _ (by decide))
 have a2':=itoa_len9 (n:=r.cnt) (by omega) (by omega)
 have a3:=Nat.le_trans (sum_opt2 (b:=r.ends) F (3,St.text r.til)) (hf _ _ (by decide))
 have a3':=text_len15 (t:=r.til)
 have a4:=Nat.le_trans (sum_opt (c:=r.mon=[]) F (4,commaL r.mon)) (hf _ _ (by decide))
 have a4':=comma_in l1 (by decide) (by decide)
 have a5:=Nat.le_trans (sum_opt (c:=r.week=[]) F (5,commaL r.week)) (hf _ _ (by decide))
 have a5':=comma_in l2 (by decide) (by decide)
 have a6:=Nat.le_trans (sum_opt (c:=r.yday=[]) F (6,commaL r.yday)) (hf _ _ (by decide))
 have a6':=comma_in l3 (by decide) (by decide)
 have a7:=Nat.le_trans (sum_opt (c:=r.mday=[]) F (7,commaL r.mday)) (hf _ _ (by decide))
 have a7':=comma_in l4 (by decide) (by decide)
 have a8:=Nat.le_trans (sum_opt (c:=r.day=[]) F (8,sep 44 (r.day.map dayT))) (hf _ _ (by decide))
 have a8':=days_len l9
 have a9:=Nat.le_trans (sum_opt (c:=r.hour=[]) F (9,commaL r.hour)) (hf _ _ (by decide))
 have a9':=comma_in l6 (by decide) (by decide)
 have a10:=Nat.le_trans (sum_opt (c:=r.minu=[]) F (10,commaL r.minu)) (hf _ _ (by decide))
 have a10':=comma_in l7 (by decide) (by decide)
 have a11:=Nat.le_trans (sum_opt (c:=r.sec=[]) F (11,commaL r.sec)) (hf _ _ (by decide))
 have a11':=comma_in l8 (by decide) (by decide)
 have a12:=Nat.le_trans (sum_opt (c:=r.pos=[]) F (12,commaL r.pos)) (hf _ _ (by decide))
 have a12':=comma_in l5 (by decide) (by decide)
 have a13:=Nat.le_trans (sum_opt (c:=r.wkst=0) F (13,wdayW r.wkst.toNat)) (hf _ _ (by decide))
 have a13':=wday_len ⟨r.wkst.toNat,by omega⟩
 simp only at a0' a13'
 have a0'':([(0,freqW r.freq.toNat)].map F).sum=F (0,freqW r.freq.toNat):=by simp
 rw[a0'']
 omega
theorem print_parse {r:Ru} (h:mayR r=true):ruParse (ruText r)=(r,0,0):=parse_text h (ruText_len h)
end Go.Proofs.YtddnnljfgfcplaaGreatDoor.Ru
namespace Go.Proofs.YtddnnljfgfcplaaGreatDoor.Ru
open Go.Proofs.YtddnnljfgfcplaaGreatDoor.Fd
theorem sort_all {l:List Int}:(sortU iltB l).Pairwise (· < ·)/\(sortU iltB l).length<=l.length/\∀y,y∈sortU iltB l↔y∈l:=by
 obtain⟨a,b,c⟩:=sort_spec (l:=l) ilt_tri ilt_tr (a:= []) List.Pairwise.nil
 exact⟨a.imp fun h=>of_decide_eq_true h,by simpa [sortU] using b,fun y=>by simpa [sortU] using c y⟩
end Go.Proofs.YtddnnljfgfcplaaGreatDoor.Ru
namespace Go.Proofs.YtddnnljfgfcplaaGreatDoor.Dd
open Cv St Ru
def ylen (y:Int):Int:=365+lp y
def yd (n:Int):Int:=n-ny (yr n)+1
def hasB (l:List Int) (f b:Int):Bool:=decide (l=[]\/f∈l\/b∈l)
def weekB (r:Ru) (n:Int):Bool:=if r.week=[] then true else isyear (wky n r.wkst)&&hasB r.week (wkn n r.wkst) (wkn n r.wkst-wks (wky n r.wkst) r.wkst-1)
def placeB (r:Ru) (n:Int):Bool:=hasB r.yday (yd n) (yd n-ylen (yr n)-1)&&hasB r.mday (dom n) (dom n-len (yr n) (mon n)-1)
def dhasB (l:List Dy) (w f b:Int):Bool:=decide (l=[]\/∃d∈l,d.w=w/\(d.n=0\/d.n=f\/d.n=b))
def dpl (r:Ru) (n:Int):Int:=if r.freq=1/\r.mon=[] then yd n else dom n
def dln (r:Ru) (n:Int):Int:=if r.freq=1/\r.mon=[] then ylen (yr n) else len (yr n) (mon n)
def dayFB (r:Ru) (n:Int):Bool:=dhasB r.day (wd n) ((dpl r n-1) / 7+1) (-((dln r n-dpl r n) / 7)-1)
def startB (r:Ru) (s n:Int):Bool:=
 if 0<r.yday.length+r.mday.length+r.day.length then true
 else if r.freq=3\/r.week≠[] then decide (wd n=wd s)
 else if r.freq=1 then decide (dom n=dom s/\(r.mon≠[]\/mon n=mon s))
 else if r.freq=2 then decide (dom n=dom s) else true
def fitB (r:Ru) (start n:Int):Bool:=hasB r.mon (mon n) (mon n)&&weekB r n&&placeB r n&&dayFB r n&&startB r (start / 86400) n
def fitsB (r:Ru) (start n:Int):Bool:=isday n&&mayR r&&St.may start&&fitB r start n
def wst (n k:Int):Int:=n-(wd n-k) % 7
def yro (r:Ru) (n:Int):Int:=if r.week=[] then yr n else wky n r.wkst
def perD (r:Ru) (n:Int):Int:=
 if r.freq=1 then yro r n else if r.freq=2 then yr n*12+mon n else if r.freq=3 then (n+3-r.wkst) / 7 else n
def per (r:Ru) (t:Int):Int:=
 if r.freq=5 then t / 3600 else if r.freq=6 then t / 60 else if r.freq=7 then t else perD r (t / 86400)
def pfirst (r:Ru) (n:Int):Int:=
 if r.freq=1 then (if r.week=[] then ny (yr n) else on (wky n r.wkst) r.wkst)
 else if r.freq=2 then ny (yr n)+ah (yr n) (mon n) else if r.freq=3 then wst n r.wkst else n
def plast (r:Ru) (n:Int):Int:=
 if r.freq=1 then (if r.week=[] then ny (yr n+1)-1 else on (wky n r.wkst+1) r.wkst-1)
 else if r.freq=2 then ny (yr n)+ah (yr n) (mon n)+len (yr n) (mon n)-1 else if r.freq=3 then wst n r.wkst+6 else n
def perR (r:Ru) (start t:Int):Int×Bool:=if mayR r&&St.may start&&St.may t then (per r t-per r start,true) else (0,false)
def daysR (r:Ru) (t:Int):Int×Int:=if mayR r&&St.may t then (max (pfirst r (t / 86400)) (-719162),min (plast r (t / 86400)) 2932896) else (0,0)
theorem wst_eq (n k:Int):wst n k=7*((n+3-k) / 7)+k-3:=by unfold wst wd;omega
theorem fo_wst (n k:Int):fo n k=wst n k+3:=by unfold fo wst;omega
theorem wky_iff {m k y:Int}:wky m k=y↔on y k<=m/\m<on (y+1) k:=by
 have e1:=fo_in m y k
 have e2:=fo_in m (y+1) k
 constructor
 ·intro h
  have s:=yr_spec (fo m k);rw[show yr (fo m k)=y from h] at s;omega
 ·intro h
  exact yr_of _ _ (by omega) (by omega)
theorem wst_on {n k:Int} (k1:0<=k) (k2:k<=6):wst n k-7*(wkn n k-1)=on (wky n k) k:=by
 unfold wky wkn wst
 have s:=(yr_spec (fo n k)).1
 generalize hy:ny (yr (fo n k))=a at *
 unfold on
 rw[hy]
 unfold fo wd at *
 omega
theorem on_div (y k:Int):(on (y+1) k-on y k) % 7=0:=by unfold on wd;omega
theorem on_len (y k:Int):on y k+7*wks y k=on (y+1) k:=by
 rw[wks_eq];have:=on_div y k;omega
theorem on_lt (y k:Int):on y k<on (y+1) k:=by
 have a:=on_bd y k;have b:=on_bd (y+1) k;have c:=ny_succ y;have d:=lp_01 y;omega
theorem yr_mono {a b:Int} (h:a<=b):yr a<=yr b:=by
 have s:=yr_spec a;have t:=yr_spec b
 by_cases c:yr b<yr a
 ·have:=ny_mono (yr b+1) (yr a) (by omega);omega
 ·omega
theorem mon_bd (n:Int):1<=mon n/\mon n<=12/\ny (yr n)+ah (yr n) (mon n)<=n/\n<ny (yr n)+ah (yr n) (mon n)+len (yr n) (mon n):=by
 have i:=in_year n
 obtain⟨a,b,c,d⟩:=mo_spec (yr n) (n-ny (yr n)) i.1 i.2
 have e:=ah_succ (yr n) (mon n) a b
 unfold mon at *
 omega
theorem mon_of {n y m:Int} (h1:1<=m) (h2:m<=12) (a:ny y+ah y m<=n) (b:n<ny y+ah y m+len y m):yr n=y/\mon n=m:=by
 have e:=ah_succ y m h1 h2
 have m1:=ah_mono y 1 m (by omega) h1
 have m2:=ah_mono y (m+1) 13 (by omega) (by omega)
 rw[ah_one] at m1
 rw[ah_end] at m2
 have hy:yr n=y:=yr_of _ _ (by omega) (by have:=ny_succ y;omega)
 refine⟨hy,?_⟩
 have i:=in_year n
 unfold mon
 rw[hy] at i ⊢
 exact mo_of y _ m i.1 i.2 h1 (by omega) (by omega)
theorem mon_mono {a b:Int} (h:a<=b):yr a*12+mon a<=yr b*12+mon b:=by
 have s:=mon_bd a;have t:=mon_bd b;have u:=yr_mono h
 by_cases c:yr a=yr b
 ·rw[c] at s ⊢
  by_cases d:mon b<mon a
  ·have e:=ah_succ (yr b) (mon b) t.1 t.2.1
   have f:=ah_mono (yr b) (mon b+1) (mon a) (by omega) (by omega);omega
  ·omega
 ·omega
theorem wky_mono {a b k:Int} (h:a<=b):wky a k<=wky b k:=by
 unfold wky
 exact yr_mono (by rw[fo_wst,fo_wst,wst_eq,wst_eq];omega)
theorem perD_mono {r:Ru} {a b:Int} (h:a<=b):perD r a<=perD r b:=by
 unfold perD yro
 split
 ·split
  ·exact yr_mono h
  ·exact wky_mono h
 ·split
  ·exact mon_mono h
  ·split<;>omega
theorem p_in (r:Ru) (n:Int):pfirst r n<=n/\n<=plast r n:=by
 unfold pfirst plast
 split
 ·split
  ·have:=yr_spec n;omega
  ·have:=(wky_iff (m:=n) (k:=r.wkst)).1 rfl;omega
 ·split
  ·have:=mon_bd n;omega
  ·split
   ·unfold wst;omega
   ·omega
theorem p_same {r:Ru} {n m:Int} (h:pfirst r n<=m/\m<=plast r n):perD r m=perD r n:=by
 unfold pfirst plast at h
 unfold perD yro
 split
 ·rename_i c
  rw[if_pos c,if_pos c] at h
  split
  ·rename_i d
   rw[if_pos d,if_pos d] at h;exact yr_of _ _ h.1 (by omega)
  ·rename_i d
   rw[if_neg d,if_neg d] at h;exact wky_iff.2 ⟨h.1,by omega⟩
 ·rename_i c
  rw[if_neg c,if_neg c] at h
  split
  ·rename_i d
   rw[if_pos d,if_pos d] at h;have b:=mon_bd n;obtain⟨e,f⟩:=mon_of b.1 b.2.1 h.1 (by omega);rw[e,f]
  ·rename_i d
   rw[if_neg d,if_neg d] at h
   split
   ·rename_i e
    rw[if_pos e,if_pos e,wst_eq] at h;omega
   ·rename_i e
    rw[if_neg e,if_neg e] at h;omega
theorem p_prev (r:Ru) (n:Int):perD r (pfirst r n-1)=perD r n-1:=by
 unfold pfirst perD yro
 split
 ·split
  ·refine yr_of _ _ ?_ ?_
   ·have:=ny_succ (yr n-1);rw[show yr n-1+1=yr n from by omega] at this;have:=lp_01 (yr n-1);omega
   ·rw[show yr n-1+1=yr n from by omega];omega
  ·refine wky_iff.2 ⟨?_,?_⟩
   ·have:=on_lt (wky n r.wkst-1) r.wkst;rw[show wky n r.wkst-1+1=wky n r.wkst from by omega] at this;omega
   ·rw[show wky n r.wkst-1+1=wky n r.wkst from by omega];omega
 ·split
  ·have b:=mon_bd n
   by_cases c:mon n=1
   ·rw[c,ah_one]
    have e:ah (yr n-1) 13=365+lp (yr n-1):=ah_end _
    have f:=ah_succ (yr n-1) 12 (by omega) (by omega);rw[show (12:Int)+1=13 from rfl] at f;have g:=ny_succ (yr n-1);rw[show yr n-1+1=yr n from by omega] at g;have l:=len_lo (yr n-1) 12 (by omega) (by omega);obtain⟨x,y⟩:=mon_of (n:=ny (yr n)+0-1) (y:=yr n-1) (m:=12) (by omega) (by omega) (by omega) (by omega);rw[x,y];omega
   ·have f:=ah_succ (yr n) (mon n-1) (by omega) (by omega)
    rw[show mon n-1+1=mon n from by omega] at f;have l:=len_lo (yr n) (mon n-1) (by omega) (by omega);obtain⟨x,y⟩:=mon_of (n:=ny (yr n)+ah (yr n) (mon n)-1) (y:=yr n) (m:=mon n-1) (by omega) (by omega) (by omega) (by omega);rw[x,y];omega
  ·split
   ·rw[wst_eq];omega
   ·omega
theorem p_next (r:Ru) (n:Int):perD r (plast r n+1)=perD r n+1:=by
 unfold plast perD yro
 split
 ·split
  ·refine yr_of _ _ (by omega) ?_
   have:=ny_succ (yr n+1);have:=lp_01 (yr n+1);omega
  ·refine wky_iff.2 ⟨by omega,?_⟩
   have:=on_lt (wky n r.wkst+1) r.wkst;omega
 ·split
  ·have b:=mon_bd n
   have f:=ah_succ (yr n) (mon n) b.1 b.2.1
   by_cases c:mon n=12
   ·rw[c] at f b ⊢
    rw[show (12:Int)+1=13 from rfl,ah_end] at f;have g:=ny_succ (yr n);have l:=len_lo (yr n+1) 1 (by omega) (by omega);obtain⟨x,y⟩:=mon_of (n:=ny (yr n)+ah (yr n) 12+len (yr n) 12-1+1) (y:=yr n+1) (m:=1) (by omega) (by omega) (by rw[ah_one];omega) (by rw[ah_one];omega);rw[x,y];omega
   ·have l:=len_lo (yr n) (mon n+1) (by omega) (by omega)
    obtain⟨x,y⟩:=mon_of (n:=ny (yr n)+ah (yr n) (mon n)+len (yr n) (mon n)-1+1) (y:=yr n) (m:=mon n+1) (by omega) (by omega) (by omega) (by omega);rw[x,y];omega
  ·split
   ·rw[wst_eq];omega
   ·omega
theorem p_iff {r:Ru} {n m:Int}:perD r m=perD r n↔pfirst r n<=m/\m<=plast r n:=by
 constructor
 ·intro h
  constructor
  ·by_cases c:m<pfirst r n
   ·have a:=perD_mono (r:=r) (a:=m) (b:=pfirst r n-1) (by omega)
    have b:=p_prev r n;omega
   ·omega
  ·by_cases c:plast r n<m
   ·have a:=perD_mono (r:=r) (a:=plast r n+1) (b:=m) (by omega)
    have b:=p_next r n;omega
   ·omega
 ·exact p_same
end Go.Proofs.YtddnnljfgfcplaaGreatDoor.Dd
namespace Go.Proofs.YtddnnljfgfcplaaGreatDoor.Dd
open Cv St Ru
theorem hasB_nil (f b:Int):hasB [] f b=true:=decide_eq_true (.inl rfl)
def timB (l:List Int) (alone:Bool) (own:Int) (most:Nat):List Int:=if l≠[] then l else if alone then [own] else (List.range most).map Int.ofNat
def timH (r:Ru) (start:Int):List Int:=timB r.hour (decide (r.freq<=4)) (start % 86400 / 3600) 24
def timM (r:Ru) (start:Int):List Int:=timB r.minu (decide (r.freq<=5)) (start % 86400 % 3600 / 60) 60
def timS (r:Ru) (start:Int):List Int:=timB r.sec (decide (r.freq<=6)) (start % 86400 % 60) 60
theorem riseB_range (n:Nat):riseB ((List.range n).map Int.ofNat)=true:=by
 refine decide_eq_true ?_
 rw[List.pairwise_map]
 exact List.pairwise_lt_range.imp fun h=>by simpa using h
theorem tim_ok {l:List Int} {alone:Bool} {own:Int} {most:Nat} (hm:1<=most) (hl:inB l 0 ((most:Int)-1) true=true) (h0:0<=own) (h1:own<most):
  riseB (timB l alone own most)=true/\1<=(timB l alone own most).length/\(timB l alone own most).length<=max 60 most/\(∀x∈timB l alone own most,0<=x/\x<=(most:Int)-1)/\(l=[]->own∈timB l alone own most):=by
 unfold timB
 split
 ·rename_i c
  unfold inB at hl;simp only[Bool.and_eq_true] at hl;obtain⟨⟨a,b⟩,d⟩:=hl;have a:=of_decide_eq_true a;have b:=of_decide_eq_true b;refine⟨d,?_,by omega,fun x hx=>⟨(a x hx).1,(a x hx).2.1⟩,fun e=>absurd e c⟩
  cases l with
  |nil=>exact absurd rfl c
  |cons x l=>simp
 ·split
  ·refine⟨by unfold riseB;simp,by simp,by simp;omega,fun x hx => ?_,fun _=>by simp⟩
   simp at hx;subst hx;omega
  ·refine⟨riseB_range most,by simp;omega,by simp;omega,fun x hx => ?_,fun _ => ?_⟩
   ·simp at hx
    obtain⟨i,hi,rfl⟩:=hx;omega
   ·rw[List.mem_map]
    exact⟨own.toNat,by rw[List.mem_range];omega,by simp;omega⟩
end Go.Proofs.YtddnnljfgfcplaaGreatDoor.Dd
