/- MeX6 -/
import Derived.Test.YtddnnljfgfcplaaGreatDoorMePp
import Derived.Test.YtddnnljfgfcplaaGreatDoorMeX5
import Derived.Test.YtddnnljfgfcplaaGreatDoorMeX3
set_option linter.unusedVariables false
namespace Go.Proofs.YtddnnljfgfcplaaGreatDoor.Me
open Go.RowKit Cv St Ru Dd Mb Ex
def exW:Ru:=⟨3,1,2,0,0,false,[],[],[],[],[],[],[],[],[]⟩
def weeklyR:Ru:=⟨3,1,0,0,0,false,[],[],[],[],[],[],[],[],[]⟩
def txW:List UInt8:= [70,82,69,81,61,87,69,69,75,76,89,59,67,79,85,78,84,61,50]
theorem itoa_2:Lib.itoa 2=[50]:=by
 unfold Lib.itoa
 rw[if_neg (by decide),show (2:Int).toNat=2 from rfl,Lib.decDigits_one (by decide)];rfl
theorem itoa_0:Lib.itoa 0=[48]:=by
 unfold Lib.itoa
 rw[if_neg (by decide),show (0:Int).toNat=0 from rfl,Lib.decDigits_one (by decide)];rfl
theorem exW_may:mayR exW=true:=by decide +kernel
theorem weekly_may:mayR weeklyR=true:=by decide +kernel
theorem exW_text:ruText exW=txW:=by
 have f:fieldsP exW=[(0,freqW 3),(2,[50])]:=by
  unfold fieldsP exW;simp only[itoa_2];rfl
 unfold ruText
 rw[f]
 decide
theorem exW_parse:ruParse txW=(exW,0,0):=by
 have h:=print_parse exW_may
 rw[exW_text] at h
 exact h
def L1:List UInt8:= [68,84,83,84,65,82,84,59,84,90,73,68,61,48,58,50,48,50,54,48,49,48,53,84,48,57,48,48,48,48]
def L2:List UInt8:= [68,85,82,65,84,73,79,78,58,80,84,49,72]
def L3:List UInt8:= [82,82,85,76,69,58,70,82,69,81,61,87,69,69,75,76,89,59,67,79,85,78,84,61,50]
def tx9:List UInt8:= [68,84,83,84,65,82,84,59,84,90,73,68,61,48,58,50,48,50,54,48,49,48,53,84,48,57,48,48,48,48,13,10,68,85,82,65,84,73,79,78,58,80,84,49,72,13,10,82,82,85,76,69,58,70,82,69,81,61,87,69,69,75,76,89,59,67,79,85,78,84,61,50,13,10]
theorem tx9_good:Fd.faultB tx9=false:=by decide +kernel
theorem tx9_lines:Fd.lines [] tx9=[L1,L2,L3]:=by
 rw[show tx9=(L1++[13])++10::((L2++[13])++10::((L3++[13])++10::[])) from rfl,Fd.lines_app (by decide),Fd.lines_app (by decide),Fd.lines_app (by decide),Fd.lines_nil]
 decide
theorem tx9_split:Fd.splitL tx9=[L1,L2,L3]/\Fd.splitE tx9=0:=by
 obtain⟨h1,-,h3⟩:=Fd.split_good (l:=tx9) (by decide) tx9_good
 rw[h1,tx9_lines]
 exact⟨rfl,h3⟩
def ex9:Mt:=⟨0,1767603600,3600,true,exW,[],[]⟩
theorem ex9_may:mayM ex9=true:=by decide +kernel
theorem ex9_s:St.parse [50,48,50,54,48,49,48,53,84,48,57,48,48,48,48]=(1767603600,0):=by decide +kernel
theorem ex9_h:St.parse [50,48,50,54,48,51,48,49,84,48,48,48,48,48,48]=(1772323200,0):=by decide +kernel
theorem ex9_a:St.parse [50,48,50,54,48,49,48,53,84,48,56,48,48,48,48]=(1767600000,0):=by decide +kernel
theorem ex9_b:St.parse [50,48,50,54,48,49,49,50,84,48,56,48,48,48,48]=(1768204800,0):=by decide +kernel
theorem ex9_d:St.durParse [80,84,49,72]=(3600,0):=by decide +kernel
theorem num_0:numOf [48]=some 0:=numOf_of ⟨itoa_0,by decide,by decide⟩
theorem ex9_parse:meetParse tx9=(ex9,0,0):=by
 unfold meetParse
 rw[if_pos tx9_split.2,tx9_split.1]
 have o1:openR L1 0=(0,[48,58,50,48,50,54,48,49,48,53,84,48,57,48,48,48,48],true):=by decide +kernel
 have o2:openR L2 1=(1,[80,84,49,72],true):=by decide +kernel
 have o3:openR L3 2=(2,txW,true):=by decide +kernel
 have c1:Lib.cut [48,58,50,48,50,54,48,49,48,53,84,48,57,48,48,48,48] [58]=([48],[50,48,50,54,48,49,48,53,84,48,57,48,48,48,48],true):=by decide +kernel
 have t1:takeM zeroM 0 [48,58,50,48,50,54,48,49,48,53,84,48,57,48,48,48,48]=some ⟨0,1767603600,0,false,Me.zeroR,[],[]⟩:=by
  rw[show takeM zeroM 0 [48,58,50,48,50,54,48,49,48,53,84,48,57,48,48,48,48]=startM zeroM (numOf (Lib.cut [48,58,50,48,50,54,48,49,48,53,84,48,57,48,48,48,48] [58]).1) (St.parse (Lib.cut [48,58,50,48,50,54,48,49,48,53,84,48,57,48,48,48,48] [58]).2.1) from rfl,c1,num_0,ex9_s];rfl
 have t2:takeM ⟨0,1767603600,0,false,Me.zeroR,[],[]⟩ 1 [80,84,49,72]=some ⟨0,1767603600,3600,false,Me.zeroR,[],[]⟩:=by
  rw[show takeM ⟨0,1767603600,0,false,Me.zeroR,[],[]⟩ 1 [80,84,49,72]=if (St.durParse [80,84,49,72]).2=0 then some ⟨0,1767603600,(St.durParse [80,84,49,72]).1,false,Me.zeroR,[],[]⟩ else none from rfl,ex9_d];rfl
 have t3:takeM ⟨0,1767603600,3600,false,Me.zeroR,[],[]⟩ 2 txW=some ex9:=by
  rw[show takeM ⟨0,1767603600,3600,false,Me.zeroR,[],[]⟩ 2 txW=if (ruParse txW).2.2=0 then some ⟨0,1767603600,3600,true,(ruParse txW).1,[],[]⟩ else none from rfl,exW_parse];rfl
 rw[parse_some o1 t1,parse_some o2 t2,parse_some o3 t3,parseM,if_neg (by decide),if_pos ex9_may]
theorem weekly_raw {start t:Int} (hs:St.may start=true) (ht:St.may t=true):
  rawB weeklyR start t=(decide (wd (t / 86400)=wd (start / 86400))&&decide (t % 86400=start % 86400)):=by
 have f:fitsB weeklyR start (t / 86400)=decide (wd (t / 86400)=wd (start / 86400)):=by
  unfold fitsB;rw[weekly_may,hs,may_isday ht];unfold fitB weekB Dd.placeB dayFB startB weeklyR
  simp[hasB,dhasB]
 have p:∀u,(per weeklyR u-per weeklyR start) % weeklyR.itv=0:=fun u=>Int.emod_one _
 unfold rawB inPer
 rw[weekly_may,hs,ht,f,decide_eq_true (p t)]
 have th:timH weeklyR start=[start % 86400 / 3600]:=rfl
 have tm:timM weeklyR start=[start % 86400 % 3600 / 60]:=rfl
 have ts:timS weeklyR start=[start % 86400 % 60]:=rfl
 rw[th,tm,ts]
 unfold ownH ownM ownS
 simp only[List.mem_singleton,Bool.true_and,Bool.and_true,Bool.and_assoc]
 congr 1
 rw[<-Bool.decide_and,<-Bool.decide_and]
 refine decide_eq_decide.2 ?_
 omega
theorem weekly_has {start t:Int}:hasM weeklyR start t=(decide (start<=t)&&rawB weeklyR start t):=by
 unfold hasM weeklyR
 simp
theorem exW_list:listR exW 1767603600 1772496000 4096=([1767603600,1768208400],0):=by
 have e:momL exW 1767603600 1767603600 1772496000=[1767603600,1768208400]:=by
  have h:selL (hasM exW 1767603600) 1767603600 1768208401=[1767603600,1768208400]:=by
   refine(sel_eq (by decide) fun x => ?_).symm;have q:hasM exW 1767603600 x=hasM weeklyR 1767603600 x:=less_count (r:=weeklyR) (c:=2) weekly_may exW_may
   rw[q,weekly_has];constructor
   ·intro hx
    have hx:x=1767603600\/x=1768208400:=by simpa using hx
    have m:St.may x=true:=decide_eq_true (by omega)
    rw[weekly_raw (by decide) m];refine⟨by omega,by omega,?_⟩
    rcases hx with rfl|rfl<;>decide
   ·rintro⟨a,b,c⟩
    have m:St.may x=true:=decide_eq_true (by omega)
    rw[weekly_raw (by decide) m] at c;simp only[Bool.and_eq_true,decide_eq_true_eq] at c;unfold wd at c
    have:x=1767603600\/x=1768208400:=by omega
    simpa using this
  unfold momL cutL;rw[if_neg (by decide),show hiR exW 1772496000=1772496000 from rfl,<-sel_cat (b:=1768208401) (by decide) (by decide),h];rfl
 unfold listR
 rw[if_neg (by decide +kernel),e]
 rfl
theorem ex9_local:localR ex9 1772496000=([1767603600,1768208400],0):=by
 have t:toldR ex9 1772496000=([1767603600,1768208400],0):=by
  unfold ex9;rw[told_yes];exact exW_list
 have a:allR ex9 [1767603600,1768208400]=[1767603600,1768208400]:=by
  unfold allR;rw[show ex9.dates=[] from rfl,show ex9.exc=[] from rfl,merge_nil];rfl
 have k:cntR 1772496000 [1767603600,1768208400]=2:=by
  unfold cntR;rw[List.countP_cons_of_pos (by decide),List.countP_cons_of_pos (by decide)];rfl
 have q:=local_yes ex9_may t a k
 rw[q,if_neg (show ¬4096<2 by omega)]
 rfl
theorem ex9_spansG:spansG ex9 1 true (fun L=>L-3600) 1772323200=([(1767600000,1767603600),(1768204800,1768208400)],0):=by
 unfold spansG
 rw[if_neg (by decide +kernel),show (1772323200:Int)+172800=1772496000 from rfl,ex9_local,if_neg (by decide)]
 have u:begG (fun L=>L-3600) 1772323200 [1767603600,1768208400]=[1767600000,1768204800]:=by decide +kernel
 have s:sortG [1767600000,1768204800]=[1767600000,1768204800]:=List.mergeSort_of_pairwise (by decide)
 show (joinL 3600 (sortG (begG (fun L=>L-3600) 1772323200 [1767603600,1768208400])),(0:Int))=_
 rw[u,s]
 decide +kernel
theorem ex9_in {x:Int} (hx:x∈(localR ex9 (1772323200+172800)).1):x=1767603600\/x=1768208400:=by
 rw[show (1772323200:Int)+172800=1772496000 from rfl,ex9_local] at hx
 simpa using hx
end Go.Proofs.YtddnnljfgfcplaaGreatDoor.Me
namespace Go.Proofs.YtddnnljfgfcplaaGreatDoor.Me
open Lib (hid)
open Go.RowKit Cv St Ru Dd Mb Ex
theorem tx9_at (w:World):Fd.BsAt (w.alloc (.cells #[.int .u8 68,.int .u8 84,.int .u8 83,.int .u8 84,.int .u8 65,.int .u8 82,.int .u8 84,.int .u8 59,.int .u8 84,.int .u8 90,.int .u8 73,.int .u8 68,.int .u8 61,.int .u8 48,.int .u8 58,.int .u8 50,.int .u8 48,.int .u8 50,.int .u8 54,.int .u8 48,.int .u8 49,.int .u8 48,.int .u8 53,.int .u8 84,.int .u8 48,.int .u8 57,.int .u8 48,.int .u8 48,.int .u8 48,.int .u8 48,.int .u8 13,.int .u8 10,.int .u8 68,.int .u8 85,.int .u8 82,.int .u8 65,.int .u8 84,.int .u8 73,.int .u8 79,.int .u8 78,.int .u8 58,.int .u8 80,.int .u8 84,.int .u8 49,.int .u8 72,.int .u8 13,.int .u8 10,.int .u8 82,.int .u8 82,.int .u8 85,.int .u8 76,.int .u8 69,.int .u8 58,.int .u8 70,.int .u8 82,.int .u8 69,.int .u8 81,.int .u8 61,.int .u8 87,.int .u8 69,.int .u8 69,.int .u8 75,.int .u8 76,.int .u8 89,.int .u8 59,.int .u8 67,.int .u8 79,.int .u8 85,.int .u8 78,.int .u8 84,.int .u8 61,.int .u8 50,.int .u8 13,.int .u8 10] 5 (74,75))) (some ⟨w.heap.size,0,none⟩) 74 tx9:=Fd.lit_at w tx9 _ _ _ rfl
theorem sp9_at (w:World) (T:TypeId):SpAt (w.alloc (.cells #[.int .i64 1767600000,.int .i64 1767603600,.int .i64 1768204800,.int .i64 1768208400] T)) (some ⟨w.heap.size,0,none⟩) 2 [(1767600000,1767603600),(1768204800,1768208400)]:=
 ⟨rfl,fun _=>⟨w.heap.size,0,rfl,by simp,fun j hj=>by
  rcases(by omega:j=0\/j=1) with rfl|rfl<;>simp[pat]⟩⟩
set_option maxRecDepth 100000 in
set_option maxHeartbeats 16000000 in
theorem first9_is (w:World) (T:Tabs w) (H:Heads w):Calls Tryz.prog 8 #[] w fun e w'=>e= .returned (.bool true)/\Below w.heap.size w w':=by
 have TT:=hid T
 have HH:=hid H
 clear T H
 have b0:=Ru.alloc_below w (.cells #[.int .u8 68,.int .u8 84,.int .u8 83,.int .u8 84,.int .u8 65,.int .u8 82,.int .u8 84,.int .u8 59,.int .u8 84,.int .u8 90,.int .u8 73,.int .u8 68,.int .u8 61,.int .u8 48,.int .u8 58,.int .u8 50,.int .u8 48,.int .u8 50,.int .u8 54,.int .u8 48,.int .u8 49,.int .u8 48,.int .u8 53,.int .u8 84,.int .u8 48,.int .u8 57,.int .u8 48,.int .u8 48,.int .u8 48,.int .u8 48,.int .u8 13,.int .u8 10,.int .u8 68,.int .u8 85,.int .u8 82,.int .u8 65,.int .u8 84,.int .u8 73,.int .u8 79,.int .u8 78,.int .u8 58,.int .u8 80,.int .u8 84,.int .u8 49,.int .u8 72,.int .u8 13,.int .u8 10,.int .u8 82,.int .u8 82,.int .u8 85,.int .u8 76,.int .u8 69,.int .u8 58,.int .u8 70,.int .u8 82,.int .u8 69,.int .u8 81,.int .u8 61,.int .u8 87,.int .u8 69,.int .u8 69,.int .u8 75,.int .u8 76,.int .u8 89,.int .u8 59,.int .u8 67,.int .u8 79,.int .u8 85,.int .u8 78,.int .u8 84,.int .u8 61,.int .u8 50,.int .u8 13,.int .u8 10] 5 (74,75))
 have kc:=Fd.const_bytes
 have PA:=hid (parseM_is _ (TT.out.on b0) (HH.out.on b0) _ 74 74 tx9 (tx9_at w) (Nat.le_refl _) (by decide) _ ex9_parse)
 have B0:=hid b0
 clear b0
 go_enter Tryz.func8,Tryz.ntmps8
 go_wp2_with fail
 refine PA.out.mono ?_
 rintro e w1 ⟨S,rfl,hm,b1⟩
 have B1:=hid (B0.out.trans (b1.mono B0.out.size))
 have M1:=hid hm
 obtain⟨w2,hw2⟩:∃w2:World,w2=(w1.alloc (.cells #[.int .i64 0,.int .i64 0,.int .i64 0,.bool false,.int .i64 0,.int .i64 0,.int .i64 0,.int .i64 0,.int .i64 0,.bool false,.slice none 0 0,.slice none 0 0,.slice none 0 0,.slice none 0 0,.slice none 0 0,.slice none 0 0,.slice none 0 0,.slice none 0 0,.slice none 0 0,.slice none 0 0,.slice none 0 0] 27)).setCells w1.heap.size 0 (mcells S ex9):=⟨_,rfl⟩
 have th:(w1.alloc (.cells #[.int .i64 0,.int .i64 0,.int .i64 0,.bool false,.int .i64 0,.int .i64 0,.int .i64 0,.int .i64 0,.int .i64 0,.bool false,.slice none 0 0,.slice none 0 0,.slice none 0 0,.slice none 0 0,.slice none 0 0,.slice none 0 0,.slice none 0 0,.slice none 0 0,.slice none 0 0,.slice none 0 0,.slice none 0 0] 27)).there w1.heap.size 0 (mcells S ex9).length:=there_new _ _ _ (Nat.le_refl 21)
 have st:Below w1.heap.size w1 w2:=by rw[hw2];exact cells_below (Nat.le_refl _) _ _ _ (Ru.alloc_below w1 _)
 have RG:=hid (show w2.rangeAt w1.heap.size 0 (mcells S ex9) by rw[hw2];exact World.rangeAt_setCells_same _ _ _ _ th)
 have LT:=hid (show w1.heap.size<w2.heap.size by
  have:w1.heap.size<(w1.alloc (.cells #[.int .i64 0,.int .i64 0,.int .i64 0,.bool false,.int .i64 0,.int .i64 0,.int .i64 0,.int .i64 0,.int .i64 0,.bool false,.slice none 0 0,.slice none 0 0,.slice none 0 0,.slice none 0 0,.slice none 0 0,.slice none 0 0,.slice none 0 0,.slice none 0 0,.slice none 0 0,.slice none 0 0,.slice none 0 0] 27)).heap.size:=by simp
  rw[hw2]
  exact Nat.lt_of_lt_of_le this (Kg.cells (g:=w1.heap.size) _ _ _).size)
 have M2:=hid (M1.out.below st)
 have B2:=hid (B1.out.trans (st.mono B1.out.size))
 have TH:=hid (show (w1.alloc (.cells #[.int .i64 0,.int .i64 0,.int .i64 0,.bool false,.int .i64 0,.int .i64 0,.int .i64 0,.int .i64 0,.int .i64 0,.bool false,.slice none 0 0,.slice none 0 0,.slice none 0 0,.slice none 0 0,.slice none 0 0,.slice none 0 0,.slice none 0 0,.slice none 0 0,.slice none 0 0,.slice none 0 0,.slice none 0 0] 27)).there w1.heap.size 0 (mcells S ex9).toArray.size from th)
 clear hm b1 st th M1 B1 PA B0 kc
 go_wp2_with (first
  | (refine wpList_store_mid rfl 27 _ _ rfl w1.heap.size 0 (mcells S ex9).toArray rfl rfl TH.out (info_mt21 S ex9) (mcells_one S ex9) ?_;rw[<-hw2];clear hw2)
  |fail)
 clear TH
 generalize w1.heap.size=g at *
 refine(sparse_take ⟨#[50,48,50,54,48,51,48,49,84,48,48,48,48,48,48]⟩ 1772323200 0 ex9_h (by decide) w2 (TT.out.on B2.out)).mono ?_
 rintro e w3 ⟨rfl,b3⟩
 have RG3:=hid (range_below RG.out LT.out b3)
 have M3:=hid (M2.out.below b3)
 have B3:=hid (B2.out.trans (b3.mono B2.out.size))
 clear b3 RG M2 B2 LT
 have SPN:=hid (spansG_is (w3.alloc (.cells #[.int .i64 3600,.slice none 0 0,.slice none 0 0,.int .i64 0] 50)) S ex9 1772323200 (some ⟨w3.heap.size,0,none⟩) 1 1 true (fun L=>L-3600) 3600 0 none 0 0 none 0 0 _ (M3.out.below (Ru.alloc_below w3 _))
  (fun zk hk h1=>⟨w3.heap.size,0,rfl,by simp,by obtain rfl:zk=0:=by omega
                                                exact⟨by simp,by simp,by simp,by simp⟩⟩)
  (fun v b=>Zn.zMayP v 3600 (by decide)) (fun v x b hx=>Zn.UTCP v 3600 x (by decide) (by have:=ex9_in hx;omega) (by have:=ex9_in hx;omega)) (fun x hx=>by have:=ex9_in hx;omega) (by decide) ex9_spansG)
 have B4:=hid (B3.out.trans ((Ru.alloc_below w3 (.cells #[.int .i64 3600,.slice none 0 0,.slice none 0 0,.int .i64 0] 50)).mono B3.out.size))
 go_wp2_with (first
  | (refine wpList_load_mid rfl 27 _ rfl g 0 rfl (mcells S ex9) _ RG3.out Tryz.underlying27 rfl (info_mt21' S ex9) ?_)
  |fail)
 refine SPN.out.mono ?_
 rintro e w5 ⟨A,c,rfl,hs,b5⟩
 have S5:=hid hs
 have B5:=hid (B4.out.trans (b5.mono B4.out.size))
 clear hs b5 SPN B4 B3 M3 RG3
 go_wp2_with fail
 refine(sparse_take ⟨#[50,48,50,54,48,49,48,53,84,48,56,48,48,48,48]⟩ 1767600000 0 ex9_a (by decide) w5 (TT.out.on B5.out)).mono ?_
 rintro e w6 ⟨rfl,b6⟩
 have S6:=hid (S5.out.below b6)
 have B6:=hid (B5.out.trans (b6.mono B5.out.size))
 clear b6 S5 B5
 go_wp2_with fail
 refine(sparse_take ⟨#[50,48,50,54,48,49,49,50,84,48,56,48,48,48,48]⟩ 1768204800 0 ex9_b (by decide) w6 (TT.out.on B6.out)).mono ?_
 rintro e w7 ⟨rfl,b7⟩
 have S7:=hid (S6.out.below b7)
 have B7:=hid (B6.out.trans (b7.mono B6.out.size))
 clear b7 S6 B6
 have ba:=Ru.alloc_below w7 (.cells #[.int .i64 1767600000,.int .i64 1767603600,.int .i64 1768204800,.int .i64 1768208400] 52)
 have SE:=hid (spans_any (w7.alloc (.cells #[.int .i64 1767600000,.int .i64 1767603600,.int .i64 1768204800,.int .i64 1768208400] 52)) A _ 2 c 2 2 _ _ (S7.out.below ba) (sp9_at w7 52) (by decide) (by decide))
 have B8:=hid (B7.out.trans (ba.mono B7.out.size))
 have e1:IntKind.i64.wrap (1767600000+3600)=1767603600:=by decide
 have e2:IntKind.i64.wrap (1768204800+3600)=1768208400:=by decide
 clear ba S7 B7
 go_wp2_with fail
 refine SE.out.mono ?_
 rintro e w8 ⟨rfl,b8⟩
 have B9:=hid (B8.out.trans (b8.mono B8.out.size))
 clear b8 SE B8
 go_wp2
 go_ret
 exact⟨rfl,B9.out⟩
end Go.Proofs.YtddnnljfgfcplaaGreatDoor.Me
