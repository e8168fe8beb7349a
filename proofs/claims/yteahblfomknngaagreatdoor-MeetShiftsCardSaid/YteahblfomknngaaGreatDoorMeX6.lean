/- MeX6 -/
import Derived.Test.YteahblfomknngaaGreatDoorMePp
import Derived.Test.YteahblfomknngaaGreatDoorMeX5
import Derived.Test.YteahblfomknngaaGreatDoorMeX1
import Derived.Test.YteahblfomknngaaGreatDoorMeX3
set_option linter.unusedVariables false
namespace Go.Proofs.YteahblfomknngaaGreatDoor.Me
open Go.RowKit Cv St Ru Dd Mb Ex
def exW:Ru:=⟨3,1,2,0,0,false,[],[],[],[],[],[],[],[],[]⟩
def weeklyR:Ru:=⟨3,1,0,0,0,false,[],[],[],[],[],[],[],[],[]⟩
def txW:List UInt8:= [70,82,69,81,61,87,69,69,75,76,89,59,67,79,85,78,84,61,50]
theorem itoa_2:Lib.itoa 2=[50]:=by
 unfold Lib.itoa
 rw[if_neg (by decide),show (2:Int).toNat=2 from rfl,Lib.decDigits_one (by decide)];rfl
theorem itoa_0:Lib.itoa 0=[48]:=by
 unfold Lib.itoa
 rw[if_neg (by decide),show (0:Int).toNat=0 from rfl,Lib.decDigits_one (by decide)];rfl
theorem exW_may:mayR exW=true:=by decide +kernel
theorem weekly_may:mayR weeklyR=true:=by decide +kernel
theorem exW_text:ruText exW=txW:=by
 have f:fieldsP exW=[(0,freqW 3),(2,[50])]:=by
  unfold fieldsP exW
  simp only[itoa_2]
  rfl
 unfold ruText
 rw[f]
 decide
theorem exW_parse:ruParse txW=(exW,0,0):=by
 have h:=print_parse exW_may
 rw[exW_text] at h
 exact h
def L1:List UInt8:= [68,84,83,84,65,82,84,59,84,90,73,68,61,48,58,50,48,50,54,48,49,48,53,84,48,57,48,48,48,48]
def L2:List UInt8:= [68,85,82,65,84,73,79,78,58,80,84,49,72]
def L3:List UInt8:= [82,82,85,76,69,58,70,82,69,81,61,87,69,69,75,76,89,59,67,79,85,78,84,61,50]
def tx9:List UInt8:= [68,84,83,84,65,82,84,59,84,90,73,68,61,48,58,50,48,50,54,48,49,48,53,84,48,57,48,48,48,48,13,10,68,85,82,65,84,73,79,78,58,80,84,49,72,13,10,82,82,85,76,69,58,70,82,69,81,61,87,69,69,75,76,89,59,67,79,85,78,84,61,50,13,10]
theorem tx9_good:Fd.faultB tx9=false:=by decide +kernel
theorem tx9_lines:Fd.lines [] tx9=[L1,L2,L3]:=by
 rw[show tx9=(L1++[13])++10::((L2++[13])++10::((L3++[13])++10::[])) from rfl,Fd.lines_app (by decide),Fd.lines_app (by decide),Fd.lines_app (by decide),Fd.lines_nil]
 decide
theorem tx9_split:Fd.splitL tx9=[L1,L2,L3]∧Fd.splitE tx9=0:=by
 obtain⟨h1,-,h3⟩:=Fd.split_good (l:=tx9) (by decide) tx9_good
 rw[h1,tx9_lines]
 exact⟨rfl,h3⟩
def ex9:Mt:=⟨0,1767603600,3600,true,exW,[],[]⟩
theorem ex9_may:mayM ex9=true:=by decide +kernel
theorem ex9_s:St.parse [50,48,50,54,48,49,48,53,84,48,57,48,48,48,48]=(1767603600,0):=by decide +kernel
theorem ex9_h:St.parse [50,48,50,54,48,51,48,49,84,48,48,48,48,48,48]=(1772323200,0):=by decide +kernel
theorem ex9_a:St.parse [50,48,50,54,48,49,48,53,84,48,56,48,48,48,48]=(1767600000,0):=by decide +kernel
theorem ex9_b:St.parse [50,48,50,54,48,49,49,50,84,48,56,48,48,48,48]=(1768204800,0):=by decide +kernel
theorem ex9_d:St.durParse [80,84,49,72]=(3600,0):=by decide +kernel
theorem num_0:numOf [48]=some 0:=numOf_of ⟨itoa_0,by decide,by decide⟩
theorem ex9_parse:meetParse tx9=(ex9,0,0):=by
 unfold meetParse
 rw[if_pos tx9_split.2,tx9_split.1]
 have o1:openR L1 0=(0,[48,58,50,48,50,54,48,49,48,53,84,48,57,48,48,48,48],true):=by decide +kernel
 have o2:openR L2 1=(1,[80,84,49,72],true):=by decide +kernel
 have o3:openR L3 2=(2,txW,true):=by decide +kernel
 have c1:Lib.cut [48,58,50,48,50,54,48,49,48,53,84,48,57,48,48,48,48] [58]=([48],[50,48,50,54,48,49,48,53,84,48,57,48,48,48,48],true):=by decide +kernel
 have t1:takeM zeroM 0 [48,58,50,48,50,54,48,49,48,53,84,48,57,48,48,48,48]=some ⟨0,1767603600,0,false,Me.zeroR,[],[]⟩:=by
  rw[show takeM zeroM 0 [48,58,50,48,50,54,48,49,48,53,84,48,57,48,48,48,48]=startM zeroM (numOf (Lib.cut [48,58,50,48,50,54,48,49,48,53,84,48,57,48,48,48,48] [58]).1) (St.parse (Lib.cut [48,58,50,48,50,54,48,49,48,53,84,48,57,48,48,48,48] [58]).2.1) from rfl,c1,num_0,ex9_s]
  rfl
 have t2:takeM ⟨0,1767603600,0,false,Me.zeroR,[],[]⟩ 1 [80,84,49,72]=some ⟨0,1767603600,3600,false,Me.zeroR,[],[]⟩:=by
  rw[show takeM ⟨0,1767603600,0,false,Me.zeroR,[],[]⟩ 1 [80,84,49,72]=if (St.durParse [80,84,49,72]).2=0 then some ⟨0,1767603600,(St.durParse [80,84,49,72]).1,false,Me.zeroR,[],[]⟩ else none from rfl,ex9_d]
  rfl
 have t3:takeM ⟨0,1767603600,3600,false,Me.zeroR,[],[]⟩ 2 txW=some ex9:=by
  rw[show takeM ⟨0,1767603600,3600,false,Me.zeroR,[],[]⟩ 2 txW=if (ruParse txW).2.2=0 then some ⟨0,1767603600,3600,true,(ruParse txW).1,[],[]⟩ else none from rfl,exW_parse]
  rfl
 rw[parse_some o1 t1,parse_some o2 t2,parse_some o3 t3,parseM,if_neg (by decide),if_pos ex9_may]
theorem weekly_raw {start t:Int} (hs:St.may start=true) (ht:St.may t=true):
  rawB weeklyR start t=(decide (wd (t / 86400)=wd (start / 86400))&&decide (t % 86400=start % 86400)):=by
 have f:fitsB weeklyR start (t / 86400)=decide (wd (t / 86400)=wd (start / 86400)):=by
  unfold fitsB
  rw[weekly_may,hs,may_isday ht]
  unfold fitB weekB Dd.placeB dayFB startB weeklyR
  simp[hasB,dhasB]
 have p:∀u,(per weeklyR u-per weeklyR start) % weeklyR.itv=0:=fun u=>Int.emod_one _
 unfold rawB inPer
 rw[weekly_may,hs,ht,f,decide_eq_true (p t)]
 have th:timH weeklyR start=[start % 86400 / 3600]:=rfl
 have tm:timM weeklyR start=[start % 86400 % 3600 / 60]:=rfl
 have ts:timS weeklyR start=[start % 86400 % 60]:=rfl
 rw[th,tm,ts]
 unfold ownH ownM ownS
 simp only[List.mem_singleton,Bool.true_and,Bool.and_true,Bool.and_assoc]
 congr 1
 rw[←Bool.decide_and,←Bool.decide_and]
 refine decide_eq_decide.2 ?_
 omega
theorem weekly_has {start t:Int}:hasM weeklyR start t=(decide (start≤t)&&rawB weeklyR start t):=by
 unfold hasM weeklyR
 simp
theorem exW_list:listR exW 1767603600 1772496000 4096=([1767603600,1768208400],0):=by
 have e:momL exW 1767603600 1767603600 1772496000=[1767603600,1768208400]:=by
  have h:selL (hasM exW 1767603600) 1767603600 1768208401=[1767603600,1768208400]:=by
   refine(sel_eq (by decide) fun x => ?_).symm
   have q:hasM exW 1767603600 x=hasM weeklyR 1767603600 x:=less_count (r:=weeklyR) (c:=2) weekly_may exW_may
   rw[q,weekly_has]
   constructor
   ·intro hx
    have hx:x=1767603600∨x=1768208400:=by simpa using hx
    have m:St.may x=true:=decide_eq_true (by omega)
    rw[weekly_raw (by decide) m]
    refine⟨by omega,by omega,?_⟩
    rcases hx with rfl|rfl<;>decide
   ·rintro⟨a,b,c⟩
    have m:St.may x=true:=decide_eq_true (by omega)
    rw[weekly_raw (by decide) m] at c
    simp only[Bool.and_eq_true,decide_eq_true_eq] at c
    unfold wd at c
    have:x=1767603600∨x=1768208400:=by omega
    simpa using this
  unfold momL cutL
  rw[if_neg (by decide),show hiR exW 1772496000=1772496000 from rfl,←sel_cat (b:=1768208401) (by decide) (by decide),h]
  rfl
 unfold listR
 rw[if_neg (by decide +kernel),e]
 rfl
def exZ:Zo:=⟨3600,0,[],[]⟩
theorem ex9_local:localR ex9 1772496000=([1767603600,1768208400],0):=by
 have t:toldR ex9 1772496000=([1767603600,1768208400],0):=by
  unfold ex9
  rw[told_yes]
  exact exW_list
 have a:allR ex9 [1767603600,1768208400]=[1767603600,1768208400]:=by
  unfold allR
  rw[show ex9.dates=[] from rfl,show ex9.exc=[] from rfl,merge_nil]
  rfl
 have k:cntR 1772496000 [1767603600,1768208400]=2:=by
  unfold cntR
  rw[List.countP_cons_of_pos (by decide),List.countP_cons_of_pos (by decide)]
  rfl
 have q:=local_yes ex9_may t a k
 rw[q,if_neg (show ¬4096<2 by omega)]
 rfl
theorem ex9_spans:spansR ex9 1 (fun _=>exZ) 1772323200=([(1767600000,1767603600),(1768204800,1768208400)],0):=by
 unfold spansR
 rw[if_neg (by decide +kernel),show (1772323200:Int)+172800=1772496000 from rfl,ex9_local,if_neg (by decide)]
 have u:begR exZ 1772323200 [1767603600,1768208400]=[1767600000,1768204800]:=by decide +kernel
 have s:sortI [1767600000,1768204800]=[1767600000,1768204800]:=List.mergeSort_of_pairwise (by decide)
 show (joinL 3600 (sortI (begR exZ 1772323200 [1767603600,1768208400])),(0:Int))=_
 rw[u,s]
 decide +kernel
end Go.Proofs.YteahblfomknngaaGreatDoor.Me
namespace Go.Proofs.YteahblfomknngaaGreatDoor.Me
open Go.RowKit Cv St Ru Dd Mb Ex
theorem tx9_at (w:World):Fd.BsAt (w.alloc (.cells #[.int .u8 68,.int .u8 84,.int .u8 83,.int .u8 84,.int .u8 65,.int .u8 82,.int .u8 84,.int .u8 59,.int .u8 84,.int .u8 90,.int .u8 73,.int .u8 68,.int .u8 61,.int .u8 48,.int .u8 58,.int .u8 50,.int .u8 48,.int .u8 50,.int .u8 54,.int .u8 48,.int .u8 49,.int .u8 48,.int .u8 53,.int .u8 84,.int .u8 48,.int .u8 57,.int .u8 48,.int .u8 48,.int .u8 48,.int .u8 48,.int .u8 13,.int .u8 10,.int .u8 68,.int .u8 85,.int .u8 82,.int .u8 65,.int .u8 84,.int .u8 73,.int .u8 79,.int .u8 78,.int .u8 58,.int .u8 80,.int .u8 84,.int .u8 49,.int .u8 72,.int .u8 13,.int .u8 10,.int .u8 82,.int .u8 82,.int .u8 85,.int .u8 76,.int .u8 69,.int .u8 58,.int .u8 70,.int .u8 82,.int .u8 69,.int .u8 81,.int .u8 61,.int .u8 87,.int .u8 69,.int .u8 69,.int .u8 75,.int .u8 76,.int .u8 89,.int .u8 59,.int .u8 67,.int .u8 79,.int .u8 85,.int .u8 78,.int .u8 84,.int .u8 61,.int .u8 50,.int .u8 13,.int .u8 10] 5 (74,75))) (some ⟨w.heap.size,0,none⟩) 74 tx9:=Fd.lit_at w tx9 _ _ _ rfl
theorem exZ_at (w:World) (T:TypeId):ZsAt (w.alloc (.cells #[.int .i64 3600,.slice none 0 0,.slice none 0 0,.int .i64 0] T)) (some ⟨w.heap.size,0,none⟩) 1 (fun _=>⟨none,0,0,none,0,0⟩) (fun _=>exZ):=by
 intro _
 refine⟨w.heap.size,0,rfl,by simp,fun j hj => ?_⟩
 obtain rfl:j=0:=by omega
 refine⟨⟨?_,?_,?_,?_⟩,?_⟩
 ·simp[exZ]
 ·simp
 ·simp
 ·simp[exZ]
 ·exact⟨Zn.ShAt.nil _ _,Zn.YrAt.nil _ _,by decide,by decide⟩
theorem sp9_at (w:World) (T:TypeId):SpAt (w.alloc (.cells #[.int .i64 1767600000,.int .i64 1767603600,.int .i64 1768204800,.int .i64 1768208400] T)) (some ⟨w.heap.size,0,none⟩) 2 [(1767600000,1767603600),(1768204800,1768208400)]:=
 ⟨rfl,fun _=>⟨w.heap.size,0,rfl,by simp,fun j hj=>by
  rcases(by omega:j=0∨j=1) with rfl|rfl<;>simp[pat]⟩⟩
set_option maxRecDepth 100000 in
set_option maxHeartbeats 16000000 in
theorem first9_is (w:World) (T:Tabs w) (H:Heads w):Calls Tryz.prog 10 #[] w fun e w'=>e= .returned (.bool true)∧Below w.heap.size w w':=by
 have TT:=Lib.hid T
 have HH:=Lib.hid H
 clear T H
 have b0:=Ru.alloc_below w (.cells #[.int .u8 68,.int .u8 84,.int .u8 83,.int .u8 84,.int .u8 65,.int .u8 82,.int .u8 84,.int .u8 59,.int .u8 84,.int .u8 90,.int .u8 73,.int .u8 68,.int .u8 61,.int .u8 48,.int .u8 58,.int .u8 50,.int .u8 48,.int .u8 50,.int .u8 54,.int .u8 48,.int .u8 49,.int .u8 48,.int .u8 53,.int .u8 84,.int .u8 48,.int .u8 57,.int .u8 48,.int .u8 48,.int .u8 48,.int .u8 48,.int .u8 13,.int .u8 10,.int .u8 68,.int .u8 85,.int .u8 82,.int .u8 65,.int .u8 84,.int .u8 73,.int .u8 79,.int .u8 78,.int .u8 58,.int .u8 80,.int .u8 84,.int .u8 49,.int .u8 72,.int .u8 13,.int .u8 10,.int .u8 82,.int .u8 82,.int .u8 85,.int .u8 76,.int .u8 69,.int .u8 58,.int .u8 70,.int .u8 82,.int .u8 69,.int .u8 81,.int .u8 61,.int .u8 87,.int .u8 69,.int .u8 69,.int .u8 75,.int .u8 76,.int .u8 89,.int .u8 59,.int .u8 67,.int .u8 79,.int .u8 85,.int .u8 78,.int .u8 84,.int .u8 61,.int .u8 50,.int .u8 13,.int .u8 10] 5 (74,75))
 have kc:=Fd.const_bytes
 have PA:=Lib.hid (parseM_is _ (TT.out.on b0) (HH.out.on b0) _ 74 74 tx9 (tx9_at w) (Nat.le_refl _) (by decide) _ ex9_parse)
 have B0:=Lib.hid b0
 clear b0
 go_enter Tryz.func10,Tryz.ntmps10
 go_wp2_with fail
 refine PA.out.mono ?_
 rintro e w1 ⟨S,rfl,hm,b1⟩
 have B1:=Lib.hid (B0.out.trans (b1.mono B0.out.size))
 have M1:=Lib.hid hm
 obtain⟨w2,hw2⟩:∃w2:World,w2=(w1.alloc (.cells #[.int .i64 0,.int .i64 0,.int .i64 0,.bool false,.int .i64 0,.int .i64 0,.int .i64 0,.int .i64 0,.int .i64 0,.bool false,.slice none 0 0,.slice none 0 0,.slice none 0 0,.slice none 0 0,.slice none 0 0,.slice none 0 0,.slice none 0 0,.slice none 0 0,.slice none 0 0,.slice none 0 0,.slice none 0 0] 27)).setCells w1.heap.size 0 (mcells S ex9):=⟨_,rfl⟩
 have th:(w1.alloc (.cells #[.int .i64 0,.int .i64 0,.int .i64 0,.bool false,.int .i64 0,.int .i64 0,.int .i64 0,.int .i64 0,.int .i64 0,.bool false,.slice none 0 0,.slice none 0 0,.slice none 0 0,.slice none 0 0,.slice none 0 0,.slice none 0 0,.slice none 0 0,.slice none 0 0,.slice none 0 0,.slice none 0 0,.slice none 0 0] 27)).there w1.heap.size 0 (mcells S ex9).length:=there_new _ _ _ (Nat.le_refl 21)
 have st:Below w1.heap.size w1 w2:=by rw[hw2];exact cells_below (Nat.le_refl _) _ _ _ (Ru.alloc_below w1 _)
 have RG:=Lib.hid (show w2.rangeAt w1.heap.size 0 (mcells S ex9) by rw[hw2];exact World.rangeAt_setCells_same _ _ _ _ th)
 have LT:=Lib.hid (show w1.heap.size<w2.heap.size by
  have:w1.heap.size<(w1.alloc (.cells #[.int .i64 0,.int .i64 0,.int .i64 0,.bool false,.int .i64 0,.int .i64 0,.int .i64 0,.int .i64 0,.int .i64 0,.bool false,.slice none 0 0,.slice none 0 0,.slice none 0 0,.slice none 0 0,.slice none 0 0,.slice none 0 0,.slice none 0 0,.slice none 0 0,.slice none 0 0,.slice none 0 0,.slice none 0 0] 27)).heap.size:=by simp
  rw[hw2]
  exact Nat.lt_of_lt_of_le this (Kg.cells (g:=w1.heap.size) _ _ _).size)
 have M2:=Lib.hid (M1.out.below st)
 have B2:=Lib.hid (B1.out.trans (st.mono B1.out.size))
 have TH:=Lib.hid (show (w1.alloc (.cells #[.int .i64 0,.int .i64 0,.int .i64 0,.bool false,.int .i64 0,.int .i64 0,.int .i64 0,.int .i64 0,.int .i64 0,.bool false,.slice none 0 0,.slice none 0 0,.slice none 0 0,.slice none 0 0,.slice none 0 0,.slice none 0 0,.slice none 0 0,.slice none 0 0,.slice none 0 0,.slice none 0 0,.slice none 0 0] 27)).there w1.heap.size 0 (mcells S ex9).toArray.size from th)
 clear hm b1 st th M1 B1 PA B0 kc
 go_wp2_with (first
  | (refine wpList_store_mid rfl 27 _ _ rfl w1.heap.size 0 (mcells S ex9).toArray rfl rfl TH.out (info_mt21 S ex9) (mcells_one S ex9) ?_;rw[←hw2];clear hw2)
  |fail)
 clear TH
 generalize w1.heap.size=g at *
 refine(sparse_take ⟨#[50,48,50,54,48,51,48,49,84,48,48,48,48,48,48]⟩ 1772323200 0 ex9_h (by decide) w2 (TT.out.on B2.out)).mono ?_
 rintro e w3 ⟨rfl,b3⟩
 have RG3:=Lib.hid (range_below RG.out LT.out b3)
 have M3:=Lib.hid (M2.out.below b3)
 have B3:=Lib.hid (B2.out.trans (b3.mono B2.out.size))
 clear b3 RG M2 B2 LT
 have SPN:=Lib.hid (spans_is (w3.alloc (.cells #[.int .i64 3600,.slice none 0 0,.slice none 0 0,.int .i64 0] 50)) S ex9 1772323200 _ 1 1 _ _ _ (M3.out.below (Ru.alloc_below w3 _)) (exZ_at w3 50) (by decide) ex9_spans)
 have B4:=Lib.hid (B3.out.trans ((Ru.alloc_below w3 (.cells #[.int .i64 3600,.slice none 0 0,.slice none 0 0,.int .i64 0] 50)).mono B3.out.size))
 go_wp2_with (first
  | (refine wpList_load_mid rfl 27 _ rfl g 0 rfl (mcells S ex9) _ RG3.out Tryz.underlying27 rfl (info_mt21' S ex9) ?_)
  |fail)
 refine SPN.out.mono ?_
 rintro e w5 ⟨A,c,rfl,hs,b5⟩
 have S5:=Lib.hid hs
 have B5:=Lib.hid (B4.out.trans (b5.mono B4.out.size))
 clear hs b5 SPN B4 B3 M3 RG3
 go_wp2_with fail
 refine(sparse_take ⟨#[50,48,50,54,48,49,48,53,84,48,56,48,48,48,48]⟩ 1767600000 0 ex9_a (by decide) w5 (TT.out.on B5.out)).mono ?_
 rintro e w6 ⟨rfl,b6⟩
 have S6:=Lib.hid (S5.out.below b6)
 have B6:=Lib.hid (B5.out.trans (b6.mono B5.out.size))
 clear b6 S5 B5
 go_wp2_with fail
 refine(sparse_take ⟨#[50,48,50,54,48,49,49,50,84,48,56,48,48,48,48]⟩ 1768204800 0 ex9_b (by decide) w6 (TT.out.on B6.out)).mono ?_
 rintro e w7 ⟨rfl,b7⟩
 have S7:=Lib.hid (S6.out.below b7)
 have B7:=Lib.hid (B6.out.trans (b7.mono B6.out.size))
 clear b7 S6 B6
 have ba:=Ru.alloc_below w7 (.cells #[.int .i64 1767600000,.int .i64 1767603600,.int .i64 1768204800,.int .i64 1768208400] 52)
 have SE:=Lib.hid (spans_any (w7.alloc (.cells #[.int .i64 1767600000,.int .i64 1767603600,.int .i64 1768204800,.int .i64 1768208400] 52)) A _ 2 c 2 2 _ _ (S7.out.below ba) (sp9_at w7 52) (by decide) (by decide))
 have B8:=Lib.hid (B7.out.trans (ba.mono B7.out.size))
 have e1:IntKind.i64.wrap (1767600000+3600)=1767603600:=by decide
 have e2:IntKind.i64.wrap (1768204800+3600)=1768208400:=by decide
 clear ba S7 B7
 go_wp2_with fail
 refine SE.out.mono ?_
 rintro e w8 ⟨rfl,b8⟩
 have B9:=Lib.hid (B8.out.trans (b8.mono B8.out.size))
 clear b8 SE B8
 go_wp2
 go_ret
 exact⟨rfl,B9.out⟩
end Go.Proofs.YteahblfomknngaaGreatDoor.Me
namespace Go.Proofs.YteahblfomknngaaGreatDoor.Me
open Go.RowKit Cv St Ru Dd Mb Ex Go.Proofs.YteahblfomknngaaGreatDoor.Zn
def oneM (zo st du:Int):Mt:=⟨zo,st,du,false,Me.zeroR,[],[]⟩
theorem one_local {zo st du e:Int} (h:mayM (oneM zo st du)=true):localR (oneM zo st du) e=(if st<e then [st] else [],0):=by
 have t:toldR (oneM zo st du) e=([st],0):=told_no
 have a:allR (oneM zo st du) [st]=[st]:=by
  unfold allR oneM
  rw[merge_nil]
  rfl
 have k:cntR e [st]=if st<e then 1 else 0:=by
  unfold cntR
  by_cases c:st<e
  ·rw[List.countP_cons_of_pos (by simpa using c),if_pos c];rfl
  ·rw[List.countP_cons_of_neg (by simpa using c),if_neg c];rfl
 have q:=local_yes h t a k
 rw[q]
 by_cases c:st<e
 ·rw[if_pos c,if_pos c,if_neg (by omega)];rfl
 ·rw[if_neg c,if_neg c,if_neg (by omega)];rfl
theorem utcZ_near {z:Zo} {L:Int} (hz:mayB z.b z.l z.ys z.f=true) (hL:mayL L=true):utcZ z L=utcF (ofs z.b z.l z.ys z.f) L∧L-64800≤utcZ z L∧utcZ z L≤L+64800:=by
 have hl:=of_decide_eq_true hL
 have b1:=ofs_bd hz (u:=L-64800) (decide_eq_true (by omega))
 have b2:=ofs_bd hz (u:=L+64800) (decide_eq_true (by omega))
 have e:utcZ z L=utcF (ofs z.b z.l z.ys z.f) L:=by
  unfold utcZ utcR
  rw[hz,hL]
  rfl
 refine⟨e,?_⟩
 rw[e]
 unfold utcF
 split<;>omega
theorem ofs_hold {b:Int} {l:List Sh} {ys:List Yr} {f u0 v e:Int} (h:mayB b l ys f=true) (h0:Zn.mayT u0=true) (hv:Zn.mayT v=true) (h1:u0≤v) (h2:v≤e) (ha:∀s,aft l ys f u0=some s→e<s.t):ofs b l ys f v=ofs b l ys f u0:=by
 have A:=aft_is h h0
 have B:=bef_is h h0
 have no:∀s',Is l ys f s'→s'.t≤v→s'.t≤u0:=fun s' i q=>by
  cases ea:aft l ys f u0 with
  |none=>rw[ea] at A;exact A s' i
  |some s=>
   rw[ea] at A
   have:=ha s ea
   by_cases c:u0<s'.t
   ·have:=A.2.2 s' i c;omega
   ·omega
 have:bef l ys f v=bef l ys f u0:=by
  refine bef_eq h hv ?_
  cases eb:bef l ys f u0 with
  |none=>
   rw[eb] at B
   intro s' i
   by_cases c:s'.t≤v
   ·have:=no s' i c;have:=B s' i;omega
   ·omega
  |some s=>
   rw[eb] at B
   exact⟨B.1,by have:=B.2.1;omega,fun s' i q=>B.2.2 s' i (no s' i q)⟩
 unfold ofs
 rw[this]
theorem utcF_const {F:Int→Int} {L o lo hi:Int} (h:∀v,lo≤v→v≤hi→F v=o) (o1:-64800≤o) (o2:o≤64800) (a:lo≤L-64800) (b:L+64800≤hi):utcF F L=L-o:=by
 have e1:=h (L-64800) a (by omega)
 have e2:=h (L+64800) (by omega) b
 have e3:=h (L-o) (by omega) (by omega)
 unfold utcF
 rw[e1,e2,e3,if_neg (by omega)]
theorem utc_later {z:Zo} {st:Int} (hz:mayB z.b z.l z.ys z.f=true) (hs:innerB st=true) (hs2:innerB (st+86400)=true) (ha:∀s,aft z.l z.ys z.f (utcZ z st-200000)=some s→utcZ z st+400000<s.t):utcZ z (st+86400)=utcZ z st+86400:=by
 have hl:=of_decide_eq_true hs
 have hl2:=of_decide_eq_true hs2
 have m1:mayL st=true:=decide_eq_true (by omega)
 have m2:mayL (st+86400)=true:=decide_eq_true (by omega)
 obtain⟨e1,n1,n2⟩:=utcZ_near hz m1
 obtain⟨e2,-,-⟩:=utcZ_near hz m2
 have t0:Zn.mayT (utcZ z st-200000)=true:=decide_eq_true (by omega)
 have ob:=ofs_bd hz t0
 have c:∀v,utcZ z st-200000≤v→v≤utcZ z st+400000→ofs z.b z.l z.ys z.f v=ofs z.b z.l z.ys z.f (utcZ z st-200000):=fun v a b=>
  ofs_hold hz t0 (decide_eq_true (by omega)) a b ha
 have k1:=utcF_const (L:=st) c ob.1 ob.2 (by omega) (by omega)
 have k2:=utcF_const (L:=st+86400) c ob.1 ob.2 (by omega) (by omega)
 have q1:=e1.trans k1
 have q2:=e2.trans k2
 omega
theorem one_spans {zo st du hi:Int} {n:Nat} {Z:Nat→Zo} {l:List (Int×Int)} {e:Int} (h:spansR (oneM zo st du) n Z hi=(l,e)):
  (e≠0∧l=[])∨(e=0∧mayM (oneM zo st du)=true∧zo<n∧mayB (Z zo.toNat).b (Z zo.toNat).l (Z zo.toNat).ys (Z zo.toNat).f=true∧l=if utcZ (Z zo.toNat) st<hi then [(utcZ (Z zo.toNat) st,utcZ (Z zo.toNat) st+du)] else []):=by
 unfold spansR at h
 split at h
 ·injection h with h1 h2
  exact .inl ⟨by rw[←h2];decide,h1.symm⟩
 ·rename_i c
  have c1:mayM (oneM zo st du)=true:=by cases q:mayM (oneM zo st du) with
   |false=>exact absurd (.inl q) c
   |true=>rfl
  have c2:zo<n:=by
   by_cases q:(n:Int)≤zo
   ·exact absurd (.inr (.inl q)) c
   ·omega
  have c3:mayB (Z zo.toNat).b (Z zo.toNat).l (Z zo.toNat).ys (Z zo.toNat).f=true:=by cases q:mayB (Z zo.toNat).b (Z zo.toNat).l (Z zo.toNat).ys (Z zo.toNat).f with
   |false=>exact absurd (.inr (.inr (.inl q))) c
   |true=>rfl
  rw[one_local c1] at h
  simp only[ne_eq,not_true_eq_false,if_false] at h
  injection h with h1 h2
  refine .inr ⟨h2.symm,c1,c2,c3,?_⟩
  obtain⟨-,p2,-⟩:=may_parts c1
  have hl:=of_decide_eq_true p2
  have hl':-62104060800≤st∧st≤253370764799:=hl
  obtain⟨-,n1,n2⟩:=utcZ_near c3 (decide_eq_true hl':mayL st=true)
  rw[←h1]
  show joinL du (sortI (begR (Z zo.toNat) hi (if st<hi+172800 then [st] else [])))=_
  by_cases q:utcZ (Z zo.toNat) st<hi
  ·rw[if_pos q,if_pos (by omega)]
   have b:begR (Z zo.toNat) hi [st]=[utcZ (Z zo.toNat) st]:=by
    unfold begR
    simp[q]
   rw[b]
   have s:sortI [utcZ (Z zo.toNat) st]=[utcZ (Z zo.toNat) st]:=List.mergeSort_of_pairwise (List.pairwise_singleton ..)
   rw[s,join_one]
  ·rw[if_neg q]
   have b:begR (Z zo.toNat) hi (if st<hi+172800 then [st] else [])=[]:=by
    unfold begR
    split<;>simp[q]
   rw[b,show sortI []=[] from List.mergeSort_of_pairwise List.Pairwise.nil]
   rfl
end Go.Proofs.YteahblfomknngaaGreatDoor.Me
namespace Go.Proofs.YteahblfomknngaaGreatDoor.Me
open Go.RowKit Cv St Ru Dd Mb Ex
theorem one_at (w:World) (zo st du:Int):MtAt w zeroMS (oneM zo st du):=⟨Me.zero_at w,IsAt.nil _ _,IsAt.nil _ _,by decide,by decide,by decide,by decide,fun _=>rfl⟩
theorem zs_cell {W:World} {A:Option Addr} {n:Nat} {S:Nat→ZS} {Z:Nat→Zo} (h:ZsAt W A n S Z) {j:Nat} (hj:j<n):∃bl off,A=some ⟨bl,off,none⟩∧∀w,Below W.heap.size W w→
  (w.cell? ⟨bl,off+j*4,none⟩=some (.int .i64 (Z j).b)∧w.cell? ⟨bl,off+j*4+1,none⟩=some (.slice (S j).A (S j).n (S j).c)∧w.cell? ⟨bl,off+j*4+2,none⟩=some (.slice (S j).A' (S j).n' (S j).c')∧w.cell? ⟨bl,off+j*4+3,none⟩=some (.int .i64 (Z j).f))∧
  Zn.ZnAt w (S j).A (S j).n (S j).A' (S j).n' (Z j).l (Z j).ys:=by
 obtain⟨bl,off,e,hl,hc⟩:=h (by omega)
 obtain⟨⟨c0,c1,c2,c3⟩,z⟩:=hc j hj
 exact⟨bl,off,e,fun w hw=>⟨⟨(hw.cell (p:=⟨bl,_,none⟩) hl).trans c0,(hw.cell (p:=⟨bl,_,none⟩) hl).trans c1,(hw.cell (p:=⟨bl,_,none⟩) hl).trans c2,(hw.cell (p:=⟨bl,_,none⟩) hl).trans c3⟩,z.below hw⟩⟩
theorem sp1_at (w:World) (T:TypeId) (x y:Int):SpAt (w.alloc (.cells #[.int .i64 x,.int .i64 y] T)) (some ⟨w.heap.size,0,none⟩) 1 [(x,y)]:=
 ⟨rfl,fun _=>⟨w.heap.size,0,rfl,by simp,fun j hj=>by
  obtain rfl:j=0:=by omega
  simp[pat]⟩⟩
set_option maxRecDepth 100000 in
set_option maxHeartbeats 16000000 in
theorem shifts_walk (w:World) (T:Tabs w) (H:Heads w) (ZA:Option Addr) (zn zc:Nat) (ZZ:Nat→ZS) (Z:Nat→Zo) (hz:ZsAt w ZA zn ZZ Z) (hn:zn≤9223372036854775807) (which start dur hi:Int)
  (a1:-9223372036854775808≤which) (a2:which≤9223372036854775807) (b1:-9223372036854775808≤start) (b2:start≤9223372036854775807) (d1:-9223372036854775808≤dur) (d2:dur≤9223372036854775807) (e1:-9223372036854775808≤hi) (e2:hi≤9223372036854775807):
  Calls Tryz.prog 7 #[.slice ZA zn zc,.int .i64 which,.int .i64 start,.int .i64 dur,.int .i64 hi] w fun e w'=>e= .returned (.bool true)∧Below w.heap.size w w':=by
 have TT:=Lib.hid T
 have HH:=Lib.hid H
 have HZ:=Lib.hid hz
 clear T H hz
 go_enter Tryz.func7,Tryz.ntmps7
 go_wp2_with fail
 refine(first9_is w TT.out HH.out).mono ?_
 rintro e w0 ⟨rfl,bb0⟩
 have B0:=Lib.hid bb0
 clear bb0
 go_wp2_with fail
 refine(fewZones_is w0 ZA zn zc ZZ Z (HZ.out.below B0.out) hn).mono ?_
 rintro e w1 ⟨⟨x,rfl⟩,bb1⟩
 have B1:=Lib.hid (B0.out.trans (bb1.mono B0.out.size))
 clear bb1 B0
 cases x with
 |false=>(go_wp2_with fail
          refine(first9_is _ (TT.out.on (B1).out) (HH.out.on (B1).out)).mono ?_
          rintro e wz ⟨rfl,bz⟩
          have BZ:=Lib.hid ((B1).out.trans (bz.mono (B1).out.size))
          clear bz
          go_wp2
          go_ret
          exact⟨rfl,BZ.out⟩)
 |true=>
  obtain⟨w2,hw2⟩:∃w2:World,w2=(w1.alloc (.cells #[.int .i64 0,.int .i64 0,.int .i64 0,.bool false,.int .i64 0,.int .i64 0,.int .i64 0,.int .i64 0,.int .i64 0,.bool false,.slice none 0 0,.slice none 0 0,.slice none 0 0,.slice none 0 0,.slice none 0 0,.slice none 0 0,.slice none 0 0,.slice none 0 0,.slice none 0 0,.slice none 0 0,.slice none 0 0] 27)).setCells w1.heap.size 0 (mcells zeroMS (oneM which start dur)):=⟨_,rfl⟩
  have th:(w1.alloc (.cells #[.int .i64 0,.int .i64 0,.int .i64 0,.bool false,.int .i64 0,.int .i64 0,.int .i64 0,.int .i64 0,.int .i64 0,.bool false,.slice none 0 0,.slice none 0 0,.slice none 0 0,.slice none 0 0,.slice none 0 0,.slice none 0 0,.slice none 0 0,.slice none 0 0,.slice none 0 0,.slice none 0 0,.slice none 0 0] 27)).there w1.heap.size 0 (mcells zeroMS (oneM which start dur)).length:=there_new _ _ _ (Nat.le_refl 21)
  have st:Below w1.heap.size w1 w2:=by rw[hw2];exact cells_below (Nat.le_refl _) _ _ _ (Ru.alloc_below w1 _)
  have M2:=Lib.hid (show MBox w2 w1.heap.size zeroMS (oneM which start dur) from by
   have z:=MBox.zero w1
   refine⟨?_,?_,?_,one_at _ _ _ _,z.fr,z.fd,z.fe⟩
   ·rw[hw2]
    exact Nat.lt_of_lt_of_le z.lt (Kg.cells (g:=w1.heap.size) _ _ _).size
   ·rw[hw2];exact World.rangeAt_setCells_same _ _ _ _ th
   ·rw[hw2];exact World.there_setCells z.there _ _ _)
  have B2:=Lib.hid (B1.out.trans (st.mono B1.out.size))
  have G2:=Lib.hid (show w.heap.size≤w1.heap.size from B1.out.size)
  have TH:=Lib.hid (show (w1.alloc (.cells #[.int .i64 0,.int .i64 0,.int .i64 0,.bool false,.int .i64 0,.int .i64 0,.int .i64 0,.int .i64 0,.int .i64 0,.bool false,.slice none 0 0,.slice none 0 0,.slice none 0 0,.slice none 0 0,.slice none 0 0,.slice none 0 0,.slice none 0 0,.slice none 0 0,.slice none 0 0,.slice none 0 0,.slice none 0 0] 27)).there w1.heap.size 0 (mcells zeroMS (oneM which start dur)).toArray.size from th)
  clear st th B1
  obtain⟨l,er,hq⟩:∃l er,spansR (oneM which start dur) zn Z hi=(l,er):=⟨_,_,rfl⟩
  have SP:=Lib.hid (fun v (b:Below w.heap.size w v)=>spans_is v zeroMS (oneM which start dur) hi ZA zn zc ZZ Z _ (one_at v which start dur) (HZ.out.below b) hn hq)
  have SV:=Lib.hid (one_spans hq)
  clear hq
  go_wp2_with (first
   | (refine wpList_store_mid rfl 27 _ _ rfl w1.heap.size 0 (mcells zeroMS (oneM which start dur)).toArray rfl rfl TH.out (info_mt21 zeroMS (oneM which start dur)) (mcells_one zeroMS (oneM which start dur)) ?_;rw[←hw2];clear hw2)
   | (refine wpList_load_mid rfl 27 _ rfl w1.heap.size 0 rfl (mcells zeroMS (oneM which start dur)) _ M2.out.cells Tryz.underlying27 rfl (info_mt21' zeroMS (oneM which start dur)) ?_)
   |fail)
  clear TH
  generalize w1.heap.size=g at *
  refine(SP.out w2 B2.out).mono ?_
  rintro e w3 ⟨A,c,rfl,hs,b3⟩
  have B3:=Lib.hid (B2.out.trans (b3.mono B2.out.size))
  have M3:=Lib.hid (M2.out.below b3)
  have S3:=Lib.hid hs
  clear b3 hs B2 M2 SP
  rcases SV.out with ⟨he,hl⟩|⟨he,hm,hw,hb,hl⟩
  ·have q0:(er != 0)=true:=by rw[bne_iff_ne];exact he
   subst hl
   (go_wp2_with fail
    refine(first9_is _ (TT.out.on (B3).out) (HH.out.on (B3).out)).mono ?_
    rintro e wz ⟨rfl,bz⟩
    have BZ:=Lib.hid ((B3).out.trans (bz.mono (B3).out.size))
    clear bz
    go_wp2
    go_ret
    exact⟨rfl,BZ.out⟩)
  ·subst he
   obtain⟨⟨p1,p2⟩,p3,p4,-⟩:=may_parts hm
   have p1:0≤which:=p1
   have p2:which≤15:=p2
   have p4:1≤dur∧dur≤2678400:=p4
   have p3':=of_decide_eq_true p3
   have p3':-62104060800≤start∧start≤253370764799:=p3'
   obtain⟨j,rfl⟩:∃j:Nat,which=j:=⟨which.toNat,by omega⟩
   simp only[Int.toNat_natCast] at hb hl
   have jl:j<zn:=by omega
   have q1:decide ((j:Int)<0)=false:=decide_eq_false (by omega)
   have q2:decide ((zn:Int)≤(j:Int))=false:=decide_eq_false (by omega)
   have q3:¬(zn:Int)≤(j:Int):=by omega
   have q4:(0:Int)≤(j:Int):=by omega
   have q5:(j:Int)<(zn:Int):=by omega
   have q6:decide (zn≤j)=false:=decide_eq_false (by omega)
   obtain⟨bl,off,rfl,hc⟩:=zs_cell HZ.out jl
   have ZC:=Lib.hid hc
   obtain⟨⟨c0,c1,c2,c3⟩,-⟩:=hc w3 B3.out
   obtain⟨-,n1,n2⟩:=utcZ_near hb (L:=start) (decide_eq_true (by omega))
   have UT:=Lib.hid (fun v (b:Below w.heap.size w v)=>Zn.UTC_own v (Z j).b (Z j).f (ZZ j).A (ZZ j).A' (ZZ j).n (ZZ j).c (ZZ j).n' (ZZ j).c' (Z j).l (Z j).ys start b1 b2 (ZC.out v b).2)
   obtain⟨u,hu⟩:∃u,utcZ (Z j) start=u:=⟨_,rfl⟩
   have UE:=Lib.hid hu
   have UE':=Lib.hid (show Zn.utcR (Z j).b (Z j).l (Z j).ys (Z j).f start=u from hu)
   rw[hu] at hl n1 n2
   have HB:=Lib.hid hb
   have HL:=Lib.hid hl
   have P3:=Lib.hid p3
   clear hc hu hb hl hm SV hw p3
   go_wp2_with fail
   refine(UT.out w3 B3.out).mono ?_
   rw[UE'.out]
   rintro e w4 ⟨rfl,b4⟩
   have B4:=Lib.hid (B3.out.trans (b4.mono B3.out.size))
   have M4:=Lib.hid (M3.out.below b4)
   have S4:=Lib.hid (S3.out.below b4)
   clear b4 B3 M3 S3 c0 c1 c2 c3 UT
   by_cases hlt:u<hi
   ·have s1:decide (hi≤u)=false:=decide_eq_false (by omega)
    have HL2:=HL.out
    rw[if_pos hlt] at HL2
    subst HL2
    have W1:IntKind.i64.wrap (u+dur)=u+dur:=IntWalk.i64_in _ (by omega)
    have W2:IntKind.i64.wrap (start+86400)=start+86400:=IntWalk.i64_in _ (by omega)
    have W3:IntKind.i64.wrap (u-200000)=u-200000:=IntWalk.i64_in _ (by omega)
    have W4:IntKind.i64.wrap (u+400000)=u+400000:=IntWalk.i64_in _ (by omega)
    have W5:IntKind.i64.wrap (u+86400)=u+86400:=IntWalk.i64_in _ (by omega)
    have W6:IntKind.i64.wrap (u+86400+dur)=u+86400+dur:=IntWalk.i64_in _ (by omega)
    have ba:=Ru.alloc_below w4 (.cells #[.int .i64 u,.int .i64 (u+dur)] 52)
    have SE:=Lib.hid (spans_any (w4.alloc (.cells #[.int .i64 u,.int .i64 (u+dur)] 52)) A _ 1 c 1 1 _ _ (S4.out.below ba) (sp1_at w4 52 u (u+dur)) (by decide) (by decide))
    have B5:=Lib.hid (B4.out.trans (ba.mono B4.out.size))
    have M5:=Lib.hid (M4.out.below ba)
    clear ba B4 M4 S4 HL
    go_wp2_with fail
    refine SE.out.mono ?_
    rintro e w6 ⟨he6,b6⟩
    obtain rfl:e= .returned (.bool true):=by rw[he6];simp
    have B6:=Lib.hid (B5.out.trans (b6.mono B5.out.size))
    have M6:=Lib.hid (M5.out.below b6)
    clear b6 B5 M5 SE
    have z1:=M6.out.cell (k:=1) rfl
    have y1:=M6.out.free (k:=1) (by decide)
    have M7:=Lib.hid (show MBox (w6.setCell ⟨g,1,none⟩ (.int .i64 (start+86400))) g zeroMS (oneM (j:Int) (start+86400) dur) from M6.out.put (k:=1) (by decide) rfl rfl rfl rfl)
    have B7:=Lib.hid (B6.out.trans ((Kg.one (g:=g) w6 1 (.int .i64 (start+86400))).below B6.out.size G2.out))
    obtain⟨k,fr,hq2⟩:∃k fr,spansR (oneM (j:Int) (start+86400) dur) zn Z hi=(k,fr):=⟨_,_,rfl⟩
    have SP:=Lib.hid (fun v (b:Below w.heap.size w v)=>spans_is v zeroMS (oneM (j:Int) (start+86400) dur) hi _ zn zc ZZ Z _ (one_at v j (start+86400) dur) (HZ.out.below b) hn hq2)
    have SV:=Lib.hid (one_spans hq2)
    clear hq2 M6 B6 he6
    obtain⟨w7,hw7⟩:∃w7:World,w7=w6.setCell ⟨g,1,none⟩ (.int .i64 (start+86400)):=⟨_,rfl⟩
    rw[←hw7] at M7 B7
    go_upto_region 15 with fail
    rw[←hw7]
    clear hw7 z1 y1
    go_wp2_with (first
     | (refine wpList_load_mid rfl 27 _ rfl g 0 rfl (mcells zeroMS (oneM (j:Int) (start+86400) dur)) _ M7.out.cells Tryz.underlying27 rfl (info_mt21' zeroMS (oneM (j:Int) (start+86400) dur)) ?_)
     |fail)
    refine(SP.out w7 B7.out).mono ?_
    rintro e w8 ⟨A8,c8,rfl,hs8,b8⟩
    have B8:=Lib.hid (B7.out.trans (b8.mono B7.out.size))
    have S8:=Lib.hid hs8
    clear b8 hs8 B7 M7 SP
    obtain⟨⟨c0,c1,c2,c3⟩,zz⟩:=ZC.out w8 B8.out
    have ZZ8:=Lib.hid zz
    clear zz
    have t0:Zn.mayT (u-200000)=true:=decide_eq_true (by omega)
    have AE:=Lib.hid (show Zn.aftR (Z j).b (Z j).l (Z j).ys (Z j).f (u-200000)=Zn.aft (Z j).l (Z j).ys (Z j).f (u-200000) by unfold Zn.aftR;rw[HB.out,t0];rfl)
    have FIN:=Lib.hid (show (∀s,Zn.aft (Z j).l (Z j).ys (Z j).f (u-200000)=some s→u+400000<s.t)→fr=0→u+86400<hi→k=[(u+86400,u+86400+dur)] from fun ha hf hh=>by
     rcases SV.out with ⟨hx,-⟩|⟨-,hm,-,-,hl⟩
     ·exact absurd hf hx
     ·obtain⟨-,p3b,-⟩:=may_parts hm
      simp only[Int.toNat_natCast] at hl
      have e:=utc_later (z:=Z j) (st:=start) HB.out P3.out p3b (by rw[UE.out];exact ha)
      rw[e,UE.out,if_pos hh] at hl
      exact hl)
    clear t0
    cases hx:Zn.aft (Z j).l (Z j).ys (Z j).f (u-200000) with
    |none=>
     have AF:=Lib.hid (Zn.After_none w8 (Z j).b (Z j).f (ZZ j).A (ZZ j).A' (ZZ j).n (ZZ j).c (ZZ j).n' (ZZ j).c' (Z j).l (Z j).ys (u-200000) (AE.out.trans hx) ZZ8.out)
     have F2:=Lib.hid (FIN.out (fun s e=>by rw[hx] at e;cases e))
     clear hx FIN
     go_wp2_with fail
     refine AF.out.mono ?_
     rintro e w9 ⟨rfl,b9⟩
     have B9:=Lib.hid (B8.out.trans (b9.mono B8.out.size))
     have S9:=Lib.hid (S8.out.below b9)
     clear b9 B8 S8 AF c0 c1 c2 c3
     go_upto_region 17 with fail
     (have ba:=Ru.alloc_below w9 (.cells #[.int .i64 (0:Int),.int .i64 (0:Int)] 65)
      have zc0:(w9.alloc (.cells #[.int .i64 (0:Int),.int .i64 (0:Int)] 65)).cell? ⟨w9.heap.size,0,none⟩=some (.int .i64 (0:Int)):=by simp
      have B10:=Lib.hid (B9.out.trans (ba.mono B9.out.size))
      have S10:=Lib.hid (S9.out.below ba)
      clear ba B9 S9
      generalize w9.alloc (.cells #[.int .i64 (0:Int),.int .i64 (0:Int)] 65)=w10 at *
      generalize w9.heap.size=g9 at *)
     by_cases hf:fr=0
     ·subst hf
      by_cases hh:u+86400<hi
      ·have r1:decide (hi≤u+86400)=false:=decide_eq_false (by omega)
       have hk:=F2.out rfl hh
       subst hk
       (go_wp2_with fail
        refine(first9_is _ (TT.out.on B10.out) (HH.out.on B10.out)).mono ?_
        rintro e w11 ⟨rfl,b11⟩
        have B11:=Lib.hid (B10.out.trans (b11.mono B10.out.size))
        have S11:=Lib.hid (S10.out.below b11)
        clear b11 B10 S10
        have ba:=Ru.alloc_below w11 (.cells #[.int .i64 (u+86400),.int .i64 (u+86400+dur)] 52)
        have SE:=Lib.hid (spans_any (w11.alloc (.cells #[.int .i64 (u+86400),.int .i64 (u+86400+dur)] 52)) A8 _ 1 c8 1 1 _ _ (S11.out.below ba) (sp1_at w11 52 (u+86400) (u+86400+dur)) (by decide) (by decide))
        have B12:=Lib.hid (B11.out.trans (ba.mono B11.out.size))
        clear ba B11 S11
        go_wp2_with fail
        refine SE.out.mono ?_
        rintro e w12 ⟨he12,b12⟩
        obtain rfl:e= .returned (.bool true):=by rw[he12];simp
        have B13:=Lib.hid (B12.out.trans (b12.mono B12.out.size))
        clear b12 B12 SE he12
        go_wp2
        go_ret
        exact⟨rfl,B13.out⟩)
      ·have r1:decide (hi≤u+86400)=true:=decide_eq_true (by omega)
       (go_wp2_with fail
        refine(first9_is _ (TT.out.on (B10).out) (HH.out.on (B10).out)).mono ?_
        rintro e wz ⟨rfl,bz⟩
        have BZ:=Lib.hid ((B10).out.trans (bz.mono (B10).out.size))
        clear bz
        go_wp2
        go_ret
        exact⟨rfl,BZ.out⟩)
     ·have r0:(fr != 0)=true:=by rw[bne_iff_ne];exact hf
      (go_wp2_with fail
       refine(first9_is _ (TT.out.on (B10).out) (HH.out.on (B10).out)).mono ?_
       rintro e wz ⟨rfl,bz⟩
       have BZ:=Lib.hid ((B10).out.trans (bz.mono (B10).out.size))
       clear bz
       go_wp2
       go_ret
       exact⟨rfl,BZ.out⟩)
    |some s=>
     have AF:=Lib.hid (Zn.After_some w8 (Z j).b (Z j).f (ZZ j).A (ZZ j).A' (ZZ j).n (ZZ j).c (ZZ j).n' (ZZ j).c' (Z j).l (Z j).ys (u-200000) s (AE.out.trans hx) ZZ8.out)
     have F2:=Lib.hid (show u+400000<s.t→fr=0→u+86400<hi→k=[(u+86400,u+86400+dur)] from fun h=>FIN.out (fun s' e=>by rw[hx] at e;cases e;exact h))
     clear hx FIN
     go_wp2_with fail
     refine AF.out.mono ?_
     rintro e w9 ⟨rfl,b9⟩
     have B9:=Lib.hid (B8.out.trans (b9.mono B8.out.size))
     have S9:=Lib.hid (S8.out.below b9)
     clear b9 B8 S8 AF c0 c1 c2 c3
     generalize s.t=sa at *
     generalize s.o=so at *
     go_upto_region 17 with fail
     (have ba:=Ru.alloc_below w9 (.cells #[.int .i64 sa,.int .i64 so] 65)
      have zc0:(w9.alloc (.cells #[.int .i64 sa,.int .i64 so] 65)).cell? ⟨w9.heap.size,0,none⟩=some (.int .i64 sa):=by simp
      have B10:=Lib.hid (B9.out.trans (ba.mono B9.out.size))
      have S10:=Lib.hid (S9.out.below ba)
      clear ba B9 S9
      generalize w9.alloc (.cells #[.int .i64 sa,.int .i64 so] 65)=w10 at *
      generalize w9.heap.size=g9 at *)
     by_cases hf:fr=0
     ·subst hf
      by_cases hs:u+400000<sa
      ·have r2:decide (sa≤u+400000)=false:=decide_eq_false (by omega)
       by_cases hh:u+86400<hi
       ·have r1:decide (hi≤u+86400)=false:=decide_eq_false (by omega)
        have hk:=F2.out hs rfl hh
        subst hk
        (go_wp2_with fail
         refine(first9_is _ (TT.out.on B10.out) (HH.out.on B10.out)).mono ?_
         rintro e w11 ⟨rfl,b11⟩
         have B11:=Lib.hid (B10.out.trans (b11.mono B10.out.size))
         have S11:=Lib.hid (S10.out.below b11)
         clear b11 B10 S10
         have ba:=Ru.alloc_below w11 (.cells #[.int .i64 (u+86400),.int .i64 (u+86400+dur)] 52)
         have SE:=Lib.hid (spans_any (w11.alloc (.cells #[.int .i64 (u+86400),.int .i64 (u+86400+dur)] 52)) A8 _ 1 c8 1 1 _ _ (S11.out.below ba) (sp1_at w11 52 (u+86400) (u+86400+dur)) (by decide) (by decide))
         have B12:=Lib.hid (B11.out.trans (ba.mono B11.out.size))
         clear ba B11 S11
         go_wp2_with fail
         refine SE.out.mono ?_
         rintro e w12 ⟨he12,b12⟩
         obtain rfl:e= .returned (.bool true):=by rw[he12];simp
         have B13:=Lib.hid (B12.out.trans (b12.mono B12.out.size))
         clear b12 B12 SE he12
         go_wp2
         go_ret
         exact⟨rfl,B13.out⟩)
       ·have r1:decide (hi≤u+86400)=true:=decide_eq_true (by omega)
        (go_wp2_with fail
         refine(first9_is _ (TT.out.on (B10).out) (HH.out.on (B10).out)).mono ?_
         rintro e wz ⟨rfl,bz⟩
         have BZ:=Lib.hid ((B10).out.trans (bz.mono (B10).out.size))
         clear bz
         go_wp2
         go_ret
         exact⟨rfl,BZ.out⟩)
      ·have r2:decide (sa≤u+400000)=true:=decide_eq_true (by omega)
       (go_wp2_with fail
        refine(first9_is _ (TT.out.on (B10).out) (HH.out.on (B10).out)).mono ?_
        rintro e wz ⟨rfl,bz⟩
        have BZ:=Lib.hid ((B10).out.trans (bz.mono (B10).out.size))
        clear bz
        go_wp2
        go_ret
        exact⟨rfl,BZ.out⟩)
     ·have r0:(fr != 0)=true:=by rw[bne_iff_ne];exact hf
      (go_wp2_with fail
       refine(first9_is _ (TT.out.on (B10).out) (HH.out.on (B10).out)).mono ?_
       rintro e wz ⟨rfl,bz⟩
       have BZ:=Lib.hid ((B10).out.trans (bz.mono (B10).out.size))
       clear bz
       go_wp2
       go_ret
       exact⟨rfl,BZ.out⟩)
   ·have s1:decide (hi≤u)=true:=decide_eq_true (by omega)
    have HL2:=HL.out
    rw[if_neg hlt] at HL2
    subst HL2
    (go_wp2_with fail
     refine(first9_is _ (TT.out.on (B4).out) (HH.out.on (B4).out)).mono ?_
     rintro e wz ⟨rfl,bz⟩
     have BZ:=Lib.hid ((B4).out.trans (bz.mono (B4).out.size))
     clear bz
     go_wp2
     go_ret
     exact⟨rfl,BZ.out⟩)
end Go.Proofs.YteahblfomknngaaGreatDoor.Me
