/- Plain mathematics of chapter 7: which moments belong to a rule. Plain mathematics of the statements of chapter 7. What chapter 7's example fixes. -/
import Derived.Test.YtddnnljfgfcplaaGreatDoorMaA
set_option linter.unusedVariables false
namespace Go.Proofs.YtddnnljfgfcplaaGreatDoor.Mb
open Cv St Ru Dd
def ownH (t:Int):Int:=t % 86400 / 3600
def ownM (t:Int):Int:=t % 86400 % 3600 / 60
def ownS (t:Int):Int:=t % 86400 % 60
def inPer (r:Ru) (start t:Int):Bool:=mayR r&&St.may start&&St.may t&&decide ((per r t-per r start) % r.itv=0)
def rawB (r:Ru) (start t:Int):Bool:=
 inPer r start t&&fitsB r start (t / 86400)&&decide (ownH t∈timH r start)&&decide (ownM t∈timM r start)&&decide (ownS t∈timS r start)
def only (l:List Int) (x:Int):List Int:=if x∈l then [x] else []
def setH (r:Ru) (start t:Int):List Int:=if 5<=r.freq then only (timH r start) (ownH t) else timH r start
def setM (r:Ru) (start t:Int):List Int:=if 6<=r.freq then only (timM r start) (ownM t) else timM r start
def setS (r:Ru) (start t:Int):List Int:=if 7<=r.freq then only (timS r start) (ownS t) else timS r start
def timeL (H M S:List Int):List Int:=H.flatMap fun h=>M.flatMap fun m=>S.map fun s=>h*3600+m*60+s
def tmsR (r:Ru) (start t:Int):List Int:=timeL (setH r start t) (setM r start t) (setS r start t)
def span (a:Int) (k:Nat):List Int:=(List.range k).map fun (i:Nat)=>a+(i:Int)
def daysIn (a b:Int):List Int:=span a (b-a+1).toNat
def dysR (r:Ru) (start t:Int):List Int:=(daysIn (daysR r t).1 (daysR r t).2).filter fun n=>fitsB r start n
def allL (D T:List Int):List Int:=D.flatMap fun n=>T.map fun s=>n*86400+s
def allR (r:Ru) (start t:Int):List Int:=allL (dysR r start t) (tmsR r start t)
def setOk (r:Ru) (start t most:Int):Bool:=mayR r&&St.may start&&St.may t&&decide (1<=most/\most<=100000)
def setR (r:Ru) (start t most:Int):List Int×Int:=
 if setOk r start t most=false then ([],1) else if inPer r start t=false then ([],0)
 else if most<(dysR r start t).length*(tmsR r start t).length then ([],10) else (allR r start t,0)
def idx:List Int->Int->Int
 | [],_ => -1
 |y::l,x=>if y=x then 0 else if idx l x = -1 then -1 else idx l x+1
def placeB (r:Ru) (start t:Int):Bool:=
 (setR r start t 100000).2=0&&(decide (idx (setR r start t 100000).1 t+1∈r.pos)||decide (idx (setR r start t 100000).1 t-(setR r start t 100000).1.length∈r.pos))
def hasM (r:Ru) (start t:Int):Bool:=decide (start<=t)&&(!r.ends||decide (t<=r.til))&&rawB r start t&&(decide (r.pos=[])||placeB r start t)
theorem span_len (a:Int) (k:Nat):(span a k).length=k:=by simp[span]
theorem mem_span {a x:Int} {k:Nat}:x∈span a k↔a<=x/\x<a+k:=by
 unfold span
 rw[List.mem_map]
 constructor
 ·rintro⟨i,hi,rfl⟩
  have:=List.mem_range.1 hi
  omega
 ·intro h
  exact⟨(x-a).toNat,List.mem_range.2 (by omega),by omega⟩
theorem span_succ (a:Int) (k:Nat):span a (k+1)=span a k++[a+k]:=by simp[span,List.range_succ]
theorem rise_span (a:Int) (k:Nat):(span a k).Pairwise (· < ·):=by
 unfold span
 rw[List.pairwise_map]
 exact List.pairwise_lt_range.imp fun h=>by omega
theorem mem_daysIn {a b x:Int}:x∈daysIn a b↔a<=x/\x<=b:=by
 unfold daysIn
 rw[mem_span]
 omega
theorem mem_only {l:List Int} {x y:Int}:y∈only l x↔y∈l/\y=x:=by
 unfold only
 split
 ·rename_i h
  simp only[List.mem_singleton];exact⟨fun e=>⟨e ▸ h,e⟩,fun e=>e.2⟩
 ·rename_i h
  simp only[List.not_mem_nil,false_iff]
  rintro⟨a,rfl⟩
  exact h a
theorem rise_only {l:List Int} {x:Int}:(only l x).Pairwise (· < ·):=by
 unfold only
 split<;>simp
theorem only_len {l:List Int} {x:Int}:(only l x).length<=1:=by
 unfold only
 split<;>simp
theorem mem_time {H M S:List Int} {x:Int}:x∈timeL H M S↔∃h∈H,∃m∈M,∃s∈S,h*3600+m*60+s=x:=by
 unfold timeL
 simp only[List.mem_flatMap,List.mem_map]
theorem mem_all {D T:List Int} {x:Int}:x∈allL D T↔∃n∈D,∃s∈T,n*86400+s=x:=by
 unfold allL
 simp only[List.mem_flatMap,List.mem_map]
theorem flat_len {α β:Type} {f:α->List β} {k:Nat}:∀ {l:List α},(∀x∈l,(f x).length=k)->(l.flatMap f).length=l.length*k
 | [],_=>by simp
 |x::l,h=>by
  rw[List.flatMap_cons,List.length_append,h x (by simp),flat_len (fun y hy=>h y (List.mem_cons_of_mem _ hy)),List.length_cons,Nat.add_mul,Nat.one_mul,Nat.add_comm]
theorem all_len (D T:List Int):(allL D T).length=D.length*T.length:=flat_len fun x _=>by simp
theorem time_len (H M S:List Int):(timeL H M S).length=H.length*(M.length*S.length):=flat_len fun x _=>flat_len fun y _=>by simp
theorem rise_flat {f:Int->List Int} {l:List Int} (hl:l.Pairwise (· < ·)) (h1:∀x∈l,(f x).Pairwise (· < ·)) (h2:∀x∈l,∀y∈l,x<y->∀a∈f x,∀b∈f y,a<b):(l.flatMap f).Pairwise (· < ·):=by
 rw[List.pairwise_flatMap]
 refine⟨h1,?_⟩
 exact List.Pairwise.imp_of_mem (fun hx hy hlt=>h2 _ hx _ hy hlt) hl
theorem rise_time {H M S:List Int} (hH:H.Pairwise (· < ·)) (hM:M.Pairwise (· < ·)) (hS:S.Pairwise (· < ·)) (bM:∀x∈M,0<=x/\x<=59) (bS:∀x∈S,0<=x/\x<=59):(timeL H M S).Pairwise (· < ·):=by
 refine rise_flat hH (fun h _=>rise_flat hM (fun m _ => ?_) ?_) ?_
 ·rw[List.pairwise_map];exact hS.imp fun q=>by omega
 ·intro x hx y hy hlt a ha b hb
  obtain⟨s,hs,rfl⟩:=List.mem_map.1 ha;obtain⟨u,hu,rfl⟩:=List.mem_map.1 hb
  have:=bS s hs;have:=bS u hu;omega
 ·intro x hx y hy hlt a ha b hb
  obtain⟨m,hm,ha⟩:=List.mem_flatMap.1 ha;obtain⟨s,hs,rfl⟩:=List.mem_map.1 ha;obtain⟨n,hn,hb⟩:=List.mem_flatMap.1 hb;obtain⟨u,hu,rfl⟩:=List.mem_map.1 hb
  have:=bS s hs;have:=bS u hu;have:=bM m hm;have:=bM n hn;omega
theorem rise_all {D T:List Int} (hD:D.Pairwise (· < ·)) (hT:T.Pairwise (· < ·)) (bT:∀x∈T,0<=x/\x<=86399):(allL D T).Pairwise (· < ·):=by
 refine rise_flat hD (fun n _ => ?_) ?_
 ·rw[List.pairwise_map];exact hT.imp fun q=>by omega
 ·intro x hx y hy hlt a ha b hb
  obtain⟨s,hs,rfl⟩:=List.mem_map.1 ha;obtain⟨u,hu,rfl⟩:=List.mem_map.1 hb
  have:=bT s hs;have:=bT u hu;omega
theorem idx_no:∀ {l:List Int} {x:Int},x ∉ l->idx l x = -1
 | [],x,_=>rfl
 |y::l,x,h=>by
  simp only[List.mem_cons,not_or] at h;unfold idx;rw[if_neg (fun e=>h.1 e.symm),idx_no h.2,if_pos rfl]
theorem idx_of:∀ {l:List Int} {x:Int} {k:Nat} (hk:k<l.length),l[k]=x->(∀j (hj:j<k),l[j]'(by omega)≠x)->idx l x=k
 |y::l,x,0,hk,e,h=>by
  unfold idx;rw[if_pos (by simpa using e)];rfl
 |y::l,x,k+1,hk,e,h=>by
  have h0:y≠x:=by simpa using h 0 (by omega)
  have ih:=idx_of (l:=l) (x:=x) (k:=k) (by simpa using hk) (by simpa using e) (fun j hj=>by simpa using h (j+1) (by omega));unfold idx;rw[if_neg h0,ih,if_neg (by omega)];omega
theorem idx_rise {l:List Int} (h:l.Pairwise (· < ·)) {k:Nat} (hk:k<l.length):idx l l[k]=k:=by
 refine idx_of hk rfl fun j hj => ?_
 have:=List.pairwise_iff_getElem.1 h j k (by omega) hk hj
 omega
structure TimL (l:List Int) (hi:Int):Prop where
 rise:l.Pairwise (· < ·)
 len:l.length<=60
 bd:∀x∈l,0<=x/\x<=hi
theorem tim_l {l:List Int} {alone:Bool} {own:Int} {most:Nat} (hm:1<=most) (hm2:most<=60) (hl:inB l 0 ((most:Int)-1) true=true) (h0:0<=own) (h1:own<most):TimL (timB l alone own most) ((most:Int)-1):=by
 obtain⟨a,b,c,d,e⟩:=tim_ok (alone:=alone) hm hl h0 h1
 exact⟨of_decide_eq_true a,by omega,d⟩
theorem lists_may {r:Ru} (h:mayR r=true):inB r.hour 0 23 true=true/\inB r.minu 0 59 true=true/\inB r.sec 0 59 true=true:=by
 have l:=(mayR_of h).2.2.1
 unfold listB at l
 simp only[Bool.and_eq_true] at l
 obtain⟨⟨⟨⟨⟨⟨⟨⟨_,_⟩,_⟩,_⟩,_⟩,a⟩,b⟩,c⟩,_⟩:=l
 exact⟨a,b,c⟩
theorem timH_ok {r:Ru} (start:Int) (h:mayR r=true):TimL (timH r start) 23:=tim_l (by decide) (by decide) (lists_may h).1 (by omega) (by omega)
theorem timM_ok {r:Ru} (start:Int) (h:mayR r=true):TimL (timM r start) 59:=tim_l (by decide) (by decide) (lists_may h).2.1 (by omega) (by omega)
theorem timS_ok {r:Ru} (start:Int) (h:mayR r=true):TimL (timS r start) 59:=tim_l (by decide) (by decide) (lists_may h).2.2 (by omega) (by omega)
theorem TimL.only {l:List Int} {hi x:Int} (h:TimL l hi):TimL (only l x) hi:=⟨rise_only,Nat.le_trans only_len (by decide),fun y hy=>h.bd y (mem_only.1 hy).1⟩
theorem setH_ok {r:Ru} (start t:Int) (h:mayR r=true):TimL (setH r start t) 23:=by unfold setH;split;exact(timH_ok start h).only;exact timH_ok start h
theorem setM_ok {r:Ru} (start t:Int) (h:mayR r=true):TimL (setM r start t) 59:=by unfold setM;split;exact(timM_ok start h).only;exact timM_ok start h
theorem setS_ok {r:Ru} (start t:Int) (h:mayR r=true):TimL (setS r start t) 59:=by unfold setS;split;exact(timS_ok start h).only;exact timS_ok start h
theorem tms_rise {r:Ru} (start t:Int) (h:mayR r=true):(tmsR r start t).Pairwise (· < ·):=
 rise_time (setH_ok start t h).rise (setM_ok start t h).rise (setS_ok start t h).rise (setM_ok start t h).bd (setS_ok start t h).bd
theorem tms_bd {r:Ru} {start t:Int} (h:mayR r=true):∀x∈tmsR r start t,0<=x/\x<=86399:=by
 intro x hx
 obtain⟨a,ha,b,hb,c,hc,rfl⟩:=mem_time.1 hx
 have:=(setH_ok start t h).bd a ha;have:=(setM_ok start t h).bd b hb;have:=(setS_ok start t h).bd c hc
 omega
theorem tms_len {r:Ru} (start t:Int) (h:mayR r=true):(tmsR r start t).length<=216000:=by
 unfold tmsR
 rw[time_len]
 have a:=(setH_ok start t h).len;have b:=(setM_ok start t h).len;have c:=(setS_ok start t h).len
 have:=Nat.mul_le_mul a (Nat.mul_le_mul b c)
 omega
theorem own_of {h m s:Int} (n:Int) (a:0<=h/\h<=23) (b:0<=m/\m<=59) (c:0<=s/\s<=59):(n*86400+(h*3600+m*60+s)) / 86400=n/\ownH (n*86400+(h*3600+m*60+s))=h/\ownM (n*86400+(h*3600+m*60+s))=m/\ownS (n*86400+(h*3600+m*60+s))=s:=by
 unfold ownH ownM ownS
 omega
theorem own_sum (t:Int):t / 86400*86400+(ownH t*3600+ownM t*60+ownS t)=t:=by
 unfold ownH ownM ownS
 omega
theorem may_isday {t:Int} (h:St.may t=true):isday (t / 86400)=true:=by
 have:=of_decide_eq_true h
 exact decide_eq_true (by omega)
theorem isday_may {n s:Int} (h:isday n=true) (s0:0<=s) (s1:s<=86399):St.may (n*86400+s)=true:=by
 have:=of_decide_eq_true h
 exact decide_eq_true (by omega)
theorem per_iff {r:Ru} {x t:Int} (h:mayR r=true):per r x=per r t↔perD r (x / 86400)=perD r (t / 86400)/\(5<=r.freq->ownH x=ownH t)/\(6<=r.freq->ownM x=ownM t)/\(7<=r.freq->ownS x=ownS t):=by
 have f:=(mayR_of h).1
 unfold scalB at f
 have f:=of_decide_eq_true f
 unfold per
 split
 ·rename_i c
  have d:∀n,perD r n=n:=fun n=>by unfold perD;rw[if_neg (by omega),if_neg (by omega),if_neg (by omega)]
  rw[d,d,c];unfold ownH ownM ownS;omega
 ·split
  ·rename_i c
   have d:∀n,perD r n=n:=fun n=>by unfold perD;rw[if_neg (by omega),if_neg (by omega),if_neg (by omega)]
   rw[d,d,c];unfold ownH ownM ownS;omega
  ·split
   ·rename_i c
    have d:∀n,perD r n=n:=fun n=>by unfold perD;rw[if_neg (by omega),if_neg (by omega),if_neg (by omega)]
    rw[d,d,c];unfold ownH ownM ownS;omega
   ·have:¬5<=r.freq:=by omega
    have:¬6<=r.freq:=by omega
    have:¬7<=r.freq:=by omega
    simp only[*,false_implies,and_true]
theorem mem_dys {r:Ru} {start t n:Int} (hm:mayR r=true) (ht:St.may t=true):n∈dysR r start t↔perD r n=perD r (t / 86400)/\fitsB r start n=true:=by
 have e:daysR r t=(max (pfirst r (t / 86400)) (-719162),min (plast r (t / 86400)) 2932896):=by unfold daysR;rw[if_pos (by rw[hm,ht];rfl)]
 unfold dysR
 rw[List.mem_filter,mem_daysIn,e,p_iff]
 simp only
 constructor
 ·rintro⟨a,b⟩
  exact⟨by omega,b⟩
 ·rintro⟨a,b⟩
  have:isday n=true:=by
   unfold fitsB at b;simp only[Bool.and_eq_true] at b;exact b.1.1.1
  have:=of_decide_eq_true this
  exact⟨by omega,b⟩
theorem fits_day {r:Ru} {start n:Int} (h:fitsB r start n=true):isday n=true:=by
 unfold fitsB at h
 simp only[Bool.and_eq_true] at h
 exact h.1.1.1
theorem mem_allR {r:Ru} {start t x:Int} (hi:inPer r start t=true):x∈allR r start t↔rawB r start x=true/\per r x=per r t:=by
 have hi0:=hi
 unfold inPer at hi
 simp only[Bool.and_eq_true,decide_eq_true_eq] at hi
 obtain⟨⟨⟨hm,hs⟩,ht⟩,hp⟩:=hi
 unfold allR
 rw[mem_all]
 constructor
 ·rintro⟨n,hn,u,hu,rfl⟩
  obtain⟨p,f⟩:=(mem_dys hm ht).1 hn;obtain⟨a,ha,b,hb,c,hc,rfl⟩:=mem_time.1 hu;have ba:=(setH_ok start t hm).bd a ha;have bb:=(setM_ok start t hm).bd b hb;have bc:=(setS_ok start t hm).bd c hc;obtain⟨o1,o2,o3,o4⟩:=own_of n ba bb bc
  have pe:per r (n*86400+(a*3600+b*60+c))=per r t:=by
   rw[per_iff hm,o1,o2,o3,o4];refine⟨p,fun q => ?_,fun q => ?_,fun q => ?_⟩
   ·unfold setH at ha;rw[if_pos q] at ha;exact(mem_only.1 ha).2
   ·unfold setM at hb;rw[if_pos q] at hb;exact(mem_only.1 hb).2
   ·unfold setS at hc;rw[if_pos q] at hc;exact(mem_only.1 hc).2
  refine⟨?_,pe⟩;unfold rawB inPer;rw[o1,o2,o3,o4,pe,hm,hs,isday_may (fits_day f) (by omega) (by omega),f];simp only[hp,decide_true,Bool.and_true,Bool.true_and,Bool.and_eq_true,decide_eq_true_eq];refine⟨⟨?_,?_⟩,?_⟩
  ·unfold setH at ha;split at ha;exact(mem_only.1 ha).1;exact ha
  ·unfold setM at hb;split at hb;exact(mem_only.1 hb).1;exact hb
  ·unfold setS at hc;split at hc;exact(mem_only.1 hc).1;exact hc
 ·rintro⟨h,pe⟩
  obtain⟨pd,q5,q6,q7⟩:=(per_iff hm).1 pe;unfold rawB at h;simp only[Bool.and_eq_true,decide_eq_true_eq] at h;obtain⟨⟨⟨⟨h1,h2⟩,h3⟩,h4⟩,h5⟩:=h;refine⟨x / 86400,(mem_dys hm ht).2 ⟨pd,h2⟩,ownH x*3600+ownM x*60+ownS x,mem_time.2 ⟨ownH x,?_,ownM x,?_,ownS x,?_,rfl⟩,own_sum x⟩
  ·unfold setH;split
   ·rename_i c;exact mem_only.2 ⟨h3,q5 c⟩
   ·exact h3
  ·unfold setM;split
   ·rename_i c;exact mem_only.2 ⟨h4,q6 c⟩
   ·exact h4
  ·unfold setS;split
   ·rename_i c;exact mem_only.2 ⟨h5,q7 c⟩
   ·exact h5
theorem dys_rise (r:Ru) (start t:Int):(dysR r start t).Pairwise (· < ·):=(rise_span _ _).filter _
theorem all_rise {r:Ru} (start t:Int) (h:mayR r=true):(allR r start t).Pairwise (· < ·):=rise_all (dys_rise r start t) (tms_rise start t h) (tms_bd h)
theorem plast_few (r:Ru) (n:Int):plast r n-pfirst r n<=400:=by
 unfold plast pfirst
 split
 ·split
  ·have a:=ny_succ (yr n);have b:=lp_01 (yr n);omega
  ·have a:=on_bd (wky n r.wkst) r.wkst;have b:=on_bd (wky n r.wkst+1) r.wkst;have c:=ny_succ (wky n r.wkst);have d:=lp_01 (wky n r.wkst);omega
 ·split
  ·have:=len_bd (yr n) (Cv.mon n);omega
  ·split<;>omega
theorem days_few {r:Ru} {t:Int}:((daysR r t).2-(daysR r t).1+1).toNat<=401:=by
 unfold daysR
 split
 ·have:=plast_few r (t / 86400)
  simp only
  omega
 ·simp
theorem dys_len (r:Ru) (start t:Int):(dysR r start t).length<=401:=by
 unfold dysR
 refine Nat.le_trans (List.length_filter_le _ _) ?_
 unfold daysIn
 rw[span_len]
 exact days_few
theorem raw_may {r:Ru} {start t:Int} (h:rawB r start t=true):inPer r start t=true:=by
 unfold rawB at h
 simp only[Bool.and_eq_true] at h
 exact h.1.1.1.1
theorem inPer_may {r:Ru} {start t:Int} (h:inPer r start t=true):mayR r=true/\St.may start=true/\St.may t=true/\(per r t-per r start) % r.itv=0:=by
 unfold inPer at h
 simp only[Bool.and_eq_true,decide_eq_true_eq] at h
 exact⟨h.1.1.1,h.1.1.2,h.1.2,h.2⟩
theorem setR_0 {r:Ru} {start t most:Int} (h:setOk r start t most=false):setR r start t most=([],1):=by unfold setR;rw[if_pos h]
theorem setR_1 {r:Ru} {start t most:Int} (h:setOk r start t most=true) (g:inPer r start t=false):setR r start t most=([],0):=by unfold setR;rw[if_neg (by rw[h];decide),if_pos g]
theorem setR_2 {r:Ru} {start t most:Int} (h:setOk r start t most=true) (g:inPer r start t=true) (l:most<(dysR r start t).length*(tmsR r start t).length):setR r start t most=([],10):=by
 unfold setR;rw[if_neg (by rw[h];decide),if_neg (by rw[g];decide),if_pos l]
theorem setR_3 {r:Ru} {start t most:Int} (h:setOk r start t most=true) (g:inPer r start t=true) (l:¬most<(dysR r start t).length*(tmsR r start t).length):setR r start t most=(allR r start t,0):=by
 unfold setR;rw[if_neg (by rw[h];decide),if_neg (by rw[g];decide),if_neg l]
theorem all_len2 (r:Ru) (start t:Int):((allR r start t).length:Int)=(dysR r start t).length*(tmsR r start t).length:=by
 unfold allR;rw[all_len];simp
theorem setR_cases (r:Ru) (start t most:Int):
  (setOk r start t most=false/\setR r start t most=([],1))\/(setOk r start t most=true/\inPer r start t=false/\setR r start t most=([],0))\/
  (setOk r start t most=true/\inPer r start t=true/\most<(allR r start t).length/\setR r start t most=([],10))\/
  (setOk r start t most=true/\inPer r start t=true/\((allR r start t).length:Int)<=most/\setR r start t most=(allR r start t,0)):=by
 cases h:setOk r start t most
 ·exact .inl ⟨rfl,setR_0 h⟩
 ·cases g:inPer r start t
  ·exact .inr (.inl ⟨rfl,rfl,setR_1 h g⟩)
  ·by_cases l:most<(dysR r start t).length*(tmsR r start t).length
   ·exact .inr (.inr (.inl ⟨rfl,rfl,by rw[all_len2];exact l,setR_2 h g l⟩))
   ·exact .inr (.inr (.inr ⟨rfl,rfl,by rw[all_len2];omega,setR_3 h g l⟩))
end Go.Proofs.YtddnnljfgfcplaaGreatDoor.Mb
namespace Go.Proofs.YtddnnljfgfcplaaGreatDoor.Mb
open Cv St Ru Dd
theorem raw_same {r q:Ru} (hf:q.freq=r.freq) (hi:q.itv=r.itv) (hw:q.wkst=r.wkst) (h6:q.mon=r.mon) (h7:q.week=r.week) (h8:q.yday=r.yday) (h9:q.mday=r.mday) (h10:q.day=r.day) (h11:q.hour=r.hour) (h12:q.minu=r.minu) (h13:q.sec=r.sec)
  (mr:mayR r=true) (mq:mayR q=true) (start t:Int):rawB q start t=rawB r start t/\inPer q start t=inPer r start t/\allR q start t=allR r start t/\(∀n,fitsB q start n=fitsB r start n):=by
 obtain⟨freq,itv,cnt,til,wkst,ends,mon,week,yday,mday,day,hour,minu,sec,pos⟩:=r
 obtain⟨freq',itv',cnt',til',wkst',ends',mon',week',yday',mday',day',hour',minu',sec',pos'⟩:=q
 dsimp only at hf hi hw h6 h7 h8 h9 h10 h11 h12 h13
 subst hf hi hw h6 h7 h8 h9 h10 h11 h12 h13
 have f:∀n,fitsB ⟨freq',itv',cnt',til',wkst',ends',mon',week',yday',mday',day',hour',minu',sec',pos'⟩ start n=fitsB ⟨freq',itv',cnt,til,wkst',ends,mon',week',yday',mday',day',hour',minu',sec',pos⟩ start n:=fun n=>by
  unfold fitsB;rw[mr,mq];rfl
 have p:inPer ⟨freq',itv',cnt',til',wkst',ends',mon',week',yday',mday',day',hour',minu',sec',pos'⟩ start t=inPer ⟨freq',itv',cnt,til,wkst',ends,mon',week',yday',mday',day',hour',minu',sec',pos⟩ start t:=by
  unfold inPer;rw[mr,mq];rfl
 refine⟨?_,p,?_,f⟩
 ·unfold rawB;rw[p,f];rfl
 ·unfold allR dysR
  have d:daysR ⟨freq',itv',cnt',til',wkst',ends',mon',week',yday',mday',day',hour',minu',sec',pos'⟩ t=daysR ⟨freq',itv',cnt,til,wkst',ends,mon',week',yday',mday',day',hour',minu',sec',pos⟩ t:=by
   unfold daysR;rw[mr,mq];rfl
  rw[d,show (fun n=>fitsB ⟨freq',itv',cnt',til',wkst',ends',mon',week',yday',mday',day',hour',minu',sec',pos'⟩ start n)=(fun n=>fitsB ⟨freq',itv',cnt,til,wkst',ends,mon',week',yday',mday',day',hour',minu',sec',pos⟩ start n) from funext f];rfl
theorem setR_eq {r q:Ru} {start t:Int} (mr:mayR r=true) (mq:mayR q=true) (hp:inPer q start t=inPer r start t) (ha:allR q start t=allR r start t) (most:Int):setR q start t most=setR r start t most:=by
 have so:setOk q start t most=setOk r start t most:=by unfold setOk;rw[mr,mq]
 rcases setR_cases r start t most with ⟨a,e⟩|⟨a,b,e⟩|⟨a,b,c,e⟩|⟨a,b,c,e⟩
 ·rw[e,setR_0 (so.trans a)]
 ·rw[e,setR_1 (so.trans a) (hp.trans b)]
 ·rw[e,setR_2 (so.trans a) (hp.trans b) (by rw[<-all_len2,ha];exact c)]
 ·rw[e,setR_3 (so.trans a) (hp.trans b) (by rw[<-all_len2,ha];omega),ha]
theorem place_same {r q:Ru} {start t:Int} (hs:setR q start t 100000=setR r start t 100000) (hpos:q.pos=r.pos):placeB q start t=placeB r start t:=by
 unfold placeB;rw[hs,hpos]
theorem less_count {r:Ru} {start t c:Int} (mr:mayR r=true) (mq:mayR { r with cnt:=c }=true):hasM { r with cnt:=c } start t=hasM r start t:=by
 obtain⟨a,b,d,e⟩:=raw_same (r:=r) (q:={ r with cnt:=c }) rfl rfl rfl rfl rfl rfl rfl rfl rfl rfl rfl mr mq start t
 have s:=setR_eq mr mq b d 100000
 unfold hasM
 rw[a,place_same s rfl]
theorem setR_ok {r:Ru} {start t most:Int} (h:(setR r start t most).2=0):mayR r=true/\St.may start=true/\St.may t=true/\((inPer r start t=false/\(setR r start t most).1=[])\/(inPer r start t=true/\(setR r start t most).1=allR r start t)):=by
 have so:setOk r start t most=true->mayR r=true/\St.may start=true/\St.may t=true:=fun q=>by
  unfold setOk at q;simp only[Bool.and_eq_true] at q;exact⟨q.1.1.1,q.1.1.2,q.1.2⟩
 rcases setR_cases r start t most with ⟨a,e⟩|⟨a,b,e⟩|⟨a,b,c,e⟩|⟨a,b,c,e⟩
 ·rw[e] at h;simp at h
 ·exact⟨(so a).1,(so a).2.1,(so a).2.2,.inl ⟨b,by rw[e]⟩⟩
 ·rw[e] at h;simp at h
 ·exact⟨(so a).1,(so a).2.1,(so a).2.2,.inr ⟨b,by rw[e]⟩⟩
theorem setR_no {r:Ru} {start t most:Int} (h:(setR r start t most).2≠0):(setR r start t most).1=[]:=by
 rcases setR_cases r start t most with ⟨a,e⟩|⟨a,b,e⟩|⟨a,b,c,e⟩|⟨a,b,c,e⟩<;>rw[e] at h ⊢
 exact absurd rfl h
theorem setR_few {r:Ru} {start t most:Int} (h0:0<=most):((setR r start t most).1.length:Int)<=most:=by
 rcases setR_cases r start t most with ⟨a,e⟩|⟨a,b,e⟩|⟨a,b,c,e⟩|⟨a,b,c,e⟩<;>rw[e]
 ·simpa using h0
 ·simpa using h0
 ·simpa using h0
 ·exact c
theorem ones_rise {r:Ru} {start t most:Int}:(setR r start t most).1.Pairwise (· < ·):=by
 rcases setR_cases r start t most with ⟨a,e⟩|⟨a,b,e⟩|⟨a,b,c,e⟩|⟨a,b,c,e⟩<;>rw[e]
 ·exact List.Pairwise.nil
 ·exact List.Pairwise.nil
 ·exact List.Pairwise.nil
 ·exact all_rise _ _ (inPer_may b).1
theorem rise_ext:∀ {l m:List Int},l.Pairwise (· < ·)->m.Pairwise (· < ·)->(∀x,x∈l↔x∈m)->l=m
 | [],[],_,_,_=>rfl
 | [],y::m,_,_,h=>by have:=(h y).2 (by simp);cases this
 |x::l,[],_,_,h=>by have:=(h x).1 (by simp);cases this
 |x::l,y::m,a,b,h=>by
  obtain⟨a1,a2⟩:=List.pairwise_cons.1 a;obtain⟨b1,b2⟩:=List.pairwise_cons.1 b
  have e:x=y:=by
   have u:=(h x).1 (by simp);have v:=(h y).2 (by simp)
   rcases List.mem_cons.1 u with u|u
   ·exact u
   ·rcases List.mem_cons.1 v with v|v
    ·exact v.symm
    ·have:=a1 y v;have:=b1 x u;omega
  subst e
  have ih:=rise_ext a2 b2 fun z=>by
   constructor
   ·intro hz
    rcases List.mem_cons.1 ((h z).1 (List.mem_cons_of_mem _ hz)) with q|q
    ·have:=a1 z hz;omega
    ·exact q
   ·intro hz
    rcases List.mem_cons.1 ((h z).2 (List.mem_cons_of_mem _ hz)) with q|q
    ·have:=b1 z hz;omega
    ·exact q
  rw[ih]
end Go.Proofs.YtddnnljfgfcplaaGreatDoor.Mb
namespace Go.Proofs.YtddnnljfgfcplaaGreatDoor.Mb
open Cv St Ru Dd
end Go.Proofs.YtddnnljfgfcplaaGreatDoor.Mb
