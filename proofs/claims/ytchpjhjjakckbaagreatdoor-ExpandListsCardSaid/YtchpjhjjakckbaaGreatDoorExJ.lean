/- Plain mathematics of chapter 8: periods one behind another. -/
import Derived.Test.YtchpjhjjakckbaaGreatDoorExM
set_option linter.unusedVariables false
namespace Go.Proofs.YtchpjhjjakckbaaGreatDoor.Ex
open Cv St Ru Dd Mb
theorem days_end {r:Ru} {n m:Int} (h:mayR r=true) (hn:isday n=true) (hm:isday m=true) (h1:n≤m) (h2:m≤(daysR r (n*86400)).2):(daysR r (m*86400)).2=(daysR r (n*86400)).2:=by
 have a:=days_in h hn
 have e:=(days_same h hn hm).2 ⟨by omega,h2⟩
 have p1:=p_in r n
 have p2:=p_in r m
 have q1:perD r (plast r n)=perD r m:=by rw[e];exact p_iff.2 ⟨by omega,Int.le_refl _⟩
 have q2:perD r (plast r m)=perD r n:=by rw[←e];exact p_iff.2 ⟨by omega,Int.le_refl _⟩
 have u1:=p_iff.1 q1
 have u2:=p_iff.1 q2
 rw[days_eq h hn,days_eq h hm]
 simp only
 omega
theorem days_mono {r:Ru} {n m:Int} (h:mayR r=true) (hn:isday n=true) (hm:isday m=true) (h1:n≤m):(daysR r (n*86400)).2≤(daysR r (m*86400)).2:=by
 have a:=days_in h hn
 have b:=days_in h hm
 by_cases c:m≤(daysR r (n*86400)).2
 ·rw[days_end h hn hm h1 c];exact Int.le_refl _
 ·omega
theorem days_mono1 {r:Ru} {n m:Int} (h:mayR r=true) (hn:isday n=true) (hm:isday m=true) (h1:n≤m):(daysR r (n*86400)).1≤(daysR r (m*86400)).1:=by
 have a:=days_in h hn
 have b:=days_in h hm
 by_cases c:m≤(daysR r (n*86400)).2
 ·have e:=(days_same h hn hm).2 ⟨by omega,c⟩
  have p1:=p_in r n
  have p2:=p_in r m
  have q2:perD r (pfirst r m)=perD r n:=by rw[←e];exact p_iff.2 ⟨Int.le_refl _,by omega⟩
  have u2:=p_iff.1 q2
  rw[days_eq h hn,days_eq h hm]
  simp only
  omega
 ·have p1:=p_in r n
  have p2:=p_in r m
  have:(daysR r (n*86400)).2<(daysR r (m*86400)).1:=by
   by_cases g:(daysR r (m*86400)).1≤(daysR r (n*86400)).2
   ·have d:isday (daysR r (n*86400)).2=true:=decide_eq_true (by omega)
    have e1:=(days_same h hm d).2 ⟨g,by omega⟩
    have e2:=(days_same h hn d).2 ⟨by omega,Int.le_refl _⟩
    have e3:=(days_same h hn hm).1 (by rw[←e1,e2])
    omega
   ·omega
  omega
def perA (r:Ru) (start first n:Int):List Int:=selL (inA r start) ((daysR r (first*86400)).1*86400) ((daysR r (n*86400)).1*86400)
theorem perA_0 (r:Ru) (start first:Int):perA r start first first=[]:=sel_nil (Int.le_refl _)
theorem perA_pre {r:Ru} {start first last n:Int} (h:mayR r=true) (hs:St.may start=true) (h3:r.freq≤4) (hp:r.pos≠[]) (hf:isday first=true) (hl:isday last=true) (hn:isday n=true) (n1:first≤n) (n2:n≤last) {a:List Int} (ha:a <+: pickL r.pos (setR r start (n*86400) 100000).1):
  perA r start first n++a <+: persL r start first last:=by
 rw[per_eq h hs h3 hp hn] at ha
 obtain⟨b,hb⟩:=ha
 have m1:=days_mono1 h hf hn n1
 have m2:=days_mono h hn hl n2
 have i:=days_in h hn
 unfold perA persL
 rw[if_pos (by omega)]
 refine⟨b++selL (inA r start) (((daysR r (n*86400)).2+1)*86400) (((daysR r (last*86400)).2+1)*86400),?_⟩
 rw[List.append_assoc,←List.append_assoc a,hb,←List.append_assoc,sel_cat (by omega) (by omega),sel_cat (by omega) (by omega)]
theorem perA_next {r:Ru} {start first n:Int} (h:mayR r=true) (hs:St.may start=true) (h3:r.freq≤4) (hp:r.pos≠[]) (hf:isday first=true) (hn:isday n=true) (n1:first≤n) (hb:isday ((daysR r (n*86400)).2+1)=true):
  perA r start first n++pickL r.pos (setR r start (n*86400) 100000).1=perA r start first ((daysR r (n*86400)).2+1):=by
 have m1:=days_mono1 h hf hn n1
 have i:=days_in h hn
 unfold perA
 rw[per_eq h hs h3 hp hn,sel_cat (by omega) (by omega),days_next h hn hb]
theorem perA_last {r:Ru} {start first last n:Int} (h:mayR r=true) (hs:St.may start=true) (h3:r.freq≤4) (hp:r.pos≠[]) (hf:isday first=true) (hl:isday last=true) (hn:isday n=true) (n1:first≤n) (n2:n≤last) (hb:last<(daysR r (n*86400)).2+1):
  perA r start first n++pickL r.pos (setR r start (n*86400) 100000).1=persL r start first last:=by
 have m1:=days_mono1 h hf hn n1
 have i:=days_in h hn
 unfold perA persL
 rw[per_eq h hs h3 hp hn,sel_cat (by omega) (by omega),if_pos (by omega),days_end h hn hl n2 (by omega)]
end Go.Proofs.YtchpjhjjakckbaaGreatDoor.Ex
