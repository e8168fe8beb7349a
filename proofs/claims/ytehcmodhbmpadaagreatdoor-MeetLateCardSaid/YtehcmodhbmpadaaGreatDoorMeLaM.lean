/- Plain mathematics of MeetLate: the spans up to a sooner moment. -/
import Derived.Test.YtehcmodhbmpadaaGreatDoorMeX6
set_option linter.unusedVariables false
namespace Go.Proofs.YtehcmodhbmpadaaGreatDoor.Me
open Go.RowKit Cv St Ru Dd Mb Ex Zn
theorem take_cnt (e:Int):∀ {l:List Int},l.Pairwise (· < ·)→l.take (cntR e l)=l.filter fun y=>decide (y<e)
 | [],_=>rfl
 |x::t,h=>by
  obtain⟨h1,h2⟩:=List.pairwise_cons.1 h
  by_cases c:x<e
  ·have q:cntR e (x::t)=cntR e t+1:=List.countP_cons_of_pos (by simpa using c)
   rw[q,List.take_succ_cons,take_cnt e h2,List.filter_cons_of_pos (by simpa using c)]
  ·have n:∀y∈x::t,¬(decide (y<e)=true):=fun y hy=>by
    rcases List.mem_cons.1 hy with r|r
    ·rw[r];simpa using c
    ·have:=h1 y r;simp only[decide_eq_true_eq];omega
   rw[show cntR e (x::t)=0 from List.countP_eq_zero.2 n,List.filter_eq_nil_iff.2 n];rfl
theorem local_ok {m:Mt} {e:Int} {l:List Int} (h:localR m e=(l,0)):mayM m=true∧∃t,toldR m e=(t,0)∧l=(allR m t).filter fun y=>decide (y<e):=by
 unfold localR at h
 split at h
 ·have:=(Prod.mk.inj h).2;omega
 ·rename_i c
  have hm:mayM m=true:=by simpa using c
  split at h
  ·rename_i c2;exact absurd (Prod.mk.inj h).2 c2
  ·rename_i c2
   have z:(toldR m e).2=0:=by simpa using c2
   obtain⟨t,x,ht⟩:∃t x,toldR m e=(t,x):=⟨_,_,rfl⟩;rw[ht] at z h
   split at h
   ·have:=(Prod.mk.inj h).2;omega
   ·refine⟨hm,t,by rw[ht];exact congrArg _ z,?_⟩
    rw[←(Prod.mk.inj h).1];exact take_cnt e (all_up hm ht).1
theorem mem_all {m:Mt} {e:Int} {t:List Int} {x:Int} (hm:mayM m=true) (h:toldR m e=(t,0)) (y:Int):y∈allR m t↔(y∈t∨y∈m.dates)∧y ∉ m.exc:=by
 obtain⟨-,-,-,-,d1,d2⟩:=may_parts hm
 obtain⟨-,u3⟩:=told_le h
 unfold allR
 rw[with_is _ _ (merge_rise t m.dates u3 (dates_up d1).1) (dates_up d2).1,List.mem_filter,mem_merge]
 simp
theorem told_less {m:Mt} {e e':Int} {t t':List Int} (h:toldR m e=(t,0)) (h':toldR m e'=(t',0)) (he:e'≤e) (y:Int) (hy:y<e'):y∈t'↔y∈t:=by
 unfold toldR at h h'
 by_cases c:m.recs=true
 ·rw[if_pos c] at h h'
  obtain⟨a1,a2,a3⟩:=Ex.list_ok h;obtain⟨b1,b2,b3⟩:=Ex.list_ok h';obtain⟨p,k,q1,q2,q3⟩:=mom_less (r:=m.rule) (start:=m.start) he;rw[a2] at q1;rw[b2] at q2;subst q2;rw[q1];constructor
  ·intro z;exact List.mem_append_left _ z
  ·intro z
   rcases List.mem_append.1 z with z|z
   ·exact z
   ·have:=q3 y z;omega
 ·rw[if_neg c] at h h'
  rw[←(Prod.mk.inj h).1,←(Prod.mk.inj h').1]
theorem local_less {m:Mt} {e e':Int} {l l':List Int} (h:localR m e=(l,0)) (h':localR m e'=(l',0)) (he:e'≤e):l'=l.filter fun y=>decide (y<e'):=by
 obtain⟨hm,t,ht,hl⟩:=local_ok h
 obtain⟨-,t',ht',hl'⟩:=local_ok h'
 have u:=(all_up hm ht).1
 have u':=(all_up hm ht').1
 rw[hl,hl']
 refine Mb.rise_ext (u'.filter _) ((u.filter _).filter _) fun y => ?_
 simp only[List.mem_filter,decide_eq_true_eq]
 rw[mem_all (x:=0) hm ht y,mem_all (x:=0) hm ht' y]
 constructor
 ·rintro⟨⟨a,b⟩,c⟩
  exact⟨⟨⟨a.imp (told_less ht ht' he y c).1 id,b⟩,by omega⟩,c⟩
 ·rintro⟨⟨⟨a,b⟩,-⟩,c⟩
  exact⟨⟨a.imp (told_less ht ht' he y c).2 id,b⟩,c⟩
theorem local_in {m:Mt} {e:Int} {l:List Int} (h:localR m e=(l,0)) (y:Int) (hy:y∈l):-62104060800≤y∧y<e:=by
 obtain⟨hm,t,ht,hl⟩:=local_ok h
 rw[hl,List.mem_filter,mem_all (x:=0) hm ht y] at hy
 obtain⟨⟨a,-⟩,c⟩:=hy
 obtain⟨-,hs,-,-,d1,-⟩:=may_parts hm
 have s1:=of_decide_eq_true hs
 refine⟨?_,of_decide_eq_true c⟩
 rcases a with a|a
 ·unfold toldR at ht
  split at ht
  ·obtain⟨-,a2,-⟩:=Ex.list_ok ht
   rw[←a2] at a
   have:=(mom_sub a).1
   omega
  ·rw[←(Prod.mk.inj ht).1,List.mem_singleton] at a
   omega
 ·unfold datesB at d1
  simp only[Bool.and_eq_true] at d1
  have:=of_decide_eq_true (List.all_eq_true.1 d1.2.2 y a)
  omega
theorem beg_less {z:Zo} {hi hi':Int} (hz:mayB z.b z.l z.ys z.f=true) (hh:hi'≤hi):∀ {l:List Int},(∀y∈l,mayL y=true)→begR z hi' (l.filter fun y=>decide (y<hi'+172800))=(begR z hi l).filter fun u=>decide (u<hi')
 | [],_=>rfl
 |x::t,h=>by
  have ih:=beg_less (z:=z) hz hh (l:=t) fun y hy=>h y (List.mem_cons_of_mem _ hy)
  have u:=utcZ_near hz (h x (by simp));unfold begR at ih ⊢
  by_cases c:x<hi'+172800
  ·rw[List.filter_cons_of_pos (by simpa using c),List.map_cons,List.map_cons]
   by_cases d:utcZ z x<hi'
   ·rw[List.filter_cons_of_pos (by simpa using d),List.filter_cons_of_pos (by simp only[decide_eq_true_eq];omega),List.filter_cons_of_pos (by simpa using d),ih]
   ·rw[List.filter_cons_of_neg (by simpa using d),ih]
    by_cases f:utcZ z x<hi
    ·rw[List.filter_cons_of_pos (by simpa using f),List.filter_cons_of_neg (by simpa using d)]
    ·rw[List.filter_cons_of_neg (by simpa using f)]
  ·rw[List.filter_cons_of_neg (by simpa using c),ih,List.map_cons]
   by_cases f:utcZ z x<hi
   ·rw[List.filter_cons_of_pos (by simpa using f),List.filter_cons_of_neg (by simp only[decide_eq_true_eq];omega)]
   ·rw[List.filter_cons_of_neg (by simpa using f)]
theorem sort_up (l:List Int):(sortI l).Pairwise (·≤·):=by
 have:=List.pairwise_mergeSort (le:=fun x y:Int=>decide (x≤y)) (fun a b c h1 h2=>by simp only[decide_eq_true_eq] at *;omega) (fun a b=>by simp only[Bool.or_eq_true,decide_eq_true_eq];omega) l
 exact this.imp fun h=>of_decide_eq_true h
theorem up_ext:∀ {l m:List Int},l.Pairwise (·≤·)→m.Pairwise (·≤·)→l.Perm m→l=m
 | [],m,_,_,h=>h.nil_eq
 |x::l,[],_,_,h=>by have:=h.length_eq;simp at this
 |x::l,y::m,a,b,h=>by
  obtain⟨a1,a2⟩:=List.pairwise_cons.1 a;obtain⟨b1,b2⟩:=List.pairwise_cons.1 b
  have e:x=y:=by
   have u:=h.subset (List.mem_cons_self (a:=x) (l:=l));have v:=h.symm.subset (List.mem_cons_self (a:=y) (l:=m))
   rcases List.mem_cons.1 u with u|u
   ·exact u
   ·rcases List.mem_cons.1 v with v|v
    ·exact v.symm
    ·have:=a1 y v;have:=b1 x u;omega
  subst e;rw[up_ext a2 b2 ((List.perm_cons x).1 h)]
theorem sort_less (l:List Int) (b:Int):∃k,sortI l=sortI (l.filter fun u=>decide (u<b))++k∧∀x∈k,b≤x:=by
 have s1:=sort_up l
 have p1:(sortI l).Perm l:=List.mergeSort_perm l _
 have e:sortI (l.filter fun u=>decide (u<b))=(sortI l).filter fun u=>decide (u<b):=
  up_ext (sort_up _) (s1.filter _) ((List.mergeSort_perm _ _).trans (p1.filter _).symm)
 rw[e]
 generalize sortI l=m at s1
 clear e p1
 refine⟨m.filter fun u => !decide (u<b),?_,fun x hx=>by simpa using (List.mem_filter.1 hx).2⟩
 induction m with
 |nil=>rfl
 |cons x t ih=>
  obtain⟨h1,h2⟩:=List.pairwise_cons.1 s1
  by_cases c:x<b
  ·rw[List.filter_cons_of_pos (by simpa using c),List.filter_cons_of_neg (by simpa using c),List.cons_append,←ih h2]
  ·rw[List.filter_cons_of_neg (by simpa using c),List.filter_cons_of_pos (by simpa using c)]
   have n:(t.filter fun u=>decide (u<b))=[]:=List.filter_eq_nil_iff.2 fun y hy=>by have:=h1 y hy;simp only[decide_eq_true_eq];omega
   rw[n,List.nil_append];exact congrArg (x :: ·) ((ih h2).trans (by rw[n];rfl))
def Lat (b:Int) (B X:List (Int×Int)):Prop:=
 (B=[]∧∀s∈X.head?,b≤s.1)∨∃p s h r,B=p++[s]∧X=p++[(s.1,h)]++r∧s.2≤h∧∀q∈r.head?,b≤q.1
theorem lat_refl (b:Int) (B:List (Int×Int)):Lat b B B:=by
 rcases List.eq_nil_or_concat B with h|⟨p,s,h⟩
 ·subst h;exact .inl ⟨rfl,fun s h=>by cases h⟩
 ·rw[h];exact .inr ⟨p,s,s.2,[],by simp,by simp,Int.le_refl _,fun s h=>by cases h⟩
theorem joinS_cat {d lo:Int} (p:List (Int×Int)) (s:Int×Int):joinS d (p++[s]) lo=if lo≤s.2 then p++[(s.1,lo+d)] else p++[s]++[(lo,lo+d)]:=by
 unfold joinS
 rw[List.getLast?_concat]
 simp only[List.dropLast_concat]
theorem lat_step {d b lo:Int} {B X:List (Int×Int)} (h:Lat b B X) (hb:b≤lo) (hx:∀a∈X,a.2≤lo+d):Lat b B (joinS d X lo):=by
 rcases h with ⟨rfl,h⟩|⟨p,s,g,r,rfl,rfl,h1,h2⟩
 ·refine .inl ⟨rfl,?_⟩
  rcases List.eq_nil_or_concat X with e|⟨p,s,e⟩
  ·subst e;intro s hs;cases hs;exact hb
  ·rw[List.concat_eq_append] at e
   subst e;rw[joinS_cat]
   cases p with
   |nil=>
    have:=h s rfl
    split<;>intro q hq<;>cases hq<;>exact this
   |cons y t=>
    have:=h y rfl
    split<;>intro q hq<;>cases hq<;>exact this
 ·refine .inr ?_
  rcases List.eq_nil_or_concat r with e|⟨r',z,e⟩
  ·subst e
   rw[List.append_nil,joinS_cat]
   split
   ·refine⟨p,s,lo+d,[],rfl,by simp,?_,fun q h=>by cases h⟩
    have:=hx (s.1,g) (by simp)
    exact Int.le_trans h1 this
   ·exact⟨p,s,g,[(lo,lo+d)],rfl,rfl,h1,fun q h=>by cases h;exact hb⟩
  ·rw[List.concat_eq_append] at e
   subst e;rw[←List.append_assoc,joinS_cat]
   split
   ·refine⟨p,s,g,r'++[(z.1,lo+d)],rfl,by simp,h1,?_⟩
    cases r' with
    |nil=>intro q hq;cases hq;exact h2 z rfl
    |cons y t=>intro q hq;cases hq;exact h2 y rfl
   ·refine⟨p,s,g,r'++[z]++[(lo,lo+d)],rfl,by simp,h1,?_⟩
    cases r' with
    |nil=>intro q hq;cases hq;exact h2 z rfl
    |cons y t=>intro q hq;cases hq;exact h2 y rfl
theorem lat_join {d b:Int} (hd:0<d) {P K:List Int} (hk:∀x∈K,b≤x) (hs:(P++K).Pairwise (·≤·)):∀n,n≤K.length→Lat b (joinL d P) (joinL d ((P++K).take (P.length+n)))
 |0,_=>by
  rw[Nat.add_zero,List.take_left']
  ·exact lat_refl _ _
  ·rfl
 |n+1,hn=>by
  have ih:=lat_join hd hk hs n (by omega);have ln:P.length+n<(P++K).length:=by rw[List.length_append];omega
  have J:=joined_of hd hs (k:=P.length+n) (by omega);have e:=foldl_take (d:=d) ln;have g:(P++K)[P.length+n]=K[n]:=by rw[List.getElem_append_right (by omega)];simp
  rw[show P.length+(n+1)=P.length+n+1 from rfl,e,g]
  refine lat_step ih (hk _ (List.getElem_mem _)) fun a ha => ?_
  obtain⟨x,hx,ex⟩:=J.last a ha;have tk:(P++K).take (P.length+n+1)=(P++K).take (P.length+n)++[(P++K)[P.length+n]]:=List.take_succ_eq_append_getElem ln
  have h2:=(List.pairwise_append.1 (tk ▸ hs.sublist (List.take_sublist (P.length+n+1) (P++K)))).2.2
  have:=h2 x hx _ (List.mem_singleton.2 rfl)
  rw[g] at this;omega
theorem lat_spans {m:Mt} {n:Nat} {Z:Nat→Zo} {hi hi':Int} {A B:List (Int×Int)} (h:spansR m n Z hi=(A,0)) (h':spansR m n Z hi'=(B,0)) (hh:hi'≤hi):Lat hi' B A:=by
 unfold spansR at h h'
 split at h
 ·have:=(Prod.mk.inj h).2;omega
 rename_i c
 split at h'
 ·have:=(Prod.mk.inj h').2;omega
 rename_i c'
 simp only[not_or,Bool.not_eq_false,Int.not_le,Classical.not_not] at c c'
 obtain⟨c1,c2,c3,c4⟩:=c
 split at h
 ·rename_i q;exact absurd (Prod.mk.inj h).2 q
 rename_i q
 split at h'
 ·rename_i q';exact absurd (Prod.mk.inj h').2 q'
 rename_i q'
 obtain⟨l,hl⟩:∃l,localR m (hi+172800)=(l,0):=⟨_,Prod.ext rfl (by simpa using q)⟩
 obtain⟨l',hl'⟩:∃l,localR m (hi'+172800)=(l,0):=⟨_,Prod.ext rfl (by simpa using q')⟩
 rw[hl] at h
 rw[hl'] at h'
 have e:=local_less hl hl' (by omega)
 have hm:∀y∈l,mayL y=true:=fun y hy=>by
  have:=local_in hl y hy
  exact decide_eq_true (by omega)
 have b:=beg_less (hi:=hi) (hi':=hi') c3 hh hm
 rw[←e] at b
 rw[←(Prod.mk.inj h).1,←(Prod.mk.inj h').1]
 show Lat hi' (joinL m.dur (sortI (begR (Z m.zone.toNat) hi' l'))) (joinL m.dur (sortI (begR (Z m.zone.toNat) hi l)))
 rw[b]
 obtain⟨k,k1,k2⟩:=sort_less (begR (Z m.zone.toNat) hi l) hi'
 have su:=sort_up (begR (Z m.zone.toNat) hi l)
 rw[k1] at su ⊢
 obtain⟨-,-,d1,-⟩:=may_parts c1
 have:=lat_join (by omega:0<m.dur) k2 su k.length (Nat.le_refl _)
 rwa [List.take_of_length_le (by rw[List.length_append];omega)] at this
theorem lat_at {b:Int} {B A:List (Int×Int)} (h:Lat b B A):B.length≤A.length∧(∀i,i<B.length→(Me.pat A i).1=(Me.pat B i).1∧(Me.pat B i).2≤(Me.pat A i).2∧(i+1<B.length→(Me.pat A i).2=(Me.pat B i).2))∧(A.length≠B.length→b≤(Me.pat A B.length).1):=by
 rcases h with ⟨rfl,h⟩|⟨p,s,g,r,rfl,rfl,h1,h2⟩
 ·refine⟨by simp,fun i hi=>(by cases hi),fun c => ?_⟩
  cases A with
  |nil=>exact absurd rfl c
  |cons y t=>exact h y rfl
 ·refine⟨by simp,fun i hi => ?_,fun c => ?_⟩
  ·rw[List.length_append,List.length_singleton] at hi
   by_cases q:i<p.length
   ·have e1:Me.pat (p++[(s.1,g)]++r) i=p[i]:=by
     unfold Me.pat;rw[List.append_assoc,List.getElem?_append_left q,List.getElem?_eq_getElem q];rfl
    have e2:Me.pat (p++[s]) i=p[i]:=by
     unfold Me.pat;rw[List.getElem?_append_left q,List.getElem?_eq_getElem q];rfl
    rw[e1,e2];exact⟨rfl,Int.le_refl _,fun _=>rfl⟩
   ·obtain rfl:i=p.length:=by omega
    have e1:Me.pat (p++[(s.1,g)]++r) p.length=(s.1,g):=by unfold Me.pat;simp
    have e2:Me.pat (p++[s]) p.length=s:=by unfold Me.pat;simp
    rw[e1,e2];exact⟨rfl,h1,fun c=>by rw[List.length_append,List.length_singleton] at c;omega⟩
  ·cases r with
   |nil=>exact absurd (by simp) c
   |cons y t=>
    have e:Me.pat (p++[(s.1,g)]++y::t) (p++[s]).length=y:=by unfold Me.pat;simp
    rw[e];exact h2 y rfl
theorem joinS_len1 (d lo:Int) (s:List (Int×Int)):(joinS d s lo).length≤s.length+1:=by
 rcases List.eq_nil_or_concat s with h|⟨p,z,h⟩
 ·subst h;exact Nat.le_refl _
 ·rw[h,List.concat_eq_append,joinS_cat]
  split<;>simp
theorem foldl_len1 (d:Int):∀(l:List Int) (s:List (Int×Int)),(l.foldl (joinS d) s).length≤s.length+l.length
 | [],s=>Nat.le_refl _
 |x::l,s=>by
  have:=foldl_len1 d l (joinS d s x)
  have:=joinS_len1 d x s
  simp only[List.foldl_cons,List.length_cons];omega
theorem spans_len {m:Mt} {n:Nat} {Z:Nat→Zo} {hi e:Int} {A:List (Int×Int)} (h:spansR m n Z hi=(A,e)):A.length≤4096:=by
 unfold spansR at h
 split at h
 ·rw[←(Prod.mk.inj h).1];exact Nat.zero_le _
 ·split at h
  ·rw[←(Prod.mk.inj h).1];exact Nat.zero_le _
  ·rw[←(Prod.mk.inj h).1]
   have a:=foldl_len1 m.dur (sortI (begR (Z m.zone.toNat) hi (localR m (hi+172800)).1)) [];have b:(sortI (begR (Z m.zone.toNat) hi (localR m (hi+172800)).1)).length=_:=List.length_mergeSort _
   have c:=beg_len (Z m.zone.toNat) hi (localR m (hi+172800)).1;have d:=local_len (m:=m) (end_:=hi+172800);unfold joinL;simp only[List.length_nil] at a;omega
end Go.Proofs.YtehcmodhbmpadaaGreatDoor.Me
