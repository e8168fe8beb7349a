/- MeX3 -/
import Derived.Test.YtehcmodhbmpadaaGreatDoorStX
import Derived.RangeFuncNested
import Derived.RangeFuncBound
set_option linter.unusedVariables false
namespace Go.Proofs.YtehcmodhbmpadaaGreatDoor.Zn
open Cv
structure Sh where
 t:Int
 o:Int
 deriving DecidableEq
structure Yr where
 m:Int
 k:Int
 d:Int
 s:Int
 o:Int
 deriving DecidableEq
def mayT (t:Int):Bool:=decide (-62135596800≤t∧t≤253402300799)
def offB (o:Int):Bool:=decide (-64800≤o∧o≤64800)
def yrB (r:Yr):Bool:=decide (1≤r.m∧r.m≤12∧1≤r.k∧r.k≤5∧0≤r.d∧r.d≤6∧0≤r.s∧r.s≤86399∧-64800≤r.o∧r.o≤64800)
def inY (r:Yr) (y:Int):Sh:=⟨86400*num y r.m (nth y r.m r.k r.d)+r.s,r.o⟩
def at_ (l:List Sh) (i:Nat):Sh:=l[i]?.getD ⟨0,0⟩
def okAt (l:List Sh) (i:Nat):Bool:=mayT (at_ l i).t&&offB (at_ l i).o&&(i==0||decide (200000≤(at_ l i).t-(at_ l (i-1)).t))
def okTo (l:List Sh) (k:Nat):Bool:=(List.range k).all (okAt l)
def shB (l:List Sh):Bool:=decide (l.length≤64)&&okTo l l.length
def endB (l:List Sh) (f:Int):Bool:=l.length==0||decide (200000≤86400*ny f-(at_ l (l.length-1)).t)
def yrsB (l:List Sh) (ys:List Yr) (f:Int):Bool:=match ys with
 | []=>f==0
 | [r,q]=>yrB r&&yrB q&&decide (2≤q.m-r.m∧q.m-r.m≤10)&&decide (1≤f∧f≤9999)&&endB l f
 |_=>false
def mayB (b:Int) (l:List Sh) (ys:List Yr) (f:Int):Bool:=offB b&&shB l&&yrsB l ys f
def Is (l:List Sh) (ys:List Yr) (f:Int) (s:Sh):Prop:=s∈l∨∃r∈ys,∃y,f≤y∧y≤9999∧s=inY r y
def rows (ys:List Yr) (y:Int):List Sh:=ys.reverse.map (fun r=>inY r y)
def year (u:Int):Int:=yr (u / 86400)
def befL (l:List Sh) (ys:List Yr) (f u:Int):List Sh:=(if f≤year u then rows ys (year u) else [])++(if f≤year u-1 then rows ys (year u-1) else [])++l.reverse
def bef (l:List Sh) (ys:List Yr) (f u:Int):Option Sh:=(befL l ys f u).find? (fun s=>decide (s.t≤u))
def cols (ys:List Yr) (y:Int):List Sh:=ys.map (fun r=>inY r y)
def ofs (b:Int) (l:List Sh) (ys:List Yr) (f u:Int):Int:=match bef l ys f u with|some s=>s.o|none=>b
theorem offB_of {o:Int} (h:offB o=true):-64800≤o∧o≤64800:=of_decide_eq_true h
theorem mayT_of {t:Int} (h:mayT t=true):-62135596800≤t∧t≤253402300799:=of_decide_eq_true h
theorem year_may {u:Int} (h:mayT u=true):1≤year u∧year u≤9999∧86400*ny (year u)≤u∧u<86400*ny (year u+1):=by
 obtain⟨h1,h2⟩:=mayT_of h
 have a:=yr_day (u / 86400) (by omega) (by omega)
 have b:=yr_spec (u / 86400)
 unfold year
 omega
theorem num_month {y m:Int} {k d:Int} (h3:1≤m) (h4:m≤12) (h5:1≤k) (h6:k≤5):ny y+ah y m≤num y m (nth y m k d)∧num y m (nth y m k d)<ny y+ah y (m+1):=by
 have l3:=len_lo y m h3 h4
 have l2:=(len_bd y m).2
 have s:=ah_succ y m h3 h4
 have n:1≤nth y m k d∧nth y m k d≤len y m:=by unfold nth;split<;>omega
 unfold num;omega
theorem in_month {r:Yr} (h:yrB r=true) (y:Int):86400*(ny y+ah y r.m)≤(inY r y).t∧(inY r y).t<86400*(ny y+ah y (r.m+1)):=by
 obtain⟨h1,h2,h3,h4,h5,h6,h7,h8,_⟩:=of_decide_eq_true h
 have a:=num_month (y:=y) (d:=r.d) h1 h2 h3 h4
 unfold inY;simp only;omega
theorem in_its_year {r:Yr} (h:yrB r=true) (y:Int):86400*ny y≤(inY r y).t∧(inY r y).t<86400*ny (y+1):=by
 obtain⟨h1,h2,_⟩:=of_decide_eq_true h
 have a:=in_month h y
 have b:=ah_bd y r.m h1 (by omega)
 have c:=ah_mono y (r.m+1) 13 (by omega) (by omega)
 have d:=ah_end y
 have e:=ny_succ y
 omega
theorem in_gap {r q:Yr} (h:yrB r=true) (g:yrB q=true) (a:2≤q.m-r.m) (y:Int):(inY r y).t+172800<(inY q y).t:=by
 obtain⟨h1,h2,_⟩:=of_decide_eq_true h
 obtain⟨g1,g2,_⟩:=of_decide_eq_true g
 have a1:=in_month h y
 have a2:=in_month g y
 have b:=ah_mono y (r.m+1+1) q.m (by omega) (by omega)
 have c:=ah_succ y (r.m+1) (by omega) (by omega)
 have d:=len_lo y (r.m+1) (by omega) (by omega)
 omega
theorem next_gap {r q:Yr} (h:yrB r=true) (g:yrB q=true) (a:q.m-r.m≤10) (y:Int):(inY q y).t+172800<(inY r (y+1)).t:=by
 obtain⟨h1,h2,_⟩:=of_decide_eq_true h
 obtain⟨g1,g2,_⟩:=of_decide_eq_true g
 have a1:=in_month h (y+1)
 have a2:=in_month g y
 have e:=ny_succ y
 have d:=ah_end y
 by_cases c:q.m≤11
 ·have b:=ah_mono y (q.m+1) 12 (by omega) (by omega)
  have s:=ah_succ y 12 (by decide) (by decide);have l:=len_lo y 12 (by decide) (by decide);have z:=ah_bd (y+1) r.m h1 (by omega);rw[show (12:Int)+1=13 from rfl] at s;omega
 ·have b:=ah_mono y (q.m+1) 13 (by omega) (by omega)
  have s:=ah_succ (y+1) 1 (by decide) (by decide);have l:=len_lo (y+1) 1 (by decide) (by decide);have z:=ah_mono (y+1) 2 r.m (by omega) (by omega);have o:=ah_one (y+1);rw[show (1:Int)+1=2 from rfl] at s;omega
theorem year_gap {r q:Yr} (h:yrB r=true) (g:yrB q=true) {y z:Int} (c:y<z):(inY q y).t<(inY r z).t:=by
 have a:=in_its_year h z
 have b:=in_its_year g y
 have d:=ny_mono (y+1) z (by omega)
 omega
theorem may_of {b:Int} {l:List Sh} {ys:List Yr} {f:Int} (h:mayB b l ys f=true):
  (-64800≤b∧b≤64800)∧l.length≤64∧okTo l l.length=true∧((ys=[]∧f=0)∨∃r q,ys=[r,q]∧yrB r=true∧yrB q=true∧2≤q.m-r.m∧q.m-r.m≤10∧1≤f∧f≤9999∧endB l f=true):=by
 unfold mayB shB at h
 simp only[Bool.and_eq_true,decide_eq_true_eq] at h
 obtain⟨⟨h1,h2,h3⟩,h4⟩:=h
 refine⟨offB_of h1,h2,h3,?_⟩
 match ys,h4 with
 | [],h4=>exact .inl ⟨rfl,by simpa [yrsB] using h4⟩
 | [r,q],h4=>
   simp only[yrsB,Bool.and_eq_true,decide_eq_true_eq] at h4;obtain⟨⟨⟨⟨a,b⟩,c,d⟩,e,f⟩,g⟩:=h4;exact .inr ⟨r,q,rfl,a,b,c,d,e,f,g⟩
 | [_],h4=>simp[yrsB] at h4
 |_::_::_::_,h4=>simp[yrsB] at h4
theorem okTo_at {l:List Sh} {k i:Nat} (h:okTo l k=true) (hi:i<k):mayT (at_ l i).t=true∧offB (at_ l i).o=true∧(0<i→200000≤(at_ l i).t-(at_ l (i-1)).t):=by
 have:=List.all_eq_true.1 h i (by simpa using hi)
 unfold okAt at this
 simp only[Bool.and_eq_true,Bool.or_eq_true,beq_iff_eq,decide_eq_true_eq] at this
 obtain⟨⟨a,b⟩,c⟩:=this
 exact⟨a,b,fun h0=>by rcases c with c|c<;>omega⟩
theorem at_get {l:List Sh} {i:Nat} (h:i<l.length):at_ l i=l[i]:=by unfold at_;rw[List.getElem?_eq_getElem h];rfl
theorem okTo_mono {l:List Sh} (h:okTo l l.length=true):∀(j:Nat) (i:Nat),i<j→j<l.length→(at_ l i).t+200000≤(at_ l j).t:=by
 intro j
 induction j with
 |zero=>intro i hi;omega
 |succ j ih=>
  intro i hi hj;have a:=(okTo_at h hj).2.2 (by omega);rw[Nat.add_sub_cancel] at a
  by_cases e:i=j
  ·subst e;omega
  ·have:=ih i (by omega) (by omega);omega
theorem mem_at {l:List Sh} {s:Sh} (h:s∈l):∃i,i<l.length∧at_ l i=s:=by
 obtain⟨i,hi,rfl⟩:=List.getElem_of_mem h
 exact⟨i,hi,at_get hi⟩
theorem mem_may {l:List Sh} (h:okTo l l.length=true) {s:Sh} (hs:s∈l):mayT s.t=true∧offB s.o=true:=by
 obtain⟨i,hi,rfl⟩:=mem_at hs
 exact⟨(okTo_at h hi).1,(okTo_at h hi).2.1⟩
theorem pair_up {l:List Sh} (h:okTo l l.length=true):l.Pairwise (fun a b=>a.t+172800<b.t):=by
 rw[List.pairwise_iff_getElem]
 intro i j hi hj hij
 have:=okTo_mono h j i hij hj
 rw[at_get hi,at_get hj] at this
 omega
theorem mem_last {l:List Sh} (h:okTo l l.length=true) {s:Sh} (hs:s∈l) {f:Int} (he:endB l f=true):s.t+200000≤86400*ny f:=by
 obtain⟨i,hi,rfl⟩:=mem_at hs
 unfold endB at he
 simp only[Bool.or_eq_true,beq_iff_eq,decide_eq_true_eq] at he
 rcases he with he|he
 ·omega
 ·by_cases e:i=l.length-1
  ·subst e;omega
  ·have:=okTo_mono h (l.length-1) i (by omega) (by omega);omega
section
variable {b:Int} {l:List Sh} {ys:List Yr} {f:Int}
theorem is_may (h:mayB b l ys f=true) {s:Sh} (hs:Is l ys f s):mayT s.t=true∧offB s.o=true:=by
 obtain⟨_,_,h3,h4⟩:=may_of h
 rcases hs with hs|⟨r,hr,y,y1,y2,rfl⟩
 ·exact mem_may h3 hs
 ·rcases h4 with ⟨rfl,_⟩|⟨r0,r1,rfl,a,c,d,e,f1,f2,g⟩
  ·simp at hr
  ·have hy:yrB r=true:=by
    simp only[List.mem_cons,List.not_mem_nil,or_false] at hr
    rcases hr with rfl|rfl<;>assumption
   have i:=in_its_year hy y;obtain⟨g1,g2,g3,g4,g5,g6,g7,g8,g9,g10⟩:=of_decide_eq_true hy;have m1:=ny_mono 1 y (by omega);have m2:=ny_mono (y+1) 10000 (by omega);rw[ny_1] at m1;rw[ny_10000] at m2;exact⟨decide_eq_true (by omega),decide_eq_true ⟨g9,g10⟩⟩
end
def IsBef (S:Sh→Prop) (u:Int):Option Sh→Prop
 |some s=>S s∧s.t≤u∧∀s',S s'→s'.t≤u→s'.t≤s.t
 |none=>∀s',S s'→u<s'.t
theorem find_bef {S:Sh→Prop} {u:Int}:∀ {L:List Sh},L.Pairwise (fun a b=>b.t<a.t)→(∀s∈L,S s)→(∀s,S s→s.t≤u→∃s'∈L,s'.t≤u∧s.t≤s'.t)→IsBef S u (L.find? (fun s=>decide (s.t≤u)))
 |L,hp,hs,hc=>by
  cases hf:L.find? (fun s=>decide (s.t≤u)) with
  |none=>
   intro s' h';rw[List.find?_eq_none] at hf
   by_cases c:u<s'.t
   ·exact c
   ·obtain⟨x,hx,h1,h2⟩:=hc s' h' (by omega)
    exact absurd (decide_eq_true h1) (hf x hx)
  |some s=>
   have h1:s.t≤u:=by simpa using List.find?_some hf
   obtain⟨_,as1,bs,rfl,hno⟩:=List.find?_eq_some_iff_append.1 hf;refine⟨hs _ (by simp),h1,fun s' h' hu => ?_⟩;obtain⟨x,hx,x1,x2⟩:=hc s' h' hu;rw[List.mem_append,List.mem_cons] at hx
   rcases hx with hx|rfl|hx
   ·have:=hno x hx;simp at this;omega
   ·exact x2
   ·have:=(List.pairwise_cons.1 (List.pairwise_append.1 hp).2.1).1 x hx;omega
def run (ys:List Yr):Int→Nat→List Sh
 |_,0 => []
 |a,n+1=>cols ys a++run ys (a+1) n
section
variable {b:Int} {l:List Sh} {ys:List Yr} {f:Int}
theorem is_yr {r:Yr} (hr:r∈ys) {y:Int} (h1:f≤y) (h2:y≤9999):Is l ys f (inY r y):= .inr ⟨r,hr,y,h1,h2,rfl⟩
theorem pair_down (h:okTo l l.length=true):l.reverse.Pairwise (fun a b=>b.t<a.t):=by
 rw[List.pairwise_reverse]
 exact(pair_up h).imp (fun h=>by omega)
theorem bef_is (h:mayB b l ys f=true) {u:Int} (hu:mayT u=true):IsBef (Is l ys f) u (bef l ys f u):=by
 obtain⟨_,_,h3,h4⟩:=may_of h
 obtain⟨y1,y2,y3,y4⟩:=year_may hu
 have hy:year u=year u:=rfl
 revert hy;generalize hY:year u=Y at *;intro hy
 rcases h4 with ⟨rfl,rfl⟩|⟨r,q,rfl,a,c,d,e,f1,f2,g⟩
 ·refine find_bef ?_ ?_ ?_
  ·unfold befL rows;simpa using pair_down h3
  ·unfold befL rows;intro s hs;exact .inl (by simpa using hs)
  ·intro s hs hsu
   refine⟨s,?_,hsu,Int.le_refl _⟩
   rcases hs with hs|⟨r,hr,_⟩
   ·unfold befL rows;simpa using hs
   ·simp at hr
 ·have g0:=in_gap a c d Y
  have g1:=in_gap a c d (Y-1);have g2:=next_gap a c e (Y-1);rw[Int.sub_add_cancel] at g2;have i0:=in_its_year a Y;have i1:=in_its_year a (Y-1)
  have low:∀s∈l,s.t+200000≤86400*ny f:=fun s hs=>mem_last h3 hs g
  have m0:=ny_mono f Y;have m1:=ny_mono f (Y-1);have z1:=in_its_year c (Y-1);rw[Int.sub_add_cancel] at i1 z1;unfold bef befL;rw[hY]
  by_cases k0:f≤Y
  ·by_cases k1:f≤Y-1
   ·rw[if_pos k0,if_pos k1]
    refine find_bef ?_ ?_ ?_
    ·simp only[rows,List.reverse_cons,List.reverse_nil,List.nil_append,List.cons_append,List.map_cons,List.map_nil,List.pairwise_cons,List.mem_cons,List.mem_reverse,forall_eq_or_imp]
     refine⟨⟨by omega,by omega,by omega,fun s hs => ?_⟩,⟨by omega,by omega,fun s hs => ?_⟩,⟨by omega,fun s hs => ?_⟩,fun s hs => ?_,pair_down h3⟩
     all_goals have:=low s hs;omega
    ·intro s hs
     simp[rows] at hs
     rcases hs with rfl|rfl|rfl|rfl|hs
     ·exact is_yr (by simp) k0 y2
     ·exact is_yr (by simp) k0 y2
     ·exact is_yr (by simp) k1 (by omega)
     ·exact is_yr (by simp) k1 (by omega)
     ·exact .inl hs
    ·intro s hs hsu
     rcases hs with hs|⟨r',hr',y',w1,w2,rfl⟩
     ·exact⟨s,by simp[hs],hsu,Int.le_refl _⟩
     ·have hr2:r'=r∨r'=q:=by simpa using hr'
      have hyr:yrB r'=true:=by rcases hr2 with rfl|rfl<;>assumption
      have yi:=in_its_year hyr y'
      by_cases t:y'=Y
      ·subst t;refine⟨_,?_,hsu,Int.le_refl _⟩;rcases hr2 with rfl|rfl<;>simp[rows]
      ·by_cases t2:y'=Y-1
       ·subst t2;refine⟨_,?_,hsu,Int.le_refl _⟩;rcases hr2 with rfl|rfl<;>simp[rows]
       ·have:y'<Y-1:=by
         by_cases t3:Y+1≤y'
         ·have:=ny_mono (Y+1) y' t3;omega
         ·omega
        have p:=year_gap c hyr this;exact⟨inY q (Y-1),by simp[rows],by omega,by omega⟩
   ·obtain rfl:f=Y:=by omega
    rw[if_pos k0,if_neg k1];refine find_bef ?_ ?_ ?_
    ·simp only[rows,List.reverse_cons,List.reverse_nil,List.nil_append,List.append_nil,List.cons_append,List.map_cons,List.map_nil,List.pairwise_cons,List.mem_cons,List.mem_reverse,forall_eq_or_imp]
     refine⟨⟨by omega,fun s hs => ?_⟩,fun s hs => ?_,pair_down h3⟩
     all_goals have:=low s hs;omega
    ·intro s hs
     simp[rows] at hs
     rcases hs with rfl|rfl|hs
     ·exact is_yr (by simp) k0 y2
     ·exact is_yr (by simp) k0 y2
     ·exact .inl hs
    ·intro s hs hsu
     rcases hs with hs|⟨r',hr',y',w1,w2,rfl⟩
     ·exact⟨s,by simp[hs],hsu,Int.le_refl _⟩
     ·have hr2:r'=r∨r'=q:=by simpa using hr'
      have hyr:yrB r'=true:=by rcases hr2 with rfl|rfl<;>assumption
      have yi:=in_its_year hyr y'
      have t:y'=f:=by
       by_cases t3:f+1≤y'
       ·have:=ny_mono (f+1) y' t3;omega
       ·omega
      subst t;refine⟨_,?_,hsu,Int.le_refl _⟩;rcases hr2 with rfl|rfl<;>simp[rows]
  ·rw[if_neg k0,if_neg (by omega)]
   refine find_bef ?_ ?_ ?_
   ·simpa using pair_down h3
   ·intro s hs;exact .inl (by simpa using hs)
   ·intro s hs hsu
    rcases hs with hs|⟨r',hr',y',w1,w2,rfl⟩
    ·exact⟨s,by simp[hs],hsu,Int.le_refl _⟩
    ·have hr2:r'=r∨r'=q:=by simpa using hr'
     have hyr:yrB r'=true:=by rcases hr2 with rfl|rfl<;>assumption
     have yi:=in_its_year hyr y'
     have:=ny_mono (Y+1) y' (by omega)
     omega
theorem yrs_ok (h:mayB b l ys f=true) {r:Yr} (hr:r∈ys):yrB r=true:=by
 obtain⟨_,_,h3,h4⟩:=may_of h
 rcases h4 with ⟨rfl,rfl⟩|⟨r0,q,rfl,a0,c,_⟩
 ·simp at hr
 ·simp only[List.mem_cons,List.not_mem_nil,or_false] at hr
  rcases hr with rfl|rfl<;>assumption
theorem frm_bd (h:mayB b l ys f=true):0≤f∧f≤9999:=by
 obtain⟨_,_,h3,h4⟩:=may_of h
 rcases h4 with ⟨_,rfl⟩|⟨r0,q,_,_,_,_,_,f1,f2,_⟩<;>omega
theorem ofs_bd (h:mayB b l ys f=true) {u:Int} (hu:mayT u=true):-64800≤ofs b l ys f u∧ofs b l ys f u≤64800:=by
 have:=bef_is h hu
 unfold ofs
 cases e:bef l ys f u with
 |none=>exact(may_of h).1
 |some s=>rw[e] at this;exact offB_of (is_may h this.1).2
end
def utcF (F:Int→Int) (L:Int):Int:=
 if (L-F (L-64800))+F (L-F (L-64800))≠L∧(L-F (L+64800))+F (L-F (L+64800))=L then L-F (L+64800) else L-F (L-64800)
def mayL (L:Int):Bool:=decide (-62104060800≤L∧L≤253370764799)
def utc (b:Int) (l:List Sh) (ys:List Yr) (f L:Int):Int:=utcF (ofs b l ys f) L
end Go.Proofs.YtehcmodhbmpadaaGreatDoor.Zn
namespace Go.Proofs.YtehcmodhbmpadaaGreatDoor.Zn
open Go.RowKit Cv St
structure At (W w:World):Prop where
 below:Below W.heap.size W w
theorem At.refl {W:World}:At W W:=⟨Below.refl _ _⟩
theorem At.on {W w w':World} (h:At W w) (hb:Below W.heap.size w w'):At W w':=⟨h.below.trans hb⟩
theorem At.size {W w:World} (h:At W w):W.heap.size≤w.heap.size:=h.below.size
theorem At.drewN {W w:World} (h:At W w) (n:Nat):At W (w.drewN n):=h.on (Below.drewN' _ _ _)
theorem At.alloc {W w:World} (h:At W w) (o:Obj):At W (w.alloc o):=h.on ((Below.refl _ _).alloc h.size _)
theorem At.drew {W w:World} (h:At W w):At W w.drew:=h.on ((Below.refl _ _).drew)
theorem yr_bool {a b:Bool} (h:a=true↔b=true):a=b:=Bool.eq_iff_iff.2 h
theorem no_bool {p:Prop} [Decidable p] (h:¬p):false=decide p:=(decide_eq_false h).symm
theorem mayOff_any (o:Int) (w:World):
  Calls Tryz.prog 89 #[.int .i64 o] w fun e w'=>e= .returned (.bool (offB o))∧w=w':=by
 by_cases h1:-64800≤o
 ·go_enter Tryz.func89,Tryz.ntmps89
  go_wp2;go_ret;exact⟨ret_bool (by simp[offB,h1]),rfl⟩
 ·have h2:o < -64800:=by omega
  clear h1
  go_enter Tryz.func89,Tryz.ntmps89
  go_wp2;go_ret;exact⟨ret_bool (by simp[offB];omega),rfl⟩
theorem mayOff_yes (o:Int) (w:World) (h:offB o=true):
  Calls Tryz.prog 89 #[.int .i64 o] w fun e w'=>e= .returned (.bool true)∧w=w':=by
 have:=mayOff_any o w;rwa [h] at this
theorem mayOff_no (o:Int) (w:World) (h:offB o=false):
  Calls Tryz.prog 89 #[.int .i64 o] w fun e w'=>e= .returned (.bool false)∧w=w':=by
 have:=mayOff_any o w;rwa [h] at this
abbrev yrV (r:Yr):Value:= .agg #[.int .i64 r.m,.int .i64 r.k,.int .i64 r.d,.int .i64 r.s,.int .i64 r.o]
abbrev shV (s:Sh):Value:= .agg #[.int .i64 s.t,.int .i64 s.o]
set_option maxHeartbeats 1000000 in
theorem mayYearly_any (r:Yr) (w:World):
  Calls Tryz.prog 130 #[yrV r] w fun e w'=>e= .returned (.bool (yrB r))∧Below w.heap.size w w':=by
 obtain⟨m,k,d,s,o⟩:=r
 show Calls _ _ #[.agg #[.int .i64 m,.int .i64 k,.int .i64 d,.int .i64 s,.int .i64 o]] _ _
 go_enter Tryz.func130,Tryz.ntmps130
 go_wp2_with (go_at_call 89;refine(mayOff_any _ _).mono ?_;rintro e w' ⟨rfl,rfl⟩)
 all_goals
  go_ret
  first
   |exact ⟨ret_bool (no_bool (by dsimp only;omega)),(Below.refl _ _).alloc (Nat.le_refl _) _⟩
   |exact ⟨ret_bool (yr_bool (by simp only[yrB,offB,decide_eq_true_eq];omega)),(Below.refl _ _).alloc (Nat.le_refl _) _⟩
theorem yearOf_any' (u:Int) (w:World) (hu:mayT u=true):
  Calls Tryz.prog 104 #[.int .i64 u] w fun e w'=>e= .returned (.int .i64 (year u))∧w=w':=by
 obtain⟨h1,h2⟩:=mayT_of hu
 clear hu
 go_enter Tryz.func104,Tryz.ntmps104
 go_wp2_with fail
 refine(day_any _ _ (by omega) (by omega)).mono ?_
 rintro e w' ⟨rfl,rfl⟩
 go_wp2_with fail
 refine(yearDay_yes _ _ (by omega) (by omega)).mono ?_
 rintro e w' ⟨rfl,rfl⟩
 go_wp2
 go_ret
 exact⟨rfl,rfl⟩
set_option maxHeartbeats 1000000 in
theorem inYear_any (r:Yr) (y:Int) (w:World) (hr:yrB r=true) (h1:1≤y) (h2:y≤9999):
  Calls Tryz.prog 105 #[yrV r,.int .i64 y] w fun e w'=>e= .returned (shV (inY r y))∧Below w.heap.size w w':=by
 obtain⟨m,k,d,s,o⟩:=r
 obtain⟨g1,g2,g3,g4,g5,g6,g7,g8,g9,g10⟩:=of_decide_eq_true hr
 simp only at g1 g2 g3 g4 g5 g6 g7 g8 g9 g10
 have hv:=nth_ok (x:=d) h1 h2 g1 g2 g3 g4
 have nb:=num_bd hv
 have V:=Lib.hid hv
 have M:=Lib.hid (show mk y m (nth y m k d) 0 0 0=86400*num y m (nth y m k d) from by unfold mk;omega)
 have T:=Lib.hid (show time 0 0 0=true from by decide)
 clear hv hr
 show Calls _ _ #[.agg #[.int .i64 m,.int .i64 k,.int .i64 d,.int .i64 s,.int .i64 o],.int .i64 y] _ _
 go_enter Tryz.func105,Tryz.ntmps105
 go_wp2_with fail
 refine(nth_yes _ _ _ _ _ h1 h2 g1 g2 g3 g4 g5 g6).mono ?_
 rintro e w' ⟨rfl,rfl⟩
 go_wp2_with fail
 refine(make_yes _ _ _ _ _ _ _ V.out T.out).mono ?_
 rintro e w' ⟨rfl,rfl⟩
 rw[M.out]
 go_wp2
 exact bodyPost_ret (v:= .agg #[.int .i64 (86400*num y m (nth y m k d)+s),.int .i64 o]) (by simp[results,Tryz.f105,go_sem]) rfl ⟨rfl,((Below.refl _ _).alloc (Nat.le_refl _) _).alloc (by simp) _⟩
def ShAt (W:World) (A:Option Addr) (n:Nat) (l:List Sh):Prop:=
 n=l.length∧(0<n→∃b off,A=some ⟨b,off,none⟩∧b<W.heap.size∧∀j,j<n→W.cell? ⟨b,off+j*2,none⟩=some (.int .i64 (at_ l j).t)∧W.cell? ⟨b,off+j*2+1,none⟩=some (.int .i64 (at_ l j).o))
def yat (l:List Yr) (i:Nat):Yr:=l[i]?.getD ⟨0,0,0,0,0⟩
def YrAt (W:World) (A:Option Addr) (n:Nat) (ys:List Yr):Prop:=
 n=ys.length∧(0<n→∃b off,A=some ⟨b,off,none⟩∧b<W.heap.size∧∀j,j<n→W.cell? ⟨b,off+j*5,none⟩=some (.int .i64 (yat ys j).m)∧W.cell? ⟨b,off+j*5+1,none⟩=some (.int .i64 (yat ys j).k)∧
  W.cell? ⟨b,off+j*5+2,none⟩=some (.int .i64 (yat ys j).d)∧W.cell? ⟨b,off+j*5+3,none⟩=some (.int .i64 (yat ys j).s)∧W.cell? ⟨b,off+j*5+4,none⟩=some (.int .i64 (yat ys j).o))
theorem ShAt.below {W w:World} {A:Option Addr} {n:Nat} {l:List Sh} (h:ShAt W A n l) (hb:Below W.heap.size W w):ShAt w A n l:=
 ⟨h.1,fun h0=>by
  obtain⟨b,off,e,hlt,hc⟩:=h.2 h0
  exact⟨b,off,e,Nat.lt_of_lt_of_le hlt hb.size,fun j hj=>⟨(hb.cell (p:=⟨b,_,none⟩) hlt).trans (hc j hj).1,(hb.cell (p:=⟨b,_,none⟩) hlt).trans (hc j hj).2⟩⟩⟩
theorem YrAt.below {W w:World} {A:Option Addr} {n:Nat} {l:List Yr} (h:YrAt W A n l) (hb:Below W.heap.size W w):YrAt w A n l:=
 ⟨h.1,fun h0=>by
  obtain⟨b,off,e,hlt,hc⟩:=h.2 h0;refine⟨b,off,e,Nat.lt_of_lt_of_le hlt hb.size,fun j hj => ?_⟩;obtain⟨c0,c1,c2,c3,c4⟩:=hc j hj
  exact⟨(hb.cell (p:=⟨b,_,none⟩) hlt).trans c0,(hb.cell (p:=⟨b,_,none⟩) hlt).trans c1,(hb.cell (p:=⟨b,_,none⟩) hlt).trans c2,(hb.cell (p:=⟨b,_,none⟩) hlt).trans c3,(hb.cell (p:=⟨b,_,none⟩) hlt).trans c4⟩⟩
theorem ShAt.nil (W:World) (A:Option Addr):ShAt W A 0 []:=⟨rfl,fun h=>absurd h (by omega)⟩
theorem YrAt.nil (W:World) (A:Option Addr):YrAt W A 0 []:=⟨rfl,fun h=>absurd h (by omega)⟩
theorem okTo_succ {l:List Sh} {k:Nat}:okTo l (k+1)=(okTo l k&&okAt l k):=by
 unfold okTo;rw[List.range_succ,List.all_append];simp
theorem okTo_no {l:List Sh} {n k:Nat} (hk:k<n) (hn:n≤64) (e:n=l.length) (h:okAt l k=false):false=shB l:=by
 unfold shB
 have:okTo l l.length=false:=by
  cases c:okTo l l.length
  ·rfl
  ·have:=List.all_eq_true.1 c k (by simpa using e ▸ hk)
   rw[h] at this;cases this
 rw[this];simp
theorem shB_long {l:List Sh} {n:Nat} (hn:64<n) (e:n=l.length):false=shB l:=by
 unfold shB;rw[←e];simp;omega
theorem shB_yes {l:List Sh} {n:Nat} (hn:n≤64) (e:n=l.length) (h:okTo l n=true):true=shB l:=by
 unfold shB;rw[←e,h];simp;omega
set_option maxHeartbeats 1000000 in
theorem mayShifts_any (W w:World) (A:Option Addr) (n c:Nat) (l:List Sh) (h:ShAt W A n l) (hn:n≤9223372036854775807) (ha:At W w):
  Calls Tryz.prog 90 #[.slice A n c] w fun e w'=>e= .returned (.bool (shB l))∧At W w':=by
 obtain⟨en,hc⟩:=h
 have EN:=Lib.hid en
 clear en
 by_cases h64:n≤64
 ·go_enter Tryz.func90,Tryz.ntmps90
  go_wp2
  go_loopw [10] (fun i wr=>∃k:Nat,k≤n∧i= .int .i64 k∧Hid (okTo l k=true)∧At W wr) (fun i _=>n-(intOf i).toNat)
  case atStart=>exact⟨0,Nat.zero_le _,rfl,Lib.hid rfl,ha⟩
  case round=>
   obtain⟨k,hk,rfl,D,hat⟩:=hrel
   by_cases hlt:k<n
   ·obtain⟨b,off,rfl,hb,hcc⟩:=hc (by omega)
    have hbw:=Nat.lt_of_lt_of_le hb hat.size;have c0:=(hat.below.cell (p:=⟨b,off+k*2,none⟩) hb).trans (hcc k hlt).1;have c1:=(hat.below.cell (p:=⟨b,off+k*2+1,none⟩) hb).trans (hcc k hlt).2;cases h1:mayT (at_ l k).t
    ·have F:=Lib.hid (okTo_no (k:=k) hlt h64 EN.out (by unfold okAt;rw[h1];simp))
     have H1:=Lib.hid h1;clear h1 hcc hc
     go_wp2_with (go_at_call 64;refine(may_no _ _ H1.out).mono ?_;rintro e w' ⟨rfl,rfl⟩)
     go_ret;exact⟨ret_bool F.out,hat.alloc _⟩
    ·cases h2:offB (at_ l k).o
     ·have F:=Lib.hid (okTo_no (k:=k) hlt h64 EN.out (by unfold okAt;rw[h1,h2];simp))
      have H1:=Lib.hid h1;have H2:=Lib.hid h2;clear h1 h2 hcc hc
      go_wp2_with (first|(go_at_call 64;refine(may_yes _ _ H1.out).mono ?_;rintro e w' ⟨rfl,rfl⟩)|(go_at_call 89;refine(mayOff_no _ _ H2.out).mono ?_;rintro e w' ⟨rfl,rfl⟩))
      go_ret;exact⟨ret_bool F.out,hat.alloc _⟩
     ·have H1:=Lib.hid h1
      have H2:=Lib.hid h2;obtain⟨t1,t2⟩:=mayT_of h1
      cases k with
      |zero=>
       simp only[Nat.zero_mul,Nat.add_zero] at c0 c1;have F:=Lib.hid (show okTo l (0+1)=true from by rw[okTo_succ,D.out];unfold okAt;rw[h1,h2];rfl);clear h1 h2 hcc hc
       go_wp2_with (first|(go_at_call 64;refine(may_yes _ _ H1.out).mono ?_;rintro e w' ⟨rfl,rfl⟩)|(go_at_call 89;refine(mayOff_yes _ _ H2.out).mono ?_;rintro e w' ⟨rfl,rfl⟩))
       go_quiet (fail)
       go_wp2
       go_roundw
       case rel=>exact⟨0+1,by omega,by go_num,F,(hat.alloc _).drewN _⟩
       case measure=>simp[intOf];omega
      |succ k=>
       have h0:=okTo_at (l:=l) (k:=k+1) (i:=k) D.out (by omega);obtain⟨s1,s2⟩:=mayT_of h0.1;have d0:=(hat.below.cell (p:=⟨b,off+k*2,none⟩) hb).trans (hcc k (by omega)).1
       by_cases h3:(at_ l (k+1)).t-(at_ l k).t<200000
       ·have F:=Lib.hid (okTo_no (k:=k+1) hlt h64 EN.out (by unfold okAt;rw[h1,h2];simp;omega))
        clear h1 h2 hcc hc h0
        go_wp2_with (first|(go_at_call 64;refine(may_yes _ _ H1.out).mono ?_;rintro e w' ⟨rfl,rfl⟩)|(go_at_call 89;refine(mayOff_yes _ _ H2.out).mono ?_;rintro e w' ⟨rfl,rfl⟩))
        go_quiet (fail)
        go_wp2;go_ret;exact⟨ret_bool F.out,(hat.alloc _).drewN _⟩
       ·have h4:200000≤(at_ l (k+1)).t-(at_ l k).t:=by omega
        have F:=Lib.hid (show okTo l (k+1+1)=true from by rw[okTo_succ,D.out];unfold okAt;rw[h1,h2];simp;omega);clear h1 h2 hcc hc h0 h3
        go_wp2_with (first|(go_at_call 64;refine(may_yes _ _ H1.out).mono ?_;rintro e w' ⟨rfl,rfl⟩)|(go_at_call 89;refine(mayOff_yes _ _ H2.out).mono ?_;rintro e w' ⟨rfl,rfl⟩))
        go_quiet (fail)
        go_wp2
        go_roundw
        case rel=>exact⟨k+1+1,by omega,by go_num,F,(hat.alloc _).drewN _⟩
        case measure=>simp[intOf];omega
   ·obtain rfl:k=n:=by omega
    go_wp2;go_ret;exact⟨ret_bool (shB_yes h64 EN.out D.out),hat⟩
 ·go_enter Tryz.func90,Tryz.ntmps90
  go_wp2;go_ret;exact⟨ret_bool (shB_long (by omega) EN.out),ha⟩
end Go.Proofs.YtehcmodhbmpadaaGreatDoor.Zn
namespace Go.Proofs.YtehcmodhbmpadaaGreatDoor.Zn
open Go.RowKit Cv St
theorem bcell {W w1:World} (hb:Below W.heap.size W w1):(∀b o,b<W.heap.size→w1.cell? ⟨b,o,none⟩=W.cell? ⟨b,o,none⟩)∧(∀b o,b<W.heap.size→w1.frozen? ⟨b,o,none⟩=W.frozen? ⟨b,o,none⟩):=
 ⟨fun b o h=>hb.cell (p:=⟨b,o,none⟩) h,fun b o h=>hb.frozen (p:=⟨b,o,none⟩) h⟩
theorem mayYearly_yes (r:Yr) (w:World) (h:yrB r=true):
  Calls Tryz.prog 130 #[yrV r] w fun e w'=>e= .returned (.bool true)∧Below w.heap.size w w':=by
 have:=mayYearly_any r w;rwa [h] at this
theorem mayYearly_no (r:Yr) (w:World) (h:yrB r=false):
  Calls Tryz.prog 130 #[yrV r] w fun e w'=>e= .returned (.bool false)∧Below w.heap.size w w':=by
 have:=mayYearly_any r w;rwa [h] at this
theorem yrs_len {l:List Sh} {ys:List Yr} {f:Int} {n:Nat} (e:n=ys.length) (h0:0<n) (h2:n≠2):false=yrsB l ys f:=by
 match ys,e with
 | [],e=>simp at e;omega
 | [_],_=>rfl
 | [_,_],e=>exact absurd e h2
 |_::_::_::_,_=>rfl
theorem two_of {ys:List Yr} (e:2=ys.length):ys=[yat ys 0,yat ys 1]:=by
 match ys,e with
 | [_,_],_=>rfl
theorem valid_f {f:Int}:valid f 1 1=decide (1≤f∧f≤9999):=by
 unfold valid
 rw[decide_eq_decide]
 simp[len]
set_option maxHeartbeats 1000000 in
theorem mayYears_any (W w:World) (b f:Int) (A A':Option Addr) (n c n' c':Nat) (l:List Sh) (ys:List Yr) (hs:ShAt W A n l) (hy:YrAt W A' n' ys) (hn:n≤64) (hn':n'≤9223372036854775807) (ho:okTo l l.length=true) (ha:At W w):
  Calls Tryz.prog 91 #[.agg #[.int .i64 b,.slice A n c,.slice A' n' c',.int .i64 f]] w fun e w'=>e= .returned (.bool (yrsB l ys f))∧At W w':=by
 obtain⟨en,hc⟩:=hs
 obtain⟨en',hc'⟩:=hy
 by_cases h0:n'=0
 ·subst h0
  obtain rfl:ys=[]:=List.eq_nil_of_length_eq_zero en'.symm
  clear en en' hc hc' ho
  go_enter Tryz.func91,Tryz.ntmps91
  go_wp2;go_ret;exact⟨rfl,ha.alloc _⟩
 ·by_cases h2:n'=2
  ·subst h2
   rw[two_of en'];obtain⟨b',off,rfl,hb,hcc⟩:=hc' (by omega);have hbw:=Nat.lt_of_lt_of_le hb ha.size;obtain⟨a0,a1,a2,a3,a4⟩:=hcc 0 (by omega);obtain⟨q0,q1,q2,q3,q4⟩:=hcc 1 (by omega);simp only[Nat.zero_mul,Nat.add_zero,Nat.one_mul,Nat.add_assoc,Nat.reduceAdd] at a0 a1 a2 a3 a4 q0 q1 q2 q3 q4
   replace a0:=(ha.below.cell (p:=⟨b',_,none⟩) hb).trans a0
   replace a1:=(ha.below.cell (p:=⟨b',_,none⟩) hb).trans a1
   replace a2:=(ha.below.cell (p:=⟨b',_,none⟩) hb).trans a2
   replace a3:=(ha.below.cell (p:=⟨b',_,none⟩) hb).trans a3
   replace a4:=(ha.below.cell (p:=⟨b',_,none⟩) hb).trans a4
   replace q0:=(ha.below.cell (p:=⟨b',_,none⟩) hb).trans q0
   replace q1:=(ha.below.cell (p:=⟨b',_,none⟩) hb).trans q1
   replace q2:=(ha.below.cell (p:=⟨b',_,none⟩) hb).trans q2
   replace q3:=(ha.below.cell (p:=⟨b',_,none⟩) hb).trans q3
   replace q4:=(ha.below.cell (p:=⟨b',_,none⟩) hb).trans q4
   generalize yat ys 0=r at *;generalize yat ys 1=q at *;clear en' hcc hc' h0 hn';cases hr:yrB r
   ·have R:=Lib.hid hr
    have F:=Lib.hid (show false=yrsB l [r,q] f from by simp[yrsB,hr]);clear hr en hc ho
    go_enter Tryz.func91,Tryz.ntmps91
    go_wp2_with fail;refine(mayYearly_no r _ R.out).mono ?_;rintro e w1 ⟨rfl,hb1⟩;go_wp2;go_ret;exact⟨ret_bool F.out,(ha.alloc _).on (hb1.mono (by have:=ha.size;simp;omega))⟩
   ·cases hq:yrB q
    ·have R:=Lib.hid hr
     have Q:=Lib.hid hq;have F:=Lib.hid (show false=yrsB l [r,q] f from by simp[yrsB,hq]);clear hr hq en hc ho
     go_enter Tryz.func91,Tryz.ntmps91
     go_wp2_with fail;refine(mayYearly_yes r _ R.out).mono ?_;rintro e w1 ⟨rfl,hb1⟩;obtain⟨k1,k2⟩:=bcell hb1;go_wp2_with fail;refine(mayYearly_no q _ Q.out).mono ?_;rintro e w2 ⟨rfl,hb2⟩;go_wp2;go_ret;exact⟨ret_bool F.out,((ha.alloc _).on (hb1.mono (by have:=ha.size;simp;omega))).on (hb2.mono (by have:=ha.size;have:=hb1.size;simp at this;omega))⟩
    ·have R:=Lib.hid hr
     have Q:=Lib.hid hq;obtain⟨r1,r2,_⟩:=of_decide_eq_true hr;obtain⟨s1,s2,_⟩:=of_decide_eq_true hq
     by_cases hm:2≤q.m-r.m∧q.m-r.m≤10
     ·obtain⟨m1,m2⟩:=hm
      cases hv:valid f 1 1
      ·have V:=Lib.hid hv
       have F:=Lib.hid (show false=yrsB l [r,q] f from by simp only[yrsB,hr,hq];rw[valid_f] at hv;rw[hv];simp);clear hr hq hv en hc ho
       go_enter Tryz.func91,Tryz.ntmps91
       go_wp2_with fail;refine(mayYearly_yes r _ R.out).mono ?_;rintro e w1 ⟨rfl,hb1⟩;obtain⟨k1,k2⟩:=bcell hb1;go_wp2_with fail;refine(mayYearly_yes q _ Q.out).mono ?_;rintro e w2 ⟨rfl,hb2⟩;obtain⟨k3,k4⟩:=bcell hb2;have z1:w.heap.size+1≤w1.heap.size:=by have:=hb1.size;simp at this;omega
       have z2:w.heap.size<w1.heap.size:=by omega
       have z3:b'<w1.heap.size:=by omega
       have z4:w1.heap.size≤w2.heap.size:=hb2.size
       have at2:At W w2:=((ha.alloc _).on (hb1.mono (by have:=ha.size;simp;omega))).on (hb2.mono (by have:=ha.size;omega))
       go_wp2
       go_quiet (fail)
       go_wp2_with fail;refine(make_date _ _ _ _ _ _ _ V.out).mono ?_;rintro e w3 ⟨rfl,rfl⟩;go_wp2;go_ret;exact⟨ret_bool F.out,at2.drewN _⟩
      ·have V:=Lib.hid hv
       have hf:=hv;rw[valid_f] at hf;obtain⟨f1,f2⟩:=of_decide_eq_true hf;have nb:=ny_bd f (by omega) (by omega);have T:=Lib.hid (show time 0 0 0=true from by decide);have M:=Lib.hid (show mk f 1 1 0 0 0=86400*ny f from by unfold mk;rw[num_new];omega);have E0:yrsB l [r,q] f=endB l f:=by simp only[yrsB,hr,hq];simp[f1,f2,m1,m2]
       by_cases hn0:n=0
       ·have F:=Lib.hid (show true=yrsB l [r,q] f from by rw[E0];unfold endB;rw[←en,hn0];rfl)
        subst hn0;clear hr hq hv hf en hc ho E0
        go_enter Tryz.func91,Tryz.ntmps91
        go_wp2_with fail;refine(mayYearly_yes r _ R.out).mono ?_;rintro e w1 ⟨rfl,hb1⟩;obtain⟨k1,k2⟩:=bcell hb1;go_wp2_with fail;refine(mayYearly_yes q _ Q.out).mono ?_;rintro e w2 ⟨rfl,hb2⟩;obtain⟨k3,k4⟩:=bcell hb2;have z1:w.heap.size+1≤w1.heap.size:=by have:=hb1.size;simp at this;omega
        have z2:w.heap.size<w1.heap.size:=by omega
        have z3:b'<w1.heap.size:=by omega
        have z4:w1.heap.size≤w2.heap.size:=hb2.size
        have at2:At W w2:=((ha.alloc _).on (hb1.mono (by have:=ha.size;simp;omega))).on (hb2.mono (by have:=ha.size;omega))
        go_wp2
        go_quiet (fail)
        go_wp2_with fail;refine(make_yes _ _ _ _ _ _ _ V.out T.out).mono ?_;rintro e w3 ⟨rfl,rfl⟩;rw[M.out];go_wp2;go_ret;exact⟨ret_bool F.out,at2.drewN _⟩
       ·obtain⟨b2,off2,rfl,hb2',hcc2⟩:=hc (by omega)
        have hbw2:=Nat.lt_of_lt_of_le hb2' ha.size;obtain⟨j,rfl⟩:∃j,n=j+1:=⟨n-1,by omega⟩;have d0:=(ha.below.cell (p:=⟨b2,off2+j*2,none⟩) hb2').trans (hcc2 j (by omega)).1;have lst:=mayT_of (okTo_at ho (i:=j) (by omega)).1;obtain⟨l1,l2⟩:=lst;have F:=Lib.hid (show decide (200000≤86400*ny f-(at_ l j).t)=yrsB l [r,q] f from by rw[E0];unfold endB;rw[←en,Nat.add_sub_cancel];simp);have nz:(((j+1:Nat):Int)==0)=false:=by rw[beq_eq_false_iff_ne];omega
        clear hr hq hv hf en hc ho E0 hn0 hcc2
        go_enter Tryz.func91,Tryz.ntmps91
        go_wp2_with fail;refine(mayYearly_yes r _ R.out).mono ?_;rintro e w1 ⟨rfl,hb1⟩;obtain⟨k1,k2⟩:=bcell hb1;go_wp2_with fail;refine(mayYearly_yes q _ Q.out).mono ?_;rintro e w2 ⟨rfl,hb2⟩;obtain⟨k3,k4⟩:=bcell hb2;have z1:w.heap.size+1≤w1.heap.size:=by have:=hb1.size;simp at this;omega
        have z2:w.heap.size<w1.heap.size:=by omega
        have z3:b'<w1.heap.size:=by omega
        have z5:b2<w1.heap.size:=by omega
        have z4:w1.heap.size≤w2.heap.size:=hb2.size
        have at2:At W w2:=((ha.alloc _).on (hb1.mono (by have:=ha.size;simp;omega))).on (hb2.mono (by have:=ha.size;omega))
        go_wp2
        go_quiet (fail)
        go_wp2_with fail;refine(make_yes _ _ _ _ _ _ _ V.out T.out).mono ?_;rintro e w3 ⟨rfl,rfl⟩;rw[M.out];go_wp2
        all_goals
         go_ret;exact⟨ret_bool F.out,at2.drewN _⟩
     ·have F:=Lib.hid (show false=yrsB l [r,q] f from by simp only[yrsB,hr,hq];rw[decide_eq_false hm];simp)
      obtain⟨x,y,hxy⟩:∃x y,makeR f 1 1 0 0 0=(x,y):=⟨_,_,rfl⟩;have X:=Lib.hid hxy
      by_cases hm1:q.m-r.m<2
      ·clear hr hq en hc ho hm hxy
       go_enter Tryz.func91,Tryz.ntmps91
       go_wp2_with fail;refine(mayYearly_yes r _ R.out).mono ?_;rintro e w1 ⟨rfl,hb1⟩;obtain⟨k1,k2⟩:=bcell hb1;go_wp2_with fail;refine(mayYearly_yes q _ Q.out).mono ?_;rintro e w2 ⟨rfl,hb2⟩;obtain⟨k3,k4⟩:=bcell hb2;have z1:w.heap.size+1≤w1.heap.size:=by have:=hb1.size;simp at this;omega
       have z2:w.heap.size<w1.heap.size:=by omega
       have z3:b'<w1.heap.size:=by omega
       have z4:w1.heap.size≤w2.heap.size:=hb2.size
       have at2:At W w2:=((ha.alloc _).on (hb1.mono (by have:=ha.size;simp;omega))).on (hb2.mono (by have:=ha.size;omega))
       go_wp2
       go_quiet (fail)
       go_wp2_with fail;refine(make_any _ _ _ _ _ _ _ _ _ X.out).mono ?_;rintro e w3 ⟨rfl,rfl⟩;go_wp2;go_ret;exact⟨ret_bool F.out,at2.drewN _⟩
      ·have hm2:10<q.m-r.m:=by omega
       have hm3:2≤q.m-r.m:=by omega
       clear hr hq en hc ho hm hm1 hxy
       go_enter Tryz.func91,Tryz.ntmps91
       go_wp2_with fail;refine(mayYearly_yes r _ R.out).mono ?_;rintro e w1 ⟨rfl,hb1⟩;obtain⟨k1,k2⟩:=bcell hb1;go_wp2_with fail;refine(mayYearly_yes q _ Q.out).mono ?_;rintro e w2 ⟨rfl,hb2⟩;obtain⟨k3,k4⟩:=bcell hb2;have z1:w.heap.size+1≤w1.heap.size:=by have:=hb1.size;simp at this;omega
       have z2:w.heap.size<w1.heap.size:=by omega
       have z3:b'<w1.heap.size:=by omega
       have z4:w1.heap.size≤w2.heap.size:=hb2.size
       have at2:At W w2:=((ha.alloc _).on (hb1.mono (by have:=ha.size;simp;omega))).on (hb2.mono (by have:=ha.size;omega))
       go_wp2
       go_quiet (fail)
       go_wp2_with fail;refine(make_any _ _ _ _ _ _ _ _ _ X.out).mono ?_;rintro e w3 ⟨rfl,rfl⟩;go_wp2;go_ret;exact⟨ret_bool F.out,at2.drewN _⟩
  ·have F:=Lib.hid (yrs_len (l:=l) (f:=f) en' (by omega) h2)
   have b0:((n':Int)==0)=false:=by rw[beq_eq_false_iff_ne];omega
   have b2:((n':Int) != 2)=true:=by rw[bne_iff_ne];omega
   clear en en' hc hc' ho h0 h2
   go_enter Tryz.func91,Tryz.ntmps91
   go_wp2;go_ret;exact⟨ret_bool F.out,ha.alloc _⟩
structure ZnAt (W:World) (A:Option Addr) (n:Nat) (A':Option Addr) (n':Nat) (l:List Sh) (ys:List Yr):Prop where
 sh:ShAt W A n l
 yr:YrAt W A' n' ys
 sn:n≤9223372036854775807
 yn:n'≤9223372036854775807
abbrev znV (b f:Int) (A:Option Addr) (n c:Nat) (A':Option Addr) (n' c':Nat):Value:= .agg #[.int .i64 b,.slice A n c,.slice A' n' c',.int .i64 f]
theorem ZnAt.below {W w:World} {A:Option Addr} {n:Nat} {A':Option Addr} {n':Nat} {l:List Sh} {ys:List Yr} (h:ZnAt W A n A' n' l ys) (hb:Below W.heap.size W w):ZnAt w A n A' n' l ys:=⟨h.sh.below hb,h.yr.below hb,h.sn,h.yn⟩
theorem mayShifts_is (W w:World) (A:Option Addr) (n c:Nat) (l:List Sh) (x:Bool) (hx:shB l=x) (h:ShAt W A n l) (hn:n≤9223372036854775807) (ha:At W w):
  Calls Tryz.prog 90 #[.slice A n c] w fun e w'=>e= .returned (.bool x)∧At W w':=hx ▸ mayShifts_any W w A n c l h hn ha
set_option maxHeartbeats 1000000 in
theorem zMay_any (W w:World) (b f:Int) (A A':Option Addr) (n c n' c':Nat) (l:List Sh) (ys:List Yr) (hz:ZnAt W A n A' n' l ys) (ha:At W w):
  Calls Tryz.prog 50 #[znV b f A n c A' n' c'] w fun e w'=>e= .returned (.bool (mayB b l ys f))∧At W w':=by
 show Calls _ _ #[.agg #[.int .i64 b,.slice A n c,.slice A' n' c',.int .i64 f]] _ _
 have hat:=ha.alloc (.cells #[.int .i64 b,.slice A n c,.slice A' n' c',.int .i64 f] 50)
 have hw:=ha.size
 cases ho:offB b
 ·have O:=Lib.hid ho
  have F:=Lib.hid (show false=mayB b l ys f from by unfold mayB;rw[ho];simp);clear ho
  go_enter Tryz.func50,Tryz.ntmps50
  go_wp2_with fail;refine(mayOff_no _ _ O.out).mono ?_;rintro e w1 ⟨rfl,rfl⟩;go_wp2;go_ret;exact⟨ret_bool F.out,hat⟩
 ·cases hs:shB l
  ·have O:=Lib.hid ho
   have S:=Lib.hid hs;have F:=Lib.hid (show false=mayB b l ys f from by unfold mayB;rw[hs];simp);clear ho hs
   go_enter Tryz.func50,Tryz.ntmps50
   go_wp2_with fail;refine(mayOff_yes _ _ O.out).mono ?_;rintro e w1 ⟨rfl,rfl⟩;go_wp2_with fail;refine(mayShifts_is W _ _ _ _ l _ S.out hz.sh hz.sn hat).mono ?_;rintro e w1 ⟨rfl,a1⟩;go_wp2;go_ret;exact⟨ret_bool F.out,a1⟩
  ·have O:=Lib.hid ho
   have S:=Lib.hid hs;have F:=Lib.hid (show yrsB l ys f=mayB b l ys f from by unfold mayB;rw[ho,hs];simp);unfold shB at hs;rw[Bool.and_eq_true,decide_eq_true_eq] at hs;obtain⟨h64,hok⟩:=hs;have HL:=Lib.hid (show n≤64 from by rw[hz.sh.1];exact h64);have HO:=Lib.hid hok;clear ho h64 hok;have hz1:=hz
   go_enter Tryz.func50,Tryz.ntmps50
   go_wp2_with fail;refine(mayOff_yes _ _ O.out).mono ?_;rintro e w1 ⟨rfl,rfl⟩;go_wp2_with fail;refine(mayShifts_is (w.alloc (.cells #[.int .i64 b,.slice A n c,.slice A' n' c',.int .i64 f] 50)) _ _ _ _ l _ S.out (hz.sh.below (hat.below)) hz.sn .refl).mono ?_;rintro e w1 ⟨rfl,a1⟩;obtain⟨k1,k2⟩:=bcell a1.below;go_wp2_with fail;refine(mayYears_any W _ b f A A' n c n' c' l ys hz.sh hz.yr HL.out hz.yn HO.out (hat.on (a1.below.mono (by simp;omega)))).mono ?_;rintro e w2 ⟨rfl,a2⟩;go_wp2;go_ret;exact⟨ret_bool F.out,a2⟩
theorem zMay_is (W w:World) (b f:Int) (A A':Option Addr) (n c n' c':Nat) (l:List Sh) (ys:List Yr) (x:Bool) (hx:mayB b l ys f=x) (hz:ZnAt W A n A' n' l ys) (ha:At W w):
  Calls Tryz.prog 50 #[znV b f A n c A' n' c'] w fun e w'=>e= .returned (.bool x)∧At W w':=hx ▸ zMay_any W w b f A A' n c n' c' l ys hz ha
theorem zMay_own (w:World) (b f:Int) (A A':Option Addr) (n c n' c':Nat) (l:List Sh) (ys:List Yr) (x:Bool) (hx:mayB b l ys f=x) (hz:ZnAt w A n A' n' l ys):
  Calls Tryz.prog 50 #[znV b f A n c A' n' c'] w fun e w'=>e= .returned (.bool x)∧Below w.heap.size w w':=
 (zMay_is w w b f A A' n c n' c' l ys x hx hz .refl).mono fun _ _ h=>⟨h.1,h.2.below⟩
end Go.Proofs.YtehcmodhbmpadaaGreatDoor.Zn
namespace Go.Proofs.YtehcmodhbmpadaaGreatDoor.Zn
open Go.RowKit Go.Shelf Cv St
attribute [local go_sem] Oper.semAt_some
def upto {α:Type} (f:Nat→α) (k:Nat):List α:=(List.range k).map f
theorem upto_succ {α:Type} (f:Nat→α) (k:Nat):upto f (k+1)=upto f k++[f k]:=by simp[upto,List.range_succ]
abbrev Yok:={ r:Yr // yrB r=true }
def yok (l:List Yok) (i:Nat):Yok:=l[i]?.getD ⟨⟨1,1,0,0,0⟩,by decide⟩
theorem yok_lift {ys:List Yr} (h:∀r∈ys,yrB r=true):∃xs:List Yok,ys=xs.map (·.1):=⟨ys.attachWith _ h,by simp⟩
theorem yok_at {xs:List Yok} {j:Nat} (h:j<xs.length):yat (xs.map (·.1)) j=(yok xs j).1:=by
 unfold yat yok;simp[h]
theorem upto_length {α:Type} (f:Nat→α) (k:Nat):(upto f k).length=k:=by simp[upto]
def shAt (xs:List Sh) (n j:Nat):Nat×Sh:=(n-1-j,at_ xs (n-1-j))
set_option maxRecDepth 100000 in
set_option maxHeartbeats 2000000 in
theorem shBack1_in (F:Fence) (n:Nat) (h7:F.fn 187) (hro:F.round=none) (hn:1≤n) (l Bs n₀ b off len cap:Nat) (xs:List Sh) (hreach:len≤9223372036854775807) (hb:b<n₀) (J Jx:List (Nat×Sh)→World→Prop)
  (hY:∀pre x W,J pre W→pre.length<len→YieldAt F (n-1) Tryz.prog l #[.int .i64 (x.1:Int),shV x.2] W fun e W'=>
   (e= .returned (.bool true)∧J (pre++[x]) W'∧Below n₀ W W')∨(e= .returned (.bool false)∧Jx (pre++[x]) W'))
  (W:World) (hBs:∀w',Below n₀ W w'→w'.cell? ⟨Bs,0,none⟩=some (.slice (some ⟨b,off,none⟩) len cap)) (hc:∀j,j<len→W.cell? ⟨b,off+j*2,none⟩=some (.int .i64 (at_ xs j).t)∧W.cell? ⟨b,off+j*2+1,none⟩=some (.int .i64 (at_ xs j).o)) (h0:J [] W):
  CallsIn F n Tryz.prog 187 #[.func (.yield l) #[] #[],.pointer (some ⟨Bs,0,none⟩)] W fun e W'=>(∃v,e= .returned v)∧
   ((∃ys,ys=upto (shAt xs len) len∧J ys W')∨(∃pre,(∃k,k≤len∧pre=upto (shAt xs len) k)∧Jx pre W')):=by
 refine callsIn_of_wp Tryz.func187 rfl h7 ?_ hro
 simp only[Tryz.ntmps187,List.size_toArray,List.length_cons,List.length_nil,Nat.reduceAdd,Nat.reduceSub,Array.replicate_succ,Array.replicate_zero,List.push_toArray,List.append_toArray,List.nil_append,List.cons_append]
 have hB0:=hBs W (Below.refl _ _)
 gi_wp2
 gi_loopw [3] (fun i wr=>∃m:Nat,m≤len∧i= .int .i64 ((m:Int)-1)∧J (upto (shAt xs len) (len-m)) wr∧Below n₀ W wr)
  (fun i _=>(intOf i+1).toNat)
 case atStart=>exact⟨len,Nat.le_refl _,rfl,by rw[Nat.sub_self];exact h0,Below.refl _ _⟩
 case round=>
  obtain⟨m,hm,hi,hJs,hnx⟩:=hrel;have hB1:=hBs wr hnx
  cases m with
  |zero=>
   rw[show (((0:Nat):Int)-1) = -1 from rfl] at hi;subst hi;rw[Nat.sub_zero] at hJs
   gi_wp2
   go_end0
   exact⟨⟨_,rfl⟩,.inl ⟨_,rfl,hJs⟩⟩
  |succ j=>
   rw[show (((j+1:Nat):Int)-1)=(j:Int) from by omega] at hi;subst hi;obtain⟨e0,e1⟩:=hc j (by omega)
   replace e0:=(hnx.cell (p:=⟨b,_,none⟩) hb).trans e0
   replace e1:=(hnx.cell (p:=⟨b,_,none⟩) hb).trans e1
   have ej:len-1-(len-(j+1))=j:=by omega
   obtain⟨fn,tmps,assign,body,hy,hR⟩:=hY _ (shAt xs len (len-(j+1))) wr hJs (by rw[upto_length];omega);rw[←upto_succ,show len-(j+1)+1=len-j from by omega] at hR;unfold shAt at hy;rw[ej] at hy;clear ej
   dsimp only at hy
   gi_wp2
   refine hR.mono ?_;rintro e W3 (⟨rfl,hJ3,hk3⟩|⟨rfl,hJx3⟩)
   ·gi_wp2
    go_roundw
    case rel=>exact⟨j,by omega,rfl,hJ3,hnx.trans hk3⟩
    case measure=>simp[intOf]
   ·gi_wp2
    refine bodyPost_ret (results_none rfl _ _ _) rfl ?_;exact⟨⟨_,rfl⟩,.inr ⟨_,⟨len-j,by omega,rfl⟩,hJx3⟩⟩
set_option maxRecDepth 100000 in
set_option maxHeartbeats 1000000 in
theorem shBack1_nil_in (F:Fence) (n:Nat) (h7:F.fn 187) (hro:F.round=none) (l Bs:Nat) (A:Option Addr) (cap:Nat) (J:List (Nat×Sh)→World→Prop) (W:World) (hBs:W.cell? ⟨Bs,0,none⟩=some (.slice A 0 cap)) (h0:J [] W):
  CallsIn F n Tryz.prog 187 #[.func (.yield l) #[] #[],.pointer (some ⟨Bs,0,none⟩)] W fun e W'=>(∃v,e= .returned v)∧J [] W':=by
 refine callsIn_of_wp Tryz.func187 rfl h7 ?_ hro
 simp only[Tryz.ntmps187,List.size_toArray,List.length_cons,List.length_nil,Nat.reduceAdd,Nat.reduceSub,Array.replicate_succ,Array.replicate_zero,List.push_toArray,List.append_toArray,List.nil_append,List.cons_append]
 gi_wp2
 gi_loopw [3] (fun i wr=>i= .int .i64 (-1)∧J [] wr) (fun _ _=>0)
 case atStart=>exact⟨rfl,h0⟩
 case round=>
  obtain⟨rfl,hJs⟩:=hrel
  gi_wp2
  go_end0
  exact⟨⟨_,rfl⟩,hJs⟩
set_option maxHeartbeats 1000000 in
theorem shBack_in (F:Fence) (n:Nat) (h5:F.fn 145) (hro:F.round=none) (a:Option Addr) (len cap:Nat) (w:World):
  CallsIn F n Tryz.prog 145 #[.slice a len cap] w fun e w'=>e= .returned (.func (.func 187) #[] #[.pointer (some ⟨w.heap.size,0,none⟩)])∧w'=w.alloc (.cells #[.slice a len cap] 47):=by
 refine callsIn_of_wp Tryz.func145 rfl h5 ?_ hro
 simp only[Tryz.ntmps145,List.size_toArray,List.length_cons,List.length_nil,Nat.reduceAdd,Nat.reduceSub,Array.replicate_succ,Array.replicate_zero,List.push_toArray,List.append_toArray,List.nil_append,List.cons_append]
 gi_wp2
 go_ret
 exact⟨rfl,rfl⟩
theorem shBack_stops (F:Fence) (n:Nat) (h7:F.fn 187) (hro:F.round=none) (hn:1≤n) (Bs:Nat) (W0:World) (A:Option Addr) (len cap:Nat) (xs:List Sh) (hreach:len≤9223372036854775807) (w:World) (hBs:Bs<w.heap.size) (hk:Below W0.heap.size W0 w)
  (hc:w.cell? ⟨Bs,0,none⟩=some (.slice A len cap)) (hI:ShAt W0 A len xs):
  SeqStopsK F n Tryz.prog 187 #[.pointer (some ⟨Bs,0,none⟩)] (fun x:Nat×Sh => #[Value.int .i64 (x.1:Int),shV x.2]) (Below w.heap.size) (fun ys=>ys=upto (shAt xs len) len)
   (fun pre=>∃k,k≤len∧pre=upto (shAt xs len) k) len w:=fun l J Jx W hW _ _ hY h0=>by
 have hc':∀w',Below w.heap.size W w'→w'.cell? ⟨Bs,0,none⟩=some (.slice A len cap):=fun w' h=>(h.cell (p:=⟨Bs,0,none⟩) hBs).trans ((hW.cell (p:=⟨Bs,0,none⟩) hBs).trans hc)
 obtain⟨el,hcs⟩:=hI
 rcases Nat.eq_zero_or_pos len with rfl|hpos
 ·exact(shBack1_nil_in F n h7 hro l Bs A cap J W (hc' W (Below.refl _ _)) h0).mono fun e W' ⟨he,hj⟩=>⟨he,.inl ⟨_,rfl,hj⟩⟩
 ·obtain⟨b,off,rfl,hb,hcc⟩:=hcs hpos
  have hall:∀j,j<len→W.cell? ⟨b,off+j*2,none⟩=some (.int .i64 (at_ xs j).t)∧W.cell? ⟨b,off+j*2+1,none⟩=some (.int .i64 (at_ xs j).o):=fun j hj=>by
   obtain⟨e0,e1⟩:=hcc j hj;exact⟨(hW.cell (p:=⟨b,_,none⟩) (Nat.lt_of_lt_of_le hb hk.size)).trans ((hk.cell (p:=⟨b,_,none⟩) hb).trans e0),(hW.cell (p:=⟨b,_,none⟩) (Nat.lt_of_lt_of_le hb hk.size)).trans ((hk.cell (p:=⟨b,_,none⟩) hb).trans e1)⟩
  exact shBack1_in F n h7 hro hn l Bs w.heap.size b off len cap xs hreach (Nat.lt_of_lt_of_le hb hk.size) J Jx hY W hc' hall h0
def yrAt (xs:List Yok) (n j:Nat):Nat×Yok:=(n-1-j,yok xs (n-1-j))
set_option maxRecDepth 100000 in
set_option maxHeartbeats 2000000 in
theorem yrBack1_in (F:Fence) (n:Nat) (h7:F.fn 186) (hro:F.round=none) (hn:1≤n) (l Bs n₀ b off len cap:Nat) (xs:List Yok) (hreach:len≤9223372036854775807) (hb:b<n₀) (J Jx:List (Nat×Yok)→World→Prop)
  (hY:∀pre x W,J pre W→pre.length<len→YieldAt F (n-1) Tryz.prog l #[.int .i64 (x.1:Int),yrV x.2.1] W fun e W'=>
   (e= .returned (.bool true)∧J (pre++[x]) W'∧Below n₀ W W')∨(e= .returned (.bool false)∧Jx (pre++[x]) W'))
  (W:World) (hBs:∀w',Below n₀ W w'→w'.cell? ⟨Bs,0,none⟩=some (.slice (some ⟨b,off,none⟩) len cap)) (hc:∀j,j<len→W.cell? ⟨b,off+j*5,none⟩=some (.int .i64 (yok xs j).1.m)∧W.cell? ⟨b,off+j*5+1,none⟩=some (.int .i64 (yok xs j).1.k)∧W.cell? ⟨b,off+j*5+2,none⟩=some (.int .i64 (yok xs j).1.d)∧W.cell? ⟨b,off+j*5+3,none⟩=some (.int .i64 (yok xs j).1.s)∧W.cell? ⟨b,off+j*5+4,none⟩=some (.int .i64 (yok xs j).1.o)) (h0:J [] W):
  CallsIn F n Tryz.prog 186 #[.func (.yield l) #[] #[],.pointer (some ⟨Bs,0,none⟩)] W fun e W'=>(∃v,e= .returned v)∧
   ((∃ys,ys=upto (yrAt xs len) len∧J ys W')∨(∃pre,(∃k,k≤len∧pre=upto (yrAt xs len) k)∧Jx pre W')):=by
 refine callsIn_of_wp Tryz.func186 rfl h7 ?_ hro
 simp only[Tryz.ntmps186,List.size_toArray,List.length_cons,List.length_nil,Nat.reduceAdd,Nat.reduceSub,Array.replicate_succ,Array.replicate_zero,List.push_toArray,List.append_toArray,List.nil_append,List.cons_append]
 have hB0:=hBs W (Below.refl _ _)
 gi_wp2
 gi_loopw [3] (fun i wr=>∃m:Nat,m≤len∧i= .int .i64 ((m:Int)-1)∧J (upto (yrAt xs len) (len-m)) wr∧Below n₀ W wr)
  (fun i _=>(intOf i+1).toNat)
 case atStart=>exact⟨len,Nat.le_refl _,rfl,by rw[Nat.sub_self];exact h0,Below.refl _ _⟩
 case round=>
  obtain⟨m,hm,hi,hJs,hnx⟩:=hrel;have hB1:=hBs wr hnx
  cases m with
  |zero=>
   rw[show (((0:Nat):Int)-1) = -1 from rfl] at hi;subst hi;rw[Nat.sub_zero] at hJs
   gi_wp2
   go_end0
   exact⟨⟨_,rfl⟩,.inl ⟨_,rfl,hJs⟩⟩
  |succ j=>
   rw[show (((j+1:Nat):Int)-1)=(j:Int) from by omega] at hi;subst hi;obtain⟨e0,e1,e2,e3,e4⟩:=hc j (by omega)
   replace e0:=(hnx.cell (p:=⟨b,_,none⟩) hb).trans e0
   replace e1:=(hnx.cell (p:=⟨b,_,none⟩) hb).trans e1
   replace e2:=(hnx.cell (p:=⟨b,_,none⟩) hb).trans e2
   replace e3:=(hnx.cell (p:=⟨b,_,none⟩) hb).trans e3
   replace e4:=(hnx.cell (p:=⟨b,_,none⟩) hb).trans e4
   have ej:len-1-(len-(j+1))=j:=by omega
   obtain⟨fn,tmps,assign,body,hy,hR⟩:=hY _ (yrAt xs len (len-(j+1))) wr hJs (by rw[upto_length];omega);rw[←upto_succ,show len-(j+1)+1=len-j from by omega] at hR;unfold yrAt at hy;rw[ej] at hy;clear ej
   dsimp only at hy
   gi_wp2
   refine hR.mono ?_;rintro e W3 (⟨rfl,hJ3,hk3⟩|⟨rfl,hJx3⟩)
   ·gi_wp2
    go_roundw
    case rel=>exact⟨j,by omega,rfl,hJ3,hnx.trans hk3⟩
    case measure=>simp[intOf]
   ·gi_wp2
    refine bodyPost_ret (results_none rfl _ _ _) rfl ?_;exact⟨⟨_,rfl⟩,.inr ⟨_,⟨len-j,by omega,rfl⟩,hJx3⟩⟩
set_option maxRecDepth 100000 in
set_option maxHeartbeats 1000000 in
theorem yrBack1_nil_in (F:Fence) (n:Nat) (h7:F.fn 186) (hro:F.round=none) (l Bs:Nat) (A:Option Addr) (cap:Nat) (J:List (Nat×Yok)→World→Prop) (W:World) (hBs:W.cell? ⟨Bs,0,none⟩=some (.slice A 0 cap)) (h0:J [] W):
  CallsIn F n Tryz.prog 186 #[.func (.yield l) #[] #[],.pointer (some ⟨Bs,0,none⟩)] W fun e W'=>(∃v,e= .returned v)∧J [] W':=by
 refine callsIn_of_wp Tryz.func186 rfl h7 ?_ hro
 simp only[Tryz.ntmps186,List.size_toArray,List.length_cons,List.length_nil,Nat.reduceAdd,Nat.reduceSub,Array.replicate_succ,Array.replicate_zero,List.push_toArray,List.append_toArray,List.nil_append,List.cons_append]
 gi_wp2
 gi_loopw [3] (fun i wr=>i= .int .i64 (-1)∧J [] wr) (fun _ _=>0)
 case atStart=>exact⟨rfl,h0⟩
 case round=>
  obtain⟨rfl,hJs⟩:=hrel
  gi_wp2
  go_end0
  exact⟨⟨_,rfl⟩,hJs⟩
set_option maxHeartbeats 1000000 in
theorem yrBack_in (F:Fence) (n:Nat) (h5:F.fn 144) (hro:F.round=none) (a:Option Addr) (len cap:Nat) (w:World):
  CallsIn F n Tryz.prog 144 #[.slice a len cap] w fun e w'=>e= .returned (.func (.func 186) #[] #[.pointer (some ⟨w.heap.size,0,none⟩)])∧w'=w.alloc (.cells #[.slice a len cap] 48):=by
 refine callsIn_of_wp Tryz.func144 rfl h5 ?_ hro
 simp only[Tryz.ntmps144,List.size_toArray,List.length_cons,List.length_nil,Nat.reduceAdd,Nat.reduceSub,Array.replicate_succ,Array.replicate_zero,List.push_toArray,List.append_toArray,List.nil_append,List.cons_append]
 gi_wp2
 go_ret
 exact⟨rfl,rfl⟩
theorem yrBack_stops (F:Fence) (n:Nat) (h7:F.fn 186) (hro:F.round=none) (hn:1≤n) (Bs:Nat) (W0:World) (A:Option Addr) (len cap:Nat) (xs:List Yok) (hreach:len≤9223372036854775807) (w:World) (hBs:Bs<w.heap.size) (hk:Below W0.heap.size W0 w)
  (hc:w.cell? ⟨Bs,0,none⟩=some (.slice A len cap)) (hI:YrAt W0 A len (xs.map (·.1))):
  SeqStopsK F n Tryz.prog 186 #[.pointer (some ⟨Bs,0,none⟩)] (fun x:Nat×Yok => #[Value.int .i64 (x.1:Int),yrV x.2.1]) (Below w.heap.size) (fun ys=>ys=upto (yrAt xs len) len)
   (fun pre=>∃k,k≤len∧pre=upto (yrAt xs len) k) len w:=fun l J Jx W hW _ _ hY h0=>by
 have hc':∀w',Below w.heap.size W w'→w'.cell? ⟨Bs,0,none⟩=some (.slice A len cap):=fun w' h=>(h.cell (p:=⟨Bs,0,none⟩) hBs).trans ((hW.cell (p:=⟨Bs,0,none⟩) hBs).trans hc)
 obtain⟨el,hcs⟩:=hI
 rcases Nat.eq_zero_or_pos len with rfl|hpos
 ·exact(yrBack1_nil_in F n h7 hro l Bs A cap J W (hc' W (Below.refl _ _)) h0).mono fun e W' ⟨he,hj⟩=>⟨he,.inl ⟨_,rfl,hj⟩⟩
 ·obtain⟨b,off,rfl,hb,hcc⟩:=hcs hpos
  have hall:∀j,j<len→W.cell? ⟨b,off+j*5,none⟩=some (.int .i64 (yok xs j).1.m)∧W.cell? ⟨b,off+j*5+1,none⟩=some (.int .i64 (yok xs j).1.k)∧W.cell? ⟨b,off+j*5+2,none⟩=some (.int .i64 (yok xs j).1.d)∧W.cell? ⟨b,off+j*5+3,none⟩=some (.int .i64 (yok xs j).1.s)∧W.cell? ⟨b,off+j*5+4,none⟩=some (.int .i64 (yok xs j).1.o):=fun j hj=>by
   obtain⟨e0,e1,e2,e3,e4⟩:=hcc j hj;have ex:=yok_at (xs:=xs) (j:=j) (by have:=el;simp at this;omega);rw[ex] at e0 e1 e2 e3 e4;exact⟨(hW.cell (p:=⟨b,_,none⟩) (Nat.lt_of_lt_of_le hb hk.size)).trans ((hk.cell (p:=⟨b,_,none⟩) hb).trans e0),(hW.cell (p:=⟨b,_,none⟩) (Nat.lt_of_lt_of_le hb hk.size)).trans ((hk.cell (p:=⟨b,_,none⟩) hb).trans e1),(hW.cell (p:=⟨b,_,none⟩) (Nat.lt_of_lt_of_le hb hk.size)).trans ((hk.cell (p:=⟨b,_,none⟩) hb).trans e2),(hW.cell (p:=⟨b,_,none⟩) (Nat.lt_of_lt_of_le hb hk.size)).trans ((hk.cell (p:=⟨b,_,none⟩) hb).trans e3),(hW.cell (p:=⟨b,_,none⟩) (Nat.lt_of_lt_of_le hb hk.size)).trans ((hk.cell (p:=⟨b,_,none⟩) hb).trans e4)⟩
  exact yrBack1_in F n h7 hro hn l Bs w.heap.size b off len cap xs hreach (Nat.lt_of_lt_of_le hb hk.size) J Jx hY W hc' hall h0
end Go.Proofs.YtehcmodhbmpadaaGreatDoor.Zn
namespace Go.Proofs.YtehcmodhbmpadaaGreatDoor.Zn
open Go.RowKit Go.Shelf Cv St
theorem upto_split {α:Type} (F:Nat→α) {k:Nat}:∀ {n:Nat},k≤n→∃r,upto F n=upto F k++r
 |0,h=>⟨[],by obtain rfl:k=0:=by omega
              simp⟩
 |n+1,h=>by
  by_cases e:k=n+1
  ·subst e;exact⟨[],by simp⟩
  ·obtain⟨r,hr⟩:=upto_split F (k:=k) (n:=n) (by omega)
   exact⟨r++[F n],by rw[upto_succ,hr,List.append_assoc]⟩
theorem hit_find {α:Type} {F:Nat→α} {n k:Nat} {g:α→Sh} {p:Sh→Bool} {ini:List α} {x:α} (hk:k≤n) (e:upto F k=ini++[x]) (hm:∀y∈ini,p (g y)=false) (hx:p (g x)=true):((upto F n).map g).find? p=some (g x):=by
 obtain⟨r,hr⟩:=upto_split F hk
 have h0:(ini.map g).find? p=none:=by
  rw[List.find?_eq_none];intro y hy;obtain⟨z,hz,rfl⟩:=List.mem_map.1 hy;rw[hm z hz];decide
 rw[hr,e,List.map_append,List.map_append,List.find?_append,List.find?_append,h0]
 simp[hx]
theorem miss_find {α:Type} {F:Nat→α} {n:Nat} {g:α→Sh} {p:Sh→Bool} (hm:∀y∈upto F n,p (g y)=false):((upto F n).map g).find? p=none:=by
 rw[List.find?_eq_none];intro y hy
 obtain⟨z,hz,rfl⟩:=List.mem_map.1 hy
 rw[hm z hz];decide
theorem rows_upto (xs:List Yok) (y:Int):rows (xs.map (·.1)) y=(upto (yrAt xs xs.length) xs.length).map (fun x=>inY x.2.1 y):=by
 unfold rows
 apply List.ext_getElem
 ·simp[upto]
 ·intro i h1 h2
  have hi:i<xs.length:=by simpa using h1
  have hj:xs.length-1-i<xs.length:=by omega
  simp[upto,yrAt,yok,List.getElem_reverse,hj]
theorem back_upto (l:List Sh):l.reverse=(upto (shAt l l.length) l.length).map (·.2):=by
 apply List.ext_getElem
 ·simp[upto]
 ·intro i h1 h2
  have hi:i<l.length:=by simpa using h1
  have hj:l.length-1-i<l.length:=by omega
  simp[upto,shAt,at_,List.getElem_reverse,hj]
def Miss (ys:List Yr) (u y:Int):Prop:=∀z,y<z→z≤year u→∀s∈rows ys z,decide (s.t≤u)=false
theorem miss_top (ys:List Yr) (u:Int):Miss ys u (year u):=fun z h1 h2=>by omega
theorem find_none_of {L:List Sh} {p:Sh→Bool} (h:∀s∈L,p s=false):L.find? p=none:=by
 rw[List.find?_eq_none];intro s hs;rw[h s hs];decide
theorem bef_hit {l:List Sh} {ys:List Yr} {f u y:Int} {s:Sh} (h1:f≤y) (h2:year u-1≤y) (h3:y≤year u) (hm:Miss ys u y) (hs:(rows ys y).find? (fun s=>decide (s.t≤u))=some s):bef l ys f u=some s:=by
 unfold bef befL
 by_cases e:y=year u
 ·subst e
  rw[if_pos h1,List.append_assoc,List.find?_append,hs];rfl
 ·obtain rfl:y=year u-1:=by omega
  have:=find_none_of (hm (year u) (by omega) (Int.le_refl _))
  rw[if_pos (by omega),if_pos h1,List.append_assoc,List.find?_append,this,List.find?_append,hs];rfl
theorem bef_rest {l:List Sh} {ys:List Yr} {f u y:Int} (h1:y<max f (year u-1)) (hm:Miss ys u y):bef l ys f u=l.reverse.find? (fun s=>decide (s.t≤u)):=by
 unfold bef befL
 by_cases c:f≤year u-1
 ·have a:=find_none_of (hm (year u) (by omega) (Int.le_refl _))
  have b:=find_none_of (hm (year u-1) (by omega) (by omega));rw[if_pos (by omega),if_pos c,List.append_assoc,List.find?_append,a,List.find?_append,b];rfl
 ·by_cases d:f≤year u
  ·have a:=find_none_of (hm (year u) (by omega) (Int.le_refl _))
   rw[if_pos d,if_neg c,List.append_nil,List.find?_append,a];rfl
  ·rw[if_neg d,if_neg c];rfl
def Blk (w:World) (g:Nat) (t:TypeId) (cs:Array Value):Prop:=w.heap[g]? = some (.cells cs t (0,0))
section
variable {w w':World} {g:Nat} {t:TypeId} {cs:Array Value}
theorem Blk.lt (h:Blk w g t cs):g<w.heap.size:=(Array.getElem?_eq_some_iff.1 h).1
theorem Blk.cell (h:Blk w g t cs) (i:Nat):w.cell? ⟨g,i,none⟩=cs[i]? :=cell_of_row w g i cs t (0,0) h
theorem Blk.frozen (h:Blk w g t cs) (i:Nat):w.frozen? ⟨g,i,none⟩=false:=by unfold Blk at h;simp[World.frozen?,h]
theorem Blk.new (w:World) (t:TypeId) (cs:Array Value):Blk (w.alloc (.cells cs t)) w.heap.size t cs:=World.alloc_heap_new w _
theorem Blk.below {B:Nat} (h:Blk w g t cs) (hb:Below B w w') (hg:g<B):Blk w' g t cs:=(hb.block g hg).trans h
theorem Blk.alloc (h:Blk w g t cs) (o:Obj):Blk (w.alloc o) g t cs:=(Below.heap_alloc w o g h.lt).trans h
theorem Blk.set_ (h:Blk w g t cs) (i:Nat) (u:Value):Blk (w.setCell ⟨g,i,none⟩ u) g t (cs.setIfInBounds i u):=by
 unfold Blk at h ⊢
 simp[World.setCell,Array.getElem?_modify,h]
theorem Blk.far (h:Blk w g t cs) {p:Addr} (hp:g≠p.block) (u:Value):Blk (w.setCell p u) g t cs:=(Below.heap_setCell w p u g hp).trans h
theorem Blk.drew (h:Blk w g t cs):Blk w.drew g t cs:=h
end
theorem blk_own {β:Type} (g:Nat) (t:TypeId) (f:β→Array Value):Own (fun s W=>Blk W g t (f s)):=fun s X Y row hs hg hrow=>
 (hg.block g (Blk.lt hs) (fun e'=>by obtain⟨o,ho,hc⟩:=hrow g e'.symm;rw[show X.heap[g]? = _ from hs] at ho;cases ho;cases hc)).trans hs
def Dfs (n0 top:Nat) (ds:List Nat) (w:World):Prop:=ds.Nodup∧∀D∈ds,n0≤D∧D<top∧w.heap[D]? = some (.deferred (some []))
def dsl (ds:List Nat):List Deferred:=ds.map fun D=>{ target:= .collected D,args:=#[] }
theorem Dfs.below {n0 top B:Nat} {ds:List Nat} {w w':World} (h:Dfs n0 top ds w) (hb:Below B w w') (ht:top≤B):Dfs n0 top ds w':=
 ⟨h.1,fun D hD=>⟨(h.2 D hD).1,(h.2 D hD).2.1,(hb.block D (by have:=(h.2 D hD).2.1;omega)).trans (h.2 D hD).2.2⟩⟩
theorem Dfs.far {n0 top:Nat} {ds:List Nat} {w:World} {g:Nat} {t:TypeId} {cs:Array Value} (h:Dfs n0 top ds w) (hg:Blk w g t cs) (i:Nat) (v:Value):Dfs n0 top ds (w.setCell ⟨g,i,none⟩ v):=
 ⟨h.1,fun D hD=>⟨(h.2 D hD).1,(h.2 D hD).2.1,(Below.heap_setCell w ⟨g,i,none⟩ v D (fun e=>by
  have h1:=(h.2 D hD).2.2;simp only at e
  subst e
  rw[show w.heap[D]? = _ from hg] at h1;cases h1)).trans (h.2 D hD).2.2⟩⟩
theorem Dfs.cons {n0 top top' D:Nat} {ds:List Nat} {w:World} (h:Dfs n0 top ds w) (h1:top≤D) (h2:D<top') (h3:n0≤D) (hD:w.heap[D]? = some (.deferred (some []))):Dfs n0 top' (D::ds) w:=by
 refine⟨List.nodup_cons.2 ⟨fun hm=>by have:=(h.2 D hm).2.1;omega,h.1⟩,fun E hE => ?_⟩
 rcases List.mem_cons.1 hE with rfl|hE
 ·exact⟨h3,h2,hD⟩
 ·have:=h.2 E hE;exact⟨this.1,by omega,this.2.2⟩
theorem dfs_own {β:Type} (n0 top:Nat) (ds:List Nat):OwnFrom top (fun (_:β) W=>Dfs n0 top ds W):=fun s X Y row hs hg hr=>
 ⟨hs.1,fun D hD=>⟨(hs.2 D hD).1,(hs.2 D hD).2.1,(hg.block D (Array.getElem?_eq_some_iff.1 (hs.2 D hD).2.2).1 (fun e=>by have:=(hr D e.symm).1;have:=(hs.2 D hD).2.1;omega)).trans (hs.2 D hD).2.2⟩⟩
theorem keeps_below {W W':World} (B:Nat) (h:Below W.heap.size W W'):KeepsFrom B W W':=
 ⟨h.size,fun k o _ hk _=>(h.block k (Array.getElem?_eq_some_iff.1 hk).1).trans hk⟩
theorem leaves_of {F:Fence} {n:Nat} {P:Program} {fn:Func} {tmps:Array Value} {R:Ending→World→Prop} {n0 top:Nat}:∀(ds:List Nat) (w:World),Dfs n0 top ds w→n0≤w.heap.size→
  (∀w',Below n0 w w'→(∀g t cs,Blk w g t cs→Blk w' g t cs)→∃v,(results fn tmps).run P w'= .ok v w'∧R (.returned v) w')→LeavesInM F n P fn tmps R (dsl ds) .returning w
 | [],w,_,_,h=>show ∃v,(results fn tmps).run P w= .ok v w∧R (.returned v) w from h w (Below.refl _ _) fun _ _ _ h=>h
 |D::ds,w,hd,hn,h=>by
  have hD:=hd.2 D (List.mem_cons_self ..);have hlt:=(Array.getElem?_eq_some_iff.1 hD.2.2).1;have hg:=grownBy_putObj' w D (.deferred none);have hb:Below n0 w (w.putObj D (.deferred none)):=(Below.refl n0 w).grown hg hn (fun k e=>by cases e;exact hD.1)
  refine⟨by simp,.inl ⟨_,_,rfl,run_takeDeferred hD.2.2,?_⟩⟩
  refine leaves_of (n0:=n0) (top:=top) ds _ ⟨(List.nodup_cons.1 hd.1).2,fun E hE => ?_⟩ (Nat.le_trans hn hb.size) fun w' h1 h2=>h w' (hb.trans h1) fun g t cs hk=>h2 g t cs ?_
  ·have hE':=hd.2 E (List.mem_cons_of_mem _ hE)
   exact⟨hE'.1,hE'.2.1,(hg.block E (Array.getElem?_eq_some_iff.1 hE'.2.2).1 (fun e=>(List.nodup_cons.1 hd.1).1 (by cases e;exact hE))).trans hE'.2.2⟩
  ·exact(hg.block g hk.lt (fun e=>by
    have e':g=D:=Option.some.inj e
    have h3:=hD.2.2
    rw[←e',show w.heap[g]? = _ from hk] at h3;cases h3)).trans hk
end Go.Proofs.YtehcmodhbmpadaaGreatDoor.Zn
namespace Go.Proofs.YtehcmodhbmpadaaGreatDoor.Zn
open Go.RowKit Go.Shelf Cv St
attribute [local go_sem] Oper.semAt_some
theorem wide_call {n:Nat} {f:FuncId} {args:Array Value} {w:World} {R:Ending→World→Prop} (h:Calls Tryz.prog f args w R):CallsIn Fence.wide n Tryz.prog f args w R:=callsIn_wide.2 h
theorem Blk.cell0 {w:World} {g:Nat} {t:TypeId} {v:Value} (h:Blk w g t #[v]):w.cell? ⟨g,0,none⟩=some v:=h.cell 0
theorem OwnFrom.more {β:Type} {B B':Nat} {I:β→World→Prop} (h:OwnFrom B I) (hB:B≤B'):OwnFrom B' I:=fun s X Y row hs hg hr=>h s X Y row hs hg fun r e=>⟨Nat.le_trans hB (hr r e).1,(hr r e).2⟩
theorem Dfs.more {n0 top top':Nat} {ds:List Nat} {w:World} (h:Dfs n0 top ds w) (ht:top≤top'):Dfs n0 top' ds w:=⟨h.1,fun D hD=>⟨(h.2 D hD).1,Nat.lt_of_lt_of_le (h.2 D hD).2.1 ht,(h.2 D hD).2.2⟩⟩
theorem size_own {β:Type} {B:Nat} (m:Nat):OwnFrom B (fun (_:β) W=>m≤W.heap.size):=fun _ _ _ _ hs hg _=>Nat.le_trans hs hg.size
def Ctx (w:World) (zc:Array Value) (u:Int) (rc:Array Value) (ok:Value) (W:World):Prop:=
 (((Blk W w.heap.size 50 zc∧Blk W (w.heap.size+1) 3 #[.int .i64 u])∧Blk W (w.heap.size+1+1) 65 rc)∧Blk W (w.heap.size+1+1+1) 4 #[ok])∧Below w.heap.size w W
theorem Ctx.on {w:World} {zc:Array Value} {u:Int} {rc:Array Value} {ok:Value} {W W':World} (h:Ctx w zc u rc ok W) (hb:Below W.heap.size W W'):Ctx w zc u rc ok W':=
 ⟨⟨⟨⟨h.1.1.1.1.below hb h.1.1.1.1.lt,h.1.1.1.2.below hb h.1.1.1.2.lt⟩,h.1.1.2.below hb h.1.1.2.lt⟩,h.1.2.below hb h.1.2.lt⟩,h.2.trans (hb.mono h.2.size)⟩
theorem ctx_own {β:Type} {w:World} {zc:Array Value} {u:Int} {rc:Array Value} {ok:Value} {B':Nat} (hB:w.heap.size≤B'):OwnFrom B' (fun (_:β) W=>Ctx w zc u rc ok W):=
 OwnFrom.and (OwnFrom.and (OwnFrom.and (OwnFrom.and ((blk_own _ _ (fun (_:β)=>zc)).from _) ((blk_own _ _ (fun (_:β) => #[.int .i64 u])).from _)) ((blk_own _ _ (fun (_:β)=>rc)).from _)) ((blk_own _ _ (fun (_:β) => #[ok])).from _)) (ownFrom_below (Nat.le_refl _) hB)
theorem ctx_new (w:World) (zc:Array Value) (u:Int) (rc:Array Value) (ok:Value) (yv:Value):
  Ctx w zc u rc ok (((((w.alloc (.cells zc 50)).alloc (.cells #[.int .i64 u] 3)).alloc (.cells rc 65)).alloc (.cells #[ok] 4)).alloc (.cells #[yv] 3))∧
   Blk (((((w.alloc (.cells zc 50)).alloc (.cells #[.int .i64 u] 3)).alloc (.cells rc 65)).alloc (.cells #[ok] 4)).alloc (.cells #[yv] 3)) (w.heap.size+1+1+1+1) 3 #[yv]:=by
 obtain⟨w1,e1⟩:∃w1,w.alloc (.cells zc 50)=w1:=⟨_,rfl⟩
 have b1:=Blk.new w 50 zc
 have s1:w1.heap.size=w.heap.size+1:=by rw[←e1];simp
 have l1:Below w.heap.size w w1:=by rw[←e1];exact(Below.refl _ _).alloc (Nat.le_refl _) _
 rw[e1] at b1 ⊢
 obtain⟨w2,e2⟩:∃w2,w1.alloc (.cells #[.int .i64 u] 3)=w2:=⟨_,rfl⟩
 have b2:=Blk.new w1 3 #[.int .i64 u]
 have s2:w2.heap.size=w.heap.size+1+1:=by rw[←e2];simp[s1]
 have l2:Below w1.heap.size w1 w2:=by rw[←e2];exact(Below.refl _ _).alloc (Nat.le_refl _) _
 rw[e2] at b2 ⊢
 obtain⟨w3,e3⟩:∃w3,w2.alloc (.cells rc 65)=w3:=⟨_,rfl⟩
 have b3:=Blk.new w2 65 rc
 have s3:w3.heap.size=w.heap.size+1+1+1:=by rw[←e3];simp[s2]
 have l3:Below w2.heap.size w2 w3:=by rw[←e3];exact(Below.refl _ _).alloc (Nat.le_refl _) _
 rw[e3] at b3 ⊢
 obtain⟨w4,e4⟩:∃w4,w3.alloc (.cells #[ok] 4)=w4:=⟨_,rfl⟩
 have b4:=Blk.new w3 4 #[ok]
 have s4:w4.heap.size=w.heap.size+1+1+1+1:=by rw[←e4];simp[s3]
 have l4:Below w3.heap.size w3 w4:=by rw[←e4];exact(Below.refl _ _).alloc (Nat.le_refl _) _
 rw[e4] at b4 ⊢
 have b5:=Blk.new w4 3 #[yv]
 have l5:Below w4.heap.size w4 (w4.alloc (.cells #[yv] 3)):=(Below.refl _ _).alloc (Nat.le_refl _) _
 rw[s1] at b2;rw[s2] at b3;rw[s3] at b4;rw[s4] at b5
 rw[s1] at l2;rw[s2] at l3;rw[s3] at l4;rw[s4] at l5
 refine⟨⟨⟨⟨⟨?_,?_⟩,?_⟩,?_⟩,?_⟩,b5⟩
 ·exact(((b1.below l2 (by omega)).below l3 (by omega)).below l4 (by omega)).below l5 (by omega)
 ·exact((b2.below l3 (by omega)).below l4 (by omega)).below l5 (by omega)
 ·exact(b3.below l4 (by omega)).below l5 (by omega)
 ·exact b4.below l5 (by omega)
 ·exact(((l1.trans (l2.mono (by omega))).trans (l3.mono (by omega))).trans (l4.mono (by omega))).trans (l5.mono (by omega))
theorem ctx_found {w:World} {zc:Array Value} {u:Int} {W:World} {t o:Value} {a0 a1:Value} {top:Nat} {ds:List Nat} (h:Ctx w zc u #[a0,a1] (.bool false) W) (hd:Dfs w.heap.size top ds W):
  Ctx w zc u #[t,o] (.bool true) (((W.setCell ⟨w.heap.size+1+1,0,none⟩ t).setCell ⟨w.heap.size+1+1,1,none⟩ o).setCell ⟨w.heap.size+1+1+1,0,none⟩ (.bool true))∧
  Dfs w.heap.size top ds (((W.setCell ⟨w.heap.size+1+1,0,none⟩ t).setCell ⟨w.heap.size+1+1,1,none⟩ o).setCell ⟨w.heap.size+1+1+1,0,none⟩ (.bool true))∧
  KeepsOthers W (((W.setCell ⟨w.heap.size+1+1,0,none⟩ t).setCell ⟨w.heap.size+1+1,1,none⟩ o).setCell ⟨w.heap.size+1+1+1,0,none⟩ (.bool true)):=by
 obtain⟨⟨⟨⟨bz,bu⟩,br⟩,bo⟩,hB⟩:=h
 have r1:Blk (W.setCell ⟨w.heap.size+1+1,0,none⟩ t) (w.heap.size+1+1) 65 #[t,a1]:=by have:=br.set_ 0 t;simpa using this
 have r2:Blk ((W.setCell ⟨w.heap.size+1+1,0,none⟩ t).setCell ⟨w.heap.size+1+1,1,none⟩ o) (w.heap.size+1+1) 65 #[t,o]:=by have:=r1.set_ 1 o;simpa using this
 have o1:Blk (W.setCell ⟨w.heap.size+1+1,0,none⟩ t) (w.heap.size+1+1+1) 4 #[.bool false]:=bo.far (by simp) _
 have o2:Blk ((W.setCell ⟨w.heap.size+1+1,0,none⟩ t).setCell ⟨w.heap.size+1+1,1,none⟩ o) (w.heap.size+1+1+1) 4 #[.bool false]:=o1.far (by simp) _
 refine⟨⟨⟨⟨⟨?_,?_⟩,?_⟩,?_⟩,?_⟩,?_,?_⟩
 ·exact((bz.far (by simp<;>omega) _).far (by simp<;>omega) _).far (by simp<;>omega) _
 ·exact((bu.far (by simp<;>omega) _).far (by simp<;>omega) _).far (by simp<;>omega) _
 ·exact r2.far (by simp) _
 ·have:=o2.set_ 0 (.bool true);simpa using this
 ·exact((hB.setCell (p:=⟨_,_,none⟩) (by simp<;>omega) _).setCell (p:=⟨_,_,none⟩) (by simp<;>omega) _).setCell (p:=⟨_,_,none⟩) (by simp<;>omega) _
 ·exact((hd.far br 0 t).far r1 1 o).far o2 0 (.bool true)
 ·exact((KeepsOthers.setCell _ _ _).trans (KeepsOthers.setCell _ _ _)).trans (KeepsOthers.setCell _ _ _)
theorem ctx_lost {w:World} {zc:Array Value} {u:Int} {W:World} {a0 a1 x:Value} {top:Nat} {ds:List Nat} (h:Ctx w zc u #[a0,a1] x W) (hd:Dfs w.heap.size top ds W):
  Ctx w zc u #[.int .i64 0,.int .i64 0] (.bool false) (((W.setCell ⟨w.heap.size+1+1,0,none⟩ (.int .i64 0)).setCell ⟨w.heap.size+1+1,1,none⟩ (.int .i64 0)).setCell ⟨w.heap.size+1+1+1,0,none⟩ (.bool false))∧
  Dfs w.heap.size top ds (((W.setCell ⟨w.heap.size+1+1,0,none⟩ (.int .i64 0)).setCell ⟨w.heap.size+1+1,1,none⟩ (.int .i64 0)).setCell ⟨w.heap.size+1+1+1,0,none⟩ (.bool false)):=by
 obtain⟨⟨⟨⟨bz,bu⟩,br⟩,bo⟩,hB⟩:=h
 have r1:Blk (W.setCell ⟨w.heap.size+1+1,0,none⟩ (.int .i64 0)) (w.heap.size+1+1) 65 #[.int .i64 0,a1]:=by have:=br.set_ 0 (.int .i64 0);simpa using this
 have r2:Blk ((W.setCell ⟨w.heap.size+1+1,0,none⟩ (.int .i64 0)).setCell ⟨w.heap.size+1+1,1,none⟩ (.int .i64 0)) (w.heap.size+1+1) 65 #[.int .i64 0,.int .i64 0]:=by have:=r1.set_ 1 (.int .i64 0);simpa using this
 have o1:Blk (W.setCell ⟨w.heap.size+1+1,0,none⟩ (.int .i64 0)) (w.heap.size+1+1+1) 4 #[x]:=bo.far (by simp) _
 have o2:Blk ((W.setCell ⟨w.heap.size+1+1,0,none⟩ (.int .i64 0)).setCell ⟨w.heap.size+1+1,1,none⟩ (.int .i64 0)) (w.heap.size+1+1+1) 4 #[x]:=o1.far (by simp) _
 refine⟨⟨⟨⟨⟨?_,?_⟩,?_⟩,?_⟩,?_⟩,?_⟩
 ·exact((bz.far (by simp<;>omega) _).far (by simp<;>omega) _).far (by simp<;>omega) _
 ·exact((bu.far (by simp<;>omega) _).far (by simp<;>omega) _).far (by simp<;>omega) _
 ·exact r2.far (by simp) _
 ·have:=o2.set_ 0 (.bool false);simpa using this
 ·exact((hB.setCell (p:=⟨_,_,none⟩) (by simp<;>omega) _).setCell (p:=⟨_,_,none⟩) (by simp<;>omega) _).setCell (p:=⟨_,_,none⟩) (by simp<;>omega) _
 ·exact((hd.far br 0 _).far r1 1 _).far o2 0 _
def BefPost (w:World) (x:Option Sh) (e:Ending) (w':World):Prop:=e= .returned (.tuple #[shV (x.getD ⟨0,0⟩),.bool x.isSome])∧Below w.heap.size w w'
set_option maxRecDepth 100000 in
set_option maxHeartbeats 8000000 in
theorem before_in (W w:World) (b f u:Int) (A A':Option Addr) (n c n' c':Nat) (l:List Sh) (ys:List Yr) (h:mayB b l ys f=true) (hu:mayT u=true) (hz:ZnAt W A n A' n' l ys) (ha:At W w):
  CallsIn Fence.wide 40 Tryz.prog 99 #[.agg #[.int .i64 b,.slice A n c,.slice A' n' c',.int .i64 f],.int .i64 u] w (BefPost w (bef l ys f u)):=by
 obtain⟨y1,y2,_,_⟩:=year_may hu
 obtain⟨f1,f2⟩:=frm_bd h
 have hWs:=ha.size
 have hf1:0<n'→1≤f:=fun h0=>by
  obtain⟨_,_,_,h4⟩:=may_of h
  rcases h4 with ⟨e,_⟩|⟨_,_,_,_,_,_,_,h5,_⟩
  ·have:=hz.yr.1;rw[e] at this;simp at this;omega
  ·exact h5
 have hWW:=ha.below
 obtain⟨xs,rfl⟩:=yok_lift (fun r hr=>yrs_ok h hr)
 refine callsIn_of_wp_marks Tryz.func99 rfl trivial ?_ rfl
 simp only[Tryz.ntmps99,List.size_toArray,List.length_cons,List.length_nil,Nat.reduceAdd,Nat.reduceSub,Array.replicate_succ,Array.replicate_zero,List.push_toArray,List.append_toArray,List.nil_append,List.cons_append]
 gi_wp2_with fail
 refine⟨trivial,?_⟩
 refine(wide_call (yearOf_any' u _ hu)).mono ?_
 rintro e w' ⟨rfl,rfl⟩
 gi_wp2
 have H:=Lib.hid h
 have HU:=Lib.hid hu
 clear h hu
 refine wpIn_loop_ghost_k (fun k a W'=>∃(ds:List Nat) (By:Nat) (y:Int) (u16 u17 u18 u19 u20 u21 u22 u23 u24 u25 u26 u27 u38:Value),a={ tmps:=#[.agg #[.int .i64 b,.slice A n c,.slice A' n' c',.int .i64 f],.int .i64 u,.pointer (some ⟨w.heap.size,0,none⟩),.pointer (some ⟨w.heap.size+1,0,none⟩),.pointer (some ⟨w.heap.size+1+1,0,none⟩),.pointer (some ⟨w.heap.size+1+1+1,0,none⟩),.int .i64 (year u),.pointer (some ⟨By,0,none⟩),undef,undef,undef,undef,undef,.int .i64 u,.int .i64 (year u),.int .i64 (year u),u16,u17,u18,u19,u20,u21,u22,u23,u24,u25,u26,u27,undef,undef,undef,undef,undef,undef,undef,undef,undef,undef,u38,undef,undef,undef,undef,undef,undef,undef,undef,undef,undef,undef],defers:=dsl ds }∧Ctx w #[.int .i64 b,.slice A n c,.slice A' n' c',.int .i64 f] u #[.int .i64 0,.int .i64 0] (.bool false) W'∧
   Blk W' By 3 #[.int .i64 y]∧w.heap.size+1+1+1<By∧Dfs w.heap.size W'.heap.size ds W'∧y=year u-2+k∧k≤2∧Miss (xs.map (·.1)) u y) 2 ?start ?round
 case start=>
  exact⟨[],_,year u,undef,undef,undef,undef,undef,undef,undef,undef,undef,undef,undef,undef,undef,rfl,(ctx_new w _ u _ _ _).1,(ctx_new w _ u _ _ _).2,by omega,⟨List.nodup_nil,fun _ h=>by simp at h⟩,by omega,by omega,miss_top _ _⟩
 case round=>
  rintro k a W1 ⟨ds,By,y,u16,u17,u18,u19,u20,u21,u22,u23,u24,u25,u26,u27,u38,rfl,ctx,by1,by2,dfs,ey,k2,miss⟩ J K hJ hK;have EY:=Lib.hid ey;have M:=Lib.hid miss;have yl:year u-2≤y:=by omega
  have yh:y≤year u:=by omega
  clear ey miss;obtain⟨⟨⟨⟨bz,bu⟩,br⟩,bo⟩,hB⟩:=ctx;have hs:=hB.size;have hBW:Below W.heap.size w W1:=hB.mono hWs
  have cz0:=bz.cell 1;have cz1:=bz.cell 2;have cz2:=bz.cell 3;have cy:=by1.cell 0;simp at cz0 cz1 cz2 cy
  by_cases hm:f<year u-1
  ·have mx:max f (year u-1)=year u-1:=by omega
   by_cases hc:year u-1≤y
   ·gi_wp2_with (refine⟨trivial,?_⟩;gi_at_call 144;refine(yrBack_in _ _ trivial rfl _ _ _ _).mono ?_;rintro e w' ⟨rfl,rfl⟩)
    refine wpIn_rangeFunc_ownH rfl (by omega) (gf:=186) (lb:=#[.pointer (some ⟨W1.heap.size,0,none⟩)]) rfl trivial (enters_of Tryz.func186 (by kernel_rfl) rfl)
     (yrBack_stops Fence.wide _ trivial rfl (by omega) W1.heap.size W A' n' c' xs hz.yn _ (by simp) ((hWW.trans hBW).alloc (Nat.le_trans hWs hB.size) _) (Blk.new W1 _ _).cell0 hz.yr) belowK_t (belowK_b (Nat.le_refl _)) (Below.refl _ _) (fun _=>rfl)
     (fun pre W'=>((∀x∈pre,decide ((inY x.2.1 y).t≤u)=false)∧Ctx w #[.int .i64 b,.slice A n c,.slice A' n' c',.int .i64 f] u #[.int .i64 0,.int .i64 0] (.bool false) W')∧Blk W' By 3 #[.int .i64 y]∧Dfs w.heap.size (W1.heap.size+1) ds W'∧W1.heap.size+1≤W'.heap.size)
     (fun cc pre W'=>(∃ini x,(cc= .ret∧pre=ini++[x]∧(∀x∈ini,decide ((inY x.2.1 y).t≤u)=false)∧(inY x.2.1 y).t≤u)∧Ctx w #[.int .i64 b,.slice A n c,.slice A' n' c',.int .i64 f] u #[.int .i64 (inY x.2.1 y).t,.int .i64 (inY x.2.1 y).o] (.bool true) W')∧Dfs w.heap.size (W1.heap.size+1) ds W')
     (OwnFrom.and (OwnFrom.and (ownFrom_pure _ _) (ctx_own (by simp;omega))) (OwnFrom.and ((blk_own _ _ (fun _ => #[.int .i64 y])).from _) (OwnFrom.and (OwnFrom.more (dfs_own _ _ _) (by simp)) (size_own _))))
     (fun cc=>OwnFrom.and (fun s A B row hs hg hr=>by obtain⟨ini,x,h1,h2⟩:=hs;exact⟨ini,x,h1,ctx_own (B':=(W1.alloc (.cells #[.slice A' n' c'] 48)).heap.size) (by simp;omega) () A B row h2 hg hr⟩) (OwnFrom.more (dfs_own _ _ _) (by simp)))
     ⟨⟨by simp,Ctx.on ⟨⟨⟨⟨bz,bu⟩,br⟩,bo⟩,hB⟩ ((Below.refl _ _).alloc (Nat.le_refl _) _)⟩,by1.alloc _,(dfs.below ((Below.refl _ _).alloc (Nat.le_refl _) _) (Nat.le_refl _)).more (by omega),by simp⟩
     (fun x a' W'=>∃Bx,w.heap.size+1+1+1<Bx∧Blk W' Bx 146 #[.int .i64 x.2.1.m,.int .i64 x.2.1.k,.int .i64 x.2.1.d,.int .i64 x.2.1.s,.int .i64 x.2.1.o]∧a'={ tmps:=#[.agg #[.int .i64 b,.slice A n c,.slice A' n' c',.int .i64 f],.int .i64 u,.pointer (some ⟨w.heap.size,0,none⟩),.pointer (some ⟨w.heap.size+1,0,none⟩),.pointer (some ⟨w.heap.size+1+1,0,none⟩),.pointer (some ⟨w.heap.size+1+1+1,0,none⟩),.int .i64 (year u),.pointer (some ⟨By,0,none⟩),undef,.pointer (some ⟨Bx,0,none⟩),undef,undef,undef,.int .i64 u,.int .i64 (year u),.int .i64 (year u),.int .i64 y,.pointer (some ⟨w.heap.size,3,none⟩),.int .i64 f,.int .i64 (year u),.int .i64 (year u-1),.int .i64 (year u-1),.bool true,u23,u24,.pointer (some ⟨w.heap.size,2,none⟩),.slice A' n' c',.func (.func 186) #[] #[.pointer (some ⟨W1.heap.size,0,none⟩)],.int .i64 (x.1:Int),yrV x.2.1,undef,undef,undef,undef,undef,undef,undef,undef,u38,undef,undef,undef,undef,undef,undef,undef,undef,undef,undef,undef],defers:= [] })
     (fun x a' _ X Y row hs hg hr=>by obtain⟨Bx,e1,e2,e3⟩:=hs;exact⟨Bx,e1,blk_own Bx _ (fun (_:Unit)=>_) () X Y row e2 hg (fun r e=>(hr r e).2),e3⟩)
     ?assign ?body ?done ?stop
    case assign=>
     rintro l0 pre x W' K ⟨⟨hp,ctx'⟩,by',dfs',sz'⟩ hK
     gi_wp2
     exact hK _ _ ((KeepsOthers.alloc _ _).from _) ((Below.refl _ W').alloc (by simp;omega) _) ⟨⟨hp,ctx'.on ((Below.refl _ _).alloc (Nat.le_refl _) _)⟩,by'.alloc _,dfs'.below ((Below.refl _ _).alloc (Nat.le_refl _) _) sz',by simp;omega⟩ ⟨W'.heap.size,ctx'.1.2.lt,Blk.new W' _ _,rfl⟩
    case body=>
     rintro l0 pre x a' W2 hl ⟨r,hr⟩ ⟨⟨hp,ctx2⟩,yb,dfs2,sz2⟩ ⟨Bx,hBx,bx,rfl⟩ hlen;have fy:1≤f:=hf1 (by omega)
     have ctx3:=ctx2;obtain⟨⟨⟨⟨_,bu2⟩,br2⟩,bo2⟩,hB2⟩:=ctx3;have x0:=bx.cell 0;have x1:=bx.cell 1;have x2:=bx.cell 2;have x3:=bx.cell 3;have x4:=bx.cell 4;have v0:=yb.cell 0;have v1:=bu2.cell 0;have g0:=br2.frozen 0;have g1:=br2.frozen 1;have g2:=bo2.frozen 0;have i0:=br2.cell 0;have i1:=br2.cell 1;have i2:=bo2.cell 0;simp at x0 x1 x2 x3 x4 v0 v1 i0 i1 i2
     have l1:=bx.lt;have l2:=yb.lt;have l3:=bu2.lt;have l4:=br2.lt;have l5:=bo2.lt;clear hr
     by_cases ht:(inY x.2.1 y).t≤u
     ·gi_wp2_with (refine⟨trivial,?_⟩;gi_at_call 105;refine(CallsIn.inRound l0 (wide_call (inYear_any x.2.1 y _ x.2.2 (by omega) (by omega)))).mono ?_;rintro e w3 ⟨rfl,hb3⟩;obtain⟨⟨⟨⟨_,bu3⟩,br3⟩,bo3⟩,_⟩:=ctx2.on hb3;have m1:=bu3.lt;have m2:=br3.lt;have m3:=bo3.lt;have e0:=bu3.cell 0;have e1:=br3.frozen 0;have e2:=br3.frozen 1;have e3:=bo3.frozen 0;have e4:=br3.cell 0;have e5:=br3.cell 1;have e6:=bo3.cell 0;simp at e0 e4 e5 e6)
      obtain⟨c5,d5,k5⟩:=ctx_found (t:= .int .i64 (inY x.2.1 y).t) (o:= .int .i64 (inY x.2.1 y).o) (ctx2.on hb3) (dfs2.below hb3 sz2);have ba:=(Below.refl _ _).alloc (Nat.le_refl _) (.cells #[.int .i64 (inY x.2.1 y).t,.int .i64 (inY x.2.1 y).o] 65) (w:=((w3.setCell ⟨w.heap.size+1+1,0,none⟩ (.int .i64 (inY x.2.1 y).t)).setCell ⟨w.heap.size+1+1,1,none⟩ (.int .i64 (inY x.2.1 y).o)).setCell ⟨w.heap.size+1+1+1,0,none⟩ (.bool true));exact⟨((keeps_below _ hb3).trans (k5.from _)).trans (keeps_below _ ba),⟨pre,x,⟨rfl,rfl,hp,ht⟩,c5.on ba⟩,d5.below ba (Nat.le_trans (Nat.le_trans sz2 hb3.size) k5.size)⟩
     ·have ht':u<(inY x.2.1 y).t:=by omega
      have tb:decide ((inY x.2.1 y).t≤u)=false:=decide_eq_false ht
      have TB:=Lib.hid tb;clear tb ht
      gi_wp2_with (refine⟨trivial,?_⟩;gi_at_call 105;refine(CallsIn.inRound l0 (wide_call (inYear_any x.2.1 y _ x.2.2 (by omega) (by omega)))).mono ?_;rintro e w3 ⟨rfl,hb3⟩;obtain⟨⟨⟨⟨_,bu3⟩,br3⟩,bo3⟩,_⟩:=ctx2.on hb3;have m1:=bu3.lt;have m2:=br3.lt;have m3:=bo3.lt;have e0:=bu3.cell 0;have e1:=br3.frozen 0;have e2:=br3.frozen 1;have e3:=bo3.frozen 0;have e4:=br3.cell 0;have e5:=br3.cell 1;have e6:=bo3.cell 0;simp at e0 e4 e5 e6)
      have ba:=(Below.refl _ _).alloc (Nat.le_refl _) (.cells #[.int .i64 (inY x.2.1 y).t,.int .i64 (inY x.2.1 y).o] 65) (w:=w3);have bb:=hb3.trans (ba.mono hb3.size);exact⟨keeps_below _ bb,bb.mono (by simp;omega),⟨fun z hz=>(List.mem_append.1 hz).elim (hp z) (fun e=>by simp at e;subst e;exact TB.out),ctx2.on bb⟩,yb.below bb yb.lt,dfs2.below bb sz2,Nat.le_trans sz2 bb.size⟩
    case done=>
     rintro D zs W4 hD rfl ⟨⟨hp,ctx4⟩,yb,dfs4,sz4⟩ hK';simp only[World.size_alloc] at hD;have hD':=(Array.getElem?_eq_some_iff.1 hK').1;have s4:=ctx4.2.size;have v0:=yb.cell 0;simp at v0
     have l2:=yb.lt;have ba:=(Below.refl _ _).alloc (Nat.le_refl _) (.cells #[.int .i64 (y-1)] 3) (w:=W4);have nn:=hz.yr.1;rw[List.length_map] at nn;have N:=Lib.hid nn;clear nn
     gi_wp2
     refine⟨k-1,by have:=EY.out;omega,hJ _ _ _ ⟨D::ds,W4.heap.size,y-1,_,_,_,_,_,_,_,_,_,_,_,_,_,rfl,ctx4.on ba,Blk.new _ _ _,ctx4.1.2.lt,((dfs4.cons hD hD' (by omega) hK').below ba (Nat.le_refl _)).more ba.size,by have:=EY.out;omega,by omega,fun z z1 z2 s hs => ?_⟩⟩
     by_cases e:z=y
     ·subst e
      rw[rows_upto,←N.out] at hs;obtain⟨x,hx,rfl⟩:=List.mem_map.1 hs;exact hp x hx
     ·exact M.out z (by omega) z2 s hs
    case stop=>
     rintro D cc pre W4 hD ⟨kk,hkk,rfl⟩ ⟨⟨ini,x,⟨rfl,e1,e2,e3⟩,ctx4⟩,dfs4⟩ hK';simp only[World.size_alloc] at hD;have hD':=(Array.getElem?_eq_some_iff.1 hK').1;have s4:=ctx4.2.size;have nn:=hz.yr.1;rw[List.length_map] at nn;have N:=Lib.hid nn;have E1:=Lib.hid e1;clear nn e1
     gi_wp2
     have hbef:bef l (xs.map (·.1)) f u=some (inY x.2.1 y):=by
      refine bef_hit (y:=y) (by omega) (by omega) yh M.out ?_;rw[rows_upto,←N.out];exact hit_find (g:=fun x:Nat×Yok=>inY x.2.1 y) hkk E1.out e2 (decide_eq_true e3)
     refine leaves_of (n0:=w.heap.size) (top:=W4.heap.size) (D::ds) W4 (dfs4.cons hD hD' (by omega) hK') s4 ?_;intro w' hb hk;have q0:=(hk _ _ _ ctx4.1.1.2).cell 0;have q1:=(hk _ _ _ ctx4.1.1.2).cell 1;have q2:=(hk _ _ _ ctx4.1.2).cell 0;simp at q0 q1 q2
     refine⟨.tuple #[shV (inY x.2.1 y),.bool true],by simp[results,Tryz.f99,go_sem,q0,q1,q2],?_⟩;rw[hbef];exact⟨rfl,ctx4.2.trans hb⟩
   ·have hc':y<year u-1:=by omega
    have hd:decide (year u-1≤y)=false:=decide_eq_false hc
    clear hc
    gi_wp2_with (refine⟨trivial,?_⟩;gi_at_call 145;refine(shBack_in _ _ trivial rfl _ _ _ _).mono ?_;rintro e w' ⟨rfl,rfl⟩)
    refine wpIn_rangeFunc_ownH rfl (by omega) (gf:=187) (lb:=#[.pointer (some ⟨W1.heap.size,0,none⟩)]) rfl trivial (enters_of Tryz.func187 (by kernel_rfl) rfl)
     (shBack_stops Fence.wide _ trivial rfl (by omega) W1.heap.size W A n c l hz.sn _ (by simp) ((hWW.trans hBW).alloc (Nat.le_trans hWs hB.size) _) (Blk.new W1 _ _).cell0 hz.sh) belowK_t (belowK_b (Nat.le_refl _)) (Below.refl _ _) (fun _=>rfl)
     (fun pre W'=>((∀x∈pre,decide (x.2.t≤u)=false)∧Ctx w #[.int .i64 b,.slice A n c,.slice A' n' c',.int .i64 f] u #[.int .i64 0,.int .i64 0] (.bool false) W')∧Dfs w.heap.size (W1.heap.size+1) ds W'∧W1.heap.size+1≤W'.heap.size)
     (fun cc pre W'=>(∃ini x,(cc= .ret∧pre=ini++[x]∧(∀x∈ini,decide (x.2.t≤u)=false)∧x.2.t≤u)∧Ctx w #[.int .i64 b,.slice A n c,.slice A' n' c',.int .i64 f] u #[.int .i64 x.2.t,.int .i64 x.2.o] (.bool true) W')∧Dfs w.heap.size (W1.heap.size+1) ds W')
     (OwnFrom.and (OwnFrom.and (ownFrom_pure _ _) (ctx_own (by simp;omega))) (OwnFrom.and (OwnFrom.more (dfs_own _ _ _) (by simp)) (size_own _)))
     (fun cc=>OwnFrom.and (fun s X Y row hs hg hr=>by obtain⟨ini,x,h1,h2⟩:=hs;exact⟨ini,x,h1,ctx_own (B':=(W1.alloc (.cells #[.slice A n c] 47)).heap.size) (by simp;omega) () X Y row h2 hg hr⟩) (OwnFrom.more (dfs_own _ _ _) (by simp)))
     ⟨⟨by simp,Ctx.on ⟨⟨⟨⟨bz,bu⟩,br⟩,bo⟩,hB⟩ ((Below.refl _ _).alloc (Nat.le_refl _) _)⟩,(dfs.below ((Below.refl _ _).alloc (Nat.le_refl _) _) (Nat.le_refl _)).more (by omega),by simp⟩
     (fun x a' W'=>∃Bx,w.heap.size+1+1+1<Bx∧Blk W' Bx 65 #[.int .i64 x.2.t,.int .i64 x.2.o]∧a'={ tmps:=#[.agg #[.int .i64 b,.slice A n c,.slice A' n' c',.int .i64 f],.int .i64 u,.pointer (some ⟨w.heap.size,0,none⟩),.pointer (some ⟨w.heap.size+1,0,none⟩),.pointer (some ⟨w.heap.size+1+1,0,none⟩),.pointer (some ⟨w.heap.size+1+1+1,0,none⟩),.int .i64 (year u),.pointer (some ⟨By,0,none⟩),undef,undef,undef,undef,.pointer (some ⟨Bx,0,none⟩),.int .i64 u,.int .i64 (year u),.int .i64 (year u),.int .i64 y,.pointer (some ⟨w.heap.size,3,none⟩),.int .i64 f,.int .i64 (year u),.int .i64 (year u-1),.int .i64 (year u-1),.bool false,u23,u24,u25,u26,u27,undef,undef,undef,undef,undef,undef,undef,undef,undef,undef,u38,.pointer (some ⟨w.heap.size,1,none⟩),.slice A n c,.func (.func 187) #[] #[.pointer (some ⟨W1.heap.size,0,none⟩)],.int .i64 (x.1:Int),shV x.2,undef,undef,undef,undef,undef,undef],defers:= [] })
     (fun x a' _ X Y row hs hg hr=>by obtain⟨Bx,e1,e2,e3⟩:=hs;exact⟨Bx,e1,blk_own Bx _ (fun (_:Unit)=>_) () X Y row e2 hg (fun r e=>(hr r e).2),e3⟩)
     ?assign ?body ?done ?stop
    case assign=>
     rintro l0 pre x W' K ⟨⟨hp,ctx'⟩,dfs',sz'⟩ hK
     gi_wp2
     exact hK _ _ ((KeepsOthers.alloc _ _).from _) ((Below.refl _ W').alloc (by simp;omega) _) ⟨⟨hp,ctx'.on ((Below.refl _ _).alloc (Nat.le_refl _) _)⟩,dfs'.below ((Below.refl _ _).alloc (Nat.le_refl _) _) sz',by simp;omega⟩ ⟨W'.heap.size,ctx'.1.2.lt,Blk.new W' _ _,rfl⟩
    case body=>
     rintro l0 pre x a' W2 hl ⟨r,hr⟩ ⟨⟨hp,ctx2⟩,dfs2,sz2⟩ ⟨Bx,hBx,bx,rfl⟩ hlen;have ctx3:=ctx2;obtain⟨⟨⟨⟨_,bu2⟩,br2⟩,bo2⟩,hB2⟩:=ctx3;have x0:=bx.cell 0;have x1:=bx.cell 1;have v1:=bu2.cell 0;have g0:=br2.frozen 0;have g1:=br2.frozen 1;have g2:=bo2.frozen 0;have i0:=br2.cell 0;have i1:=br2.cell 1;have i2:=bo2.cell 0;simp at x0 x1 v1 i0 i1 i2
     have l1:=bx.lt;have l3:=bu2.lt;have l4:=br2.lt;have l5:=bo2.lt;clear hr
     by_cases ht:x.2.t≤u
     ·gi_wp2
      obtain⟨c5,d5,k5⟩:=ctx_found (t:= .int .i64 x.2.t) (o:= .int .i64 x.2.o) ctx2 dfs2;exact⟨k5.from _,⟨pre,x,⟨rfl,rfl,hp,ht⟩,c5⟩,d5⟩
     ·have ht':u<x.2.t:=by omega
      have tb:decide (x.2.t≤u)=false:=decide_eq_false ht
      have TB:=Lib.hid tb;clear tb ht
      gi_wp2
      exact⟨KeepsFrom.refl _ _,Below.refl _ _,⟨fun z hz=>(List.mem_append.1 hz).elim (hp z) (fun e=>by simp at e;subst e;exact TB.out),ctx2⟩,dfs2,sz2⟩
    case done=>
     rintro D zs W4 hD rfl ⟨⟨hp,ctx4⟩,dfs4,sz4⟩ hK';simp only[World.size_alloc] at hD;have hD':=(Array.getElem?_eq_some_iff.1 hK').1;have s4:=ctx4.2.size;have ctx3:=ctx4;obtain⟨⟨⟨⟨_,bu2⟩,br2⟩,bo2⟩,hB2⟩:=ctx3;have g0:=br2.frozen 0;have g1:=br2.frozen 1;have g2:=bo2.frozen 0;have i0:=br2.cell 0;have i1:=br2.cell 1;have i2:=bo2.cell 0;simp at i0 i1 i2
     have l4:=br2.lt;have l5:=bo2.lt;have N:=Lib.hid hz.sh.1
     gi_wp2
     obtain⟨c5,d5⟩:=ctx_lost ctx4 (dfs4.cons hD hD' (by omega) hK')
     have hbef:bef l (xs.map (·.1)) f u=none:=by
      rw[bef_rest (y:=y) (by omega) M.out,back_upto,←N.out];exact miss_find (g:=fun x:Nat×Sh=>x.2) hp
     refine leaves_of (n0:=w.heap.size) (top:=W4.heap.size) (D::ds) _ d5 c5.2.size ?_;intro w' hb hk;have q0:=(hk _ _ _ c5.1.1.2).cell 0;have q1:=(hk _ _ _ c5.1.1.2).cell 1;have q2:=(hk _ _ _ c5.1.2).cell 0;simp at q0 q1 q2
     refine⟨.tuple #[shV ⟨0,0⟩,.bool false],by simp[results,Tryz.f99,go_sem,q0,q1,q2],?_⟩;rw[hbef];exact⟨rfl,c5.2.trans hb⟩
    case stop=>
     rintro D cc pre W4 hD ⟨kk,hkk,rfl⟩ ⟨⟨ini,x,⟨rfl,e1,e2,e3⟩,ctx4⟩,dfs4⟩ hK';simp only[World.size_alloc] at hD;have hD':=(Array.getElem?_eq_some_iff.1 hK').1;have s4:=ctx4.2.size;have N:=Lib.hid hz.sh.1;have E1:=Lib.hid e1;clear e1
     gi_wp2
     have hbef:bef l (xs.map (·.1)) f u=some x.2:=by
      rw[bef_rest (y:=y) (by omega) M.out,back_upto,←N.out];exact hit_find (g:=fun x:Nat×Sh=>x.2) hkk E1.out e2 (decide_eq_true e3)
     refine leaves_of (n0:=w.heap.size) (top:=W4.heap.size) (D::ds) W4 (dfs4.cons hD hD' (by omega) hK') s4 ?_;intro w' hb hk;have q0:=(hk _ _ _ ctx4.1.1.2).cell 0;have q1:=(hk _ _ _ ctx4.1.1.2).cell 1;have q2:=(hk _ _ _ ctx4.1.2).cell 0;simp at q0 q1 q2
     refine⟨.tuple #[shV x.2,.bool true],by simp[results,Tryz.f99,go_sem,q0,q1,q2],?_⟩;rw[hbef];exact⟨rfl,ctx4.2.trans hb⟩
  ·have hm':year u-1≤f:=by omega
   have mx:max f (year u-1)=f:=by omega
   clear hm
   by_cases hc:f≤y
   ·gi_wp2_with (refine⟨trivial,?_⟩;gi_at_call 144;refine(yrBack_in _ _ trivial rfl _ _ _ _).mono ?_;rintro e w' ⟨rfl,rfl⟩)
    refine wpIn_rangeFunc_ownH rfl (by omega) (gf:=186) (lb:=#[.pointer (some ⟨W1.heap.size,0,none⟩)]) rfl trivial (enters_of Tryz.func186 (by kernel_rfl) rfl)
     (yrBack_stops Fence.wide _ trivial rfl (by omega) W1.heap.size W A' n' c' xs hz.yn _ (by simp) ((hWW.trans hBW).alloc (Nat.le_trans hWs hB.size) _) (Blk.new W1 _ _).cell0 hz.yr) belowK_t (belowK_b (Nat.le_refl _)) (Below.refl _ _) (fun _=>rfl)
     (fun pre W'=>((∀x∈pre,decide ((inY x.2.1 y).t≤u)=false)∧Ctx w #[.int .i64 b,.slice A n c,.slice A' n' c',.int .i64 f] u #[.int .i64 0,.int .i64 0] (.bool false) W')∧Blk W' By 3 #[.int .i64 y]∧Dfs w.heap.size (W1.heap.size+1) ds W'∧W1.heap.size+1≤W'.heap.size)
     (fun cc pre W'=>(∃ini x,(cc= .ret∧pre=ini++[x]∧(∀x∈ini,decide ((inY x.2.1 y).t≤u)=false)∧(inY x.2.1 y).t≤u)∧Ctx w #[.int .i64 b,.slice A n c,.slice A' n' c',.int .i64 f] u #[.int .i64 (inY x.2.1 y).t,.int .i64 (inY x.2.1 y).o] (.bool true) W')∧Dfs w.heap.size (W1.heap.size+1) ds W')
     (OwnFrom.and (OwnFrom.and (ownFrom_pure _ _) (ctx_own (by simp;omega))) (OwnFrom.and ((blk_own _ _ (fun _ => #[.int .i64 y])).from _) (OwnFrom.and (OwnFrom.more (dfs_own _ _ _) (by simp)) (size_own _))))
     (fun cc=>OwnFrom.and (fun s A B row hs hg hr=>by obtain⟨ini,x,h1,h2⟩:=hs;exact⟨ini,x,h1,ctx_own (B':=(W1.alloc (.cells #[.slice A' n' c'] 48)).heap.size) (by simp;omega) () A B row h2 hg hr⟩) (OwnFrom.more (dfs_own _ _ _) (by simp)))
     ⟨⟨by simp,Ctx.on ⟨⟨⟨⟨bz,bu⟩,br⟩,bo⟩,hB⟩ ((Below.refl _ _).alloc (Nat.le_refl _) _)⟩,by1.alloc _,(dfs.below ((Below.refl _ _).alloc (Nat.le_refl _) _) (Nat.le_refl _)).more (by omega),by simp⟩
     (fun x a' W'=>∃Bx,w.heap.size+1+1+1<Bx∧Blk W' Bx 146 #[.int .i64 x.2.1.m,.int .i64 x.2.1.k,.int .i64 x.2.1.d,.int .i64 x.2.1.s,.int .i64 x.2.1.o]∧a'={ tmps:=#[.agg #[.int .i64 b,.slice A n c,.slice A' n' c',.int .i64 f],.int .i64 u,.pointer (some ⟨w.heap.size,0,none⟩),.pointer (some ⟨w.heap.size+1,0,none⟩),.pointer (some ⟨w.heap.size+1+1,0,none⟩),.pointer (some ⟨w.heap.size+1+1+1,0,none⟩),.int .i64 (year u),.pointer (some ⟨By,0,none⟩),undef,.pointer (some ⟨Bx,0,none⟩),undef,undef,undef,.int .i64 u,.int .i64 (year u),.int .i64 (year u),.int .i64 y,.pointer (some ⟨w.heap.size,3,none⟩),.int .i64 f,.int .i64 (year u),.int .i64 (year u-1),.int .i64 f,.bool true,u23,u24,.pointer (some ⟨w.heap.size,2,none⟩),.slice A' n' c',.func (.func 186) #[] #[.pointer (some ⟨W1.heap.size,0,none⟩)],.int .i64 (x.1:Int),yrV x.2.1,undef,undef,undef,undef,undef,undef,undef,undef,u38,undef,undef,undef,undef,undef,undef,undef,undef,undef,undef,undef],defers:= [] })
     (fun x a' _ X Y row hs hg hr=>by obtain⟨Bx,e1,e2,e3⟩:=hs;exact⟨Bx,e1,blk_own Bx _ (fun (_:Unit)=>_) () X Y row e2 hg (fun r e=>(hr r e).2),e3⟩)
     ?assign ?body ?done ?stop
    case assign=>
     rintro l0 pre x W' K ⟨⟨hp,ctx'⟩,by',dfs',sz'⟩ hK
     gi_wp2
     exact hK _ _ ((KeepsOthers.alloc _ _).from _) ((Below.refl _ W').alloc (by simp;omega) _) ⟨⟨hp,ctx'.on ((Below.refl _ _).alloc (Nat.le_refl _) _)⟩,by'.alloc _,dfs'.below ((Below.refl _ _).alloc (Nat.le_refl _) _) sz',by simp;omega⟩ ⟨W'.heap.size,ctx'.1.2.lt,Blk.new W' _ _,rfl⟩
    case body=>
     rintro l0 pre x a' W2 hl ⟨r,hr⟩ ⟨⟨hp,ctx2⟩,yb,dfs2,sz2⟩ ⟨Bx,hBx,bx,rfl⟩ hlen;have fy:1≤f:=hf1 (by omega)
     have ctx3:=ctx2;obtain⟨⟨⟨⟨_,bu2⟩,br2⟩,bo2⟩,hB2⟩:=ctx3;have x0:=bx.cell 0;have x1:=bx.cell 1;have x2:=bx.cell 2;have x3:=bx.cell 3;have x4:=bx.cell 4;have v0:=yb.cell 0;have v1:=bu2.cell 0;have g0:=br2.frozen 0;have g1:=br2.frozen 1;have g2:=bo2.frozen 0;have i0:=br2.cell 0;have i1:=br2.cell 1;have i2:=bo2.cell 0;simp at x0 x1 x2 x3 x4 v0 v1 i0 i1 i2
     have l1:=bx.lt;have l2:=yb.lt;have l3:=bu2.lt;have l4:=br2.lt;have l5:=bo2.lt;clear hr
     by_cases ht:(inY x.2.1 y).t≤u
     ·gi_wp2_with (refine⟨trivial,?_⟩;gi_at_call 105;refine(CallsIn.inRound l0 (wide_call (inYear_any x.2.1 y _ x.2.2 (by omega) (by omega)))).mono ?_;rintro e w3 ⟨rfl,hb3⟩;obtain⟨⟨⟨⟨_,bu3⟩,br3⟩,bo3⟩,_⟩:=ctx2.on hb3;have m1:=bu3.lt;have m2:=br3.lt;have m3:=bo3.lt;have e0:=bu3.cell 0;have e1:=br3.frozen 0;have e2:=br3.frozen 1;have e3:=bo3.frozen 0;have e4:=br3.cell 0;have e5:=br3.cell 1;have e6:=bo3.cell 0;simp at e0 e4 e5 e6)
      obtain⟨c5,d5,k5⟩:=ctx_found (t:= .int .i64 (inY x.2.1 y).t) (o:= .int .i64 (inY x.2.1 y).o) (ctx2.on hb3) (dfs2.below hb3 sz2);have ba:=(Below.refl _ _).alloc (Nat.le_refl _) (.cells #[.int .i64 (inY x.2.1 y).t,.int .i64 (inY x.2.1 y).o] 65) (w:=((w3.setCell ⟨w.heap.size+1+1,0,none⟩ (.int .i64 (inY x.2.1 y).t)).setCell ⟨w.heap.size+1+1,1,none⟩ (.int .i64 (inY x.2.1 y).o)).setCell ⟨w.heap.size+1+1+1,0,none⟩ (.bool true));exact⟨((keeps_below _ hb3).trans (k5.from _)).trans (keeps_below _ ba),⟨pre,x,⟨rfl,rfl,hp,ht⟩,c5.on ba⟩,d5.below ba (Nat.le_trans (Nat.le_trans sz2 hb3.size) k5.size)⟩
     ·have ht':u<(inY x.2.1 y).t:=by omega
      have tb:decide ((inY x.2.1 y).t≤u)=false:=decide_eq_false ht
      have TB:=Lib.hid tb;clear tb ht
      gi_wp2_with (refine⟨trivial,?_⟩;gi_at_call 105;refine(CallsIn.inRound l0 (wide_call (inYear_any x.2.1 y _ x.2.2 (by omega) (by omega)))).mono ?_;rintro e w3 ⟨rfl,hb3⟩;obtain⟨⟨⟨⟨_,bu3⟩,br3⟩,bo3⟩,_⟩:=ctx2.on hb3;have m1:=bu3.lt;have m2:=br3.lt;have m3:=bo3.lt;have e0:=bu3.cell 0;have e1:=br3.frozen 0;have e2:=br3.frozen 1;have e3:=bo3.frozen 0;have e4:=br3.cell 0;have e5:=br3.cell 1;have e6:=bo3.cell 0;simp at e0 e4 e5 e6)
      have ba:=(Below.refl _ _).alloc (Nat.le_refl _) (.cells #[.int .i64 (inY x.2.1 y).t,.int .i64 (inY x.2.1 y).o] 65) (w:=w3);have bb:=hb3.trans (ba.mono hb3.size);exact⟨keeps_below _ bb,bb.mono (by simp;omega),⟨fun z hz=>(List.mem_append.1 hz).elim (hp z) (fun e=>by simp at e;subst e;exact TB.out),ctx2.on bb⟩,yb.below bb yb.lt,dfs2.below bb sz2,Nat.le_trans sz2 bb.size⟩
    case done=>
     rintro D zs W4 hD rfl ⟨⟨hp,ctx4⟩,yb,dfs4,sz4⟩ hK';simp only[World.size_alloc] at hD;have hD':=(Array.getElem?_eq_some_iff.1 hK').1;have s4:=ctx4.2.size;have v0:=yb.cell 0;simp at v0
     have l2:=yb.lt;have ba:=(Below.refl _ _).alloc (Nat.le_refl _) (.cells #[.int .i64 (y-1)] 3) (w:=W4);have nn:=hz.yr.1;rw[List.length_map] at nn;have N:=Lib.hid nn;clear nn
     gi_wp2
     refine⟨k-1,by have:=EY.out;omega,hJ _ _ _ ⟨D::ds,W4.heap.size,y-1,_,_,_,_,_,_,_,_,_,_,_,_,_,rfl,ctx4.on ba,Blk.new _ _ _,ctx4.1.2.lt,((dfs4.cons hD hD' (by omega) hK').below ba (Nat.le_refl _)).more ba.size,by have:=EY.out;omega,by omega,fun z z1 z2 s hs => ?_⟩⟩
     by_cases e:z=y
     ·subst e
      rw[rows_upto,←N.out] at hs;obtain⟨x,hx,rfl⟩:=List.mem_map.1 hs;exact hp x hx
     ·exact M.out z (by omega) z2 s hs
    case stop=>
     rintro D cc pre W4 hD ⟨kk,hkk,rfl⟩ ⟨⟨ini,x,⟨rfl,e1,e2,e3⟩,ctx4⟩,dfs4⟩ hK';simp only[World.size_alloc] at hD;have hD':=(Array.getElem?_eq_some_iff.1 hK').1;have s4:=ctx4.2.size;have nn:=hz.yr.1;rw[List.length_map] at nn;have N:=Lib.hid nn;have E1:=Lib.hid e1;clear nn e1
     gi_wp2
     have hbef:bef l (xs.map (·.1)) f u=some (inY x.2.1 y):=by
      refine bef_hit (y:=y) (by omega) (by omega) yh M.out ?_;rw[rows_upto,←N.out];exact hit_find (g:=fun x:Nat×Yok=>inY x.2.1 y) hkk E1.out e2 (decide_eq_true e3)
     refine leaves_of (n0:=w.heap.size) (top:=W4.heap.size) (D::ds) W4 (dfs4.cons hD hD' (by omega) hK') s4 ?_;intro w' hb hk;have q0:=(hk _ _ _ ctx4.1.1.2).cell 0;have q1:=(hk _ _ _ ctx4.1.1.2).cell 1;have q2:=(hk _ _ _ ctx4.1.2).cell 0;simp at q0 q1 q2
     refine⟨.tuple #[shV (inY x.2.1 y),.bool true],by simp[results,Tryz.f99,go_sem,q0,q1,q2],?_⟩;rw[hbef];exact⟨rfl,ctx4.2.trans hb⟩
   ·have hc':y<f:=by omega
    have hd:decide (f≤y)=false:=decide_eq_false hc
    clear hc
    gi_wp2_with (refine⟨trivial,?_⟩;gi_at_call 145;refine(shBack_in _ _ trivial rfl _ _ _ _).mono ?_;rintro e w' ⟨rfl,rfl⟩)
    refine wpIn_rangeFunc_ownH rfl (by omega) (gf:=187) (lb:=#[.pointer (some ⟨W1.heap.size,0,none⟩)]) rfl trivial (enters_of Tryz.func187 (by kernel_rfl) rfl)
     (shBack_stops Fence.wide _ trivial rfl (by omega) W1.heap.size W A n c l hz.sn _ (by simp) ((hWW.trans hBW).alloc (Nat.le_trans hWs hB.size) _) (Blk.new W1 _ _).cell0 hz.sh) belowK_t (belowK_b (Nat.le_refl _)) (Below.refl _ _) (fun _=>rfl)
     (fun pre W'=>((∀x∈pre,decide (x.2.t≤u)=false)∧Ctx w #[.int .i64 b,.slice A n c,.slice A' n' c',.int .i64 f] u #[.int .i64 0,.int .i64 0] (.bool false) W')∧Dfs w.heap.size (W1.heap.size+1) ds W'∧W1.heap.size+1≤W'.heap.size)
     (fun cc pre W'=>(∃ini x,(cc= .ret∧pre=ini++[x]∧(∀x∈ini,decide (x.2.t≤u)=false)∧x.2.t≤u)∧Ctx w #[.int .i64 b,.slice A n c,.slice A' n' c',.int .i64 f] u #[.int .i64 x.2.t,.int .i64 x.2.o] (.bool true) W')∧Dfs w.heap.size (W1.heap.size+1) ds W')
     (OwnFrom.and (OwnFrom.and (ownFrom_pure _ _) (ctx_own (by simp;omega))) (OwnFrom.and (OwnFrom.more (dfs_own _ _ _) (by simp)) (size_own _)))
     (fun cc=>OwnFrom.and (fun s X Y row hs hg hr=>by obtain⟨ini,x,h1,h2⟩:=hs;exact⟨ini,x,h1,ctx_own (B':=(W1.alloc (.cells #[.slice A n c] 47)).heap.size) (by simp;omega) () X Y row h2 hg hr⟩) (OwnFrom.more (dfs_own _ _ _) (by simp)))
     ⟨⟨by simp,Ctx.on ⟨⟨⟨⟨bz,bu⟩,br⟩,bo⟩,hB⟩ ((Below.refl _ _).alloc (Nat.le_refl _) _)⟩,(dfs.below ((Below.refl _ _).alloc (Nat.le_refl _) _) (Nat.le_refl _)).more (by omega),by simp⟩
     (fun x a' W'=>∃Bx,w.heap.size+1+1+1<Bx∧Blk W' Bx 65 #[.int .i64 x.2.t,.int .i64 x.2.o]∧a'={ tmps:=#[.agg #[.int .i64 b,.slice A n c,.slice A' n' c',.int .i64 f],.int .i64 u,.pointer (some ⟨w.heap.size,0,none⟩),.pointer (some ⟨w.heap.size+1,0,none⟩),.pointer (some ⟨w.heap.size+1+1,0,none⟩),.pointer (some ⟨w.heap.size+1+1+1,0,none⟩),.int .i64 (year u),.pointer (some ⟨By,0,none⟩),undef,undef,undef,undef,.pointer (some ⟨Bx,0,none⟩),.int .i64 u,.int .i64 (year u),.int .i64 (year u),.int .i64 y,.pointer (some ⟨w.heap.size,3,none⟩),.int .i64 f,.int .i64 (year u),.int .i64 (year u-1),.int .i64 f,.bool false,u23,u24,u25,u26,u27,undef,undef,undef,undef,undef,undef,undef,undef,undef,undef,u38,.pointer (some ⟨w.heap.size,1,none⟩),.slice A n c,.func (.func 187) #[] #[.pointer (some ⟨W1.heap.size,0,none⟩)],.int .i64 (x.1:Int),shV x.2,undef,undef,undef,undef,undef,undef],defers:= [] })
     (fun x a' _ X Y row hs hg hr=>by obtain⟨Bx,e1,e2,e3⟩:=hs;exact⟨Bx,e1,blk_own Bx _ (fun (_:Unit)=>_) () X Y row e2 hg (fun r e=>(hr r e).2),e3⟩)
     ?assign ?body ?done ?stop
    case assign=>
     rintro l0 pre x W' K ⟨⟨hp,ctx'⟩,dfs',sz'⟩ hK
     gi_wp2
     exact hK _ _ ((KeepsOthers.alloc _ _).from _) ((Below.refl _ W').alloc (by simp;omega) _) ⟨⟨hp,ctx'.on ((Below.refl _ _).alloc (Nat.le_refl _) _)⟩,dfs'.below ((Below.refl _ _).alloc (Nat.le_refl _) _) sz',by simp;omega⟩ ⟨W'.heap.size,ctx'.1.2.lt,Blk.new W' _ _,rfl⟩
    case body=>
     rintro l0 pre x a' W2 hl ⟨r,hr⟩ ⟨⟨hp,ctx2⟩,dfs2,sz2⟩ ⟨Bx,hBx,bx,rfl⟩ hlen;have ctx3:=ctx2;obtain⟨⟨⟨⟨_,bu2⟩,br2⟩,bo2⟩,hB2⟩:=ctx3;have x0:=bx.cell 0;have x1:=bx.cell 1;have v1:=bu2.cell 0;have g0:=br2.frozen 0;have g1:=br2.frozen 1;have g2:=bo2.frozen 0;have i0:=br2.cell 0;have i1:=br2.cell 1;have i2:=bo2.cell 0;simp at x0 x1 v1 i0 i1 i2
     have l1:=bx.lt;have l3:=bu2.lt;have l4:=br2.lt;have l5:=bo2.lt;clear hr
     by_cases ht:x.2.t≤u
     ·gi_wp2
      obtain⟨c5,d5,k5⟩:=ctx_found (t:= .int .i64 x.2.t) (o:= .int .i64 x.2.o) ctx2 dfs2;exact⟨k5.from _,⟨pre,x,⟨rfl,rfl,hp,ht⟩,c5⟩,d5⟩
     ·have ht':u<x.2.t:=by omega
      have tb:decide (x.2.t≤u)=false:=decide_eq_false ht
      have TB:=Lib.hid tb;clear tb ht
      gi_wp2
      exact⟨KeepsFrom.refl _ _,Below.refl _ _,⟨fun z hz=>(List.mem_append.1 hz).elim (hp z) (fun e=>by simp at e;subst e;exact TB.out),ctx2⟩,dfs2,sz2⟩
    case done=>
     rintro D zs W4 hD rfl ⟨⟨hp,ctx4⟩,dfs4,sz4⟩ hK';simp only[World.size_alloc] at hD;have hD':=(Array.getElem?_eq_some_iff.1 hK').1;have s4:=ctx4.2.size;have ctx3:=ctx4;obtain⟨⟨⟨⟨_,bu2⟩,br2⟩,bo2⟩,hB2⟩:=ctx3;have g0:=br2.frozen 0;have g1:=br2.frozen 1;have g2:=bo2.frozen 0;have i0:=br2.cell 0;have i1:=br2.cell 1;have i2:=bo2.cell 0;simp at i0 i1 i2
     have l4:=br2.lt;have l5:=bo2.lt;have N:=Lib.hid hz.sh.1
     gi_wp2
     obtain⟨c5,d5⟩:=ctx_lost ctx4 (dfs4.cons hD hD' (by omega) hK')
     have hbef:bef l (xs.map (·.1)) f u=none:=by
      rw[bef_rest (y:=y) (by omega) M.out,back_upto,←N.out];exact miss_find (g:=fun x:Nat×Sh=>x.2) hp
     refine leaves_of (n0:=w.heap.size) (top:=W4.heap.size) (D::ds) _ d5 c5.2.size ?_;intro w' hb hk;have q0:=(hk _ _ _ c5.1.1.2).cell 0;have q1:=(hk _ _ _ c5.1.1.2).cell 1;have q2:=(hk _ _ _ c5.1.2).cell 0;simp at q0 q1 q2
     refine⟨.tuple #[shV ⟨0,0⟩,.bool false],by simp[results,Tryz.f99,go_sem,q0,q1,q2],?_⟩;rw[hbef];exact⟨rfl,c5.2.trans hb⟩
    case stop=>
     rintro D cc pre W4 hD ⟨kk,hkk,rfl⟩ ⟨⟨ini,x,⟨rfl,e1,e2,e3⟩,ctx4⟩,dfs4⟩ hK';simp only[World.size_alloc] at hD;have hD':=(Array.getElem?_eq_some_iff.1 hK').1;have s4:=ctx4.2.size;have N:=Lib.hid hz.sh.1;have E1:=Lib.hid e1;clear e1
     gi_wp2
     have hbef:bef l (xs.map (·.1)) f u=some x.2:=by
      rw[bef_rest (y:=y) (by omega) M.out,back_upto,←N.out];exact hit_find (g:=fun x:Nat×Sh=>x.2) hkk E1.out e2 (decide_eq_true e3)
     refine leaves_of (n0:=w.heap.size) (top:=W4.heap.size) (D::ds) W4 (dfs4.cons hD hD' (by omega) hK') s4 ?_;intro w' hb hk;have q0:=(hk _ _ _ ctx4.1.1.2).cell 0;have q1:=(hk _ _ _ ctx4.1.1.2).cell 1;have q2:=(hk _ _ _ ctx4.1.2).cell 0;simp at q0 q1 q2
     refine⟨.tuple #[shV x.2,.bool true],by simp[results,Tryz.f99,go_sem,q0,q1,q2],?_⟩;rw[hbef];exact⟨rfl,ctx4.2.trans hb⟩
end Go.Proofs.YtehcmodhbmpadaaGreatDoor.Zn
namespace Go.Proofs.YtehcmodhbmpadaaGreatDoor.Zn
open Go.RowKit Cv St
def utcR (b:Int) (l:List Sh) (ys:List Yr) (f L:Int):Int:=if (mayB b l ys f&&mayL L)=true then utc b l ys f L else 0
theorem before_some (w:World) (b f:Int) (A A':Option Addr) (n c n' c':Nat) (l:List Sh) (ys:List Yr) (u:Int) (s:Sh) (hs:bef l ys f u=some s) (h:mayB b l ys f=true) (hu:mayT u=true) (hz:ZnAt w A n A' n' l ys):
  Calls Tryz.prog 99 #[.agg #[.int .i64 b,.slice A n c,.slice A' n' c',.int .i64 f],.int .i64 u] w fun e w'=>e= .returned (.tuple #[.agg #[.int .i64 s.t,.int .i64 s.o],.bool true])∧Below w.heap.size w w':=by
 have:=callsIn_wide.1 (before_in w w b f u A A' n c n' c' l ys h hu hz .refl)
 rw[hs] at this
 exact this
theorem before_none (w:World) (b f:Int) (A A':Option Addr) (n c n' c':Nat) (l:List Sh) (ys:List Yr) (u:Int) (hs:bef l ys f u=none) (h:mayB b l ys f=true) (hu:mayT u=true) (hz:ZnAt w A n A' n' l ys):
  Calls Tryz.prog 99 #[.agg #[.int .i64 b,.slice A n c,.slice A' n' c',.int .i64 f],.int .i64 u] w fun e w'=>e= .returned (.tuple #[.agg #[.int .i64 0,.int .i64 0],.bool false])∧Below w.heap.size w w':=by
 have:=callsIn_wide.1 (before_in w w b f u A A' n c n' c' l ys h hu hz .refl)
 rw[hs] at this
 exact this
set_option maxHeartbeats 1000000 in
theorem offset_own (w:World) (b f:Int) (A A':Option Addr) (n c n' c':Nat) (l:List Sh) (ys:List Yr) (u:Int) (h:mayB b l ys f=true) (hu:mayT u=true) (hz:ZnAt w A n A' n' l ys):
  Calls Tryz.prog 57 #[.agg #[.int .i64 b,.slice A n c,.slice A' n' c',.int .i64 f],.int .i64 u] w fun e w'=>e= .returned (.int .i64 (ofs b l ys f u))∧Below w.heap.size w w':=by
 have ba:=((Below.refl _ _).alloc (Nat.le_refl _) (.cells #[.int .i64 b,.slice A n c,.slice A' n' c',.int .i64 f] 50) (w:=w))
 have hz1:=hz.below ba
 cases hs:bef l ys f u with
 |none=>
  have S:=Lib.hid hs;have O:=Lib.hid (show ofs b l ys f u=b from by unfold ofs;rw[hs]);have H:=Lib.hid h;have HU:=Lib.hid hu;clear hs h hu
  go_enter Tryz.func57,Tryz.ntmps57
  go_wp2_with fail;refine(before_none _ b f A A' n c n' c' l ys u S.out H.out HU.out hz1).mono ?_;rintro e w1 ⟨rfl,hb1⟩;obtain⟨k1,k2⟩:=bcell hb1;have z1:w.heap.size<w1.heap.size:=by have:=hb1.size;simp at this;omega
  go_wp2;go_ret;exact⟨ret_int O.out.symm,(ba.trans (hb1.mono (by simp))).alloc (by omega) _⟩
 |some s=>
  have S:=Lib.hid hs;have O:=Lib.hid (show ofs b l ys f u=s.o from by unfold ofs;rw[hs]);have H:=Lib.hid h;have HU:=Lib.hid hu;clear hs h hu
  go_enter Tryz.func57,Tryz.ntmps57
  go_wp2_with fail;refine(before_some _ b f A A' n c n' c' l ys u s S.out H.out HU.out hz1).mono ?_;rintro e w1 ⟨rfl,hb1⟩;have z1:w.heap.size<w1.heap.size:=by have:=hb1.size;simp at this;omega
  go_wp2;go_ret;exact⟨ret_int O.out.symm,(ba.trans (hb1.mono (by simp))).alloc (by omega) _⟩
theorem offset_is (w:World) (b f:Int) (A A':Option Addr) (n c n' c':Nat) (l:List Sh) (ys:List Yr) (u x:Int) (hx:ofs b l ys f u=x) (h:mayB b l ys f=true) (hu:mayT u=true) (hz:ZnAt w A n A' n' l ys):
  Calls Tryz.prog 57 #[.agg #[.int .i64 b,.slice A n c,.slice A' n' c',.int .i64 f],.int .i64 u] w fun e w'=>e= .returned (.int .i64 x)∧Below w.heap.size w w':=hx ▸ offset_own w b f A A' n c n' c' l ys u h hu hz
theorem mayL_not {L:Int} (h:mayL L=false):L < -62104060800∨253370764799<L:=by
 by_cases c:L < -62104060800
 ·exact .inl c
 ·right;have:=of_decide_eq_false h;omega
set_option maxHeartbeats 4000000 in
theorem UTC_own (w:World) (b f:Int) (A A':Option Addr) (n c n' c':Nat) (l:List Sh) (ys:List Yr) (L:Int) (l1:-9223372036854775808≤L) (l2:L≤9223372036854775807) (hz:ZnAt w A n A' n' l ys):
  Calls Tryz.prog 20 #[.agg #[.int .i64 b,.slice A n c,.slice A' n' c',.int .i64 f],.int .i64 L] w fun e w'=>e= .returned (.int .i64 (utcR b l ys f L))∧Below w.heap.size w w':=by
 have ba:=((Below.refl _ _).alloc (Nat.le_refl _) (.cells #[.int .i64 b,.slice A n c,.slice A' n' c',.int .i64 f] 50) (w:=w))
 have hz1:=hz.below ba
 have hA:=Blk.new w 50 #[.int .i64 b,.slice A n c,.slice A' n' c',.int .i64 f]
 cases h:mayB b l ys f
 ·have R:=Lib.hid (show utcR b l ys f L=0 from by unfold utcR;simp[h])
  have H:=Lib.hid h;clear h
  go_enter Tryz.func20,Tryz.ntmps20
  go_wp2_with fail;refine(zMay_own _ b f A A' n c n' c' l ys _ H.out hz1).mono ?_;rintro e w1 ⟨rfl,hb1⟩;have hA1:=hA.below hb1 hA.lt;have lz:=hA1.lt;have z0:=hA1.cell 0;have z1:=hA1.cell 1;have z2:=hA1.cell 2;have z3:=hA1.cell 3;simp at z0 z1 z2 z3
  go_wp2;go_ret;exact⟨ret_int R.out.symm,ba.trans (hb1.mono (by simp))⟩
 ·cases hL:mayL L
  ·have R:=Lib.hid (show utcR b l ys f L=0 from by unfold utcR;simp[hL])
   have H:=Lib.hid h
   rcases mayL_not hL with k|k
   ·clear h hL
    go_enter Tryz.func20,Tryz.ntmps20
    go_wp2_with fail;refine(zMay_own _ b f A A' n c n' c' l ys _ H.out hz1).mono ?_;rintro e w1 ⟨rfl,hb1⟩;have hA1:=hA.below hb1 hA.lt;have lz:=hA1.lt;have z0:=hA1.cell 0;have z1:=hA1.cell 1;have z2:=hA1.cell 2;have z3:=hA1.cell 3;simp at z0 z1 z2 z3
    go_wp2;go_ret;exact⟨ret_int R.out.symm,ba.trans (hb1.mono (by simp))⟩
   ·have k':-62104060800≤L:=by omega
    clear h hL
    go_enter Tryz.func20,Tryz.ntmps20
    go_wp2_with fail;refine(zMay_own _ b f A A' n c n' c' l ys _ H.out hz1).mono ?_;rintro e w1 ⟨rfl,hb1⟩;have hA1:=hA.below hb1 hA.lt;have lz:=hA1.lt;have z0:=hA1.cell 0;have z1:=hA1.cell 1;have z2:=hA1.cell 2;have z3:=hA1.cell 3;simp at z0 z1 z2 z3
    go_wp2;go_ret;exact⟨ret_int R.out.symm,ba.trans (hb1.mono (by simp))⟩
  ·obtain⟨L1,L2⟩:=of_decide_eq_true hL
   have H:=Lib.hid h;obtain⟨o1,ho1⟩:∃x,ofs b l ys f (L-64800)=x:=⟨_,rfl⟩;obtain⟨o2,ho2⟩:∃x,ofs b l ys f (L+64800)=x:=⟨_,rfl⟩;obtain⟨q1,hq1⟩:∃x,ofs b l ys f (L-o1)=x:=⟨_,rfl⟩;obtain⟨q2,hq2⟩:∃x,ofs b l ys f (L-o2)=x:=⟨_,rfl⟩;have b1:=ofs_bd h (u:=L-64800) (decide_eq_true ⟨by omega,by omega⟩);have b2:=ofs_bd h (u:=L+64800) (decide_eq_true ⟨by omega,by omega⟩);rw[ho1] at b1;rw[ho2] at b2;have b3:=ofs_bd h (u:=L-o1) (decide_eq_true ⟨by omega,by omega⟩);have b4:=ofs_bd h (u:=L-o2) (decide_eq_true ⟨by omega,by omega⟩);rw[hq1] at b3;rw[hq2] at b4;have R0:utcR b l ys f L=if (L-o1)+q1≠L∧(L-o2)+q2=L then L-o2 else L-o1:=by unfold utcR utc utcF;simp only[h,hL,ho1,ho2,hq1,hq2,Bool.and_self,if_true]
   obtain⟨b11,b12⟩:=b1;obtain⟨b21,b22⟩:=b2;obtain⟨b31,b32⟩:=b3;obtain⟨b41,b42⟩:=b4;have O1:=Lib.hid ho1;have O2:=Lib.hid ho2;have Q1:=Lib.hid hq1;have Q2:=Lib.hid hq2;clear ho1 ho2 hq1 hq2 h hL
   by_cases c1:L-o1+q1=L
   ·have R:=Lib.hid (show utcR b l ys f L=L-o1 from by rw[R0,if_neg (fun k=>k.1 c1)])
    have t1:((L-o1+q1:Int) != L)=false:=by rw[bne_eq_false_iff_eq];exact c1
    clear R0 c1
    go_enter Tryz.func20,Tryz.ntmps20
    go_wp2_with fail;refine(zMay_own _ b f A A' n c n' c' l ys _ H.out hz1).mono ?_;rintro e w1 ⟨rfl,hb1⟩;have hA1:=hA.below hb1 hA.lt;have lz:=hA1.lt;have z0:=hA1.cell 0;have z1:=hA1.cell 1;have z2:=hA1.cell 2;have z3:=hA1.cell 3;simp at z0 z1 z2 z3
    go_wp2_with fail;refine(offset_is _ b f A A' n c n' c' l ys _ _ O1.out H.out (by exact decide_eq_true ⟨by omega,by omega⟩) (hz1.below hb1)).mono ?_;rintro e w2 ⟨rfl,hc2⟩;have hb2:=hb1.trans (hc2.mono hb1.size);have hA2:=hA.below hb2 hA.lt;clear lz z0 z1 z2 z3;have lz:=hA2.lt;have z0:=hA2.cell 0;have z1:=hA2.cell 1;have z2:=hA2.cell 2;have z3:=hA2.cell 3;simp at z0 z1 z2 z3
    go_wp2_with fail;refine(offset_is _ b f A A' n c n' c' l ys _ _ O2.out H.out (by exact decide_eq_true ⟨by omega,by omega⟩) (hz1.below hb2)).mono ?_;rintro e w3 ⟨rfl,hc3⟩;have hb3:=hb2.trans (hc3.mono hb2.size);have hA3:=hA.below hb3 hA.lt;clear lz z0 z1 z2 z3;have lz:=hA3.lt;have z0:=hA3.cell 0;have z1:=hA3.cell 1;have z2:=hA3.cell 2;have z3:=hA3.cell 3;simp at z0 z1 z2 z3
    go_wp2_with fail;refine(offset_is _ b f A A' n c n' c' l ys _ _ Q1.out H.out (by exact decide_eq_true ⟨by omega,by omega⟩) (hz1.below hb3)).mono ?_;rintro e w4 ⟨rfl,hc4⟩;have hb4:=hb3.trans (hc4.mono hb3.size);have hA4:=hA.below hb4 hA.lt;clear lz z0 z1 z2 z3;have lz:=hA4.lt;have z0:=hA4.cell 0;have z1:=hA4.cell 1;have z2:=hA4.cell 2;have z3:=hA4.cell 3;simp at z0 z1 z2 z3
    go_wp2;go_ret;exact⟨ret_int R.out.symm,ba.trans (hb4.mono (by simp))⟩
   ·have t1:((L-o1+q1:Int) != L)=true:=by rw[bne_iff_ne];exact c1
    by_cases c2:L-o2+q2=L
    ·have R:=Lib.hid (show utcR b l ys f L=L-o2 from by rw[R0,if_pos ⟨c1,c2⟩])
     have t2:((L-o2+q2:Int)==L)=true:=by rw[beq_iff_eq];exact c2
     clear R0 c1 c2
     go_enter Tryz.func20,Tryz.ntmps20
     go_wp2_with fail;refine(zMay_own _ b f A A' n c n' c' l ys _ H.out hz1).mono ?_;rintro e w1 ⟨rfl,hb1⟩;have hA1:=hA.below hb1 hA.lt;have lz:=hA1.lt;have z0:=hA1.cell 0;have z1:=hA1.cell 1;have z2:=hA1.cell 2;have z3:=hA1.cell 3;simp at z0 z1 z2 z3
     go_wp2_with fail;refine(offset_is _ b f A A' n c n' c' l ys _ _ O1.out H.out (by exact decide_eq_true ⟨by omega,by omega⟩) (hz1.below hb1)).mono ?_;rintro e w2 ⟨rfl,hc2⟩;have hb2:=hb1.trans (hc2.mono hb1.size);have hA2:=hA.below hb2 hA.lt;clear lz z0 z1 z2 z3;have lz:=hA2.lt;have z0:=hA2.cell 0;have z1:=hA2.cell 1;have z2:=hA2.cell 2;have z3:=hA2.cell 3;simp at z0 z1 z2 z3
     go_wp2_with fail;refine(offset_is _ b f A A' n c n' c' l ys _ _ O2.out H.out (by exact decide_eq_true ⟨by omega,by omega⟩) (hz1.below hb2)).mono ?_;rintro e w3 ⟨rfl,hc3⟩;have hb3:=hb2.trans (hc3.mono hb2.size);have hA3:=hA.below hb3 hA.lt;clear lz z0 z1 z2 z3;have lz:=hA3.lt;have z0:=hA3.cell 0;have z1:=hA3.cell 1;have z2:=hA3.cell 2;have z3:=hA3.cell 3;simp at z0 z1 z2 z3
     go_wp2_with fail;refine(offset_is _ b f A A' n c n' c' l ys _ _ Q1.out H.out (by exact decide_eq_true ⟨by omega,by omega⟩) (hz1.below hb3)).mono ?_;rintro e w4 ⟨rfl,hc4⟩;have hb4:=hb3.trans (hc4.mono hb3.size);have hA4:=hA.below hb4 hA.lt;clear lz z0 z1 z2 z3;have lz:=hA4.lt;have z0:=hA4.cell 0;have z1:=hA4.cell 1;have z2:=hA4.cell 2;have z3:=hA4.cell 3;simp at z0 z1 z2 z3
     go_wp2_with fail;refine(offset_is _ b f A A' n c n' c' l ys _ _ Q2.out H.out (by exact decide_eq_true ⟨by omega,by omega⟩) (hz1.below hb4)).mono ?_;rintro e w5 ⟨rfl,hc5⟩;have hb5:=hb4.trans (hc5.mono hb4.size);have hA5:=hA.below hb5 hA.lt;clear lz z0 z1 z2 z3;have lz:=hA5.lt;have z0:=hA5.cell 0;have z1:=hA5.cell 1;have z2:=hA5.cell 2;have z3:=hA5.cell 3;simp at z0 z1 z2 z3
     go_wp2;go_ret;exact⟨ret_int R.out.symm,ba.trans (hb5.mono (by simp))⟩
    ·have R:=Lib.hid (show utcR b l ys f L=L-o1 from by rw[R0,if_neg (fun k=>c2 k.2)])
     have t2:((L-o2+q2:Int)==L)=false:=by rw[beq_eq_false_iff_ne];exact c2
     clear R0 c1 c2
     go_enter Tryz.func20,Tryz.ntmps20
     go_wp2_with fail;refine(zMay_own _ b f A A' n c n' c' l ys _ H.out hz1).mono ?_;rintro e w1 ⟨rfl,hb1⟩;have hA1:=hA.below hb1 hA.lt;have lz:=hA1.lt;have z0:=hA1.cell 0;have z1:=hA1.cell 1;have z2:=hA1.cell 2;have z3:=hA1.cell 3;simp at z0 z1 z2 z3
     go_wp2_with fail;refine(offset_is _ b f A A' n c n' c' l ys _ _ O1.out H.out (by exact decide_eq_true ⟨by omega,by omega⟩) (hz1.below hb1)).mono ?_;rintro e w2 ⟨rfl,hc2⟩;have hb2:=hb1.trans (hc2.mono hb1.size);have hA2:=hA.below hb2 hA.lt;clear lz z0 z1 z2 z3;have lz:=hA2.lt;have z0:=hA2.cell 0;have z1:=hA2.cell 1;have z2:=hA2.cell 2;have z3:=hA2.cell 3;simp at z0 z1 z2 z3
     go_wp2_with fail;refine(offset_is _ b f A A' n c n' c' l ys _ _ O2.out H.out (by exact decide_eq_true ⟨by omega,by omega⟩) (hz1.below hb2)).mono ?_;rintro e w3 ⟨rfl,hc3⟩;have hb3:=hb2.trans (hc3.mono hb2.size);have hA3:=hA.below hb3 hA.lt;clear lz z0 z1 z2 z3;have lz:=hA3.lt;have z0:=hA3.cell 0;have z1:=hA3.cell 1;have z2:=hA3.cell 2;have z3:=hA3.cell 3;simp at z0 z1 z2 z3
     go_wp2_with fail;refine(offset_is _ b f A A' n c n' c' l ys _ _ Q1.out H.out (by exact decide_eq_true ⟨by omega,by omega⟩) (hz1.below hb3)).mono ?_;rintro e w4 ⟨rfl,hc4⟩;have hb4:=hb3.trans (hc4.mono hb3.size);have hA4:=hA.below hb4 hA.lt;clear lz z0 z1 z2 z3;have lz:=hA4.lt;have z0:=hA4.cell 0;have z1:=hA4.cell 1;have z2:=hA4.cell 2;have z3:=hA4.cell 3;simp at z0 z1 z2 z3
     go_wp2_with fail;refine(offset_is _ b f A A' n c n' c' l ys _ _ Q2.out H.out (by exact decide_eq_true ⟨by omega,by omega⟩) (hz1.below hb4)).mono ?_;rintro e w5 ⟨rfl,hc5⟩;have hb5:=hb4.trans (hc5.mono hb4.size);have hA5:=hA.below hb5 hA.lt;clear lz z0 z1 z2 z3;have lz:=hA5.lt;have z0:=hA5.cell 0;have z1:=hA5.cell 1;have z2:=hA5.cell 2;have z3:=hA5.cell 3;simp at z0 z1 z2 z3
     go_wp2;go_ret;exact⟨ret_int R.out.symm,ba.trans (hb5.mono (by simp))⟩
end Go.Proofs.YtehcmodhbmpadaaGreatDoor.Zn
namespace Go.Proofs.YtehcmodhbmpadaaGreatDoor.Zn
open Cv
section
variable {b:Int} {l:List Sh} {ys:List Yr} {f:Int}
end
section
variable {b:Int} {l:List Sh} {ys:List Yr} {f:Int}
end
end Go.Proofs.YtehcmodhbmpadaaGreatDoor.Zn
namespace Go.Proofs.YtehcmodhbmpadaaGreatDoor.Zn
open Go.RowKit Cv St
def None1 (l:List Sh) (u:Int) (k:Nat):Prop:=∀j,j<k→(at_ l j).t≤u
def None2 (ys:List Yr) (u y:Int) (k:Nat):Prop:=∀j,j<k→(inY (yat ys j) y).t≤u
def None3 (ys:List Yr) (u a y:Int):Prop:=∀z,a≤z→z<y→None2 ys u z ys.length
theorem None1.succ {l:List Sh} {u:Int} {k:Nat} (h:None1 l u k) (hk:(at_ l k).t≤u):None1 l u (k+1):=fun j hj=>by
 by_cases e:j=k
 ·subst e;exact hk
 ·exact h j (by omega)
theorem None2.succ {ys:List Yr} {u y:Int} {k:Nat} (h:None2 ys u y k) (hk:(inY (yat ys k) y).t≤u):None2 ys u y (k+1):=fun j hj=>by
 by_cases e:j=k
 ·subst e;exact hk
 ·exact h j (by omega)
theorem None3.succ {ys:List Yr} {u a y:Int} (h:None3 ys u a y) (hy:None2 ys u y ys.length):None3 ys u a (y+1):=fun z h1 h2=>by
 by_cases e:z=y
 ·subst e;exact hy
 ·exact h z h1 (by omega)
def CtxA (w:World) (zc rc:Array Value) (W:World):Prop:=(Blk W w.heap.size 50 zc∧Blk W (w.heap.size+1) 65 rc)∧Below w.heap.size w W
theorem CtxA.on {w:World} {zc rc:Array Value} {W W':World} (h:CtxA w zc rc W) (hb:Below W.heap.size W W'):CtxA w zc rc W':=
 ⟨⟨h.1.1.below hb h.1.1.lt,h.1.2.below hb h.1.2.lt⟩,h.2.trans (hb.mono h.2.size)⟩
end Go.Proofs.YtehcmodhbmpadaaGreatDoor.Zn
